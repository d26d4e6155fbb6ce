/-
  The contracts of BinarySearchFunc over names in their order, of place and of find.
-/
import Derived.Test.YtlngeaacjbdmhaaSmall
import Derived.Test.YtlngeaacjbdmhaaInsC
namespace Go.Proofs.Ytlngeaacjbdmhaa
open Go.RowKit
attribute [local go_sem ↓] Go.wp_at_zero Go.wp_at_succ

/-- Names of a Dir in their row. -/
def Ro (lo : Nat) (W : World) (v : Value) (es : Ents) : Prop := W.ownsRow lo 92 2 v es.length (rowsOf row es)
theorem Ro.below {lo : Nat} {W W' : World} {v : Value} {es : Ents} (h : Ro lo W v es) (g : Below W.heap.size W W') : Ro lo W' v es := own_keep h fun k _ e => g.block k (lt_of_heap e)
theorem Ro.open' {lo : Nat} {W : World} {v : Value} {es : Ents} (h : Ro lo W v es) : (v = .slice none 0 0 ∧ es = []) ∨ ∃ g cap, v = .slice (some ⟨g, 0, none⟩) es.length cap ∧ es.length ≤ cap ∧ cap ≤ maxLen ∧ lo ≤ g ∧ g < W.heap.size ∧ ∀ (i : Nat) (a : ByteArray) (n : Int), es[i]? = some (a, n) → W.cell? ⟨g, i * 2, none⟩ = some (.string a) ∧ W.cell? ⟨g, i * 2 + 1, none⟩ = some (.int .i64 n) := by
  obtain ⟨hl, ⟨rfl, hz⟩ | ⟨g, cap, cur, rfl, hgb, hgg, hcap, hcm, hcs, htk⟩⟩ := h
  · exact .inl ⟨rfl, List.eq_nil_of_length_eq_zero hz⟩
  · refine .inr ⟨g, cap, rfl, hcap, hcm, hgb, lt_of_heap hgg, fun i a n hi => ?_⟩
    obtain ⟨h1, h2⟩ := rows_at es i a n hi
    have hi2 := (List.getElem?_eq_some_iff.1 hi).1
    refine ⟨?_, ?_⟩
    · rw [cell_of hgg, ← h1, ← htk, List.getElem?_take_of_lt (by omega)]; simp
    · rw [cell_of hgg, ← h2, ← htk, List.getElem?_take_of_lt (by omega)]; simp
theorem pos_of {es : Ents} {s : ByteArray} (hs : Srt es) {i : Nat} (hi : i ≤ es.length) (h1 : ∀ k e, k < i → es[k]? = some e → cmpS e.1 s < 0) (h2 : ∀ k e, i ≤ k → es[k]? = some e → ¬ cmpS e.1 s < 0) : pos es s = i := by
  obtain ⟨g1, g2⟩ := hs.pos_split s
  have hp := pos_le es s
  rcases Nat.lt_trichotomy (pos es s) i with h | h | h
  · exfalso
    have hl : pos es s < es.length := by omega
    have := h1 (pos es s) _ h (List.getElem?_eq_getElem hl)
    exact g2 _ (by rw [List.drop_eq_getElem_cons hl]; exact List.mem_cons_self) this
  · exact h
  · exfalso
    have hl : i < es.length := by omega
    refine h2 i _ (Nat.le_refl _) (List.getElem?_eq_getElem hl) (g1 _ ?_)
    have : es[i] = (es.take (pos es s))[i]'(by simp; omega) := by simp
    rw [this]
    exact List.getElem_mem _
/-- What is known ahead of x and from y on. -/
def Bd (es : Ents) (s : ByteArray) (x y : Nat) : Prop := (∀ k e, k < x → es[k]? = some e → cmpS e.1 s < 0) ∧ ∀ k e, y ≤ k → es[k]? = some e → ¬ cmpS e.1 s < 0
theorem fwd_of {es : Ents} {s : ByteArray} {x y m : Nat} {a : ByteArray} {n : Int} (hs : Srt es) (hE : es[m]? = some (a, n)) (hI : Bd es s x y) (hc : cmpS a s < 0) : Bd es s (m + 1) y :=
  ⟨fun k e hk he => by
    rcases Nat.lt_or_eq_of_le (Nat.le_of_lt_succ hk) with hk | rfl
    · exact cmpS_trans (hs.get hk he hE) hc
    · rw [hE] at he; cases he; exact hc, hI.2⟩
theorem bwd_of {es : Ents} {s : ByteArray} {x y m : Nat} {a : ByteArray} {n : Int} (hs : Srt es) (hE : es[m]? = some (a, n)) (hI : Bd es s x y) (hc : 0 ≤ cmpS a s) : Bd es s x m :=
  ⟨hI.1, fun k e hk he h' => by
    rcases Nat.lt_or_eq_of_le hk with hk | rfl
    · have h2 : cmpS a s < 0 := cmpS_trans (hs.get hk hE he) h'
      omega
    · rw [hE] at he; cases he; simp at h'; omega⟩
set_option maxRecDepth 100000 in
set_option maxHeartbeats 2000000 in
theorem search_any {lo : Nat} {W : World} {v : Value} {es : Ents} (h : Ro lo W v es) (hs : Srt es) (hn : es.length < 1000) (s : ByteArray) :
    Calls Try.prog 56 #[v, .string s, .func (.func 57) #[] #[]] W fun e w' => e = .returned (.tuple #[.int .i64 (pos es s : Nat), .bool (getE es s).isSome]) ∧ Below W.heap.size W w' := by
  obtain ⟨N, hN⟩ : ∃ N, N = es.length := ⟨_, rfl⟩
  obtain ⟨P, hP⟩ : ∃ P, P = pos es s := ⟨_, rfl⟩
  obtain ⟨fin, hfin⟩ : ∃ fin, fin = (getE es s).isSome := ⟨_, rfl⟩
  rw [← hP, ← hfin]
  have n1 : (N : Int) < 1000 := by omega
  have hPl : P ≤ N := by rw [hP, hN]; exact pos_le _ _
  have HH := hide h
  have HS := hide hs
  have HN := hide hN
  have HP := hide hP
  have HF := hide hfin
  rcases h.open' with ⟨rfl, hz⟩ | ⟨g, cap, rfl, hcap, hcm, hlo, hgl, hcells⟩
  · have h0 : N = 0 := by rw [hN, hz]; rfl
    have hp0 : P = 0 := by omega
    have hf0 : fin = false := by rw [hfin, hz]; rfl
    subst hp0 hf0
    clear h hs hN hP hfin hz HH HS HN HP HF h0 hPl n1 hn
    go_enter Try.func56, Try.ntmps56
    go_wp2_with fail
    go_loopw [9, 10] (fun a b wr => a = .int .i64 0 ∧ b = .int .i64 0 ∧ wr = W) (fun _ _ _ => 0)
    case atStart => exact ⟨rfl, rfl, rfl⟩
    case round =>
      obtain ⟨rfl, rfl, rfl⟩ := hrel
      go_wp2_with fail
      go_ret2
      exact ⟨rfl, Below.refl _ _⟩
  · rw [← hN]
    have hmx : cap ≤ 9223372036854775807 := by unfold maxLen at hcm; omega
    have HC := hide hcells
    have hcN : (N : Int) ≤ (cap : Int) := by omega
    clear h hs hN hP hfin hcells hcm hn
    go_enter Try.func56, Try.ntmps56
    go_wp2_with fail
    go_loopw [9, 10] (fun a b wr => ∃ x y : Nat, a = .int .i64 (x : Int) ∧ b = .int .i64 (y : Int) ∧ x ≤ y ∧ y ≤ N ∧ Hid (Below W.heap.size W wr) ∧ Hid (Bd es s x y)) (fun a b _ => (intOf b).toNat - (intOf a).toNat)
    case atStart => exact ⟨0, N, rfl, rfl, Nat.zero_le _, Nat.le_refl _, Below.refl _ _, (⟨fun k e hk => absurd hk (Nat.not_lt_zero _), fun k e hk he => by have := (List.getElem?_eq_some_iff.1 he).1; have := unhide HN; omega⟩ : Bd es s 0 N)⟩
    case round =>
      obtain ⟨x, y, rfl, rfl, hxy, hyN, HB, HI⟩ := hrel
      by_cases hlt : x < y
      · obtain ⟨m, hm⟩ : ∃ m : Nat, m = (x + y) / 2 := ⟨_, rfl⟩
        have m1 : x ≤ m := by omega
        have m2 : m < y := by omega
        have hmN : m < es.length := by have := unhide HN; omega
        obtain ⟨⟨a, n⟩, he⟩ : ∃ e, es[m]? = some e := ⟨_, List.getElem?_eq_getElem hmN⟩
        obtain ⟨k1, k2⟩ := unhide HC m a n he
        have hgw := (unhide HB).block g hgl
        have c1 : wr.cell? ⟨g, m * 2, none⟩ = some (.string a) := by rw [cell_same hgw]; exact k1
        have c2 : wr.cell? ⟨g, m * 2 + 1, none⟩ = some (.int .i64 n) := by rw [cell_same hgw]; exact k2
        have hmi : ((x : Int) + (y : Int)) / 2 = (m : Int) := by omega
        have m3 : (m : Int) < (N : Int) := by omega
        have HM := hide hm
        have HE := hide he
        clear k1 k2 hgw he hm hmN
        obtain ⟨c, hc⟩ : ∃ c, c = cmpS a s := ⟨_, rfl⟩
        have HCC := hide hc
        have cmp := fun w => (place1_any a n s w)
        rw [← hc] at cmp
        have H1 := hide cmp
        clear hc cmp hcap HH hlo
        by_cases hyx : c < 0
        · go_wp2_with (go_at_call 57; refine (unhide H1 _).mono ?_; rintro e w' ⟨rfl, rfl⟩)
          go_roundw
          case measure => simp [intOf]; omega
          case rel => exact ⟨m + 1, y, by simp, rfl, by omega, hyN, (unhide HB).alloc (unhide HB).size _, fwd_of (unhide HS) (unhide HE) (unhide HI) (by rw [← unhide HCC]; exact hyx)⟩
        · have hy0 : 0 ≤ c := by omega
          have HY := hide hy0
          have hyb : (decide (c < 0)) = false := by simp; omega
          have HM1 := hide m1
          have HM2 := hide m2
          have HXY := hide hxy
          have HLT := hide hlt
          have hx6 : (x : Int) < 1000 := by omega
          have hy6 : (y : Int) < 1000 := by omega
          have HYN := hide hyN
          clear m1 m2 hxy hlt hyN hy0
          go_wp2_with (go_at_call 57; refine (unhide H1 _).mono ?_; rintro e w' ⟨rfl, rfl⟩)
          go_roundw
          case measure => have := unhide HM2; have := unhide HM1; simp [intOf]; omega
          case rel => exact ⟨x, m, rfl, rfl, unhide HM1, by have := unhide HM2; have := unhide HYN; omega, (unhide HB).alloc (unhide HB).size _, bwd_of (unhide HS) (unhide HE) (unhide HI) (by rw [← unhide HCC]; exact unhide HY)⟩
      · obtain rfl : x = y := by omega
        have hpx : P = x := by rw [unhide HP]; exact pos_of (unhide HS) (by have := unhide HN; omega) (unhide HI).1 (unhide HI).2
        have hfx := ((unhide HS).at_pos s).1
        rw [← unhide HP, ← unhide HF, ← unhide HN, hpx] at hfx
        subst hpx
        clear hlt hxy hcap HH hlo
        by_cases hz : P < N
        · have hmN : P < es.length := by have := unhide HN; omega
          obtain ⟨⟨a, n⟩, he⟩ : ∃ e, es[P]? = some e := ⟨_, List.getElem?_eq_getElem hmN⟩
          obtain ⟨k1, k2⟩ := unhide HC P a n he
          have hgw := (unhide HB).block g hgl
          have c1 : wr.cell? ⟨g, P * 2, none⟩ = some (.string a) := by rw [cell_same hgw]; exact k1
          have c2 : wr.cell? ⟨g, P * 2 + 1, none⟩ = some (.int .i64 n) := by rw [cell_same hgw]; exact k2
          have hz2 : (P : Int) < (N : Int) := by omega
          rw [he] at hfx
          have hdc : decide (a = s) = decide (cmpS a s = 0) := by
            by_cases h : a = s
            · subst h; simp [cmpS_refl]
            · have : ¬ cmpS a s = 0 := fun e => h (cmpS_eq e)
              simp [h, this]
          simp only [hz, decide_true, Bool.true_and, hdc] at hfx
          obtain ⟨c, hc⟩ : ∃ c, c = cmpS a s := ⟨_, rfl⟩
          rw [← hc] at hfx
          have cmp := fun w => (place1_any a n s w)
          rw [← hc] at cmp
          have H1 := hide cmp
          have HFX := hide hfx
          clear hc cmp hfx hdc he hmN k1 k2 hgw
          by_cases hc0 : c = 0
          · subst hc0
            go_wp2_with (go_at_call 57; refine (unhide H1 _).mono ?_; rintro e w' ⟨rfl, rfl⟩)
            go_ret2
            exact ⟨by rw [unhide HFX]; rfl, (unhide HB).alloc (unhide HB).size _⟩
          · go_wp2_with (go_at_call 57; refine (unhide H1 _).mono ?_; rintro e w' ⟨rfl, rfl⟩)
            go_ret2
            exact ⟨by rw [unhide HFX]; simp [hc0], (unhide HB).alloc (unhide HB).size _⟩
        · obtain rfl : P = N := by omega
          simp at hfx
          subst hfx
          clear hz
          go_wp2_with fail
          go_ret2
          exact ⟨rfl, unhide HB⟩
end Go.Proofs.Ytlngeaacjbdmhaa
