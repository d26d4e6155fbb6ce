/-
  The contract of the document's All.
-/
import Derived.Test.YtkgeapmafpeapaaRShow
namespace Go.Proofs.Ytkgeapmafpeapaa
open Go.RowKit
attribute [local go_sem ↓] Go.wp_at_zero Go.wp_at_succ

theorem info50 : (Try.prog.info? 50).map (fun i => (i.zero, i.size, i.bytes)) = some (some (.agg #[.bool false, .int .i64 0, .int .i64 0, .int .i64 0]), 4, 32) := by kernel_rfl
theorem st_snoc (js : List St) (j : St) : rowsOf St.row (js ++ [j]) = rowsOf St.row js ++ j.row := by simp [rowsOf]

theorem own_keep {W W' : World} {base : Nat} {e : TypeId} {s n : Nat} {v : Value} {xs : List Value} (h : W.ownsRow base e s v n xs) (hb : ∀ (k : Nat) (cur : Array Value), W.heap[k]? = some (Obj.cells cur e (0, 0)) → W'.heap[k]? = W.heap[k]?) : W'.ownsRow base e s v n xs := by
  obtain ⟨h0, h1⟩ := h
  refine ⟨h0, ?_⟩
  rcases h1 with h1 | ⟨g, cap, cur, h1, h2, h3, h4⟩
  · exact .inl h1
  · exact .inr ⟨g, cap, cur, h1, h2, (hb g cur h3).trans h3, h4⟩
theorem own_below {W W' : World} {base : Nat} {e : TypeId} {s n : Nat} {v : Value} {xs : List Value} (h : W.ownsRow base e s v n xs) (hB : Below W.heap.size W W') : W'.ownsRow base e s v n xs :=
  own_keep h (fun k _ hk => hB.block k (Array.getElem?_eq_some_iff.1 hk).1)

set_option maxRecDepth 100000 in
set_option maxHeartbeats 1000000 in
theorem rall (rr b c aa ca la sa n cap l : Nat) (jp : Option Addr) (ws : List Int) (st : Int) (xs : List RJ) (w : World) (h : RSys w rr b c aa ca la sa n jp cap ws st xs) (hl : xs.length = l) :
    Calls Try.prog 25 #[.pointer (some ⟨rr, 0, none⟩)] w fun e w' => ∃ v, e = .returned v ∧ w'.ownsRow w.heap.size 50 4 v l (rowsOf St.row (xs.map fun x => x.st.shown)) ∧ Below w.heap.size w w' := by
  obtain ⟨i0, hi, hz0, hz1, hz2⟩ := info_parts info50
  have l8 := h.l8
  rw [hl] at l8
  obtain ⟨_, _, _, _, _, h1⟩ := h.cellsL hl
  have hr : rr < w.heap.size := (Array.getElem?_eq_some_iff.1 h.hr).1
  have hq : sa < w.heap.size := (Array.getElem?_eq_some_iff.1 h.hs).1
  obtain ⟨hh, ehh⟩ : ∃ hh, w.heap.size = hh := ⟨_, rfl⟩
  have HD : Hid (∀ i (hi : i < xs.length), w.cell? ⟨sa, i * 4, none⟩ = some (.bool xs[i].st.done) ∧ w.cell? ⟨sa, i * 4 + 1, none⟩ = some (.int .i64 xs[i].st.sA) ∧ w.cell? ⟨sa, i * 4 + 2, none⟩ = some (.int .i64 xs[i].st.sB) ∧ w.cell? ⟨sa, i * 4 + 3, none⟩ = some (.int .i64 xs[i].st.tries)) :=
    hide (fun i hi => (h.at (List.getElem?_eq_getElem hi)).2.2.2)
  have HL := hide hl
  have HE := hide ehh
  rw [ehh] at hr hq ⊢
  clear h hl ehh
  go_enter Try.func25, Try.ntmps25
  go_wp2_with fail
  go_loopw [3, 4] (fun v i wr => ∃ k : Nat, k ≤ l ∧ i = .int .i64 k ∧ wr.ownsRow hh 50 4 v k (rowsOf St.row ((xs.map fun x => x.st.shown).take k)) ∧ Below hh w wr ∧ hh ≤ wr.heap.size) (fun _ i _ => l - (intOf i).toNat)
  case atStart => exact ⟨0, Nat.zero_le _, rfl, World.ownsRow_nil _ _ _ _, Below.refl _ _, by rw [unhide HE]; exact Nat.le_refl _⟩
  case round =>
    obtain ⟨k, hk, rfl, hown, hB, hs⟩ := hrel
    have g1 := (hB.cell (p := ⟨rr, 5, none⟩) hr).trans h1
    by_cases hkn : k < l
    · have j1 : (k : Int) < (l : Int) := by omega
      have hkx : k < xs.length := by rw [unhide HL]; exact hkn
      obtain ⟨d0, d1, d2, d3⟩ := unhide HD k hkx
      replace d0 := (hB.cell (p := ⟨sa, k * 4, none⟩) hq).trans d0
      replace d1 := (hB.cell (p := ⟨sa, k * 4 + 1, none⟩) hq).trans d1
      replace d2 := (hB.cell (p := ⟨sa, k * 4 + 2, none⟩) hq).trans d2
      replace d3 := (hB.cell (p := ⟨sa, k * 4 + 3, none⟩) hq).trans d3
      have et : (xs.map fun x => x.st.shown).take (k + 1) = (xs.map fun x => x.st.shown).take k ++ [xs[k].st.shown] := by
        rw [List.take_add_one]; simp [hkx]
      have ET := hide et
      clear et
      generalize xs[k].st = s at *
      have KS := hide (fun W => shown_any s W)
      generalize s.shown = t at *
      unfold St.told at KS
      go_wp2_with fail
      refine (unhide KS _).mono ?_
      rintro e w2 ⟨rfl, hB2⟩
      have z2 := hB2.size
      have hown2 := own_below hown hB2
      have hBB : Below hh w w2 := hB.trans (hB2.mono hs)
      have hs2 : hh ≤ w2.heap.size := by omega
      clear hown hB hB2 d0 d1 d2 d3 g1
      go_wp2_with (first
        | (at_builtin; refine wpList_append_own _ rfl _ _ 62 rfl hh 50 i0 (.agg #[.bool false, .int .i64 0, .int .i64 0, .int .i64 0]) 4 32 Try.underlying62 hi hz0 hz1 hz2 rfl (by decide) _ _ _ rfl (hown2.alloc _) ⟨w2.heap.size, 0, none⟩ 1 1 [.bool t.done, .int .i64 t.sA, .int .i64 t.sB, .int .i64 t.tries] rfl rfl ?c1 ?c2 ?c3 ?c4 ?c5 ?_))
      case c1 =>
        intro j u hj
        match j, hj with
        | 0, hj => simp at hj; subst hj; simp [Addr.add]
        | 1, hj => simp at hj; subst hj; simp [Addr.add]
        | 2, hj => simp at hj; subst hj; simp [Addr.add]
        | 3, hj => simp at hj; subst hj; simp [Addr.add]
      case c2 => intro u hu; simp at hu; rcases hu with rfl | rfl | rfl | rfl <;> rfl
      case c3 => unfold maxLen; omega
      case c4 => omega
      case c5 => simp; omega
      intro v' w3 hown' hgrow _
      have hB1 := grown_below hBB hown2 hgrow hs2
      have hs1 : hh ≤ w3.heap.size := by have := hgrow.size; simp at this; omega
      have hown1 : w3.ownsRow hh 50 4 v' (k + 1) (rowsOf St.row ((xs.map fun x => x.st.shown).take (k + 1))) := by
        rw [unhide ET, st_snoc]; exact hown'
      have HO := hide hown1
      clear hown' hgrow hown2 hown1
      go_wp2_with fail
      go_roundw
      case rel => exact ⟨k + 1, by omega, by go_num, unhide HO, hB1, hs1⟩
      case measure => simp [intOf]; omega
    · obtain rfl : k = l := by omega
      clear hkn hk
      have hT : (xs.map fun x => x.st.shown).take k = xs.map fun x => x.st.shown := List.take_of_length_le (by simp [unhide HL])
      rw [hT] at hown
      have HO := hide hown
      clear hown hT
      go_wp2_with fail
      go_ret
      exact ⟨_, rfl, unhide HO, hB⟩
end Go.Proofs.Ytkgeapmafpeapaa
