/-
  The contracts of BinarySearchFunc over names in their order, of place and of find.
-/
import Derived.Test.YtlngeaacjbdmhaaGreatMg04
import Derived.Test.YtlngeaacjbdmhaaGreatMg05
import Derived.Test.YtlngeaacjbdmhaaGreatMg02
import Derived.RangeFuncNested
import Derived.RangeFuncBound
import Derived.RangeFuncCalls
import Derived.RangeFuncLeaves
import Derived.WalkKit
namespace Go.Proofs.YtlngeaacjbdmhaaGreat
open Go.RowKit
attribute [local go_sem ↓] Go.wp_at_zero Go.wp_at_succ
/-- Names of a Dir in their row. -/
def Ro (lo : Nat) (W : World) (v : Value) (es : Ents) : Prop := W.ownsRow lo 256 2 v es.length (rowsOf row es)
theorem Ro.below {lo : Nat} {W W' : World} {v : Value} {es : Ents} (h : Ro lo W v es) (g : Below W.heap.size W W') : Ro lo W' v es := own_keep h fun k _ e => g.block k (lt_of_heap e)
theorem Ro.open' {lo : Nat} {W : World} {v : Value} {es : Ents} (h : Ro lo W v es) : (v = .slice none 0 0 ∧ es = []) ∨ ∃ g cap, v = .slice (some ⟨g, 0, none⟩) es.length cap ∧ es.length ≤ cap ∧ cap ≤ maxLen ∧ lo ≤ g ∧ g < W.heap.size ∧ ∀ (i : Nat) (a : ByteArray) (n : Int), es[i]? = some (a, n) → W.cell? ⟨g, i * 2, none⟩ = some (.string a) ∧ W.cell? ⟨g, i * 2 + 1, none⟩ = some (.int .i64 n) := by
  obtain ⟨hl, ⟨rfl, hz⟩ | ⟨g, cap, cur, rfl, hgb, hgg, hcap, hcm, hcs, htk⟩⟩ := h
  · exact .inl ⟨rfl, List.eq_nil_of_length_eq_zero hz⟩
  · refine .inr ⟨g, cap, rfl, hcap, hcm, hgb, lt_of_heap hgg, fun i a n hi => ?_⟩
    obtain ⟨h1, h2⟩ := rows_at es i a n hi
    have hi2 := (List.getElem?_eq_some_iff.1 hi).1
    refine ⟨?_, ?_⟩
    · rw [cell_of hgg, ← h1, ← htk, List.getElem?_take_of_lt (by omega)]; simp
    · rw [cell_of hgg, ← h2, ← htk, List.getElem?_take_of_lt (by omega)]; simp
theorem pos_of {es : Ents} {s : ByteArray} (hs : Srt es) {i : Nat} (hi : i ≤ es.length) (h1 : ∀ k e, k < i → es[k]? = some e → cmpS e.1 s < 0) (h2 : ∀ k e, i ≤ k → es[k]? = some e → ¬ cmpS e.1 s < 0) : pos es s = i := by
  obtain ⟨g1, g2⟩ := hs.pos_split s
  have hp := pos_le es s
  rcases Nat.lt_trichotomy (pos es s) i with h | h | h
  · exfalso
    have hl : pos es s < es.length := by omega
    have := h1 (pos es s) _ h (List.getElem?_eq_getElem hl)
    exact g2 _ (by rw [List.drop_eq_getElem_cons hl]; exact List.mem_cons_self) this
  · exact h
  · exfalso
    have hl : i < es.length := by omega
    refine h2 i _ (Nat.le_refl _) (List.getElem?_eq_getElem hl) (g1 _ ?_)
    have : es[i] = (es.take (pos es s))[i]'(by simp; omega) := by simp
    rw [this]
    exact List.getElem_mem _
/-- What is known ahead of x and from y on. -/
def Bd (es : Ents) (s : ByteArray) (x y : Nat) : Prop := (∀ k e, k < x → es[k]? = some e → cmpS e.1 s < 0) ∧ ∀ k e, y ≤ k → es[k]? = some e → ¬ cmpS e.1 s < 0
theorem fwd_of {es : Ents} {s : ByteArray} {x y m : Nat} {a : ByteArray} {n : Int} (hs : Srt es) (hE : es[m]? = some (a, n)) (hI : Bd es s x y) (hc : cmpS a s < 0) : Bd es s (m + 1) y :=
  ⟨fun k e hk he => by
    rcases Nat.lt_or_eq_of_le (Nat.le_of_lt_succ hk) with hk | rfl
    · exact cmpS_trans (hs.get hk he hE) hc
    · rw [hE] at he; cases he; exact hc, hI.2⟩
theorem bwd_of {es : Ents} {s : ByteArray} {x y m : Nat} {a : ByteArray} {n : Int} (hs : Srt es) (hE : es[m]? = some (a, n)) (hI : Bd es s x y) (hc : 0 ≤ cmpS a s) : Bd es s x m :=
  ⟨hI.1, fun k e hk he h' => by
    rcases Nat.lt_or_eq_of_le hk with hk | rfl
    · have h2 : cmpS a s < 0 := cmpS_trans (hs.get hk hE he) h'
      omega
    · rw [hE] at he; cases he; simp at h'; omega⟩
set_option maxRecDepth 100000 in
set_option maxHeartbeats 2000000 in
theorem search_any {lo : Nat} {W : World} {v : Value} {es : Ents} (h : Ro lo W v es) (hs : Srt es) (hn : es.length < 1000) (s : ByteArray) :
    Calls Tryz.prog 274 #[v, .string s, .func (.func 275) #[] #[]] W fun e w' => e = .returned (.tuple #[.int .i64 (pos es s : Nat), .bool (getE es s).isSome]) ∧ Below W.heap.size W w' := by
  obtain ⟨N, hN⟩ : ∃ N, N = es.length := ⟨_, rfl⟩
  obtain ⟨P, hP⟩ : ∃ P, P = pos es s := ⟨_, rfl⟩
  obtain ⟨fin, hfin⟩ : ∃ fin, fin = (getE es s).isSome := ⟨_, rfl⟩
  rw [← hP, ← hfin]
  have n1 : (N : Int) < 1000 := by omega
  have hPl : P ≤ N := by rw [hP, hN]; exact pos_le _ _
  have HH := hide h
  have HS := hide hs
  have HN := hide hN
  have HP := hide hP
  have HF := hide hfin
  rcases h.open' with ⟨rfl, hz⟩ | ⟨g, cap, rfl, hcap, hcm, hlo, hgl, hcells⟩
  · have h0 : N = 0 := by rw [hN, hz]; rfl
    have hp0 : P = 0 := by omega
    have hf0 : fin = false := by rw [hfin, hz]; rfl
    subst hp0 hf0
    clear h hs hN hP hfin hz HH HS HN HP HF h0 hPl n1 hn
    go_enter Tryz.func274, Tryz.ntmps274
    go_wp2_with fail
    go_loopw [9, 10] (fun a b wr => a = .int .i64 0 ∧ b = .int .i64 0 ∧ wr = W) (fun _ _ _ => 0)
    case atStart => exact ⟨rfl, rfl, rfl⟩
    case round =>
      obtain ⟨rfl, rfl, rfl⟩ := hrel
      go_wp2_with fail
      go_ret2
      exact ⟨rfl, Below.refl _ _⟩
  · rw [← hN]
    have hmx : cap ≤ 9223372036854775807 := by unfold maxLen at hcm; omega
    have HC := hide hcells
    have hcN : (N : Int) ≤ (cap : Int) := by omega
    clear h hs hN hP hfin hcells hcm hn
    go_enter Tryz.func274, Tryz.ntmps274
    go_wp2_with fail
    go_loopw [9, 10] (fun a b wr => ∃ x y : Nat, a = .int .i64 (x : Int) ∧ b = .int .i64 (y : Int) ∧ x ≤ y ∧ y ≤ N ∧ Hid (Below W.heap.size W wr) ∧ Hid (Bd es s x y)) (fun a b _ => (intOf b).toNat - (intOf a).toNat)
    case atStart => exact ⟨0, N, rfl, rfl, Nat.zero_le _, Nat.le_refl _, Below.refl _ _, (⟨fun k e hk => absurd hk (Nat.not_lt_zero _), fun k e hk he => by have := (List.getElem?_eq_some_iff.1 he).1; have := unhide HN; omega⟩ : Bd es s 0 N)⟩
    case round =>
      obtain ⟨x, y, rfl, rfl, hxy, hyN, HB, HI⟩ := hrel
      by_cases hlt : x < y
      · obtain ⟨m, hm⟩ : ∃ m : Nat, m = (x + y) / 2 := ⟨_, rfl⟩
        have m1 : x ≤ m := by omega
        have m2 : m < y := by omega
        have hmN : m < es.length := by have := unhide HN; omega
        obtain ⟨⟨a, n⟩, he⟩ : ∃ e, es[m]? = some e := ⟨_, List.getElem?_eq_getElem hmN⟩
        obtain ⟨k1, k2⟩ := unhide HC m a n he
        have hgw := (unhide HB).block g hgl
        have c1 : wr.cell? ⟨g, m * 2, none⟩ = some (.string a) := by rw [cell_same hgw]; exact k1
        have c2 : wr.cell? ⟨g, m * 2 + 1, none⟩ = some (.int .i64 n) := by rw [cell_same hgw]; exact k2
        have hmi : ((x : Int) + (y : Int)) / 2 = (m : Int) := by omega
        have m3 : (m : Int) < (N : Int) := by omega
        have HM := hide hm
        have HE := hide he
        clear k1 k2 hgw he hm hmN
        obtain ⟨c, hc⟩ : ∃ c, c = cmpS a s := ⟨_, rfl⟩
        have HCC := hide hc
        have cmp := fun w => (place1_any a n s w)
        rw [← hc] at cmp
        have H1 := hide cmp
        clear hc cmp hcap HH hlo
        by_cases hyx : c < 0
        · go_wp2_with (go_at_call 275; refine (unhide H1 _).mono ?_; rintro e w' ⟨rfl, rfl⟩)
          go_roundw
          case measure => simp [intOf]; omega
          case rel => exact ⟨m + 1, y, by simp, rfl, by omega, hyN, (unhide HB).alloc (unhide HB).size _, fwd_of (unhide HS) (unhide HE) (unhide HI) (by rw [← unhide HCC]; exact hyx)⟩
        · have hy0 : 0 ≤ c := by omega
          have HY := hide hy0
          have hyb : (decide (c < 0)) = false := by simp; omega
          have HM1 := hide m1
          have HM2 := hide m2
          have HXY := hide hxy
          have HLT := hide hlt
          have hx6 : (x : Int) < 1000 := by omega
          have hy6 : (y : Int) < 1000 := by omega
          have HYN := hide hyN
          clear m1 m2 hxy hlt hyN hy0
          go_wp2_with (go_at_call 275; refine (unhide H1 _).mono ?_; rintro e w' ⟨rfl, rfl⟩)
          go_roundw
          case measure => have := unhide HM2; have := unhide HM1; simp [intOf]; omega
          case rel => exact ⟨x, m, rfl, rfl, unhide HM1, by have := unhide HM2; have := unhide HYN; omega, (unhide HB).alloc (unhide HB).size _, bwd_of (unhide HS) (unhide HE) (unhide HI) (by rw [← unhide HCC]; exact unhide HY)⟩
      · obtain rfl : x = y := by omega
        have hpx : P = x := by rw [unhide HP]; exact pos_of (unhide HS) (by have := unhide HN; omega) (unhide HI).1 (unhide HI).2
        have hfx := ((unhide HS).at_pos s).1
        rw [← unhide HP, ← unhide HF, ← unhide HN, hpx] at hfx
        subst hpx
        clear hlt hxy hcap HH hlo
        by_cases hz : P < N
        · have hmN : P < es.length := by have := unhide HN; omega
          obtain ⟨⟨a, n⟩, he⟩ : ∃ e, es[P]? = some e := ⟨_, List.getElem?_eq_getElem hmN⟩
          obtain ⟨k1, k2⟩ := unhide HC P a n he
          have hgw := (unhide HB).block g hgl
          have c1 : wr.cell? ⟨g, P * 2, none⟩ = some (.string a) := by rw [cell_same hgw]; exact k1
          have c2 : wr.cell? ⟨g, P * 2 + 1, none⟩ = some (.int .i64 n) := by rw [cell_same hgw]; exact k2
          have hz2 : (P : Int) < (N : Int) := by omega
          rw [he] at hfx
          have hdc : decide (a = s) = decide (cmpS a s = 0) := by
            by_cases h : a = s
            · subst h; simp [cmpS_refl]
            · have : ¬ cmpS a s = 0 := fun e => h (cmpS_eq e)
              simp [h, this]
          simp only [hz, decide_true, Bool.true_and, hdc] at hfx
          obtain ⟨c, hc⟩ : ∃ c, c = cmpS a s := ⟨_, rfl⟩
          rw [← hc] at hfx
          have cmp := fun w => (place1_any a n s w)
          rw [← hc] at cmp
          have H1 := hide cmp
          have HFX := hide hfx
          clear hc cmp hfx hdc he hmN k1 k2 hgw
          by_cases hc0 : c = 0
          · subst hc0
            go_wp2_with (go_at_call 275; refine (unhide H1 _).mono ?_; rintro e w' ⟨rfl, rfl⟩)
            go_ret2
            exact ⟨by rw [unhide HFX]; rfl, (unhide HB).alloc (unhide HB).size _⟩
          · go_wp2_with (go_at_call 275; refine (unhide H1 _).mono ?_; rintro e w' ⟨rfl, rfl⟩)
            go_ret2
            exact ⟨by rw [unhide HFX]; simp [hc0], (unhide HB).alloc (unhide HB).size _⟩
        · obtain rfl : P = N := by omega
          simp at hfx
          subst hfx
          clear hz
          go_wp2_with fail
          go_ret2
          exact ⟨rfl, unhide HB⟩
end Go.Proofs.YtlngeaacjbdmhaaGreat

namespace Go.Proofs.YtlngeaacjbdmhaaGreat
open Go.RowKit Go.Maps
/-- What a call of the tree leaves alone: all ahead of lo, and whatever is none of its own. -/
structure Tx (lo : Nat) (W W' : World) : Prop where
  bel : Below lo W W'
  oth : ∀ (b : Nat) (cs : Array Value) (t : TypeId) (f : Nat × Nat), W.heap[b]? = some (.cells cs t f) → t ≠ 202 → t ≠ 261 → t ≠ 125 → t ≠ 129 → t ≠ 256 → W'.heap[b]? = some (.cells cs t f)
theorem Tx.of_below {lo : Nat} {W W' : World} (h : Below W.heap.size W W') (hb : lo ≤ W.heap.size) : Tx lo W W' := ⟨h.mono hb, fun b _ _ _ hb' _ _ _ _ _ => (h.block b (lt_of_heap hb')).trans hb'⟩
theorem Tx.refl {lo : Nat} {W : World} (hb : lo ≤ W.heap.size) : Tx lo W W := .of_below (Below.refl _ _) hb
theorem Tx.trans {lo : Nat} {u v w : World} (h : Tx lo u v) (g : Tx lo v w) : Tx lo u w := ⟨h.bel.trans g.bel, fun b cs t f e h1 h2 h3 h4 h5 => g.oth b cs t f (h.oth b cs t f e h1 h2 h3 h4 h5) h1 h2 h3 h4 h5⟩
theorem Tx.of_nx {base : Bse} {W W' : World} (h : Nx base W W') : Tx base.lo W W' := ⟨h.bel, fun b cs t f e h1 h2 _ _ _ => h.oth b cs t f e h1 h2⟩
theorem Tx.size {lo : Nat} {W W' : World} (h : Tx lo W W') : W.heap.size ≤ W'.heap.size := h.bel.size
/-- But for block b, and o's, all that lay lies as it lay. -/
structure Fn (b : Nat) (o : Option Nat) (w w' : World) : Prop where
  os : w'.os = w.os
  tape : w'.tape = w.tape
  output : w'.output = w.output
  size : w.heap.size ≤ w'.heap.size
  blk : ∀ k, k < w.heap.size → k ≠ b → some k ≠ o → w'.heap[k]? = w.heap[k]?
theorem Fn.of_below {b : Nat} {o : Option Nat} {w w' : World} (h : Below w.heap.size w w') : Fn b o w w' := ⟨h.os, h.tape, h.output, h.size, fun k hk _ _ => h.block k hk⟩
theorem Fn.refl (b : Nat) (o : Option Nat) (w : World) : Fn b o w w := .of_below (Below.refl _ _)
theorem Fn.trans {b : Nat} {o : Option Nat} {u v w : World} (h : Fn b o u v) (g : Fn b o v w) : Fn b o u w := ⟨g.os.trans h.os, g.tape.trans h.tape, g.output.trans h.output, Nat.le_trans h.size g.size, fun k hk h1 h2 => (g.blk k (Nat.lt_of_lt_of_le hk h.size) h1 h2).trans (h.blk k hk h1 h2)⟩
theorem Fn.set {b : Nat} {o : Option Nat} {u w : World} (h : Fn b o u w) (i : Nat) (v : Value) : Fn b o u (w.setCell ⟨b, i, none⟩ v) :=
  ⟨h.os, h.tape, h.output, by have := h.size; simp [World.setCell]; exact this, fun k hk h1 h2 => (Below.heap_setCell _ _ _ _ h1).trans (h.blk k hk h1 h2)⟩
theorem Fn.grown {b : Nat} {o : Option Nat} {u w w' : World} (h : Fn b o u w) (g : w.grownBy w' o) : Fn b o u w' :=
  ⟨g.os.trans h.os, g.tape.trans h.tape, g.output.trans h.output, Nat.le_trans h.size g.size, fun k hk h1 h2 => (g.block k (Nat.lt_of_lt_of_le hk h.size) h2).trans (h.blk k hk h1 h2)⟩
theorem Fn.drew {b : Nat} {o : Option Nat} {u w : World} (h : Fn b o u w) : Fn b o u w.drew := ⟨h.os, h.tape, h.output, h.size, h.blk⟩
def ndC (x : Nd) (v : Value) : Array Value := #[I x.kind, I x.mode, I x.uid, I x.gid, I (x.names : Int), I (x.holds : Int), I x.up, v, I x.file, .string x.text]
/-- The nodes, each in its block, its names in a row of their own. -/
structure TrI (lo N : Nat) (W : World) (t : Nat) (T : Tr) (q p : Nat) (nb : Int → Nat) (ev : Int → Value) : Prop where
  ht : W.heap[t]? = some (.cells #[I (T.most : Int), I (T.made : Int), .map (some q), P0 p] 125)
  hm : Mp W q (T.made + 1) (fun k => if (T.nd k).isSome = true then some (P0 (nb k)) else none)
  hn : ∀ k x, T.nd k = some x → W.heap[nb k]? = some (.cells (ndC x (ev k)) 129) ∧ Ro lo W (ev k) x.ins
  dn : ∀ j k x y, T.nd j = some x → T.nd k = some y → j ≠ k → nb j ≠ nb k ∧ ((ev j).ownBlock = none ∨ (ev j).ownBlock ≠ (ev k).ownBlock)
  pl : Pl ⟨lo, fun b => b = q⟩ N W p T.pool
  bd : lo ≤ t ∧ lo ≤ q ∧ lo ≤ W.heap.size ∧ ∀ k x, T.nd k = some x → lo ≤ nb k
def Tp (lo N : Nat) (W : World) (t : Nat) (T : Tr) : Prop := ∃ q p nb ev, TrI lo N W t T q p nb ev
theorem Ro.blk {lo : Nat} {W : World} {v : Value} {es : Ents} (h : Ro lo W v es) {g : Nat} (e : v.ownBlock = some g) : lo ≤ g ∧ ∃ cur, W.heap[g]? = some (.cells cur 256) := by
  obtain ⟨-, ⟨rfl, _⟩ | ⟨g', cap, cur, rfl, hgb, hgg, _⟩⟩ := h
  · simp [Value.ownBlock] at e
  · simp [Value.ownBlock] at e
    subst e
    exact ⟨hgb, cur, hgg⟩
theorem Ro.same {lo : Nat} {W W' : World} {v : Value} {es : Ents} (h : Ro lo W v es) (hb : ∀ g, v.ownBlock = some g → W'.heap[g]? = W.heap[g]?) : Ro lo W' v es := by
  obtain ⟨hl, h1 | ⟨g, cap, cur, rfl, hgb, hgg, hr⟩⟩ := h
  · exact ⟨hl, .inl h1⟩
  · exact ⟨hl, .inr ⟨g, cap, cur, rfl, hgb, (hb g rfl).trans hgg, hr⟩⟩
section
variable {lo N : Nat} {W W' : World} {t : Nat} {T : Tr} {q p : Nat} {nb : Int → Nat} {ev : Int → Value}
theorem TrI.cells (h : TrI lo N W t T q p nb ev) : W.cell? ⟨t, 0, none⟩ = some (I (T.most : Int)) ∧ W.cell? ⟨t, 1, none⟩ = some (I (T.made : Int)) ∧ W.cell? ⟨t, 2, none⟩ = some (.map (some q)) ∧ W.cell? ⟨t, 3, none⟩ = some (P0 p) ∧ ∀ i, W.frozen? ⟨t, i, none⟩ = false :=
  ⟨by rw [cell_of h.ht]; rfl, by rw [cell_of h.ht]; rfl, by rw [cell_of h.ht]; rfl, by rw [cell_of h.ht]; rfl, frozen_of h.ht⟩
theorem ndcells {b : Nat} {x : Nd} {v : Value} (h : W.heap[b]? = some (.cells (ndC x v) 129)) : W.cell? ⟨b, 0, none⟩ = some (I x.kind) ∧ W.cell? ⟨b, 1, none⟩ = some (I x.mode) ∧ W.cell? ⟨b, 2, none⟩ = some (I x.uid) ∧ W.cell? ⟨b, 3, none⟩ = some (I x.gid) ∧ W.cell? ⟨b, 4, none⟩ = some (I (x.names : Int)) ∧ W.cell? ⟨b, 5, none⟩ = some (I (x.holds : Int)) ∧ W.cell? ⟨b, 6, none⟩ = some (I x.up) ∧ W.cell? ⟨b, 7, none⟩ = some v ∧ W.cell? ⟨b, 8, none⟩ = some (I x.file) ∧ W.cell? ⟨b, 9, none⟩ = some (.string x.text) ∧ ∀ i, W.frozen? ⟨b, i, none⟩ = false := by
  refine ⟨?_, ?_, ?_, ?_, ?_, ?_, ?_, ?_, ?_, ?_, frozen_of h⟩ <;> (rw [cell_of h]; rfl)
theorem TrI.below (h : TrI lo N W t T q p nb ev) (g : Below W.heap.size W W') : TrI lo N W' t T q p nb ev :=
  ⟨(g.block t (lt_of_heap h.ht)).trans h.ht, h.hm.below g, fun k x hk => ⟨(g.block _ (lt_of_heap (h.hn k x hk).1)).trans (h.hn k x hk).1, (h.hn k x hk).2.below g⟩, h.dn, h.pl.below g, ⟨h.bd.1, h.bd.2.1, Nat.le_trans h.bd.2.2.1 g.size, h.bd.2.2.2⟩⟩
theorem Tp.below (h : Tp lo N W t T) (g : Below W.heap.size W W') : Tp lo N W' t T := let ⟨q, p, nb, ev, h⟩ := h; ⟨q, p, nb, ev, h.below g⟩
theorem Tp.alloc (h : Tp lo N W t T) (o : Obj) : Tp lo N (W.alloc o) t T := h.below ((Below.refl _ W).alloc (Nat.le_refl _) o)
theorem Tp.lo_le (h : Tp lo N W t T) : lo ≤ W.heap.size := let ⟨_, _, _, _, h⟩ := h; h.bd.2.2.1
/-- The tree stays where all that is its own does. -/
theorem Tp.keep (h : Tp lo N W t T) (hs : W.heap.size ≤ W'.heap.size) (hm : ∀ (b : Nat) (es : Array MapEntry) (k : Nat), W.heap[b]? = some (.map es k) → W'.heap[b]? = W.heap[b]?)
    (hc : ∀ (b : Nat) (cs : Array Value) (t : TypeId) (f : Nat × Nat), W.heap[b]? = some (.cells cs t f) → t = 202 ∨ t = 261 ∨ t = 125 ∨ t = 129 ∨ t = 256 → W'.heap[b]? = W.heap[b]?) : Tp lo N W' t T := by
  obtain ⟨q, p, nb, ev, h⟩ := h
  refine ⟨q, p, nb, ev, (hc _ _ _ _ h.ht (by simp)).trans h.ht, h.hm.same ?_, fun k x hk => ⟨(hc _ _ _ _ (h.hn k x hk).1 (by simp)).trans (h.hn k x hk).1, (h.hn k x hk).2.same fun g hg => ?_⟩, h.dn, h.pl.keep hs hm fun b cs t f e ht => hc b cs t f e (by rcases ht with ht | ht <;> simp [ht]), ⟨h.bd.1, h.bd.2.1, Nat.le_trans h.bd.2.2.1 hs, h.bd.2.2.2⟩⟩
  · obtain ⟨D, ⟨es, k, h1, _⟩, _⟩ := h.hm
    exact hm q es k h1
  · obtain ⟨_, cur, hc'⟩ := (h.hn k x hk).2.blk hg
    exact hc _ _ _ _ hc' (by simp)
theorem TrI.own (h : TrI lo N W t T q p nb ev) {k : Int} {x : Nd} (hk : T.nd k = some x) {b : Nat} {cs : Array Value} {ty : TypeId} {f : Nat × Nat} (hb : W.heap[b]? = some (.cells cs ty f)) (ht : ty ≠ 256) : some b ≠ (ev k).ownBlock := fun e => by
  obtain ⟨_, cur, hc⟩ := (h.hn k x hk).2.blk e.symm
  rw [hc] at hb
  cases hb
  exact ht rfl
theorem TrI.ownm (h : TrI lo N W t T q p nb ev) {k : Int} {x : Nd} (hk : T.nd k = some x) {b : Nat} {es : Array MapEntry} {c : Nat} (hb : W.heap[b]? = some (.map es c)) : b ≠ nb k ∧ some b ≠ (ev k).ownBlock := by
  refine ⟨fun e => ?_, fun e => ?_⟩
  · rw [e, (h.hn k x hk).1] at hb; cases hb
  · obtain ⟨_, cur, hc⟩ := (h.hn k x hk).2.blk e.symm
    rw [hc] at hb; cases hb
/-- One node has turned. -/
theorem TrI.turn (h : TrI lo N W t T q p nb ev) {n : Int} {x y : Nd} {v : Value} (hx : T.nd n = some x) (F : Fn (nb n) (ev n).ownBlock W W') (hy : W'.heap[nb n]? = some (.cells (ndC y v) 129)) (hr : Ro lo W' v y.ins)
    (hv : v.ownBlock = (ev n).ownBlock ∨ ∃ g, v.ownBlock = some g ∧ W.heap.size ≤ g) : TrI lo N W' t (T.set n (some y)) q p nb (fun k => if k = n then v else ev k) ∧ Tx lo W W' := by
  obtain ⟨hb, hro⟩ := h.hn n x hx
  have hsome : ∀ k, ((T.set n (some y)).nd k).isSome = (T.nd k).isSome := fun k => by
    by_cases e : k = n
    · subst e; simp [Tr.set, hx]
    · simp [Tr.set, e]
  have hkeep : ∀ (b : Nat) (cs : Array Value) (ty : TypeId) (f : Nat × Nat), W.heap[b]? = some (.cells cs ty f) → ty ≠ 129 → ty ≠ 256 → W'.heap[b]? = W.heap[b]? := fun b cs ty f e h1 h2 =>
    F.blk b (lt_of_heap e) (fun e2 => by rw [e2, hb] at e; cases e; exact h1 rfl) (h.own hx e h2)
  have hkm : ∀ (b : Nat) (es : Array MapEntry) (c : Nat), W.heap[b]? = some (.map es c) → W'.heap[b]? = W.heap[b]? := fun b es c e => F.blk b (lt_of_heap e) (h.ownm hx e).1 (h.ownm hx e).2
  have hbel : Below lo W W' := ⟨F.os, F.tape, F.output, F.size, fun k hk => F.blk k (Nat.lt_of_lt_of_le hk h.bd.2.2.1) (fun e => by have := h.bd.2.2.2 n x hx; omega) fun e => by have := (hro.blk e.symm).1; omega⟩
  refine ⟨⟨?_, ?_, ?_, ?_, ?_, ?_⟩, ⟨hbel, fun b cs ty f e _ _ _ h4 h5 => (hkeep b cs ty f e h4 h5).trans e⟩⟩
  · exact (hkeep _ _ _ _ h.ht (by decide) (by decide)).trans h.ht
  · refine (h.hm.same ?_).congr fun k => by rw [hsome]
    obtain ⟨D, ⟨es, k, h1, _⟩, _⟩ := h.hm
    exact hkm q es k h1
  · intro k z hz
    by_cases e : k = n
    · subst e
      rw [Tr.set_same] at hz
      cases hz
      simp only [if_pos]
      exact ⟨hy, hr⟩
    · rw [Tr.set_other _ _ e] at hz
      simp only [if_neg e]
      obtain ⟨d1, d2⟩ := h.dn k n z x hz hx e
      refine ⟨(F.blk _ (lt_of_heap (h.hn k z hz).1) d1 (h.own hx (h.hn k z hz).1 (by decide))).trans (h.hn k z hz).1, (h.hn k z hz).2.same fun g hg => ?_⟩
      obtain ⟨_, cur, hc⟩ := (h.hn k z hz).2.blk hg
      refine F.blk g (lt_of_heap hc) (fun e2 => by rw [e2, hb] at hc; cases hc) ?_
      rcases d2 with d2 | d2
      · rw [hg] at d2; cases d2
      · rw [← hg]; exact d2
  · intro j k z u hz hu hjk
    have old : ∀ i w', T.nd i = some w' → i ≠ n → (ev i).ownBlock = none ∨ (ev i).ownBlock ≠ v.ownBlock := fun i w' hi hin => by
      rcases hv with hv | ⟨g, hv, hg⟩
      · rw [hv]; exact (h.dn i n w' x hi hx hin).2
      · right
        intro e
        obtain ⟨_, cur, hc⟩ := (h.hn i w' hi).2.blk (e.trans hv)
        have := lt_of_heap hc
        omega
    by_cases e : j = n
    · by_cases e2 : k = n
      · exact absurd (e.trans e2.symm) hjk
      · rw [Tr.set_other _ _ e2] at hu
        subst e
        refine ⟨(h.dn j k x u hx hu hjk).1, ?_⟩
        simp only [if_pos, if_neg e2]
        rcases old k u hu e2 with h1 | h1
        · by_cases h2 : v.ownBlock = none
          · exact .inl h2
          · exact .inr fun e3 => h2 (e3.trans h1)
        · exact .inr (Ne.symm h1)
    · rw [Tr.set_other _ _ e] at hz
      by_cases e2 : k = n
      · subst e2
        refine ⟨(h.dn j k z x hz hx hjk).1, ?_⟩
        simp only [if_pos, if_neg e]
        exact old j z hz e
      · rw [Tr.set_other _ _ e2] at hu
        simp only [if_neg e, if_neg e2]
        exact h.dn j k z u hz hu hjk
  · exact h.pl.keep F.size hkm fun b cs ty f e ht => hkeep b cs ty f e (by rcases ht with ht | ht <;> (rw [ht]; decide)) (by rcases ht with ht | ht <;> (rw [ht]; decide))
  · refine ⟨h.bd.1, h.bd.2.1, Nat.le_trans h.bd.2.2.1 F.size, fun k z hz => ?_⟩
    by_cases e : k = n
    · subst e; exact h.bd.2.2.2 k x hx
    · rw [Tr.set_other _ _ e] at hz
      exact h.bd.2.2.2 k z hz
/-- What Files hold has turned. -/
theorem TrI.poolT (h : TrI lo N W t T q p nb ev) {s : S} (P : Pl ⟨lo, fun b => b = q⟩ N W' p s) (nx : Nx ⟨lo, fun b => b = q⟩ W W') : TrI lo N W' t { T with pool := s } q p nb ev ∧ Tx lo W W' := by
  refine ⟨⟨nx.oth _ _ _ _ h.ht (by decide) (by decide), h.hm.same (nx.kp q rfl), fun k x hk => ⟨nx.oth _ _ _ _ (h.hn k x hk).1 (by decide) (by decide), (h.hn k x hk).2.same fun g hg => ?_⟩, h.dn, P, ⟨h.bd.1, h.bd.2.1, Nat.le_trans h.bd.2.2.1 nx.bel.size, h.bd.2.2.2⟩⟩, .of_nx nx⟩
  obtain ⟨_, cur, hc⟩ := (h.hn k x hk).2.blk hg
  exact (nx.oth _ _ _ _ hc (by decide) (by decide)).trans hc.symm
end
theorem htN : Tryz.prog.underlying 123 = some (.map 3 130) := Tryz.underlying123
theorem zeroPN (w : World) : (zeroValue 130).run Tryz.prog w = .ok (.pointer none) w := (zero_of_info (P := Tryz.prog) (t := 130) (v := .pointer none) (n := 1) (by kernel_rfl)).1 w
section
variable {lo N : Nat} {W W' : World} {t : Nat} {T : Tr} {q p : Nat} {nb : Int → Nat} {ev : Int → Value}
/-- The look for a node. -/
theorem TrI.look_ok (h : TrI lo N W t T q p nb ev) {n : Int} (hn : (kl n).wf = true) :
    (Instr.lookup 123 (.map (some q)) (I n) true).run Tryz.prog W = .ok (.tuple #[(if (T.nd n).isSome = true then P0 (nb n) else .pointer none), .bool (T.nd n).isSome]) W := by
  rw [h.hm.look_ok htN (zeroPN _) hn]
  cases (T.nd n).isSome <;> simp
theorem TrI.look (h : TrI lo N W t T q p nb ev) {n : Int} (hn : (kl n).wf = true) :
    (Instr.lookup 123 (.map (some q)) (I n) false).run Tryz.prog W = .ok (if (T.nd n).isSome = true then P0 (nb n) else .pointer none) W := by
  rw [h.hm.look htN (zeroPN _) hn]
  cases (T.nd n).isSome <;> simp
end
end Go.Proofs.YtlngeaacjbdmhaaGreat

namespace Go.Proofs.YtlngeaacjbdmhaaGreat
open Go.RowKit Go.Maps
section
variable {lo N : Nat} {W W' : World} {t : Nat} {T : Tr} {q p : Nat} {nb : Int → Nat} {ev : Int → Value}
theorem dir_some (h : TrI lo N W t T q p nb ev) {n : Int} (hn : (kl n).wf = true) {x : Nd} (hx : T.nd n = some x) : Calls Tryz.prog 116 #[P0 t, I n] W fun e w' => e = .returned (.tuple #[P0 (nb n), .bool (decide (x.kind = 1))]) ∧ ∃ k, w' = W.drewN k := by
  obtain ⟨c0, c1, c2, c3, cf⟩ := h.cells
  have hl := h.look_ok hn
  rw [hx] at hl
  simp only [Option.isSome_some, if_true] at hl
  obtain ⟨d0, -, -, -, -, -, -, -, -, -, df⟩ := ndcells (h.hn n x hx).1
  clear h hx
  go_enter Tryz.func116, Tryz.ntmps116
  go_wp2_with fail
  go_region
  go_wp2_with fail
  go_ret2
  refine ⟨?_, 1, rfl⟩
  by_cases hk : x.kind = 1 <;> simp [hk]
theorem dir_none (h : TrI lo N W t T q p nb ev) {n : Int} (hn : (kl n).wf = true) (hx : T.nd n = none) : Calls Tryz.prog 116 #[P0 t, I n] W fun e w' => e = .returned (.tuple #[.pointer none, .bool false]) ∧ ∃ k, w' = W.drewN k := by
  obtain ⟨c0, c1, c2, c3, cf⟩ := h.cells
  have hl := h.look_ok hn
  rw [hx] at hl
  simp only [Option.isSome_none, Bool.false_eq_true, if_false] at hl
  clear h hx
  go_enter Tryz.func116, Tryz.ntmps116
  go_wp2_with fail
  go_region
  go_wp2_with fail
  go_ret2
  exact ⟨rfl, 1, rfl⟩
theorem place_any {b : Nat} {x : Nd} {v : Value} (hb : W.heap[b]? = some (.cells (ndC x v) 129)) (hr : Ro lo W v x.ins) (hs : Srt x.ins) (hl : x.ins.length < 1000) (s : ByteArray) :
    Calls Tryz.prog 207 #[P0 b, .string s] W fun e w' => e = .returned (.tuple #[I (pos x.ins s : Nat), .bool (getE x.ins s).isSome]) ∧ Below W.heap.size W w' := by
  obtain ⟨-, -, -, -, -, -, -, d7, -, -, df⟩ := ndcells hb
  have H := hide (search_any hr hs hl s)
  clear hb hr hs hl
  go_enter Tryz.func207, Tryz.ntmps207
  go_wp2_with (go_at_call 274; refine (unhide H).mono ?_; rintro e w' ⟨rfl, hB⟩)
  go_ret2
  exact ⟨rfl, hB⟩
set_option maxHeartbeats 1000000 in
theorem find_any {b : Nat} {x : Nd} {v : Value} (hb : W.heap[b]? = some (.cells (ndC x v) 129)) (hr : Ro lo W v x.ins) (hs : Srt x.ins) (hl : x.ins.length < 1000) (s : ByteArray) :
    Calls Tryz.prog 117 #[P0 b, .string s] W fun e w' => e = .returned (.tuple #[I ((getE x.ins s).getD 0), .bool (getE x.ins s).isSome]) ∧ Below W.heap.size W w' := by
  obtain ⟨P, hP⟩ : ∃ P, P = pos x.ins s := ⟨_, rfl⟩
  have hat := (hs.at_pos s).2
  rw [← hP] at hat
  have H0 := place_any hb hr hs hl s
  rw [← hP] at H0
  cases e : getE x.ins s with
  | none =>
    rw [e] at H0
    have H := hide H0
    clear hb hr hs hl H0 hat hP e
    go_enter Tryz.func117, Tryz.ntmps117
    go_wp2_with (go_at_call 207; refine (unhide H).mono ?_; rintro e w' ⟨rfl, hB⟩)
    go_ret2
    exact ⟨rfl, hB⟩
  | some n =>
    rw [e] at H0
    have hPe := hat n e
    obtain ⟨hPl, -⟩ := List.getElem?_eq_some_iff.1 hPe
    rcases hr.open' with ⟨rfl, hz⟩ | ⟨g, cap, rfl, hcap, hcm, hlo, hgl, hcells⟩
    · rw [hz] at hPl; simp at hPl
    obtain ⟨k1, k2⟩ := hcells P s n hPe
    obtain ⟨L, hL⟩ : ∃ L, L = x.ins.length := ⟨_, rfl⟩
    rw [← hL] at hb hPl hl hcap
    have q1 : (P : Int) < (L : Int) := by omega
    have q2 : (0 : Int) ≤ (P : Int) := by omega
    have hmx : cap ≤ 9223372036854775807 := by unfold maxLen at hcm; omega
    have HB := hide hb
    have H := hide H0
    clear hb hr hs hl H0 hat hP e hcells hPe hcm hL
    go_enter Tryz.func117, Tryz.ntmps117
    go_wp2_with (go_at_call 207; refine (unhide H).mono ?_; rintro e w1 ⟨rfl, hB⟩; have HBB := hide hB; obtain ⟨-, -, -, -, -, -, -, d7, -, -, df⟩ := ndcells ((hB.block b (lt_of_heap (unhide HB))).trans (unhide HB)); have hgw := hB.block g hgl; have c1 : w1.cell? ⟨g, P * 2, none⟩ = some (.string s) := (cell_same hgw _).trans k1; have c2 : w1.cell? ⟨g, P * 2 + 1, none⟩ = some (.int .i64 n) := (cell_same hgw _).trans k2; clear hB hgw k1 k2)
    go_ret2
    exact ⟨rfl, unhide HBB⟩
set_option maxHeartbeats 1000000 in
theorem refuses_any {b : Nat} {x : Nd} {v : Value} (hb : W.heap[b]? = some (.cells (ndC x v) 129)) (hr : Ro lo W v x.ins) (hs : Srt x.ins) (hl : x.ins.length < 1000) (s : ByteArray) :
    Calls Tryz.prog 123 #[P0 b, .string s] W fun e w' => e = .returned (I (refusesE x s)) ∧ Below W.heap.size W w' := by
  have H := hide (find_any hb hr hs hl s)
  have HB := hide hb
  obtain ⟨o, ho⟩ : ∃ o, o = getE x.ins s := ⟨_, rfl⟩
  rw [← ho] at H
  unfold refusesE
  rw [← ho]
  clear hb hr hs hl ho
  cases o with
  | some n =>
    simp only [Option.isSome_some, if_true]
    go_enter Tryz.func123, Tryz.ntmps123
    go_wp2_with (go_at_call 117; refine (unhide H).mono ?_; rintro e w' ⟨rfl, hB⟩)
    go_ret
    exact ⟨rfl, hB⟩
  | none =>
    simp only [Option.isSome_none, Bool.false_eq_true, if_false]
    have H4 : Hid (∀ w1, Below W.heap.size W w1 → w1.cell? ⟨b, 4, none⟩ = some (I (x.names : Int)) ∧ ∀ i, w1.frozen? ⟨b, i, none⟩ = false) := fun w1 hB => by
      obtain ⟨-, -, -, -, d4, -, -, -, -, -, df⟩ := ndcells ((hB.block b (lt_of_heap (unhide HB))).trans (unhide HB))
      exact ⟨d4, df⟩
    obtain ⟨k, hk⟩ : ∃ k, k = x.names := ⟨_, rfl⟩
    rw [← hk] at H4 ⊢
    clear hk HB
    by_cases hz : k = 0
    · subst hz
      go_enter Tryz.func123, Tryz.ntmps123
      go_wp2_with (go_at_call 117; refine (unhide H).mono ?_; rintro e w1 ⟨rfl, hB⟩; obtain ⟨d4, df⟩ := unhide H4 w1 hB; have HBB := hide hB; clear hB)
      go_ret
      exact ⟨rfl, unhide HBB⟩
    · have hz2 : ¬ ((k : Int) = 0) := by omega
      go_enter Tryz.func123, Tryz.ntmps123
      go_wp2_with (go_at_call 117; refine (unhide H).mono ?_; rintro e w1 ⟨rfl, hB⟩; obtain ⟨d4, df⟩ := unhide H4 w1 hB; have HBB := hide hB; clear hB)
      go_ret
      exact ⟨rfl, unhide HBB⟩
end
end Go.Proofs.YtlngeaacjbdmhaaGreat

namespace Go.Proofs.YtlngeaacjbdmhaaGreat
open Go.RowKit Go.Maps
section
variable {lo N : Nat} {W W' : World} {t : Nat} {T : Tr} {q p : Nat} {nb : Int → Nat} {ev : Int → Value} {B : Nat}
theorem below_n (W : World) (k : Nat) : Below W.heap.size W (W.drewN k) := below_dn (Below.refl _ W) k
set_option maxHeartbeats 1000000 in
theorem tfind_any (h : TrI lo N W t T q p nb ev) (hw : Wk B T) (hB : B ≤ 900) {n : Int} (hn : (kl n).wf = true) (s : ByteArray) :
    Calls Tryz.prog 55 #[P0 t, I n, .string s] W fun e w' => e = .returned (.tuple #[I ((T.findN n s).getD 0), .bool (T.findN n s).isSome]) ∧ Below W.heap.size W w' := by
  cases hx : T.nd n with
  | none =>
    have H := hide (dir_none h hn hx)
    have hd : T.findN n s = none := by simp [Tr.findN, Tr.dir, hx]
    rw [hd]
    clear h hx
    go_enter Tryz.func55, Tryz.ntmps55
    go_wp2_with (go_at_call 116; refine (unhide H).mono ?_; rintro e w' ⟨rfl, k, rfl⟩)
    go_ret2
    exact ⟨rfl, below_n _ _⟩
  | some x =>
    have H0 := dir_some h hn hx
    by_cases hk : x.kind = 1
    · have hd : T.findN n s = getE x.ins s := by simp [Tr.findN, Tr.dir, hx, hk]
      rw [hd]
      simp only [hk, decide_true] at H0
      have H := hide H0
      have H2 : Hid (∀ k, Calls Tryz.prog 117 #[P0 (nb n), .string s] (W.drewN k) fun e w' => e = .returned (.tuple #[I ((getE x.ins s).getD 0), .bool (getE x.ins s).isSome]) ∧ Below W.heap.size W w') := fun k =>
        (find_any (lo := lo) (W := W.drewN k) (h.hn n x hx).1 ((h.hn n x hx).2.below (below_n W k)) (hw.srt n x hx) (by have := (hw.bnd n x hx).2.2; omega) s).mono fun e w' ⟨h1, h2⟩ => ⟨h1, (below_n W k).trans h2⟩
      clear h hx H0 hd hw
      go_enter Tryz.func55, Tryz.ntmps55
      go_wp2_with (first | (go_at_call 116; refine (unhide H).mono ?_; rintro e w' ⟨rfl, k, rfl⟩) | (go_at_call 117; refine (unhide H2 _).mono ?_; rintro e w' ⟨rfl, hB2⟩))
      go_ret2
      exact ⟨rfl, hB2⟩
    · have hd : T.findN n s = none := by simp [Tr.findN, Tr.dir, hx, hk]
      rw [hd]
      simp only [hk, decide_false] at H0
      have H := hide H0
      clear h hx H0 hd hw
      go_enter Tryz.func55, Tryz.ntmps55
      go_wp2_with (go_at_call 116; refine (unhide H).mono ?_; rintro e w' ⟨rfl, k, rfl⟩)
      go_ret2
      exact ⟨rfl, below_n _ _⟩
set_option maxHeartbeats 1000000 in
theorem up_any (h : TrI lo N W t T q p nb ev) {n : Int} (hn : (kl n).wf = true) :
    Calls Tryz.prog 89 #[P0 t, I n] W fun e w' => e = .returned (I (T.up n)) ∧ ∃ k, w' = W.drewN k := by
  cases hx : T.nd n with
  | none =>
    have H := hide (dir_none h hn hx)
    have hd : T.up n = 0 := by simp [Tr.up, Tr.dir, hx]
    rw [hd]
    clear h hx
    go_enter Tryz.func89, Tryz.ntmps89
    go_wp2_with (go_at_call 116; refine (unhide H).mono ?_; rintro e w' ⟨rfl, k, rfl⟩)
    go_ret
    exact ⟨rfl, _, rfl⟩
  | some x =>
    have H0 := dir_some h hn hx
    by_cases hk : x.kind = 1
    · simp only [hk, decide_true] at H0
      have H := hide H0
      have HC : Hid (∀ k, (W.drewN k).cell? ⟨nb n, 4, none⟩ = some (I (x.names : Int)) ∧ (W.drewN k).cell? ⟨nb n, 6, none⟩ = some (I x.up) ∧ ∀ i, (W.drewN k).frozen? ⟨nb n, i, none⟩ = false) := fun k => by
        obtain ⟨-, -, -, -, d4, -, d6, -, -, -, df⟩ := ndcells (h.hn n x hx).1
        exact ⟨d4, d6, df⟩
      have hd : T.up n = if x.names = 0 then n else x.up := by simp [Tr.up, Tr.dir, hx, hk]
      rw [hd]
      obtain ⟨m, hm⟩ : ∃ m, m = x.names := ⟨_, rfl⟩
      rw [← hm] at HC ⊢
      clear h hx H0 hd hm
      by_cases hz : m = 0
      · subst hz
        go_enter Tryz.func89, Tryz.ntmps89
        go_wp2_with (go_at_call 116; refine (unhide H).mono ?_; rintro e w' ⟨rfl, k, rfl⟩; obtain ⟨d4, d6, df⟩ := unhide HC k)
        go_ret
        exact ⟨rfl, _, rfl⟩
      · have hz2 : ¬ ((m : Int) = 0) := by omega
        rw [if_neg hz]
        go_enter Tryz.func89, Tryz.ntmps89
        go_wp2_with (go_at_call 116; refine (unhide H).mono ?_; rintro e w' ⟨rfl, k, rfl⟩; obtain ⟨d4, d6, df⟩ := unhide HC k)
        go_ret
        exact ⟨rfl, _, rfl⟩
    · have hd : T.up n = 0 := by simp [Tr.up, Tr.dir, hx, hk]
      rw [hd]
      simp only [hk, decide_false] at H0
      have H := hide H0
      clear h hx H0 hd
      go_enter Tryz.func89, Tryz.ntmps89
      go_wp2_with (go_at_call 116; refine (unhide H).mono ?_; rintro e w' ⟨rfl, k, rfl⟩)
      go_ret
      exact ⟨rfl, _, rfl⟩
theorem left_any (h : TrI lo N W t T q p nb ev) (hw : Wk B T) (hB : B ≤ 900) : Calls Tryz.prog 86 #[P0 t] W fun e w' => e = .returned (I T.left) ∧ ∃ k, w' = W.drewN k := by
  obtain ⟨c0, c1, c2, c3, cf⟩ := h.cells
  have hl := fun ty => h.hm.len htN (n := T.made + 1) (by have := hw.made; omega) (fun k _ e => hw.sup k (by simpa using e)) ty
  have hc : cnt (T.made + 1) (fun k => ((if (T.nd (k : Int)).isSome = true then some (P0 (nb (k : Int))) else none)).isSome) = T.live := cnt_congr fun k _ => by cases (T.nd (k : Int)).isSome <;> rfl
  have hl2 := fun ty => h.hm.drew.len htN (n := T.made + 1) (by have := hw.made; omega) (fun k _ e => hw.sup k (by simpa using e)) ty
  rw [hc] at hl hl2
  have hl1 : T.live ≤ 901 := by have := cnt_le (T.made + 1) (fun k => (T.nd (k : Int)).isSome); have := hw.made; simp only [Tr.live]; omega
  have hm := hw.mst
  unfold Tr.left
  obtain ⟨L, hL⟩ : ∃ L, L = T.live := ⟨_, rfl⟩
  obtain ⟨M, hM⟩ : ∃ M, M = T.most := ⟨_, rfl⟩
  rw [← hL] at hl hl2 hl1 ⊢
  rw [← hM] at c0 hm ⊢
  have q1 : (L : Int) ≤ 901 := by omega
  have q2 : (M : Int) ≤ 64 := by omega
  clear h hw hL hM hc
  go_enter Tryz.func86, Tryz.ntmps86
  go_wp2_with fail
  go_region
  go_wp2_with fail
  go_ret
  exact ⟨rfl, 1, rfl⟩
theorem text_any (h : TrI lo N W t T q p nb ev) (hw : Wk B T) {n : Int} (hn : (kl n).wf = true) : Calls Tryz.prog 58 #[P0 t, I n] W fun e w' => e = .returned (.string (T.textOf n)) ∧ Below W.heap.size W w' := by
  obtain ⟨c0, c1, c2, c3, cf⟩ := h.cells
  have hl := h.look_ok hn
  cases hx : T.nd n with
  | none =>
    rw [hx] at hl
    simp only [Option.isSome_none, Bool.false_eq_true, if_false] at hl
    have hd : T.textOf n = ⟨#[]⟩ := by simp [Tr.textOf, hx]
    rw [hd]
    clear h hx
    go_enter Tryz.func58, Tryz.ntmps58
    go_wp2_with fail
    go_ret
    exact ⟨rfl, Below.refl _ _⟩
  | some x =>
    rw [hx] at hl
    simp only [Option.isSome_some, if_true] at hl
    obtain ⟨-, -, -, -, -, -, -, -, -, d9, df⟩ := ndcells (h.hn n x hx).1
    have hd : T.textOf n = x.text := by simp [Tr.textOf, hx]
    rw [hd]
    have H := hide (fun w => clone_any x.text w (hw.txt n x hx))
    clear h hx hw
    go_enter Tryz.func58, Tryz.ntmps58
    go_wp2_with (go_at_call 119; refine (unhide H _).mono ?_; rintro e w' ⟨rfl, hB⟩)
    go_ret
    exact ⟨rfl, hB⟩
end
end Go.Proofs.YtlngeaacjbdmhaaGreat

namespace Go.Proofs.YtlngeaacjbdmhaaGreat
open Go.RowKit
/-- The statement: the loop's record r lies at w.heap.size + 1, the block for deferred calls ahead of it. -/
theorem wpIn_range_own {F : Fence} {n : Nat} {P : Program} {g : Operand} {ps : Array Tmp} {assign body : Code} {Q : Exit → Act → World → Prop} {a : Act} {w : World}
    (hro : F.round = none) (h1 : 1 ≤ n) {gf : Nat} {lb : Array Value} (hg : a.eval g = .func (.func gf) #[] lb) (hFg : F.fn gf) (eg : ∀ args w, (callFunc gf args).run P w = .ok (.enter gf args) w)
    (h : ∀ r : Loop, F.fn r.fn → r.state = .ready → r.pending = none → r.tmps = a.tmps → r.params = ps → r.assign = assign → r.body = body →
      CallsIn F (n - 1) P gf (#[.func (.yield (w.heap.size + 1)) #[] #[]] ++ lb) ((w.alloc (.deferred (some []))).alloc (.loop r))
        fun e W2 => (∃ v, e = .returned v) ∧ W2.heap[w.heap.size + 1]? = some (.loop r) ∧
          Q .normal { a with defers := { target := .collected w.heap.size, args := #[] } :: a.defers } (W2.putObj (w.heap.size + 1) (.loop { r with state := .exhausted }))) :
    (Code.rangeFunc g ps assign body).wpIn F n P Q a w := by
  refine wpIn_rangeFunc ?_
  intro fn hfn
  rw [hro]
  obtain ⟨r, hr⟩ : ∃ r : Loop, r = { state := .ready, pending := none, fn, tmps := a.tmps, params := ps, assign, body, defers := w.heap.size } := ⟨_, rfl⟩
  refine ⟨w.heap.size + 1, [{ target := .collected w.heap.size, args := #[] }], (w.alloc (.deferred (some []))).alloc (.loop r), { target := .fn (.func gf) lb, args := #[.func (.yield (w.heap.size + 1)) #[] #[]] },
    (w.alloc (.deferred (some []))).alloc (.loop r), gf, #[.func (.yield (w.heap.size + 1)) #[] #[]] ++ lb, (w.alloc (.deferred (some []))).alloc (.loop r), ?_, ?_, ?_, ?_, fun _ => h1, ?_⟩
  · rw [hr]; exact run_enterLoop_outer _ _ _ _ _
  · simp only [resolve, hg]
    simp [go_sem]
  · intro f' hf'; simp [Target.leads] at hf'; subst hf'; exact hFg
  · simp [invoke, go_sem, eg]
  · refine (h r (by rw [hr]; exact hfn) (by rw [hr]) (by rw [hr]) (by rw [hr]) (by rw [hr]) (by rw [hr]) (by rw [hr])).mono ?_
    rintro e W2 ⟨⟨v, rfl⟩, hl, hq⟩
    have hp : r.pending = none := by rw [hr]
    have he := run_endLoop (P := P) hl (by rw [hr]; simp)
    exact ⟨r.pending, _, he, by rw [hp]; rw [hp] at hq; exact hq⟩
/-- One call of yield: the assignments, then the body, which goes on. -/
theorem yield_own {F : Fence} {n : Nat} {P : Program} {l : Nat} {r : Loop} {args : Array Value} {W : World} {R : Ending → World → Prop} {tm : Array Value} {ps : Array Tmp} {assign body : Code}
    (hF : F.fn r.fn) (hst : r.state = .ready) (hpe : r.pending = none) (htm : r.tmps = tm) (hps : r.params = ps) (has : r.assign = assign) (hbo : r.body = body) (hs : args.size = ps.size) (hl : W.heap[l]? = some (.loop r))
    (h : ∀ rb : Loop, assign.wpIn (F.inRound l) n P (Exit.then (fun a₁ w₁ => w₁.heap[l]? = some (.loop r) ∧
      body.wpIn (F.inRound l) n P (fun e _ w => e = .normal ∧ w.heap[l]? = some (.loop rb) ∧ R (.returned (.bool true)) (w.putObj l (.loop r))) a₁ (w₁.putObj l (.loop rb))) (fun _ _ _ => False))
      { tmps := (ps.zip args).foldl (fun tmps (t, a) => tmps.setIfInBounds t a) tm, defers := [] } W) :
    YieldAt F n P l args W R := by
  subst htm hps has hbo
  refine ⟨r.fn, _, r.assign, r.body, run_yield (P := P) hl hs, roundIn_of_wpIn hF (wpIn_mono (h { r with state := .busy }) ?_)⟩
  intro e a₁ w₁ hq
  cases e with
  | normal =>
    obtain ⟨hl1, hb⟩ := hq
    refine ⟨_, run_beginRound hl1 hst, wpIn_mono hb ?_⟩
    rintro e a w ⟨rfl, hl2, hR⟩
    have he := run_endRound (P := P) none hl2
    refine ⟨_, _, he, ?_⟩
    have hrr : ({ state := LoopState.ready, pending := none, fn := r.fn, tmps := r.tmps, params := r.params, assign := r.assign, body := r.body, defers := r.defers } : Loop) = r := by
      cases r; simp at hst hpe; subst hst hpe; rfl
    simpa [hrr] using hR
  | ret => exact hq.elim
  | exit id => exact hq.elim
  | goto t => exact hq.elim
  | panic c => exact hq.elim
  | outgrown => exact hq.elim
/-- The statement where a round may return: the record is then done, the return pending. -/
theorem wpIn_range_ret {F : Fence} {n : Nat} {P : Program} {g : Operand} {ps : Array Tmp} {assign body : Code} {Q : Exit → Act → World → Prop} {a : Act} {w : World}
    (hro : F.round = none) (h1 : 1 ≤ n) {gf : Nat} {lb : Array Value} (hg : a.eval g = .func (.func gf) #[] lb) (hFg : F.fn gf) (eg : ∀ args w, (callFunc gf args).run P w = .ok (.enter gf args) w)
    (h : ∀ r : Loop, F.fn r.fn → r.state = .ready → r.pending = none → r.tmps = a.tmps → r.params = ps → r.assign = assign → r.body = body →
      CallsIn F (n - 1) P gf (#[.func (.yield (w.heap.size + 1)) #[] #[]] ++ lb) ((w.alloc (.deferred (some []))).alloc (.loop r))
        fun e W2 => (∃ v, e = .returned v) ∧ ((W2.heap[w.heap.size + 1]? = some (.loop r) ∧
          Q .normal { a with defers := { target := .collected w.heap.size, args := #[] } :: a.defers } (W2.putObj (w.heap.size + 1) (.loop { r with state := .exhausted }))) ∨
          ∃ rd : Loop, rd.state = .done ∧ rd.pending = some .ret ∧ W2.heap[w.heap.size + 1]? = some (.loop rd) ∧
          Q .ret { a with defers := { target := .collected w.heap.size, args := #[] } :: a.defers } (W2.putObj (w.heap.size + 1) (.loop { rd with state := .exhausted })))) :
    (Code.rangeFunc g ps assign body).wpIn F n P Q a w := by
  refine wpIn_rangeFunc ?_
  intro fn hfn
  rw [hro]
  obtain ⟨r, hr⟩ : ∃ r : Loop, r = { state := .ready, pending := none, fn, tmps := a.tmps, params := ps, assign, body, defers := w.heap.size } := ⟨_, rfl⟩
  refine ⟨w.heap.size + 1, [{ target := .collected w.heap.size, args := #[] }], (w.alloc (.deferred (some []))).alloc (.loop r), { target := .fn (.func gf) lb, args := #[.func (.yield (w.heap.size + 1)) #[] #[]] },
    (w.alloc (.deferred (some []))).alloc (.loop r), gf, #[.func (.yield (w.heap.size + 1)) #[] #[]] ++ lb, (w.alloc (.deferred (some []))).alloc (.loop r), ?_, ?_, ?_, ?_, fun _ => h1, ?_⟩
  · rw [hr]; exact run_enterLoop_outer _ _ _ _ _
  · simp only [resolve, hg]
    simp [go_sem]
  · intro f' hf'; simp [Target.leads] at hf'; subst hf'; exact hFg
  · simp [invoke, go_sem, eg]
  · refine (h r (by rw [hr]; exact hfn) (by rw [hr]) (by rw [hr]) (by rw [hr]) (by rw [hr]) (by rw [hr]) (by rw [hr])).mono ?_
    rintro e W2 ⟨⟨v, rfl⟩, ⟨hl, hq⟩ | ⟨rd, hd1, hd2, hl, hq⟩⟩
    · have hp : r.pending = none := by rw [hr]
      have he := run_endLoop (P := P) hl (by rw [hr]; simp)
      exact ⟨r.pending, _, he, by rw [hp]; rw [hp] at hq; exact hq⟩
    · have he := run_endLoop (P := P) hl (by rw [hd1]; simp)
      refine ⟨rd.pending, _, he, ?_⟩
      rw [hd2] at hq ⊢
      exact wpIn_ret hq
/-- One call of yield whose body goes on, or returns. -/
theorem yield_ret {F : Fence} {n : Nat} {P : Program} {l : Nat} {r : Loop} {args : Array Value} {W : World} {R : Ending → World → Prop} {tm : Array Value} {ps : Array Tmp} {assign body : Code}
    (hF : F.fn r.fn) (hst : r.state = .ready) (hpe : r.pending = none) (htm : r.tmps = tm) (hps : r.params = ps) (has : r.assign = assign) (hbo : r.body = body) (hs : args.size = ps.size) (hl : W.heap[l]? = some (.loop r))
    (h : ∀ rb : Loop, assign.wpIn (F.inRound l) n P (Exit.then (fun a₁ w₁ => w₁.heap[l]? = some (.loop r) ∧
      body.wpIn (F.inRound l) n P (fun e _ w => w.heap[l]? = some (.loop rb) ∧ ((e = .normal ∧ R (.returned (.bool true)) (w.putObj l (.loop r))) ∨ (e = .ret ∧ R (.returned (.bool false)) (w.putObj l (.loop { rb with state := .done, pending := some .ret }))))) a₁ (w₁.putObj l (.loop rb))) (fun _ _ _ => False))
      { tmps := (ps.zip args).foldl (fun tmps (t, a) => tmps.setIfInBounds t a) tm, defers := [] } W) :
    YieldAt F n P l args W R := by
  subst htm hps has hbo
  refine ⟨r.fn, _, r.assign, r.body, run_yield (P := P) hl hs, roundIn_of_wpIn hF (wpIn_mono (h { r with state := .busy }) ?_)⟩
  intro e a₁ w₁ hq
  cases e with
  | normal =>
    obtain ⟨hl1, hb⟩ := hq
    refine ⟨_, run_beginRound hl1 hst, wpIn_mono hb ?_⟩
    rintro e a w ⟨hl2, ⟨rfl, hR⟩ | ⟨rfl, hR⟩⟩
    · have he := run_endRound (P := P) none hl2
      refine ⟨_, _, he, ?_⟩
      have hrr : ({ state := LoopState.ready, pending := none, fn := r.fn, tmps := r.tmps, params := r.params, assign := r.assign, body := r.body, defers := r.defers } : Loop) = r := by
        cases r; simp at hst hpe; subst hst hpe; rfl
      simpa [hrr] using hR
    · have he := run_endRound (P := P) (some .ret) hl2
      refine ⟨_, _, he, ?_⟩
      simpa using hR
  | ret => exact hq.elim
  | exit id => exact hq.elim
  | goto t => exact hq.elim
  | panic c => exact hq.elim
  | outgrown => exact hq.elim
end Go.Proofs.YtlngeaacjbdmhaaGreat
