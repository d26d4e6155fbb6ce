/-
  The law's own same: two rows of calls, the program's and the document's, that hold the same.
-/
import Derived.Test.YtlokihpegllddaaHH
import Derived.Test.YtlokihpegllddaaHJ
import Derived.Test.YtlokihpegllddaaHF
import Derived.Deep.MidRow
namespace Go.Proofs.Ytlokihpegllddaa.Cl
open Go.RowKit Go.Shelf
attribute [local go_sem ↓] Go.wp_at_zero Go.wp_at_succ

theorem Dq.low'' {W W' : World} {h : Nat} {s : Sl} {l : List UInt8} (q : Dq W h s l) (g : Below W.heap.size W W') : Dq W' W'.heap.size s l := (q.low.below g (Nat.le_refl _)).low
theorem Nq.low'' {W W' : World} {h : Nat} {s : Sl} {l : List (List UInt8)} (q : Nq W h s l) (g : Below W.heap.size W W') : Nq W' W'.heap.size s l := (q.low.below g (Nat.le_refl _)).low
theorem om_call (x : Om) {j : Nat} {v : Value} (h : (x.o.c.cs x.d)[j]? = some v) : x.cs[1 + j]? = some v := by
  rw [← h, Nat.add_comm]
  have : j < 9 := by
    have := (Array.getElem?_eq_some_iff.1 h).1
    simpa using this
  match j, this with
  | 0, _ | 1, _ | 2, _ | 3, _ | 4, _ | 5, _ | 6, _ | 7, _ | 8, _ => rfl
theorem om_res (x : Om) {j : Nat} {v : Value} (h : (x.o.r.cs x.rd x.rn)[j]? = some v) : x.cs[10 + j]? = some v := by
  rw [← h, Nat.add_comm]
  have : j < 11 := by
    have := (Array.getElem?_eq_some_iff.1 h).1
    simpa using this
  match j, this with
  | 0, _ | 1, _ | 2, _ | 3, _ | 4, _ | 5, _ | 6, _ | 7, _ | 8, _ | 9, _ | 10, _ => rfl
set_option maxRecDepth 100000 in
set_option maxHeartbeats 4000000 in
theorem lsame_any (xs ys : List Om) (a1 a2 : Option Addr) (n1 c1 n2 c2 : Nat) (hn1 : n1 = xs.length) (hn2 : n2 = ys.length) (hs : n1 ≤ 1000) (hxy : xs.map (·.o) = ys.map (·.o)) (w : World) (h1 : Os w w.heap.size a1 xs) (h2 : Os w w.heap.size a2 ys) :
    Calls Try.prog 13 #[.slice a1 n1 c1, .slice a2 n2 c2] w fun e w' => e = .returned (.bool true) ∧ Below w.heap.size w w' := by
  have hn : n2 = n1 := by
    have := congrArg List.length hxy
    simp only [List.length_map] at this
    omega
  subst hn
  have H1 := hide h1
  have H2 := hide h2
  have HXY := hide hxy
  have HN1 := hide hn1
  have HN2 := hide hn2
  clear h1 h2 hxy hn1 hn2
  go_enter Try.func13, Try.ntmps13
  go_wp2_with fail
  go_loopw [5] (fun i wr => ∃ k : Nat, k ≤ n2 ∧ i = .int .i64 k ∧ Below w.heap.size w wr) (fun i _ => n2 - (intOf i).toNat)
  case atStart => exact ⟨0, Nat.zero_le _, rfl, Below.refl _ _⟩
  case round =>
    obtain ⟨k, hk, rfl, hB⟩ := hrel
    by_cases hkn : k < n2
    · have j1 : (k : Int) < (n2 : Int) := by omega
      have j0 : (0 : Int) ≤ (k : Int) := by omega
      obtain ⟨x, hx⟩ : ∃ x, xs[k]? = some x := ⟨_, List.getElem?_eq_getElem (by have := unhide HN1; omega)⟩
      obtain ⟨y, hy⟩ : ∃ y, ys[k]? = some y := ⟨_, List.getElem?_eq_getElem (by have := unhide HN2; omega)⟩
      have ho : x.o = y.o := by
        have h := congrArg (·[k]?) (unhide HXY)
        simpa [hx, hy] using h
      obtain ⟨g1, o1, e1, l1, r1, q1⟩ := (unhide H1).below hB rfl k x hx
      obtain ⟨g2, o2, e2, l2, r2, q2⟩ := (unhide H2).below hB rfl k y hy
      subst e1 e2
      have hth : x.o.thread = y.o.thread := by rw [ho]
      have hfr : x.o.fr = y.o.fr := by rw [ho]
      have htt : x.o.tt = y.o.tt := by rw [ho]
      have L1 : ∀ W, Below wr.heap.size wr W → W.cell? ⟨g1, o1 + k * 23, none⟩ = some (I x.o.thread) := fun W h => (World.cell?_of_block (h.block g1 (by have := hB.size; omega))).trans (r1 0 _ rfl)
      have L2 : ∀ W, Below wr.heap.size wr W → W.cell? ⟨g1, o1 + k * 23 + 21, none⟩ = some (I x.o.fr) := fun W h => (World.cell?_of_block (h.block g1 (by have := hB.size; omega))).trans (r1 21 _ rfl)
      have L3 : ∀ W, Below wr.heap.size wr W → W.cell? ⟨g1, o1 + k * 23 + 22, none⟩ = some (I x.o.tt) := fun W h => (World.cell?_of_block (h.block g1 (by have := hB.size; omega))).trans (r1 22 _ rfl)
      have M1 : ∀ W, Below wr.heap.size wr W → W.cell? ⟨g2, o2 + k * 23, none⟩ = some (I x.o.thread) := fun W h => (World.cell?_of_block (h.block g2 (by have := hB.size; omega))).trans ((r2 0 _ rfl).trans (by rw [hth]; rfl))
      have M2 : ∀ W, Below wr.heap.size wr W → W.cell? ⟨g2, o2 + k * 23 + 21, none⟩ = some (I x.o.fr) := fun W h => (World.cell?_of_block (h.block g2 (by have := hB.size; omega))).trans ((r2 21 _ rfl).trans (by rw [hfr]; rfl))
      have M3 : ∀ W, Below wr.heap.size wr W → W.cell? ⟨g2, o2 + k * 23 + 22, none⟩ = some (I x.o.tt) := fun W h => (World.cell?_of_block (h.block g2 (by have := hB.size; omega))).trans ((r2 22 _ rfl).trans (by rw [htt]; rfl))
      obtain ⟨c0, c1, c2, c3, c4, c5, c6, c7, c8, hc⟩ : ∃ c0 c1 c2 c3 c4 c5 c6 c7 c8 : Value, #[c0, c1, c2, c3, c4, c5, c6, c7, c8] = x.o.c.cs x.d := ⟨_, _, _, _, _, _, _, _, _, rfl⟩
      have LC0 : ∀ W, Below wr.heap.size wr W → W.cell? ⟨g1, o1 + k * 23 + 1, none⟩ = some c0 := fun W h => (World.cell?_of_block (h.block g1 (by have := hB.size; omega))).trans (r1 1 _ (om_call x (j := 0) (by rw [← hc]; rfl)))
      have LC1 : ∀ W, Below wr.heap.size wr W → W.cell? ⟨g1, o1 + k * 23 + 1 + 1, none⟩ = some c1 := fun W h => (World.cell?_of_block (h.block g1 (by have := hB.size; omega))).trans (r1 2 _ (om_call x (j := 1) (by rw [← hc]; rfl)))
      have LC2 : ∀ W, Below wr.heap.size wr W → W.cell? ⟨g1, o1 + k * 23 + 1 + 2, none⟩ = some c2 := fun W h => (World.cell?_of_block (h.block g1 (by have := hB.size; omega))).trans (r1 3 _ (om_call x (j := 2) (by rw [← hc]; rfl)))
      have LC3 : ∀ W, Below wr.heap.size wr W → W.cell? ⟨g1, o1 + k * 23 + 1 + 3, none⟩ = some c3 := fun W h => (World.cell?_of_block (h.block g1 (by have := hB.size; omega))).trans (r1 4 _ (om_call x (j := 3) (by rw [← hc]; rfl)))
      have LC4 : ∀ W, Below wr.heap.size wr W → W.cell? ⟨g1, o1 + k * 23 + 1 + 4, none⟩ = some c4 := fun W h => (World.cell?_of_block (h.block g1 (by have := hB.size; omega))).trans (r1 5 _ (om_call x (j := 4) (by rw [← hc]; rfl)))
      have LC5 : ∀ W, Below wr.heap.size wr W → W.cell? ⟨g1, o1 + k * 23 + 1 + 5, none⟩ = some c5 := fun W h => (World.cell?_of_block (h.block g1 (by have := hB.size; omega))).trans (r1 6 _ (om_call x (j := 5) (by rw [← hc]; rfl)))
      have LC6 : ∀ W, Below wr.heap.size wr W → W.cell? ⟨g1, o1 + k * 23 + 1 + 6, none⟩ = some c6 := fun W h => (World.cell?_of_block (h.block g1 (by have := hB.size; omega))).trans (r1 7 _ (om_call x (j := 6) (by rw [← hc]; rfl)))
      have LC7 : ∀ W, Below wr.heap.size wr W → W.cell? ⟨g1, o1 + k * 23 + 1 + 7, none⟩ = some c7 := fun W h => (World.cell?_of_block (h.block g1 (by have := hB.size; omega))).trans (r1 8 _ (om_call x (j := 7) (by rw [← hc]; rfl)))
      have LC8 : ∀ W, Below wr.heap.size wr W → W.cell? ⟨g1, o1 + k * 23 + 1 + 8, none⟩ = some c8 := fun W h => (World.cell?_of_block (h.block g1 (by have := hB.size; omega))).trans (r1 9 _ (om_call x (j := 8) (by rw [← hc]; rfl)))
      obtain ⟨d0, d1, d2, d3, d4, d5, d6, d7, d8, hd⟩ : ∃ d0 d1 d2 d3 d4 d5 d6 d7 d8 : Value, #[d0, d1, d2, d3, d4, d5, d6, d7, d8] = y.o.c.cs y.d := ⟨_, _, _, _, _, _, _, _, _, rfl⟩
      have MC0 : ∀ W, Below wr.heap.size wr W → W.cell? ⟨g2, o2 + k * 23 + 1, none⟩ = some d0 := fun W h => (World.cell?_of_block (h.block g2 (by have := hB.size; omega))).trans (r2 1 _ (om_call y (j := 0) (by rw [← hd]; rfl)))
      have MC1 : ∀ W, Below wr.heap.size wr W → W.cell? ⟨g2, o2 + k * 23 + 1 + 1, none⟩ = some d1 := fun W h => (World.cell?_of_block (h.block g2 (by have := hB.size; omega))).trans (r2 2 _ (om_call y (j := 1) (by rw [← hd]; rfl)))
      have MC2 : ∀ W, Below wr.heap.size wr W → W.cell? ⟨g2, o2 + k * 23 + 1 + 2, none⟩ = some d2 := fun W h => (World.cell?_of_block (h.block g2 (by have := hB.size; omega))).trans (r2 3 _ (om_call y (j := 2) (by rw [← hd]; rfl)))
      have MC3 : ∀ W, Below wr.heap.size wr W → W.cell? ⟨g2, o2 + k * 23 + 1 + 3, none⟩ = some d3 := fun W h => (World.cell?_of_block (h.block g2 (by have := hB.size; omega))).trans (r2 4 _ (om_call y (j := 3) (by rw [← hd]; rfl)))
      have MC4 : ∀ W, Below wr.heap.size wr W → W.cell? ⟨g2, o2 + k * 23 + 1 + 4, none⟩ = some d4 := fun W h => (World.cell?_of_block (h.block g2 (by have := hB.size; omega))).trans (r2 5 _ (om_call y (j := 4) (by rw [← hd]; rfl)))
      have MC5 : ∀ W, Below wr.heap.size wr W → W.cell? ⟨g2, o2 + k * 23 + 1 + 5, none⟩ = some d5 := fun W h => (World.cell?_of_block (h.block g2 (by have := hB.size; omega))).trans (r2 6 _ (om_call y (j := 5) (by rw [← hd]; rfl)))
      have MC6 : ∀ W, Below wr.heap.size wr W → W.cell? ⟨g2, o2 + k * 23 + 1 + 6, none⟩ = some d6 := fun W h => (World.cell?_of_block (h.block g2 (by have := hB.size; omega))).trans (r2 7 _ (om_call y (j := 6) (by rw [← hd]; rfl)))
      have MC7 : ∀ W, Below wr.heap.size wr W → W.cell? ⟨g2, o2 + k * 23 + 1 + 7, none⟩ = some d7 := fun W h => (World.cell?_of_block (h.block g2 (by have := hB.size; omega))).trans (r2 8 _ (om_call y (j := 7) (by rw [← hd]; rfl)))
      have MC8 : ∀ W, Below wr.heap.size wr W → W.cell? ⟨g2, o2 + k * 23 + 1 + 8, none⟩ = some d8 := fun W h => (World.cell?_of_block (h.block g2 (by have := hB.size; omega))).trans (r2 9 _ (om_call y (j := 8) (by rw [← hd]; rfl)))
      obtain ⟨e0, e1, e2, e3, e4, e5, e6, e7, e8, e9, e10, he⟩ : ∃ e0 e1 e2 e3 e4 e5 e6 e7 e8 e9 e10 : Value, #[e0, e1, e2, e3, e4, e5, e6, e7, e8, e9, e10] = x.o.r.cs x.rd x.rn := ⟨_, _, _, _, _, _, _, _, _, _, _, rfl⟩
      have LR0 : ∀ W, Below wr.heap.size wr W → W.cell? ⟨g1, o1 + k * 23 + 10, none⟩ = some e0 := fun W h => (World.cell?_of_block (h.block g1 (by have := hB.size; omega))).trans (r1 10 _ (om_res x (j := 0) (by rw [← he]; rfl)))
      have LR1 : ∀ W, Below wr.heap.size wr W → W.cell? ⟨g1, o1 + k * 23 + 10 + 1, none⟩ = some e1 := fun W h => (World.cell?_of_block (h.block g1 (by have := hB.size; omega))).trans (r1 11 _ (om_res x (j := 1) (by rw [← he]; rfl)))
      have LR2 : ∀ W, Below wr.heap.size wr W → W.cell? ⟨g1, o1 + k * 23 + 10 + 2, none⟩ = some e2 := fun W h => (World.cell?_of_block (h.block g1 (by have := hB.size; omega))).trans (r1 12 _ (om_res x (j := 2) (by rw [← he]; rfl)))
      have LR3 : ∀ W, Below wr.heap.size wr W → W.cell? ⟨g1, o1 + k * 23 + 10 + 3, none⟩ = some e3 := fun W h => (World.cell?_of_block (h.block g1 (by have := hB.size; omega))).trans (r1 13 _ (om_res x (j := 3) (by rw [← he]; rfl)))
      have LR4 : ∀ W, Below wr.heap.size wr W → W.cell? ⟨g1, o1 + k * 23 + 10 + 4, none⟩ = some e4 := fun W h => (World.cell?_of_block (h.block g1 (by have := hB.size; omega))).trans (r1 14 _ (om_res x (j := 4) (by rw [← he]; rfl)))
      have LR5 : ∀ W, Below wr.heap.size wr W → W.cell? ⟨g1, o1 + k * 23 + 10 + 5, none⟩ = some e5 := fun W h => (World.cell?_of_block (h.block g1 (by have := hB.size; omega))).trans (r1 15 _ (om_res x (j := 5) (by rw [← he]; rfl)))
      have LR6 : ∀ W, Below wr.heap.size wr W → W.cell? ⟨g1, o1 + k * 23 + 10 + 6, none⟩ = some e6 := fun W h => (World.cell?_of_block (h.block g1 (by have := hB.size; omega))).trans (r1 16 _ (om_res x (j := 6) (by rw [← he]; rfl)))
      have LR7 : ∀ W, Below wr.heap.size wr W → W.cell? ⟨g1, o1 + k * 23 + 10 + 7, none⟩ = some e7 := fun W h => (World.cell?_of_block (h.block g1 (by have := hB.size; omega))).trans (r1 17 _ (om_res x (j := 7) (by rw [← he]; rfl)))
      have LR8 : ∀ W, Below wr.heap.size wr W → W.cell? ⟨g1, o1 + k * 23 + 10 + 8, none⟩ = some e8 := fun W h => (World.cell?_of_block (h.block g1 (by have := hB.size; omega))).trans (r1 18 _ (om_res x (j := 8) (by rw [← he]; rfl)))
      have LR9 : ∀ W, Below wr.heap.size wr W → W.cell? ⟨g1, o1 + k * 23 + 10 + 9, none⟩ = some e9 := fun W h => (World.cell?_of_block (h.block g1 (by have := hB.size; omega))).trans (r1 19 _ (om_res x (j := 9) (by rw [← he]; rfl)))
      have LR10 : ∀ W, Below wr.heap.size wr W → W.cell? ⟨g1, o1 + k * 23 + 10 + 10, none⟩ = some e10 := fun W h => (World.cell?_of_block (h.block g1 (by have := hB.size; omega))).trans (r1 20 _ (om_res x (j := 10) (by rw [← he]; rfl)))
      obtain ⟨f0, f1, f2, f3, f4, f5, f6, f7, f8, f9, f10, hf⟩ : ∃ f0 f1 f2 f3 f4 f5 f6 f7 f8 f9 f10 : Value, #[f0, f1, f2, f3, f4, f5, f6, f7, f8, f9, f10] = y.o.r.cs y.rd y.rn := ⟨_, _, _, _, _, _, _, _, _, _, _, rfl⟩
      have MR0 : ∀ W, Below wr.heap.size wr W → W.cell? ⟨g2, o2 + k * 23 + 10, none⟩ = some f0 := fun W h => (World.cell?_of_block (h.block g2 (by have := hB.size; omega))).trans (r2 10 _ (om_res y (j := 0) (by rw [← hf]; rfl)))
      have MR1 : ∀ W, Below wr.heap.size wr W → W.cell? ⟨g2, o2 + k * 23 + 10 + 1, none⟩ = some f1 := fun W h => (World.cell?_of_block (h.block g2 (by have := hB.size; omega))).trans (r2 11 _ (om_res y (j := 1) (by rw [← hf]; rfl)))
      have MR2 : ∀ W, Below wr.heap.size wr W → W.cell? ⟨g2, o2 + k * 23 + 10 + 2, none⟩ = some f2 := fun W h => (World.cell?_of_block (h.block g2 (by have := hB.size; omega))).trans (r2 12 _ (om_res y (j := 2) (by rw [← hf]; rfl)))
      have MR3 : ∀ W, Below wr.heap.size wr W → W.cell? ⟨g2, o2 + k * 23 + 10 + 3, none⟩ = some f3 := fun W h => (World.cell?_of_block (h.block g2 (by have := hB.size; omega))).trans (r2 13 _ (om_res y (j := 3) (by rw [← hf]; rfl)))
      have MR4 : ∀ W, Below wr.heap.size wr W → W.cell? ⟨g2, o2 + k * 23 + 10 + 4, none⟩ = some f4 := fun W h => (World.cell?_of_block (h.block g2 (by have := hB.size; omega))).trans (r2 14 _ (om_res y (j := 4) (by rw [← hf]; rfl)))
      have MR5 : ∀ W, Below wr.heap.size wr W → W.cell? ⟨g2, o2 + k * 23 + 10 + 5, none⟩ = some f5 := fun W h => (World.cell?_of_block (h.block g2 (by have := hB.size; omega))).trans (r2 15 _ (om_res y (j := 5) (by rw [← hf]; rfl)))
      have MR6 : ∀ W, Below wr.heap.size wr W → W.cell? ⟨g2, o2 + k * 23 + 10 + 6, none⟩ = some f6 := fun W h => (World.cell?_of_block (h.block g2 (by have := hB.size; omega))).trans (r2 16 _ (om_res y (j := 6) (by rw [← hf]; rfl)))
      have MR7 : ∀ W, Below wr.heap.size wr W → W.cell? ⟨g2, o2 + k * 23 + 10 + 7, none⟩ = some f7 := fun W h => (World.cell?_of_block (h.block g2 (by have := hB.size; omega))).trans (r2 17 _ (om_res y (j := 7) (by rw [← hf]; rfl)))
      have MR8 : ∀ W, Below wr.heap.size wr W → W.cell? ⟨g2, o2 + k * 23 + 10 + 8, none⟩ = some f8 := fun W h => (World.cell?_of_block (h.block g2 (by have := hB.size; omega))).trans (r2 18 _ (om_res y (j := 8) (by rw [← hf]; rfl)))
      have MR9 : ∀ W, Below wr.heap.size wr W → W.cell? ⟨g2, o2 + k * 23 + 10 + 9, none⟩ = some f9 := fun W h => (World.cell?_of_block (h.block g2 (by have := hB.size; omega))).trans (r2 19 _ (om_res y (j := 9) (by rw [← hf]; rfl)))
      have MR10 : ∀ W, Below wr.heap.size wr W → W.cell? ⟨g2, o2 + k * 23 + 10 + 10, none⟩ = some f10 := fun W h => (World.cell?_of_block (h.block g2 (by have := hB.size; omega))).trans (r2 20 _ (om_res y (j := 10) (by rw [← hf]; rfl)))
      have HC := hide (fun (W : World) (h : Below wr.heap.size wr W) => show Calls Try.prog 24 #[.agg #[c0, c1, c2, c3, c4, c5, c6, c7, c8], .agg #[d0, d1, d2, d3, d4, d5, d6, d7, d8]] W fun e w' => e = .returned (.bool true) ∧ Below wr.heap.size wr w' by
        refine Calls.mono ?_ (fun e w' (hh : e = .returned (.bool true) ∧ Below W.heap.size W w') => ⟨hh.1, h.trans (hh.2.mono h.size)⟩)
        rw [hc, hd, ← show x.o.c = y.o.c by rw [ho]]
        exact kcall_any x.o.c x.d y.d W (q1.1.low'' h) (by rw [show x.o.c = y.o.c by rw [ho]]; exact q2.1.low'' h))
      have HR := hide (fun (W : World) (h : Below wr.heap.size wr W) => show Calls Try.prog 18 #[.agg #[e0, e1, e2, e3, e4, e5, e6, e7, e8, e9, e10], .agg #[f0, f1, f2, f3, f4, f5, f6, f7, f8, f9, f10]] W fun e w' => e = .returned (.bool true) ∧ Below wr.heap.size wr w' by
        refine Calls.mono ?_ (fun e w' (hh : e = .returned (.bool true) ∧ Below W.heap.size W w') => ⟨hh.1, h.trans (hh.2.mono h.size)⟩)
        rw [he, hf, ← show x.o.r = y.o.r by rw [ho]]
        exact ksame_any x.o.r x.rd x.rn y.rd y.rn W (q1.2.1.low'' h) (q1.2.2.low'' h) (by rw [show x.o.r = y.o.r by rw [ho]]; exact q2.2.1.low'' h) (by rw [show x.o.r = y.o.r by rw [ho]]; exact q2.2.2.low'' h))
      have HB := hide hB
      have bw : Below wr.heap.size wr wr := Below.refl _ _
      clear hc hd he hf r1 r2 q1 q2 hx hy ho hB l1 l2 hth hfr htt
      go_wp2_with fail
      go_region_held3 (fun W => Below wr.heap.size wr W) (first | assumption | exact below_drew (by assumption))
        (first
          | (go_at_call 24; refine (unhide HC _ (by first | assumption | exact below_drew (by assumption))).mono ?_; rintro e w1 ⟨rfl, be1⟩)
          | (go_at_call 18; refine (unhide HR _ (by first | assumption | exact below_drew (by assumption))).mono ?_; rintro e w1 ⟨rfl, be1⟩))
      all_goals go_wp2_with fail
      all_goals exact ⟨⟨k + 1, by omega, by go_num, (unhide HB).trans (Below.mono (by assumption) (unhide HB).size)⟩, by simp [intOf]; omega⟩
    · obtain rfl : k = n2 := by omega
      have kk : ¬ (k : Int) < (k : Int) := by omega
      have HB := hide hB
      clear hB
      go_wp2_with fail
      go_ret
      exact ⟨rfl, unhide HB⟩
end Go.Proofs.Ytlokihpegllddaa.Cl
