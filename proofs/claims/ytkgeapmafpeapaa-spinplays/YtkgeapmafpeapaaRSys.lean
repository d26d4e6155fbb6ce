/-
  The document's run: its struct, its jobs, places, counts, work that is left and states in blocks of their own; the contracts of its load and store.
-/
import Derived.Test.YtkgeapmafpeapaaLocksA
namespace Go.Proofs.Ytkgeapmafpeapaa
open Go.RowKit
attribute [local go_sem ↓] Go.wp_at_zero Go.wp_at_succ

/-- A job of the document's run. -/
structure RJ where
  job : Jb
  pl : Int
  cnt : Int
  lft : Int
  st : St

/-- But for the document's own blocks all that lay lies as it lay. -/
structure FrR (b c aa ca la sa : Nat) (w w' : World) : Prop where
  os : w'.os = w.os
  tape : w'.tape = w.tape
  output : w'.output = w.output
  size : w.heap.size ≤ w'.heap.size
  block : ∀ k, k < w.heap.size → k ≠ b → k ≠ c → k ≠ aa → k ≠ ca → k ≠ la → k ≠ sa → w'.heap[k]? = w.heap[k]?
theorem FrR.refl (b c aa ca la sa : Nat) (w : World) : FrR b c aa ca la sa w w := ⟨rfl, rfl, rfl, Nat.le_refl _, fun _ _ _ _ _ _ _ _ => rfl⟩
theorem FrR.trans {b c aa ca la sa : Nat} {u v w : World} (h : FrR b c aa ca la sa u v) (g : FrR b c aa ca la sa v w) : FrR b c aa ca la sa u w :=
  ⟨g.os.trans h.os, g.tape.trans h.tape, g.output.trans h.output, Nat.le_trans h.size g.size, fun k hk h1 h2 h3 h4 h5 h6 => (g.block k (Nat.lt_of_lt_of_le hk h.size) h1 h2 h3 h4 h5 h6).trans (h.block k hk h1 h2 h3 h4 h5 h6)⟩
theorem FrR.of_frm {b c aa ca la sa : Nat} {w w' : World} (h : Frm b c w w') : FrR b c aa ca la sa w w' := ⟨h.os, h.tape, h.output, h.size, fun k hk h1 h2 _ _ _ _ => h.block k hk h1 h2⟩
theorem FrR.of_below {b c aa ca la sa : Nat} {w w' : World} (h : Below w.heap.size w w') : FrR b c aa ca la sa w w' := ⟨h.os, h.tape, h.output, h.size, fun k hk _ _ _ _ _ _ => h.block k hk⟩
theorem FrR.drew {b c aa ca la sa : Nat} {u w : World} (h : FrR b c aa ca la sa u w) : FrR b c aa ca la sa u w.drew := ⟨h.os, h.tape, h.output, h.size, h.block⟩
theorem FrR.set {b c aa ca la sa : Nat} {u w : World} (h : FrR b c aa ca la sa u w) {p : Addr} (hp : p.block = aa ∨ p.block = ca ∨ p.block = la ∨ p.block = sa) (v : Value) : FrR b c aa ca la sa u (w.setCell p v) :=
  h.trans ⟨rfl, rfl, rfl, by simp [World.setCell], fun k _ h1 h2 h3 h4 h5 h6 => Below.heap_setCell _ _ _ _ (by rcases hp with e | e | e | e <;> omega)⟩

structure RSys (W : World) (rr b c aa ca la sa n : Nat) (jp : Option Addr) (cap : Nat) (ws : List Int) (st : Int) (xs : List RJ) : Prop where
  mem : ∃ (k a o v : Int) (d : Bool), RMem W b c n ws st k a o v d
  hr : W.heap[rr]? = some (.cells #[.pointer (some ⟨b, 0, none⟩), .slice jp xs.length cap, .slice (some ⟨aa, 0, none⟩) xs.length xs.length, .slice (some ⟨ca, 0, none⟩) xs.length xs.length, .slice (some ⟨la, 0, none⟩) xs.length xs.length, .slice (some ⟨sa, 0, none⟩) xs.length xs.length] 84)
  hj : JobsAt W jp (xs.map RJ.job)
  ha : W.heap[aa]? = some (.cells (xs.map (fun x => Value.int .i64 x.pl)).toArray 3)
  hc : W.heap[ca]? = some (.cells (xs.map (fun x => Value.int .i64 x.cnt)).toArray 2)
  hl : W.heap[la]? = some (.cells (xs.map (fun x => Value.int .i64 x.lft)).toArray 3)
  hs : W.heap[sa]? = some (.cells (rowsOf St.row (xs.map RJ.st)).toArray 50)
  hp : ∀ a : Addr, jp = some a → a.block ≠ b ∧ a.block ≠ c ∧ a.block ≠ aa ∧ a.block ≠ ca ∧ a.block ≠ la ∧ a.block ≠ sa
  nr : rr ≠ b ∧ rr ≠ c ∧ rr ≠ aa ∧ rr ≠ ca ∧ rr ≠ la ∧ rr ≠ sa
  na : aa ≠ b ∧ aa ≠ c ∧ aa ≠ ca ∧ aa ≠ la ∧ aa ≠ sa
  nc : ca ≠ b ∧ ca ≠ c ∧ ca ≠ la ∧ ca ≠ sa
  nl : la ≠ b ∧ la ≠ c ∧ la ≠ sa
  ns : sa ≠ b ∧ sa ≠ c
  l8 : xs.length ≤ 8

theorem JobsAt.keep {W W' : World} {jp : Option Addr} {js : List Jb} (h : JobsAt W jp js) (hz : W.heap.size ≤ W'.heap.size) (hb : ∀ a : Addr, jp = some a → a.block < W.heap.size → W'.heap[a.block]? = W.heap[a.block]?) : JobsAt W' jp js := by
  intro k j hj
  obtain ⟨jb, jo, e, hl, c0, c1, c2, c3, c4⟩ := h k j hj
  have hb' := hb _ e hl
  have hk : ∀ o v, W.cell? ⟨jb, o, none⟩ = some v → W'.cell? ⟨jb, o, none⟩ = some v := fun o v hv => (World.cell?_of_block (w := W) (a := ⟨jb, o, none⟩) hb').trans hv
  exact ⟨jb, jo, e, by omega, hk _ _ c0, hk _ _ c1, hk _ _ c2, hk _ _ c3, hk _ _ c4⟩

/-- An access of the document's memory leaves the rest of its run. -/
theorem RSys.acc {W W' : World} {rr b c aa ca la sa n cap : Nat} {jp : Option Addr} {ws ws' : List Int} {st st' : Int} {xs : List RJ} (h : RSys W rr b c aa ca la sa n jp cap ws st xs) (hm : ∃ (k a o v : Int) (d : Bool), RMem W' b c n ws' st' k a o v d) (g : Frm b c W W') : RSys W' rr b c aa ca la sa n jp cap ws' st' xs := by
  have lt : ∀ {k : Nat} {o : Obj}, W.heap[k]? = some o → k < W.heap.size := fun e => (Array.getElem?_eq_some_iff.1 e).1
  exact ⟨hm, (g.block _ (lt h.hr) h.nr.1 h.nr.2.1).trans h.hr, h.hj.keep g.size (fun a ha hl => g.block _ hl (h.hp a ha).1 (h.hp a ha).2.1), (g.block _ (lt h.ha) h.na.1 h.na.2.1).trans h.ha, (g.block _ (lt h.hc) h.nc.1 h.nc.2.1).trans h.hc,
    (g.block _ (lt h.hl) h.nl.1 h.nl.2.1).trans h.hl, (g.block _ (lt h.hs) h.ns.1 h.ns.2).trans h.hs, h.hp, h.nr, h.na, h.nc, h.nl, h.ns, h.l8⟩
theorem RSys.below {W W' : World} {rr b c aa ca la sa n cap : Nat} {jp : Option Addr} {ws : List Int} {st : Int} {xs : List RJ} (h : RSys W rr b c aa ca la sa n jp cap ws st xs) (g : Below W.heap.size W W') : RSys W' rr b c aa ca la sa n jp cap ws st xs := by
  obtain ⟨k, a, o, v, d, hm⟩ := h.mem
  exact h.acc ⟨k, a, o, v, d, hm.below g⟩ (Frm.of_below g)
theorem RSys.drew {W : World} {rr b c aa ca la sa n cap : Nat} {jp : Option Addr} {ws : List Int} {st : Int} {xs : List RJ} (h : RSys W rr b c aa ca la sa n jp cap ws st xs) : RSys W.drew rr b c aa ca la sa n jp cap ws st xs := h.below ⟨rfl, rfl, rfl, Nat.le_refl _, fun _ _ => rfl⟩
theorem RSys.rcells {W : World} {rr b c aa ca la sa n cap : Nat} {jp : Option Addr} {ws : List Int} {st : Int} {xs : List RJ} (h : RSys W rr b c aa ca la sa n jp cap ws st xs) :
    W.cell? ⟨rr, 0, none⟩ = some (.pointer (some ⟨b, 0, none⟩)) ∧ W.cell? ⟨rr, 1, none⟩ = some (.slice jp xs.length cap) ∧ W.cell? ⟨rr, 2, none⟩ = some (.slice (some ⟨aa, 0, none⟩) xs.length xs.length) ∧ W.cell? ⟨rr, 3, none⟩ = some (.slice (some ⟨ca, 0, none⟩) xs.length xs.length) ∧
    W.cell? ⟨rr, 4, none⟩ = some (.slice (some ⟨la, 0, none⟩) xs.length xs.length) ∧ W.cell? ⟨rr, 5, none⟩ = some (.slice (some ⟨sa, 0, none⟩) xs.length xs.length) := by
  refine ⟨?_, ?_, ?_, ?_, ?_, ?_⟩ <;> rw [cell_of h.hr] <;> rfl

set_option maxRecDepth 100000 in
set_option maxHeartbeats 1000000 in
theorem rload (rr b c aa ca la sa n cap k more at0 : Nat) (jp : Option Addr) (ws : List Int) (st : Int) (xs : List RJ) (x : RJ) (w : World) (h : RSys w rr b c aa ca la sa n jp cap ws st xs) (hk : xs[k]? = some x) (hat : x.job.at_ = (at0 : Int)) (hn : at0 + more < n) (hm : more ≤ 2) (s0 : 0 ≤ st) (s1 : st ≤ 1000000) (held : Int) (hh : ws.getD (at0 + more) 0 = held) :
    Calls Try.prog 41 #[.pointer (some ⟨rr, 0, none⟩), .int .i64 (k : Int), .int .i64 (more : Int)] w fun e w' => e = .returned (.int .i64 held) ∧ RSys w' rr b c aa ca la sa n jp cap ws (st + 1) xs ∧ FrR b c aa ca la sa w w' := by
  have l8 := h.l8
  have hkl := (List.getElem?_eq_some_iff.1 hk).1
  obtain ⟨r0, r1, r2, r3, r4, r5⟩ := h.rcells
  obtain ⟨jb, jo, rfl, hjl, c0, c1, c2, c3, c4⟩ := h.hj k x.job (by simp [hk])
  rw [hat] at c1
  obtain ⟨kk, a, o, v, d, hm0⟩ := h.drew.mem
  have n64 := hm0.hi
  have ew : IntKind.i64.wrap ((at0 : Int) + (more : Int)) = ((at0 + more : Nat) : Int) := by rw [wrap_small _ (by omega) (by omega)]; omega
  have K := do1_h b c n (at0 + more) ws st kk a o v d 0 0 w.drew hm0 hn s0 s1 held hh
  rw [← ew] at K
  have HK := hide K
  have j1 : (k : Int) < (xs.length : Int) := by omega
  have j0 : (0 : Int) ≤ (k : Int) := by omega
  have hrl : rr < w.drew.heap.size := (Array.getElem?_eq_some_iff.1 h.hr).1
  have hjl' : jb < w.drew.heap.size := hjl
  have nr1 := h.nr.1
  have nr2 := h.nr.2.1
  have np1 := (h.hp _ rfl).1
  have np2 := (h.hp _ rfl).2.1
  clear K ew hh hat hm0 hn hm l8 n64
  generalize xs.length = l at *
  go_enter Try.func41, Try.ntmps41
  go_wp2_with fail
  go_region_held3 (fun w' => w'.cell? ⟨rr, 0, none⟩ = some (.pointer (some ⟨b, 0, none⟩)) ∧ w'.cell? ⟨rr, 1, none⟩ = some (.slice (some ⟨jb, jo, none⟩) l cap) ∧ w'.cell? ⟨jb, jo + k * 5 + 1, none⟩ = some (.int .i64 (at0 : Int))) (go_keep)
    (first | (go_at_call 37; refine (unhide HK).mono ?_; rintro e w1 ⟨rfl, hM1, hF1⟩; have v0 := (World.cell?_of_block (w := w.drew) (a := ⟨rr, 0, none⟩) (hF1.block rr hrl nr1 nr2)).trans r0; have v1 := (World.cell?_of_block (w := w.drew) (a := ⟨rr, 1, none⟩) (hF1.block rr hrl nr1 nr2)).trans r1; have v2 := (World.cell?_of_block (w := w.drew) (a := ⟨jb, jo + k * 5 + 1, none⟩) (hF1.block jb hjl' np1 np2)).trans c1))
  go_wp2_with fail
  go_ret
  exact ⟨rfl, h.drew.acc ⟨_, _, _, _, _, hM1⟩ hF1, (FrR.refl b c aa ca la sa w).drew.trans (.of_frm hF1)⟩
end Go.Proofs.Ytkgeapmafpeapaa
