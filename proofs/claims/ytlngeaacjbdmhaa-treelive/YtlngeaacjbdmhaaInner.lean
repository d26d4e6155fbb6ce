/-
  One file: its block, its map; the contracts of split and lacks.
-/
import Derived.Test.YtlngeaacjbdmhaaPure
namespace Go.Proofs.Ytlngeaacjbdmhaa
open Go.RowKit Go.Maps

def intOf : Value → Int
  | .int _ x => x
  | _ => 0
abbrev Z16 : Array Value := (lst (fun _ => 0) 0 16).toArray
theorem zero74 (w : World) : (zeroValue 149).run Try.prog w = .ok (.agg Z16) w := (zero_of_info (P := Try.prog) (t := 149) (v := .agg Z16) (n := 16) (by kernel_rfl)).1 w
theorem size74 : (Try.prog.info? 149).map (·.size) = some 16 := by kernel_rfl
theorem ht55 : Try.prog.underlying 97 = some (.map 3 149) := Try.underlying97
theorem ht51 : Try.prog.underlying 84 = some (.map 3 96) := Try.underlying84
abbrev P0 (b : Nat) : Value := .pointer (some ⟨b, 0, none⟩)
/-- A file in its two blocks. -/
structure Fl (W : World) (c m : Nat) (x : F) : Prop where
  hc : W.heap[c]? = some (.cells #[I x.size, .map (some m)] 99)
  hm : Mp W m 64 (bk x.byte x.has)
  ok : x.Ok
section
variable {W W' : World} {c m : Nat} {x : F}
theorem Fl.cells (h : Fl W c m x) : W.cell? ⟨c, 0, none⟩ = some (I x.size) ∧ W.cell? ⟨c, 1, none⟩ = some (.map (some m)) ∧ ∀ i, W.frozen? ⟨c, i, none⟩ = false :=
  ⟨by rw [cell_of h.hc]; rfl, by rw [cell_of h.hc]; rfl, frozen_of h.hc⟩
theorem Fl.fr {S : List Nat} (h : Fl W c m x) (g : Fr S W W') (hc : c ∉ S) (hm : m ∉ S) : Fl W' c m x := ⟨(g.blk c (lt_of_heap h.hc) hc).trans h.hc, h.hm.fr g hm, h.ok⟩
theorem Fl.below (h : Fl W c m x) (g : Below W.heap.size W W') : Fl W' c m x := h.fr (S := []) (.of_below g) (by simp) (by simp)
theorem Fl.alloc (h : Fl W c m x) (o : Obj) : Fl (W.alloc o) c m x := h.below ((Below.refl _ W).alloc (Nat.le_refl _) o)
end
theorem store74 {R : Array Value} (hR : R.size = 16) (h1 : R.all (·.oneCell') = true) (w : World) :
    (storeCells ⟨w.heap.size, 0, none⟩ R.toList 0).run Try.prog (w.alloc (.cells #[Value.int IntKind.u8 0, Value.int IntKind.u8 0, Value.int IntKind.u8 0, Value.int IntKind.u8 0, Value.int IntKind.u8 0, Value.int IntKind.u8 0, Value.int IntKind.u8 0, Value.int IntKind.u8 0, Value.int IntKind.u8 0, Value.int IntKind.u8 0, Value.int IntKind.u8 0, Value.int IntKind.u8 0, Value.int IntKind.u8 0, Value.int IntKind.u8 0, Value.int IntKind.u8 0, Value.int IntKind.u8 0] 149)) = .ok () (w.alloc (.cells R 149)) :=
  run_storeCells_new w 149 Z16 R (by rw [hR]; exact size74) (by rw [hR]; rfl) h1
theorem cnt_none {n : Nat} {p : Nat → Bool} (h : ∀ k, k < n → p k = false) : cnt n p = 0 := by
  induction n with
  | zero => rfl
  | succ n ih => rw [cnt_succ, ih fun k hk => h k (by omega), h n (by omega)]; rfl
end Go.Proofs.Ytlngeaacjbdmhaa
