/-
  Who may what: the contracts of the package's calls.
-/
import Derived.Test.YtojnohonofkegaaPure
namespace Go.Proofs.Ytojnohonofkegaa
open Go.RowKit

abbrev I (n : Int) : Value := .int .i64 n
abbrev Cr (u g : Int) : Value := .agg #[I u, I g]
abbrev St (n k m u g l z : Int) : Value := .agg #[I n, I k, I m, I u, I g, I l, I z]
theorem two (w : World) (a b : Obj) : Below w.heap.size w ((w.alloc a).alloc b) := ((Below.refl _ _).alloc (Nat.le_refl _) _).alloc (by simp) _
theorem three (w : World) (a b c : Obj) : Below w.heap.size w (((w.alloc a).alloc b).alloc c) := (two w a b).alloc (by simp; omega) _
theorem Below.step {B : Nat} {u v w : World} (h : Below B u v) (g : Below v.heap.size v w) (hb : B ≤ u.heap.size) : Below B u w := h.trans (g.mono (Nat.le_trans hb h.size))
theorem hide {p : Prop} (h : p) : Hid p := h
theorem unhide {p : Prop} (h : Hid p) : p := h
/-- What a call has laid behind the world in which it began: these, and whatever else. -/
structure Laid (w v : World) (os : List Obj) : Prop where
  lies : ∀ (i : Nat) (o : Obj), os[i]? = some o → v.heap[w.heap.size + i]? = some o
  below : Below w.heap.size w v
  room : w.heap.size + os.length ≤ v.heap.size
theorem Laid.nil (w : World) : Laid w w [] := ⟨fun i o h => by simp at h, Below.refl _ _, by simp⟩
theorem Laid.step {w v v' : World} {os : List Obj} (h : Laid w v os) (g : Below v.heap.size v v') : Laid w v' os :=
  ⟨fun i o hi => (g.block _ (by have := (List.getElem?_eq_some_iff.1 hi).1; have := h.room; omega)).trans (h.lies i o hi), Below.step h.below g (Nat.le_refl _), Nat.le_trans h.room g.size⟩
theorem Laid.put {w v : World} {os : List Obj} (h : Laid w v os) (hs : v.heap.size = w.heap.size + os.length) (o : Obj) : Laid w (v.alloc o) (os ++ [o]) := by
  refine ⟨fun i x hi => ?_, h.below.alloc (by omega) _, by simp; omega⟩
  by_cases hlt : i < os.length
  · rw [List.getElem?_append_left hlt] at hi
    rw [Below.heap_alloc _ _ _ (by omega)]
    exact h.lies i x hi
  · have h1 := (List.getElem?_eq_some_iff.1 hi).1
    simp at h1
    have : i = os.length := by omega
    subst this
    simp at hi
    subst hi
    rw [← hs]
    exact heap_alloc_new v o
theorem cell_of {W : World} {b : Nat} {cs : Array Value} {t : TypeId} {f : Nat × Nat} (h : W.heap[b]? = some (.cells cs t f)) (i : Nat) : W.cell? ⟨b, i, none⟩ = cs[i]? := by
  simp [World.cell?, h]
theorem frozen_of {W : World} {b : Nat} {cs : Array Value} {t : TypeId} (h : W.heap[b]? = some (.cells cs t)) (i : Nat) : W.frozen? ⟨b, i, none⟩ = false := by
  simp [World.frozen?, h]
theorem heap_set {W : World} {b : Nat} {cs : Array Value} {t : TypeId} {f : Nat × Nat} (h : W.heap[b]? = some (.cells cs t f)) (i : Nat) (v : Value) :
    (W.setCell ⟨b, i, none⟩ v).heap[b]? = some (.cells (cs.setIfInBounds i v) t f) := by
  obtain ⟨hl, he⟩ := Array.getElem?_eq_some_iff.1 h
  simp [World.setCell, Array.getElem?_modify, h]
abbrev CrO (u g : Int) : Obj := .cells #[I u, I g] 27
abbrev StO (n k m u g l z : Int) : Obj := .cells #[I n, I k, I m, I u, I g, I l, I z] 23
theorem Laid.cr {w v : World} {os : List Obj} (h : Laid w v os) (i : Nat) {b : Nat} (hb : b = w.heap.size + i) {u g : Int} (hi : os[i]? = some (CrO u g)) :
    v.cell? ⟨b, 0, none⟩ = some (I u) ∧ v.cell? ⟨b, 1, none⟩ = some (I g) := by
  have := h.lies i _ hi
  rw [← hb] at this
  refine ⟨?_, ?_⟩ <;> rw [cell_of this] <;> rfl
theorem Laid.st {w v : World} {os : List Obj} (h : Laid w v os) (i : Nat) {b : Nat} (hb : b = w.heap.size + i) {n k m u g l z : Int} (hi : os[i]? = some (StO n k m u g l z)) :
    v.cell? ⟨b, 0, none⟩ = some (I n) ∧ v.cell? ⟨b, 1, none⟩ = some (I k) ∧ v.cell? ⟨b, 2, none⟩ = some (I m) ∧ v.cell? ⟨b, 3, none⟩ = some (I u) ∧ v.cell? ⟨b, 4, none⟩ = some (I g) ∧ v.cell? ⟨b, 5, none⟩ = some (I l) ∧ v.cell? ⟨b, 6, none⟩ = some (I z) ∧ ∀ j, v.frozen? ⟨b, j, none⟩ = false := by
  have := h.lies i _ hi
  rw [← hb] at this
  refine ⟨?_, ?_, ?_, ?_, ?_, ?_, ?_, frozen_of this⟩ <;> rw [cell_of this] <;> rfl
/-- A mode that is set. -/
theorem Laid.mode {w v : World} {os : List Obj} (h : Laid w v os) (i : Nat) {b : Nat} (hb : b = w.heap.size + i) {n k m u g l z : Int} (hi : os[i]? = some (StO n k m u g l z)) (x : Int) :
    Laid w (v.setCell ⟨b, 2, none⟩ (I x)) (os.set i (StO n k x u g l z)) := by
  have h1 := h.lies i _ hi
  rw [← hb] at h1
  have hr := h.room
  have hil := (List.getElem?_eq_some_iff.1 hi).1
  refine ⟨fun j o hj => ?_, ?_, by simpa using h.room⟩
  · by_cases e : j = i
    · subst e
      rw [List.getElem?_set_self hil] at hj
      cases hj
      rw [← hb, heap_set h1]
      rfl
    · rw [List.getElem?_set_ne (by omega)] at hj
      rw [Below.heap_setCell _ _ _ _ (by simp; omega)]
      exact h.lies j o hj
  · exact h.below.setCell (by simp; omega) _

set_option maxRecDepth 100000 in
theorem bits_any (cu cg n k m u g l z : Int) (w : World) : Calls Try.prog 16 #[Cr cu cg, St n k m u g l z] w fun e w' => e = .returned (I (cnt cu cg m u g)) ∧ Below w.heap.size w w' := by
  go_enter Try.func16, Try.ntmps16
  go_wp2_with fail
  all_goals go_ret
  · rename_i h0
    exact ⟨by simp_all [cnt], two _ _ _⟩
  · rename_i h0 h1
    exact ⟨by simp_all [cnt], two _ _ _⟩
  · rename_i h0 h1 h2
    exact ⟨by simp_all [cnt], two _ _ _⟩
  · rename_i h0 h1 h2
    exact ⟨by simp_all [cnt], two _ _ _⟩
set_option maxRecDepth 100000 in
theorem may_any (cu cg n k m u g l z wt : Int) (w : World) : Calls Try.prog 8 #[Cr cu cg, St n k m u g l z, I wt] w fun e w' => e = .returned (.bool (may cu cg m u g wt)) ∧ Below w.heap.size w w' := by
  go_enter Try.func8, Try.ntmps8
  go_wp2_with fail
  refine (bits_any _ _ _ _ _ _ _ _ _ _).mono ?_
  rintro e w1 ⟨rfl, B1⟩
  go_wp2_with fail
  go_ret
  refine ⟨?_, Below.step (two _ _ _) B1 (Nat.le_refl _)⟩
  show Ending.returned (Value.bool _) = _
  rw [and7, andNot_zero _ (lo_lt _)]
  rfl
set_option maxRecDepth 100000 in
theorem owns_any (cu cg n k m u g l z : Int) (w : World) : Calls Try.prog 10 #[Cr cu cg, St n k m u g l z] w fun e w' => e = .returned (.bool (owns cu u)) ∧ Below w.heap.size w w' := by
  go_enter Try.func10, Try.ntmps10
  go_wp2_with fail
  all_goals (go_ret; refine ⟨?_, two _ _ _⟩)
  all_goals simp_all [owns]
theorem lay3 (w : World) (a b c : Obj) : Laid w (((w.alloc a).alloc b).alloc c) [a, b, c] :=
  (((Laid.nil w).put (by simp) a).put (by simp) b).put (by simp) c
theorem lay2 (w : World) (a b : Obj) : Laid w ((w.alloc a).alloc b) [a, b] :=
  ((Laid.nil w).put (by simp) a).put (by simp) b
set_option maxRecDepth 100000 in
theorem sticky_any (cu cg n k m u g l z n' k' m' u' g' l' z' : Int) (w : World) : Calls Try.prog 9 #[Cr cu cg, St n k m u g l z, St n' k' m' u' g' l' z'] w fun e w' => e = .returned (.bool (stk cu m u u')) ∧ Below w.heap.size w w' := by
  by_cases h0 : bits .and .i64 m 512 = 0
  · go_enter Try.func9, Try.ntmps9
    go_wp2_with fail
    go_ret
    exact ⟨by simp [stk, h0], three _ _ _ _⟩
  · have h0' : (bits .and .i64 m 512 != 0) = true := by simpa using h0
    cases h1 : owns cu u with
    | true =>
      go_enter Try.func9, Try.ntmps9
      go_wp2_with fail
      refine (owns_any _ _ _ _ _ _ _ _ _ _).mono ?_
      rintro e w1 ⟨rfl, B1⟩
      rw [h1]
      go_wp2_with fail
      go_ret
      exact ⟨by simp [stk, h1], Below.step (three _ _ _ _) B1 (Nat.le_refl _)⟩
    | false =>
      go_enter Try.func9, Try.ntmps9
      go_wp2_with fail
      refine (owns_any _ _ _ _ _ _ _ _ _ _).mono ?_
      rintro e w1 ⟨rfl, B1⟩
      rw [h1]
      have L := (lay3 _ _ _ _).step B1
      clear B1
      have C1 := L.cr 0 (b := w.heap.size) rfl rfl
      have C2 := L.st 2 (b := w.heap.size + 1 + 1) rfl rfl
      obtain ⟨c0, c1⟩ := C1
      obtain ⟨d0, d1, d2, d3, d4, d5, d6, d7⟩ := C2
      go_wp2_with fail
      refine (owns_any _ _ _ _ _ _ _ _ _ _).mono ?_
      rintro e w2 ⟨rfl, B2⟩
      go_wp2_with fail
      go_ret
      exact ⟨by simp [stk, h0', h1], (L.step B2).below⟩
theorem masked_any (m : Int) (w : World) : Calls Try.prog 7 #[I m] w fun e w' => e = .returned (I (bits .and .i64 m 4095)) ∧ w' = w := by
  go_enter Try.func7, Try.ntmps7
  go_wp2_with fail
  go_ret
  exact ⟨rfl, rfl⟩
end Go.Proofs.Ytojnohonofkegaa
