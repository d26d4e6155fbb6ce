/-
  The document's own table in its one block: files by process and descriptor, and which are open; the contracts of New, proc, Count, In, check and Room.
-/
import Derived.Test.YtocaonbmijmbmaaWf
import Derived.Test.YtocaonbmijmbmaaKnown
namespace Go.Proofs.Ytocaonbmijmbmaa
open Go.RowKit Go.Shelf
attribute [local go_sem ↓] Go.wp_at_zero Go.wp_at_succ

def Op.frow (o : Op) : List Value := [I o.m, I o.n, I o.f, I o.s]
theorem Op.frow_length (o : Op) : (Op.frow o).length = 4 := rfl
/-- The block of the document's table. -/
def rc (n : Nat) (F : Nat → Op) (B : Nat → Bool) : Array Value := (I n :: (rowsOf Op.frow ((List.range 64).map F) ++ (List.range 64).map fun i => Value.bool (B i))).toArray
def up {α : Type} (f : Nat → α) (i : Nat) (x : α) (j : Nat) : α := if j = i then x else f j
theorem map_up {α : Type} (f : Nat → α) (i : Nat) (x : α) : (List.range 64).map (up f i x) = ((List.range 64).map f).set i x := by
  apply List.ext_getElem?
  intro j
  rw [List.getElem?_set, List.getElem?_map, List.getElem?_map]
  by_cases e : i = j
  · subst e
    by_cases h : i < 64
    · simp [h, up]
    · simp [h]
  · rw [if_neg e]
    by_cases h : j < 64
    · simp [h, up, Ne.symm e]
    · simp [h]
theorem frows_len (l : List Op) : (rowsOf Op.frow l).length = 4 * l.length := rowsOf_length Op.frow 4 Op.frow_length l
theorem rc_b (n : Nat) (F : Nat → Op) (B : Nat → Bool) (i : Nat) (h : i < 64) : (rc n F B)[257 + i]? = some (.bool (B i)) := by
  unfold rc
  rw [List.getElem?_toArray, show 257 + i = (256 + i) + 1 by omega, List.getElem?_cons_succ, List.getElem?_append_right (by rw [frows_len]; simp), frows_len]
  simp [h]
theorem rc_f (n : Nat) (F : Nat → Op) (B : Nat → Bool) (i f : Nat) (h : i < 64) (hf : f < 4) : (rc n F B)[1 + i * 4 + f]? = (Op.frow (F i))[f]? := by
  unfold rc
  rw [List.getElem?_toArray, show 1 + i * 4 + f = (4 * i + f) + 1 by omega, List.getElem?_cons_succ, List.getElem?_append_left (by rw [frows_len]; simp; omega)]
  exact rowsOf_get Op.frow 4 Op.frow_length _ i f (F i) (by simp [h]) hf
theorem rc_setb (n : Nat) (F : Nat → Op) (B : Nat → Bool) (i : Nat) (b : Bool) : (rc n F B).setIfInBounds (257 + i) (.bool b) = rc n F (up B i b) := by
  have e : ((List.range 64).map fun j => Value.bool (up B i b j)) = ((List.range 64).map fun i => Value.bool (B i)).set i (.bool b) := by
    rw [← map_up (fun i => Value.bool (B i)) i (.bool b)]
    have hf : (fun j => Value.bool (up B i b j)) = up (fun i => Value.bool (B i)) i (.bool b) := by
      funext j
      unfold up
      split <;> rfl
    rw [hf]
  unfold rc
  rw [List.setIfInBounds_toArray, show 257 + i = (256 + i) + 1 by omega, List.set_cons_succ, List.set_append_right _ _ (by rw [frows_len]; simp), frows_len, e]
  rw [show 256 + i - 4 * (List.map F (List.range 64)).length = i by simp]
theorem rc_setf (n : Nat) (F : Nat → Op) (B : Nat → Bool) (i f : Nat) (v : Value) (o' : Op) (h : i < 64) (hf : f < 4) (he : Op.frow o' = (Op.frow (F i)).set f v) : (rc n F B).setIfInBounds (1 + i * 4 + f) v = rc n (up F i o') B := by
  unfold rc
  rw [List.setIfInBounds_toArray, show 1 + i * 4 + f = (4 * i + f) + 1 by omega, List.set_cons_succ, List.set_append_left _ _ (by rw [frows_len]; simp; omega), map_up]
  rw [rowsOf_set Op.frow 4 Op.frow_length _ i f (F i) o' v (by simp [h]) hf he]
theorem up_up {α : Type} (f : Nat → α) (i : Nat) (x y : α) : up (up f i x) i y = up f i y := by
  funext j; unfold up; split <;> rfl
theorem up_same {α : Type} (f : Nat → α) (i : Nat) (x : α) : up f i x i = x := by simp [up]

structure Rt (W : World) (r n : Nat) (F : Nat → Op) (B : Nat → Bool) : Prop where
  hb : W.heap[r]? = some (.cells (rc n F B) 72)
theorem Rt.lt {W : World} {r n : Nat} {F : Nat → Op} {B : Nat → Bool} (h : Rt W r n F B) : r < W.heap.size := lt_of_heap h.hb
theorem Rt.of {W W' : World} {r n : Nat} {F : Nat → Op} {B : Nat → Bool} (h : Rt W r n F B) (e : W'.heap[r]? = W.heap[r]?) : Rt W' r n F B := ⟨e.trans h.hb⟩
theorem Rt.below {W W' : World} {r n : Nat} {F : Nat → Op} {B : Nat → Bool} (h : Rt W r n F B) (g : Below W.heap.size W W') : Rt W' r n F B := h.of (g.block _ h.lt)
theorem Rt.fr {W W' : World} {r n b : Nat} {F : Nat → Op} {B : Nat → Bool} (h : Rt W r n F B) (g : Fr b W W') (hne : r ≠ b) : Rt W' r n F B := h.of (g.block _ h.lt hne)
theorem Rt.n0 {W : World} {r n : Nat} {F : Nat → Op} {B : Nat → Bool} (h : Rt W r n F B) : W.cell? ⟨r, 0, none⟩ = some (I n) := by rw [cell_of h.hb]; rfl
theorem Rt.b {W : World} {r n : Nat} {F : Nat → Op} {B : Nat → Bool} (h : Rt W r n F B) (p k : Nat) (hp : p < 8) (hk : k < 8) : W.cell? ⟨r, 257 + p * 8 + k, none⟩ = some (.bool (B (p * 8 + k))) := by
  rw [cell_of h.hb, show 257 + p * 8 + k = 257 + (p * 8 + k) by omega]; exact rc_b n F B _ (by omega)
theorem Rt.f {W : World} {r n : Nat} {F : Nat → Op} {B : Nat → Bool} (h : Rt W r n F B) (p k : Nat) (hp : p < 8) (hk : k < 8) :
    W.cell? ⟨r, 1 + p * 32 + k * 4, none⟩ = some (I (F (p * 8 + k)).m) ∧ W.cell? ⟨r, 1 + p * 32 + k * 4 + 1, none⟩ = some (I (F (p * 8 + k)).n) ∧ W.cell? ⟨r, 1 + p * 32 + k * 4 + 2, none⟩ = some (I (F (p * 8 + k)).f) ∧ W.cell? ⟨r, 1 + p * 32 + k * 4 + 3, none⟩ = some (I (F (p * 8 + k)).s) := by
  have e : ∀ f, 1 + p * 32 + k * 4 + f = 1 + (p * 8 + k) * 4 + f := by intro f; omega
  refine ⟨?_, ?_, ?_, ?_⟩ <;> rw [cell_of h.hb]
  · exact (congrArg _ (e 0)).trans (rc_f n F B (p * 8 + k) 0 (by omega) (by omega))
  · rw [e 1]; exact rc_f n F B (p * 8 + k) 1 (by omega) (by omega)
  · rw [e 2]; exact rc_f n F B (p * 8 + k) 2 (by omega) (by omega)
  · rw [e 3]; exact rc_f n F B (p * 8 + k) 3 (by omega) (by omega)

/-- The document's table holds just the files es. -/
structure RL (es : List Op) (F : Nat → Op) (B : Nat → Bool) : Prop where
  b : ∀ p k : Nat, p < 8 → k < 8 → B (p * 8 + k) = (getO es (p : Int) (k : Int)).isSome
  f : ∀ p k : Nat, p < 8 → k < 8 → Op.frow (F (p * 8 + k)) = Op.frow ((getO es (p : Int) (k : Int)).getD o0)
theorem RL.nil : RL [] (fun _ => o0) (fun _ => false) := ⟨fun _ _ _ _ => rfl, fun _ _ _ _ => rfl⟩

theorem zero72 (w : World) : (zeroValue 72).run Try.prog w = .ok (.agg (rc 0 (fun _ => o0) fun _ => false)) w :=
  (zero_of_info (P := Try.prog) (t := 72) (v := .agg (rc 0 (fun _ => o0) fun _ => false)) (n := 321) (by kernel_rfl)).1 w
set_option maxRecDepth 100000 in
set_option maxHeartbeats 400000 in
theorem rnew_any (n : Nat) (w : World) :
    Calls Try.prog 15 #[I n] w fun e w' => e = .returned (.pointer (some ⟨w.heap.size, 0, none⟩)) ∧ Rt w' w.heap.size n (fun _ => o0) (fun _ => false) ∧ Below w.heap.size w w' := by
  have hz := zero72
  have hT : Rt (w.alloc (.cells (rc n (fun _ => o0) fun _ => false) 72)) w.heap.size n (fun _ => o0) (fun _ => false) := ⟨putAll _ _ rfl⟩
  have hB : Below w.heap.size w (w.alloc (.cells (rc n (fun _ => o0) fun _ => false) 72)) := (Below.refl _ w).alloc (Nat.le_refl _) _
  have HT := hide hT
  have HB := hide hB
  have he : (rc 0 (fun _ => o0) fun _ => false).setIfInBounds 0 (I n) = rc n (fun _ => o0) fun _ => false := by
    unfold rc; rw [List.setIfInBounds_toArray]; rfl
  have hne : ¬ (rc 0 (fun _ => o0) fun _ => false) = #[] := by simp [rc]
  clear hT hB
  generalize (rc n (fun _ => o0) fun _ => false) = Z at *
  generalize (rc 0 (fun _ => o0) fun _ => false) = Y at *
  go_enter Try.func15, Try.ntmps15
  go_wp2_with fail
  go_ret
  exact ⟨rfl, unhide HT, unhide HB⟩

set_option maxHeartbeats 400000 in
theorem rproc_any (p : Int) (w : World) : Calls Try.prog 31 #[I p] w fun e w' => e = .returned (.bool (isP p)) ∧ w' = w := by
  by_cases h0 : 0 ≤ p
  · by_cases h1 : p < 8
    · rw [show isP p = true by simp [isP, h0, h1]]
      go_enter Try.func31, Try.ntmps31
      go_wp2
      go_ret
      exact ⟨rfl, rfl⟩
    · rw [show isP p = false by simp [isP, h1]]
      go_enter Try.func31, Try.ntmps31
      go_wp2
      go_ret
      exact ⟨rfl, rfl⟩
  · rw [show isP p = false by simp [isP, h0]]
    go_enter Try.func31, Try.ntmps31
    go_wp2
    go_ret
    exact ⟨rfl, rfl⟩

theorem cnt_succ (m : Nat) (f : Nat → Bool) : (List.range (m + 1)).countP f = (List.range m).countP f + if f m = true then 1 else 0 := by
  rw [List.range_succ, List.countP_append]; simp [List.countP_cons]
theorem cnt_bd (m : Nat) (f : Nat → Bool) : (List.range m).countP f ≤ m := by
  have := List.countP_le_length (p := f) (l := List.range m); simpa using this

set_option maxRecDepth 100000 in
set_option maxHeartbeats 1000000 in
theorem rcount_any (r n : Nat) (F : Nat → Op) (B : Nat → Bool) (w : World) (h : Rt w r n F B) :
    Calls Try.prog 22 #[.pointer (some ⟨r, 0, none⟩)] w fun e w' => e = .returned (I ((List.range 64).countP B)) ∧ w' = w := by
  have HR := hide h
  clear h
  go_enter Try.func22, Try.ntmps22
  go_wp2_with fail
  go_loopw [3, 4] (fun v i wr => wr = w ∧ ∃ p : Nat, i = I p ∧ p ≤ 8 ∧ v = I ((List.range (p * 8)).countP B)) (fun _ i _ => 8 - (intOf i).toNat)
  case atStart => exact ⟨rfl, 0, rfl, by omega, by simp⟩
  case round =>
    obtain ⟨rfl, p, rfl, hp, rfl⟩ := hrel
    by_cases hp8 : p < 8
    · have j1 : (p : Int) < 8 := by omega
      have j0 : (0 : Int) ≤ (p : Int) := by omega
      go_wp2_with fail
      go_loopw [3, 5] (fun v i wr2 => wr2 = wr ∧ ∃ k : Nat, i = I k ∧ k ≤ 8 ∧ v = I ((List.range (p * 8 + k)).countP B)) (fun _ i _ => 8 - (intOf i).toNat)
      case atStart => exact ⟨rfl, 0, rfl, by omega, by simp⟩
      case round =>
        obtain ⟨hwr, k, rfl, hk, rfl⟩ := hrel
        subst hwr
        by_cases hk8 : k < 8
        · have i1 : (k : Int) < 8 := by omega
          have i0 : (0 : Int) ≤ (k : Int) := by omega
          have c := (unhide HR).b p k hp8 hk8
          have hs := hide (cnt_succ (p * 8 + k) B)
          have hl := cnt_bd (p * 8 + k) B
          generalize hm : (List.range (p * 8 + k)).countP B = m at *
          clear hm
          cases hB : B (p * 8 + k)
          · rw [hB] at c hs
            clear hB
            go_wp2_with fail
            go_roundw
            case rel => exact ⟨trivial, k + 1, by go_num, by omega, by rw [show p * 8 + (k + 1) = p * 8 + k + 1 by omega, unhide hs]; simp⟩
            case measure => simp [intOf]; omega
          · rw [hB] at c hs
            clear hB
            go_wp2_with fail
            go_roundw
            case rel => exact ⟨trivial, k + 1, by go_num, by omega, by rw [show p * 8 + (k + 1) = p * 8 + k + 1 by omega, unhide hs]; simp⟩
            case measure => simp [intOf]; omega
        · obtain rfl : k = 8 := by omega
          go_wp2_with fail
          go_roundw
          case rel => exact ⟨trivial, p + 1, by go_num, by omega, by rw [show (p + 1) * 8 = p * 8 + 8 by omega]⟩
          case measure => simp [intOf]; omega
    · obtain rfl : p = 8 := by omega
      go_wp2_with fail
      go_ret
      exact ⟨rfl, rfl⟩

set_option maxRecDepth 100000 in
set_option maxHeartbeats 1000000 in
theorem rin_any (r n : Nat) (m : Int) (F : Nat → Op) (B : Nat → Bool) (w : World) (h : Rt w r n F B) :
    Calls Try.prog 23 #[.pointer (some ⟨r, 0, none⟩), I m] w fun e w' => e = .returned (I ((List.range 64).countP fun i => B i && (F i).m == m)) ∧ w' = w := by
  have HR := hide h
  clear h
  go_enter Try.func23, Try.ntmps23
  go_wp2_with fail
  go_loopw [5, 6] (fun v i wr => wr = w ∧ ∃ p : Nat, i = I p ∧ p ≤ 8 ∧ v = I ((List.range (p * 8)).countP fun i => B i && (F i).m == m)) (fun _ i _ => 8 - (intOf i).toNat)
  case atStart => exact ⟨rfl, 0, rfl, by omega, by simp⟩
  case round =>
    obtain ⟨rfl, p, rfl, hp, rfl⟩ := hrel
    by_cases hp8 : p < 8
    · have j1 : (p : Int) < 8 := by omega
      have j0 : (0 : Int) ≤ (p : Int) := by omega
      go_wp2_with fail
      go_loopw [5, 7] (fun v i wr2 => wr2 = wr ∧ ∃ k : Nat, i = I k ∧ k ≤ 8 ∧ v = I ((List.range (p * 8 + k)).countP fun i => B i && (F i).m == m)) (fun _ i _ => 8 - (intOf i).toNat)
      case atStart => exact ⟨rfl, 0, rfl, by omega, by simp⟩
      case round =>
        obtain ⟨hwr, k, rfl, hk, rfl⟩ := hrel
        subst hwr
        by_cases hk8 : k < 8
        · have i1 : (k : Int) < 8 := by omega
          have i0 : (0 : Int) ≤ (k : Int) := by omega
          have c := (unhide HR).b p k hp8 hk8
          obtain ⟨f0, -, -, -⟩ := (unhide HR).f p k hp8 hk8
          have hs := hide (cnt_succ (p * 8 + k) fun i => B i && (F i).m == m)
          have hl := cnt_bd (p * 8 + k) fun i => B i && (F i).m == m
          generalize hm : (List.range (p * 8 + k)).countP (fun i => B i && (F i).m == m) = q at *
          clear hm
          cases hB : B (p * 8 + k)
          · rw [hB] at c
            have hs1 : (List.range (p * 8 + k + 1)).countP (fun i => B i && (F i).m == m) = q := by
              have := unhide hs; rw [hB] at this; simpa using this
            have hs2 := hide hs1
            clear hs1
            clear hB hs f0
            go_wp2_with fail
            go_roundw
            case rel => exact ⟨trivial, k + 1, by go_num, by omega, by rw [show p * 8 + (k + 1) = p * 8 + k + 1 by omega, unhide hs2]⟩
            case measure => simp [intOf]; omega
          · rw [hB] at c
            cases hM : ((F (p * 8 + k)).m == m)
            · have hs1 : (List.range (p * 8 + k + 1)).countP (fun i => B i && (F i).m == m) = q := by
                have := unhide hs; rw [hB, hM] at this; simpa using this
              have hs2 := hide hs1
              clear hs1
              generalize F (p * 8 + k) = o at *
              clear hB hs
              go_wp2_with fail
              go_roundw
              case rel => exact ⟨trivial, k + 1, by go_num, by omega, by rw [show p * 8 + (k + 1) = p * 8 + k + 1 by omega, unhide hs2]⟩
              case measure => simp [intOf]; omega
            · have hs1 : (List.range (p * 8 + k + 1)).countP (fun i => B i && (F i).m == m) = q + 1 := by
                have := unhide hs; rw [hB, hM] at this; simpa using this
              have hs2 := hide hs1
              clear hs1
              generalize F (p * 8 + k) = o at *
              clear hB hs
              go_wp2_with fail
              go_roundw
              case rel => exact ⟨trivial, k + 1, by go_num, by omega, by rw [show p * 8 + (k + 1) = p * 8 + k + 1 by omega, unhide hs2]; simp⟩
              case measure => simp [intOf]; omega
        · obtain rfl : k = 8 := by omega
          go_wp2_with fail
          go_roundw
          case rel => exact ⟨trivial, p + 1, by go_num, by omega, by rw [show (p + 1) * 8 = p * 8 + 8 by omega]⟩
          case measure => simp [intOf]; omega
    · obtain rfl : p = 8 := by omega
      go_wp2_with fail
      go_ret
      exact ⟨rfl, rfl⟩
end Go.Proofs.Ytocaonbmijmbmaa
