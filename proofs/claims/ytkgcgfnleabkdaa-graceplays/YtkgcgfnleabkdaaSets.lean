/-
  Sets of readers: the contracts of inside (who is inside), empty and rising.
-/
import Derived.Test.YtkgcgfnleabkdaaBase
namespace Go.Proofs.Ytkgcgfnleabkdaa
open Go.RowKit
attribute [local go_sem ↓] Go.wp_at_zero Go.wp_at_succ

/-- Who is inside. -/
def ins (ss : List Int) (j : Nat) : Bool := match ss[j]? with | some s => decide (0 < s) | none => false
def upto (ss : List Int) (k j : Nat) : Bool := decide (j < k) && ins ss j
theorem upto_zero (ss : List Int) : upto ss 0 = fun _ => false := by funext j; simp [upto]
theorem upto_succ {ss : List Int} {k : Nat} {s : Int} (h : ss[k]? = some s) : put (upto ss k) k (decide (0 < s)) = upto ss (k + 1) := by
  funext j
  simp only [put, upto]
  by_cases hj : j = k
  · subst hj; simp [ins, h]
  · rw [if_neg hj]; congr 1; simp; omega
theorem upto_full {ss : List Int} {n : Nat} (h : ss.length = n) : upto ss n = ins ss := by
  funext j
  simp only [upto]
  by_cases hj : j < n
  · simp [hj]
  · have : ss[j]? = none := List.getElem?_eq_none (by omega)
    simp [ins, this]

theorem bits_cells {W : World} {g : Nat} {f : Nat → Bool} {t : TypeId} {fl : Nat × Nat} (h : W.heap[g]? = some (.cells (bits f).toArray t fl)) :
    W.cell? ⟨g, 0, none⟩ = some (.bool (f 0)) ∧ W.cell? ⟨g, 1, none⟩ = some (.bool (f 1)) ∧ W.cell? ⟨g, 2, none⟩ = some (.bool (f 2)) ∧ W.cell? ⟨g, 3, none⟩ = some (.bool (f 3)) ∧ W.cell? ⟨g, 4, none⟩ = some (.bool (f 4)) ∧ W.cell? ⟨g, 5, none⟩ = some (.bool (f 5)) ∧ W.cell? ⟨g, 6, none⟩ = some (.bool (f 6)) ∧ W.cell? ⟨g, 7, none⟩ = some (.bool (f 7)) := by
  refine ⟨?_, ?_, ?_, ?_, ?_, ?_, ?_, ?_⟩ <;> rw [cell_of h] <;> rfl
abbrev agg8 (f : Nat → Bool) : Value := .agg #[.bool (f 0), .bool (f 1), .bool (f 2), .bool (f 3), .bool (f 4), .bool (f 5), .bool (f 6), .bool (f 7)]
abbrev box8 (f : Nat → Bool) : Obj := .cells #[.bool (f 0), .bool (f 1), .bool (f 2), .bool (f 3), .bool (f 4), .bool (f 5), .bool (f 6), .bool (f 7)] 55

theorem two0 (w : World) (o1 o2 : Obj) : ∃ V : World, ((w.alloc o1).alloc o2) = V ∧ V.heap.size = w.heap.size + 2 ∧ V.heap[w.heap.size]? = some o1 ∧ V.heap[w.heap.size + 1]? = some o2 ∧ Below w.heap.size w V := by
  refine ⟨_, rfl, by simp, ?_, ?_, ?_⟩
  · rw [Below.heap_alloc _ _ _ (by simp)]; exact putAll _ _ rfl
  · exact putAll _ _ (by simp)
  · exact ((Below.refl w.heap.size w).alloc (Nat.le_refl _) o1).alloc (by simp) o2

set_option maxRecDepth 100000 in
set_option maxHeartbeats 1000000 in
theorem inside_any (base : Nat) (b c n : Nat) (ss : List Int) (ws : List Wt) (w : World) (hG : Gr base w b c n ss ws) :
    Calls Try.prog 28 #[.pointer (some ⟨b, 0, none⟩)] w fun e w' => e = .returned (agg8 (ins ss)) ∧ Below w.heap.size w w' := by
  obtain ⟨V, hV, hsz, g0, g1, hB⟩ := two0 w (box8 fun _ => false) (box8 fun _ => false)
  have hG1 := hG.below hB
  obtain ⟨a, cap, h0, h1, hf, hg, ho⟩ := hG1.cells
  have hbl := hG.lt
  have hn8 := hG.hi
  have hlen := hG.len
  have g1' : V.heap[w.heap.size + 1]? = some (.cells (bits (upto ss 0)).toArray 55) := by rw [g1, upto_zero]; rfl
  have HG := hide hG
  have HN := hide hlen
  clear hG ho g1 hG1 hlen
  go_enter Try.func28, Try.ntmps28
  go_wp2_with fail
  clear hV
  have hbs : b ≠ w.heap.size ∧ c ≠ w.heap.size ∧ b ≠ w.heap.size + 1 ∧ c ≠ w.heap.size + 1 := by omega
  generalize hh : w.heap.size = h at *
  have HH := hide hh
  have H0 := hide g0
  have H1 := hide g1'
  clear g0 g1' hh hsz
  go_loopw [11] (fun i wr => ∃ k : Nat, k ≤ n ∧ i = .int .i64 k ∧ wr.heap[h + 1]? = some (.cells (bits (upto ss k)).toArray 55) ∧ wr.heap[h]? = some (box8 fun _ => false) ∧ Below h w wr) (fun i _ => n - (intOf i).toNat)
  case atStart => exact ⟨0, Nat.zero_le _, rfl, unhide H1, unhide H0, hB⟩
  case round =>
    obtain ⟨k, hk, rfl, r1, r0, hB1⟩ := hrel
    clear H0 H1 h0 h1 hf hg
    by_cases hkn : k < n
    · have j1 : (k : Int) < (n : Int) := by omega
      have j0 : (0 : Int) ≤ (k : Int) := by omega
      have j8 : (k : Int) < 8 := by omega
      have hG2 : Gr base wr b c n ss ws := (unhide HG).below (by rw [unhide HH]; exact hB1)
      obtain ⟨s, hs⟩ := hG2.get hkn
      have y1 := hG2.sec hs
      have y2 : wr.cell? ⟨h + 1, k, none⟩ = some (.bool (upto ss k k)) := by rw [cell_of r1, List.getElem?_toArray]; exact bits_get _ k (by omega)
      have yf : wr.frozen? ⟨h + 1, k, none⟩ = false := frozen_of r1 k
      have P : (wr.setCell ⟨h + 1, k, none⟩ (.bool (decide (0 < s)))).heap[h + 1]? = some (.cells (bits (upto ss (k + 1))).toArray 55) := by
        rw [heap_set r1, ← upto_succ hs, ← bits_set _ _ _ (by omega)]; simp
      have P0 := (Below.heap_setCell wr ⟨h + 1, k, none⟩ (.bool (decide (0 < s))) h (by show h ≠ h + 1; omega)).trans r0
      have PB := hB1.setCell (p := ⟨h + 1, k, none⟩) (by show h ≤ h + 1; omega) (.bool (decide (0 < s)))
      have K1 := hide P
      have K0 := hide P0
      have KB := hide PB
      clear P P0 PB r0 r1 hG2 hs
      go_wp2_with fail
      go_roundw
      case rel => exact ⟨k + 1, by omega, by go_num, unhide K1, unhide K0, unhide KB⟩
      case measure => simp [intOf]; omega
    · obtain rfl : k = n := by omega
      rw [upto_full (unhide HN)] at r1
      obtain ⟨c0, c1, c2, c3, c4, c5, c6, c7⟩ := bits_cells r1
      have f0 := frozen_of r0
      obtain ⟨d0, d1, d2, d3, d4, d5, d6, d7⟩ := bits_cells (f := fun _ => false) r0
      clear r0 r1
      go_wp2_with fail
      refine bodyPost_ret (v := agg8 (ins ss)) (by simp [results, Try.results28, go_sem, d0, d1, d2, d3, d4, d5, d6, d7]) rfl ?_
      refine ⟨rfl, ?_⟩
      rw [unhide HH]
      exact (((((((hB1.setCell (p := ⟨h, 0, none⟩) (Nat.le_refl _) _).setCell (p := ⟨h, 1, none⟩) (Nat.le_refl _) _).setCell (p := ⟨h, 2, none⟩) (Nat.le_refl _) _).setCell (p := ⟨h, 3, none⟩) (Nat.le_refl _) _).setCell (p := ⟨h, 4, none⟩) (Nat.le_refl _) _).setCell (p := ⟨h, 5, none⟩) (Nat.le_refl _) _).setCell (p := ⟨h, 6, none⟩) (Nat.le_refl _) _).setCell (p := ⟨h, 7, none⟩) (Nat.le_refl _) _

/-- Is the set without a reader? -/
def none8 (f : Nat → Bool) : Bool := !f 0 && !f 1 && !f 2 && !f 3 && !f 4 && !f 5 && !f 6 && !f 7
theorem none8_iff (f : Nat → Bool) : none8 f = true ↔ ∀ k, k < 8 → f k = false := by
  simp only [none8, Bool.and_eq_true, Bool.not_eq_true']
  constructor
  · rintro ⟨⟨⟨⟨⟨⟨⟨h0, h1⟩, h2⟩, h3⟩, h4⟩, h5⟩, h6⟩, h7⟩ k hk
    rcases lt8 hk with rfl | rfl | rfl | rfl | rfl | rfl | rfl | rfl <;> assumption
  · intro h
    exact ⟨⟨⟨⟨⟨⟨⟨h 0 (by omega), h 1 (by omega)⟩, h 2 (by omega)⟩, h 3 (by omega)⟩, h 4 (by omega)⟩, h 5 (by omega)⟩, h 6 (by omega)⟩, h 7 (by omega)⟩

theorem plain4 : Try.prog.plainKey 4 = true := by kernel_rfl
theorem cells4 : Try.prog.cellsOf 4 = 1 := by kernel_rfl
theorem info4 : ∃ i, Try.prog.info? 4 = some i := by
  have h : (Try.prog.info? 4).isSome = true := by kernel_rfl
  exact Option.isSome_iff_exists.1 h
theorem run_items (f : Nat → Bool) (w : World) (is : List Nat) (h : ∀ j ∈ is, j < 8) :
    (Op.eqItems 9999 4 1 (bits f).toArray (bits fun _ => false).toArray is).run Try.prog w = .ok (is.all fun j => !f j) w := by
  induction is with
  | nil => simp [Op.eqItems]
  | cons j is ih =>
    have hj := h j (by simp)
    have e1 : (bits f).toArray[j * 1]? = some (.bool (f j)) := by rw [Nat.mul_one, List.getElem?_toArray]; exact bits_get f j hj
    have e2 : (bits fun _ => false).toArray[j * 1]? = some (.bool false) := by rw [Nat.mul_one, List.getElem?_toArray]; exact bits_get _ j hj
    simp only [Op.eqItems, Sem.run_bind, run_part_plain _ plain4 e1, run_part_plain _ plain4 e2, Result.andThen_ok, run_equalIn_bool' w 9998 4 (f j) false Try.underlying4]
    cases hf : f j
    · simp only [Bool.not_false, List.all_cons, hf]
      simpa using ih (fun k hk => h k (by simp [hk]))
    · simp [hf]
theorem run_eq8 (f : Nat → Bool) (w : World) : Sem.run Try.prog (Op.equalIn 10000 55 (.agg #[.bool (f 0), .bool (f 1), .bool (f 2), .bool (f 3), .bool (f 4), .bool (f 5), .bool (f 6), .bool (f 7)]) (.agg #[.bool false, .bool false, .bool false, .bool false, .bool false, .bool false, .bool false, .bool false])) w = .ok (none8 f) w := by
  obtain ⟨i, hi⟩ := info4
  have h := run_equalIn_array (P := Try.prog) w 9999 (t := 55) (bits f).toArray (bits fun _ => false).toArray Try.underlying55 hi
  rw [cells4, run_items f w (List.range 8) (by simp)] at h
  have e : (List.range 8).all (fun j => !f j) = none8 f := by simp [List.range, List.range.loop, none8, Bool.and_assoc]
  rw [e] at h
  exact h
set_option maxHeartbeats 1000000 in
theorem empty_any (f : Nat → Bool) (w : World) :
    Calls Try.prog 29 #[agg8 f] w fun e w' => e = .returned (.bool (none8 f)) ∧ Below w.heap.size w w' := by
  have he := run_eq8 f
  go_enter Try.func29, Try.ntmps29
  go_wp2_with fail
  go_ret
  exact ⟨rfl, (Below.refl _ _).alloc (Nat.le_refl _) _⟩

/-- The readers of a set, rising. -/
def rises (f : Nat → Bool) : Nat → List Int
  | 0 => []
  | k + 1 => rises f k ++ if f k then [(k : Int)] else []
theorem rises_yes {f : Nat → Bool} {k : Nat} (h : f k = true) : rises f (k + 1) = rises f k ++ [(k : Int)] := by simp [rises, h]
theorem rises_no {f : Nat → Bool} {k : Nat} (h : f k = false) : rises f (k + 1) = rises f k := by simp [rises, h]
theorem rises_len (f : Nat → Bool) (k : Nat) : (rises f k).length ≤ k := by
  induction k with
  | zero => simp [rises]
  | succ k ih => cases h : f k
                 · rw [rises_no h]; omega
                 · rw [rises_yes h]; simp; omega
theorem run_ix8 (f : Nat → Bool) (k : Nat) (hk : k < 8) (w : World) : (Instr.index 55 (agg8 f) (.int .i64 (k : Int))).run Try.prog w = .ok (.bool (f k)) w := by
  rcases lt8 hk with rfl | rfl | rfl | rfl | rfl | rfl | rfl | rfl <;> kernel_rfl
theorem info_parts {e : TypeId} {z : Value} {s by_ : Nat} (h : (Try.prog.info? e).map (fun i => (i.zero, i.size, i.bytes)) = some (some z, s, by_)) : ∃ i, Try.prog.info? e = some i ∧ i.zero = some z ∧ i.size = s ∧ i.bytes = by_ := by
  obtain ⟨i, hi, hzz⟩ := Option.map_eq_some_iff.1 h
  simp only [Prod.mk.injEq] at hzz
  exact ⟨i, hi, hzz⟩

theorem below_grown {base : Nat} {w W W5 : World} {e : TypeId} {s n : Nat} {v : Value} {xs : List Value} (hB : Below base w W) (own : W.ownsRow base e s v n xs) (hg : W.grownBy W5 v.ownBlock) (hs : base ≤ W.heap.size := by simp; omega) : Below base w W5 := by
  refine ⟨hg.os.trans hB.os, hg.tape.trans hB.tape, hg.output.trans hB.output, Nat.le_trans hB.size hg.size, fun k hk => ?_⟩
  have h1 : some k ≠ v.ownBlock := by
    obtain ⟨-, ⟨rfl, hz⟩ | ⟨g', cap, cur, rfl, hgb, _⟩⟩ := own
    · simp [Value.ownBlock]
    · simp only [Value.ownBlock, ne_eq, Option.some.injEq]; omega
  rw [hg.block k (by omega) h1]
  exact hB.block k hk

set_option maxRecDepth 100000 in
set_option maxHeartbeats 1000000 in
theorem rising_any (f : Nat → Bool) (w : World) :
    Calls Try.prog 33 #[agg8 f] w fun e w' => ∃ v, e = .returned v ∧ w'.ownsRow w.heap.size 3 1 v (rises f 8).length (ints (rises f 8)) ∧ Below w.heap.size w w' := by
  obtain ⟨i0, hi, hz0, hz1, hz2⟩ := info_parts info3
  go_enter Try.func33, Try.ntmps33
  go_wp2_with fail
  have hB := (Below.refl w.heap.size w).alloc (Nat.le_refl _) (box8 f)
  generalize w.alloc (box8 f) = V at *
  go_loopw [7, 3] (fun i v wr => ∃ k : Nat, k ≤ 8 ∧ i = .int .i64 k ∧ wr.ownsRow w.heap.size 3 1 v (rises f k).length (ints (rises f k)) ∧ Below w.heap.size w wr) (fun i _ _ => 8 - (intOf i).toNat)
  case atStart => exact ⟨0, Nat.zero_le _, rfl, World.ownsRow_nil _ _ _ _, hB⟩
  case round =>
    obtain ⟨k, hk, rfl, own, hB1⟩ := hrel
    by_cases hkn : k < 8
    · have j1 : (k : Int) < 8 := by omega
      have j0 : (0 : Int) ≤ (k : Int) := by omega
      have hix := run_ix8 f k hkn
      cases hfk : f k
      · rw [hfk] at hix
        have ho := own
        rw [← rises_no hfk] at ho
        have HO := hide ho
        clear ho own hfk
        go_wp2_with fail
        go_roundw
        case rel => exact ⟨k + 1, by omega, by go_num, unhide HO, hB1⟩
        case measure => simp [intOf]; omega
      · rw [hfk] at hix
        have hl := rises_len f k
        have er := rises_yes hfk
        have HR := hide er
        clear hfk er
        generalize rises f k = xs at *
        have own5 := own_keep (W' := wr.alloc (.cells #[.int .i64 (k : Int)] 3)) own (fun k cur hc => Below.heap_alloc _ _ _ (lt_of_heap hc))
        have hs := hB1.size
        have HB := hide (hB1.alloc hs (.cells #[.int .i64 (k : Int)] 3))
        have HO := hide own
        clear own hB1
        go_wp2_with (first
          | (at_builtin; refine wpList_append_own _ rfl _ _ 31 rfl w.heap.size 3 i0 (.int .i64 0) 1 8 Try.underlying31 hi hz0 hz1 hz2 rfl (by decide) _ _ _ rfl own5 ⟨wr.heap.size, 0, none⟩ 1 1 [.int .i64 (k : Int)] rfl rfl ?c1 ?c2 ?c3 ?c4 ?c5 ?_))
        case c1 => exact cell_one_new _ _ _
        case c2 => intro u hu; simp at hu; subst hu; rfl
        case c3 => unfold maxLen; omega
        case c4 => omega
        case c5 => simp; omega
        intro v' w5 own6 hgr _
        have HO6 := hide own6
        have HB6 := hide (below_grown (unhide HB) own5 hgr)
        clear own6 hgr own5
        go_wp2_with fail
        go_roundw
        case rel => exact ⟨k + 1, by omega, by go_num, by rw [unhide HR]; simpa [ints] using unhide HO6, unhide HB6⟩
        case measure => simp [intOf]; omega
    · obtain rfl : k = 8 := by omega
      go_wp2_with fail
      go_ret
      exact ⟨_, rfl, own, hB1⟩
end Go.Proofs.Ytkgcgfnleabkdaa
