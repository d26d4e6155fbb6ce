/-
  The document's own Grace: the contracts of some, Inside, Waiting and Blocks.
-/
import Derived.Test.YtkgcgfnleabkdaaRefA
namespace Go.Proofs.Ytkgcgfnleabkdaa
open Go.RowKit
attribute [local go_sem ↓] Go.wp_at_zero Go.wp_at_succ

set_option maxRecDepth 100000 in
set_option maxHeartbeats 1000000 in
theorem some_any (f : Nat → Bool) (g n : Nat) (hn : n ≤ 8) (w : World) (hg : w.heap[g]? = some (.cells (bl n f).toArray 4)) :
    Calls Try.prog 34 #[.slice (some ⟨g, 0, none⟩) n n] w fun e w' => ∃ v, e = .returned v ∧ w'.ownsRow w.heap.size 3 1 v (rises f n).length (ints (rises f n)) ∧ Below w.heap.size w w' := by
  obtain ⟨i0, hi, hz0, hz1, hz2⟩ := info_parts info3
  have hlt := lt_of_heap hg
  have HG := hide hg
  clear hg
  go_enter Try.func34, Try.ntmps34
  go_wp2_with fail
  go_loopw [4, 3] (fun i v wr => ∃ k : Nat, k ≤ n ∧ i = .int .i64 k ∧ wr.ownsRow w.heap.size 3 1 v (rises f k).length (ints (rises f k)) ∧ Below w.heap.size w wr) (fun i _ _ => n - (intOf i).toNat)
  case atStart => exact ⟨0, Nat.zero_le _, rfl, World.ownsRow_nil _ _ _ _, Below.refl _ _⟩
  case round =>
    obtain ⟨k, hk, rfl, own, hB1⟩ := hrel
    by_cases hkn : k < n
    · have j1 : (k : Int) < (n : Int) := by omega
      have j0 : (0 : Int) ≤ (k : Int) := by omega
      have j8 : (k : Int) < 8 := by omega
      have c1 : wr.cell? ⟨g, k, none⟩ = some (.bool (f k)) := by
        rw [cell_of ((hB1.block g hlt).trans (unhide HG)), List.getElem?_toArray]; exact bl_get n f k hkn
      cases hfk : f k
      · rw [hfk] at c1
        have ho := own
        rw [← rises_no hfk] at ho
        have HO := hide ho
        clear ho own hfk
        go_wp2_with fail
        go_roundw
        case rel => exact ⟨k + 1, by omega, by go_num, unhide HO, hB1⟩
        case measure => simp [intOf]; omega
      · rw [hfk] at c1
        have hl := rises_len f k
        have er := rises_yes hfk
        have HR := hide er
        clear hfk er
        generalize rises f k = xs at *
        have own5 := own_keep (W' := wr.alloc (.cells #[.int .i64 (k : Int)] 3)) own (fun k cur hc => Below.heap_alloc _ _ _ (lt_of_heap hc))
        have hs := hB1.size
        have HB := hide (hB1.alloc hs (.cells #[.int .i64 (k : Int)] 3))
        clear own hB1
        go_wp2_with (first
          | (at_builtin; refine wpList_append_own _ rfl _ _ 31 rfl w.heap.size 3 i0 (.int .i64 0) 1 8 Try.underlying31 hi hz0 hz1 hz2 rfl (by decide) _ _ _ rfl own5 ⟨wr.heap.size, 0, none⟩ 1 1 [.int .i64 (k : Int)] rfl rfl ?c1 ?c2 ?c3 ?c4 ?c5 ?_))
        case c1 => exact cell_one_new _ _ _
        case c2 => intro u hu; simp at hu; subst hu; rfl
        case c3 => unfold maxLen; omega
        case c4 => omega
        case c5 => simp; omega
        intro v' w5 own6 hgr _
        have HO6 := hide own6
        have HB6 := hide (below_grown (unhide HB) own5 hgr)
        clear own6 hgr own5
        go_wp2_with fail
        go_roundw
        case rel => exact ⟨k + 1, by omega, by go_num, by rw [unhide HR]; simpa [ints] using unhide HO6, unhide HB6⟩
        case measure => simp [intOf]; omega
    · obtain rfl : k = n := by omega
      go_wp2_with fail
      go_ret
      exact ⟨_, rfl, own, hB1⟩

theorem ins_up {ss : List Int} {n : Nat} (h : ss.length = n) : ∀ q, n ≤ q → ins ss q = false := by
  intro q hq
  have : ss[q]? = none := List.getElem?_eq_none (by omega)
  simp [ins, this]
theorem ins_at {ss : List Int} {k : Nat} {s : Int} (h : ss[k]? = some s) : ins ss k = decide (0 < s) := by simp [ins, h]

set_option maxRecDepth 100000 in
set_option maxHeartbeats 1000000 in
theorem rinside (base rb rc n : Nat) (ss : List Int) (ps : List Pr) (w : World) (hG : Rg base w rb rc n ss ps) :
    Calls Try.prog 25 #[.pointer (some ⟨rb, 0, none⟩)] w fun e w' => ∃ v, e = .returned v ∧ w'.ownsRow w.heap.size 3 1 v (rises (ins ss) 8).length (ints (rises (ins ss) 8)) ∧ Below w.heap.size w w' := by
  obtain ⟨i0, hi, hz0, hz1, hz2⟩ := info_parts info3
  have hn8 := hG.hi
  have HE := hide (rises_eight hG.hi (ins_up hG.len))
  have HG := hide hG
  obtain ⟨a, cap, h0, h1, hf, hg, ho⟩ := hG.cells
  clear hG ho h1
  go_enter Try.func25, Try.ntmps25
  go_wp2_with fail
  go_loopw [4, 3] (fun i v wr => ∃ k : Nat, k ≤ n ∧ i = .int .i64 k ∧ wr.ownsRow w.heap.size 3 1 v (rises (ins ss) k).length (ints (rises (ins ss) k)) ∧ Below w.heap.size w wr) (fun i _ _ => n - (intOf i).toNat)
  case atStart => exact ⟨0, Nat.zero_le _, rfl, World.ownsRow_nil _ _ _ _, Below.refl _ _⟩
  case round =>
    obtain ⟨k, hk, rfl, own, hB1⟩ := hrel
    clear h0 hf hg
    have hG1 := (unhide HG).below hB1
    obtain ⟨a2, cap2, h0, h1, hf, hg, ho⟩ := hG1.cells
    by_cases hkn : k < n
    · have j1 : (k : Int) < (n : Int) := by omega
      have j0 : (0 : Int) ≤ (k : Int) := by omega
      have j8 : (k : Int) < 8 := by omega
      obtain ⟨s, hs⟩ := hG1.get hkn
      have c1 := hG1.sec hs
      have his := ins_at hs
      clear hG1 ho hs h1
      by_cases hs0 : 0 < s
      · have hfk : ins ss k = true := by rw [his]; simp [hs0]
        have hl := rises_len (ins ss) k
        have HR := hide (rises_yes hfk)
        clear hfk his
        generalize rises (ins ss) k = xs at *
        have own5 := own_keep (W' := wr.alloc (.cells #[.int .i64 (k : Int)] 3)) own (fun k cur hc => Below.heap_alloc _ _ _ (lt_of_heap hc))
        have hs := hB1.size
        have HB := hide (hB1.alloc hs (.cells #[.int .i64 (k : Int)] 3))
        clear own hB1
        go_wp2_with (first
          | (at_builtin; refine wpList_append_own _ rfl _ _ 31 rfl w.heap.size 3 i0 (.int .i64 0) 1 8 Try.underlying31 hi hz0 hz1 hz2 rfl (by decide) _ _ _ rfl own5 ⟨wr.heap.size, 0, none⟩ 1 1 [.int .i64 (k : Int)] rfl rfl ?c1 ?c2 ?c3 ?c4 ?c5 ?_))
        case c1 => exact cell_one_new _ _ _
        case c2 => intro u hu; simp at hu; subst hu; rfl
        case c3 => unfold maxLen; omega
        case c4 => omega
        case c5 => simp; omega
        intro v' w5 own6 hgr _
        have HO6 := hide own6
        have HB6 := hide (below_grown (unhide HB) own5 hgr)
        clear own6 hgr own5
        go_wp2_with fail
        go_roundw
        case rel => exact ⟨k + 1, by omega, by go_num, by rw [unhide HR]; simpa [ints] using unhide HO6, unhide HB6⟩
        case measure => simp [intOf]; omega
      · have hfk : ins ss k = false := by rw [his]; simp [hs0]
        have ho := own
        rw [← rises_no hfk] at ho
        have HO := hide ho
        clear ho own hfk his
        go_wp2_with fail
        go_roundw
        case rel => exact ⟨k + 1, by omega, by go_num, unhide HO, hB1⟩
        case measure => simp [intOf]; omega
    · obtain rfl : k = n := by omega
      rw [unhide HE] at own
      have HO := hide own
      clear own hG1 ho h1
      go_wp2_with fail
      go_ret
      exact ⟨_, rfl, unhide HO, hB1⟩

abbrev wsOfP (ps : List Pr) : List Wt := ps.map (·.1)

set_option maxRecDepth 100000 in
set_option maxHeartbeats 1000000 in
theorem rwaiting (base rb rc n : Nat) (ss : List Int) (ps : List Pr) (w : World) (hG : Rg base w rb rc n ss ps) (hws : ps.length ≤ 16) :
    Calls Try.prog 24 #[.pointer (some ⟨rb, 0, none⟩)] w fun e w' => ∃ v, e = .returned v ∧ w'.ownsRow w.heap.size 2 1 v (wsOfP ps).length (ints (idsOf (wsOfP ps))) ∧ Below w.heap.size w w' := by
  obtain ⟨i0, hi, hz0, hz1, hz2⟩ := info_parts info2
  have HG := hide hG
  obtain ⟨a, cap, h0, h1, hf, hg, ho⟩ := hG.cells
  obtain ⟨m, hm⟩ : ∃ m, ps.length = m := ⟨_, rfl⟩
  rw [hm] at h1 hws
  have HM := hide hm
  clear hG ho h0 hm
  go_enter Try.func24, Try.ntmps24
  go_wp2_with fail
  go_loopw [4, 3] (fun i v wr => ∃ k : Nat, k ≤ m ∧ i = .int .i64 k ∧ wr.ownsRow w.heap.size 2 1 v k (ints (idsOf (wsOfP (ps.take k)))) ∧ Below w.heap.size w wr) (fun i _ _ => m - (intOf i).toNat)
  case atStart => exact ⟨0, Nat.zero_le _, rfl, World.ownsRow_nil _ _ _ _, Below.refl _ _⟩
  case round =>
    obtain ⟨k, hk, rfl, own, hB1⟩ := hrel
    clear h1 hf hg
    have hG1 := (unhide HG).below hB1
    obtain ⟨a2, cap2, h0, h1, hf, hg, ho⟩ := hG1.cells
    rw [unhide HM] at h1
    by_cases hkn : k < m
    · have j1 : (k : Int) < (m : Int) := by omega
      have j0 : (0 : Int) ≤ (k : Int) := by omega
      have j16 : (k : Int) < 16 := by omega
      obtain ⟨⟨x, g⟩, hx⟩ : ∃ y, ps[k]? = some y := ⟨_, List.getElem?_eq_getElem (by rw [unhide HM]; exact hkn)⟩
      obtain ⟨bb, rfl, c1, c2, _⟩ := rg_at ho hx
      have HR : Hid (idsOf (wsOfP (ps.take (k + 1))) = idsOf (wsOfP (ps.take k)) ++ [x.id]) := by
        rw [List.take_add_one, hx]; exact hide (by simp)
      clear hG1 ho hx h0
      generalize idsOf (wsOfP (ps.take k)) = xs at *
      have own5 := own_keep (W' := wr.alloc (.cells #[.int .i64 x.id] 2)) own (fun k cur hc => Below.heap_alloc _ _ _ (lt_of_heap hc))
      have hs := hB1.size
      have HB := hide (hB1.alloc hs (.cells #[.int .i64 x.id] 2))
      clear own hB1
      go_wp2_with (first
        | (at_builtin; refine wpList_append_own _ rfl _ _ 29 rfl w.heap.size 2 i0 (.int .i64 0) 1 8 Try.underlying29 hi hz0 hz1 hz2 rfl (by decide) _ _ _ rfl own5 ⟨wr.heap.size, 0, none⟩ 1 1 [.int .i64 x.id] rfl rfl ?c1 ?c2 ?c3 ?c4 ?c5 ?_))
      case c1 => exact cell_one_new _ _ _
      case c2 => intro u hu; simp at hu; subst hu; rfl
      case c3 => unfold maxLen; omega
      case c4 => omega
      case c5 => simp; omega
      intro v' w5 own6 hgr _
      have HO6 := hide own6
      have HB6 := hide (below_grown (unhide HB) own5 hgr)
      clear own6 hgr own5
      go_wp2_with fail
      go_roundw
      case rel => exact ⟨k + 1, by omega, by go_num, by rw [unhide HR]; simpa [ints] using unhide HO6, unhide HB6⟩
      case measure => simp [intOf]; omega
    · obtain rfl : k = m := by omega
      rw [List.take_of_length_le (Nat.le_of_eq (unhide HM))] at own
      have HO := hide own
      clear own hG1 ho h0
      go_wp2_with fail
      go_ret
      exact ⟨_, rfl, by rw [List.length_map, unhide HM]; exact unhide HO, hB1⟩

theorem pfind_succ {ps : List Pr} {id : Int} {i : Nat} {x : Wt} {g : Nat} (h : (wsOfP (ps.take i)).find? (fun x => x.id == id) = none) (hi : ps[i]? = some (x, g)) (he : ¬ x.id = id) : (wsOfP (ps.take (i + 1))).find? (fun x => x.id == id) = none := by
  rw [List.take_add_one, hi]
  simp only [wsOfP, List.map_append, Option.toList_some, List.map_cons, List.map_nil]
  rw [List.find?_append, h]
  simp [he]
set_option maxRecDepth 100000 in
set_option maxHeartbeats 1000000 in
theorem rblocks (base rb rc n : Nat) (id : Int) (ss : List Int) (ps : List Pr) (w : World) (hG : Rg base w rb rc n ss ps) (hws : ps.length ≤ 16) :
    Calls Try.prog 26 #[.pointer (some ⟨rb, 0, none⟩), .int .i64 id] w fun e w' => ∃ v, e = .returned v ∧ w'.ownsRow w.heap.size 3 1 v (blk (wsOfP ps) id).length (ints (blk (wsOfP ps) id)) ∧ Below w.heap.size w w' := by
  have HG := hide hG
  obtain ⟨a, cap, h0, h1, hf, hg, ho⟩ := hG.cells
  obtain ⟨m, hm⟩ : ∃ m, ps.length = m := ⟨_, rfl⟩
  rw [hm] at h1 hws
  have HM := hide hm
  have HA := hide ho
  clear hG ho h0 hm
  go_enter Try.func26, Try.ntmps26
  go_wp2_with fail
  go_loopw [5] (fun i wr => ∃ k : Nat, k ≤ m ∧ i = .int .i64 k ∧ (wsOfP (ps.take k)).find? (fun x => x.id == id) = none ∧ w = wr) (fun i _ => m - (intOf i).toNat)
  case atStart => exact ⟨0, Nat.zero_le _, rfl, by simp, rfl⟩
  case round =>
    obtain ⟨k, hk, rfl, hno, rfl⟩ := hrel
    by_cases hkn : k < m
    · have j1 : (k : Int) < (m : Int) := by omega
      have j0 : (0 : Int) ≤ (k : Int) := by omega
      have j16 : (k : Int) < 16 := by omega
      obtain ⟨⟨x, g⟩, hx⟩ : ∃ y, ps[k]? = some y := ⟨_, List.getElem?_eq_getElem (by rw [unhide HM]; exact hkn)⟩
      obtain ⟨bb, rfl, c1, c2, _⟩ := rg_at (unhide HA) hx
      by_cases he : x.id = id
      · have hbl : blk (wsOfP ps) id = rises x.on 8 := by
          refine blk_of (i := k) (x := x) ?_ (by simp [hx]) he
          rw [← List.map_take]; exact hno
        have hw := (unhide HG).wh k x g hx
        have hup := (unhide HG).up (x, g) (List.mem_of_getElem? hx)
        have hr8 := rises_eight (unhide HG).hi hup
        have HC := hide (some_any x.on g n (unhide HG).hi w hw.1)
        have HB := hide hbl
        have HR := hide hr8
        have eb : (x.id == id) = true := by simpa using he
        clear hbl hw hup hr8 hx hno
        go_wp2_with fail
        refine (unhide HC).mono ?_
        rintro e w2 ⟨v, rfl, own, B⟩
        have HO := hide own
        have HBB := hide B
        clear own B
        go_wp2_with fail
        go_ret
        refine ⟨_, rfl, ?_, unhide HBB⟩
        rw [unhide HB, ← unhide HR]; exact unhide HO
      · have HN := hide (pfind_succ hno hx he)
        have eb : (x.id == id) = false := by simpa using he
        clear hno hx
        go_wp2_with fail
        go_roundw
        case rel => exact ⟨k + 1, by omega, by go_num, unhide HN, trivial⟩
        case measure => simp [intOf]; omega
    · obtain rfl : k = m := by omega
      rw [List.take_of_length_le (Nat.le_of_eq (unhide HM))] at hno
      have hbl : blk (wsOfP ps) id = [] := by simp [blk, hno]
      have HB := hide hbl
      clear hbl hno
      go_wp2_with fail
      go_ret
      exact ⟨_, rfl, by rw [unhide HB]; exact World.ownsRow_nil _ _ _ _, Below.refl _ _⟩
end Go.Proofs.Ytkgcgfnleabkdaa
