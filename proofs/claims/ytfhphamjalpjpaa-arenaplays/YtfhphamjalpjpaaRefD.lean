/-
  The contracts of the document's New and Live.
-/
import Derived.Test.YtfhphamjalpjpaaRefC
namespace Go.Proofs.Ytfhphamjalpjpaa
open Go.RowKit
attribute [local go_sem ↓] Go.wp_at_zero Go.wp_at_succ

theorem gens_rep (n : Nat) : (gens (List.replicate n (0, 0))).toArray = Array.replicate n (Value.int .i64 0) := by simp [gens]
theorem numbs_rep (n : Nat) : (numbs (List.replicate n (0, 0))).toArray = Array.replicate n (Value.int .i64 0) := by simp [numbs]

set_option maxRecDepth 100000 in
set_option maxHeartbeats 1000000 in
theorem rnew (n : Nat) (h1 : 1 ≤ n) (h2 : n ≤ 64) (w : World) :
    Calls Try.prog 18 #[.int .i64 (n : Int)] w fun e w' => ∃ rb gb vb tv, e = .returned (.pointer (some ⟨rb, 0, none⟩)) ∧ RA w.heap.size w' rb gb vb n (List.replicate n (0, 0)) (List.range n) tv 0 ∧ Below w.heap.size w w' := by
  have hmk := fun w => run_make_row' (P := Try.prog) 52 2 (.int .i64 0) 8 Try.underlying52 info2 rfl .i64 .i64 n (by omega) (by omega) w
  rw [made_zero n] at hmk
  have q3 : (1 : Int) ≤ (n : Int) := by omega
  have q4 : (n : Int) ≤ 64 := by omega
  go_enter Try.func18, Try.ntmps18
  go_wp2_with fail
  go_region
  · obtain ⟨V, hV, hsz, g0, g1, g2, hB⟩ := three w (.cells (Array.replicate n (Value.int .i64 0)) 2) (.cells (Array.replicate n (Value.int .i64 0)) 2) (.cells #[.slice (some ⟨w.heap.size, 0, none⟩) n n, .slice (some ⟨w.heap.size + 1, 0, none⟩) n n, .slice none 0 0, .int .i64 0] 55)
    rw [hV]
    clear hV hmk
    have R0 : RA w.heap.size V (w.heap.size + 2) (w.heap.size) (w.heap.size + 1) n (List.replicate n (0, 0)) (List.range 0) (.slice none 0 0) 0 :=
      ⟨g2, by rw [gens_rep]; exact g0, by rw [numbs_rep]; exact g1, Rw.nil _ _ _ _, by simp, by omega, ⟨by omega, by omega, by omega⟩, h2, by simp⟩
    generalize hh : w.heap.size = h at *
    have HH := hide hh
    have hs0 : h ≤ V.heap.size := by omega
    have HR0 := hide R0
    clear g0 g1 g2 hh hsz R0
    go_wp2_with fail
    go_loopw [4] (fun i wr => ∃ (k : Nat) (tv : Value), k ≤ n ∧ i = .int .i64 k ∧ RA h wr (h + 2) (h) (h + 1) n (List.replicate n (0, 0)) (List.range k) tv 0 ∧ (∃ x y z, tv = .slice x y z) ∧ Below h w wr ∧ h ≤ wr.heap.size) (fun i _ => n - (intOf i).toNat)
    case atStart => exact ⟨0, _, Nat.zero_le _, rfl, unhide HR0, ⟨_, _, _, rfl⟩, hB, hs0⟩
    case round =>
      obtain ⟨k, tv, hk, rfl, R, ⟨ta, tl, tc, rfl⟩, hB1, hs1⟩ := hrel
      clear HR0 hB hs0
      by_cases hkn : k < n
      · have j1 : (k : Int) < (n : Int) := by omega
        obtain ⟨c0, c1, c2, c3, cf⟩ := R.cells
        have hBa := (Below.refl _ wr).alloc (Nat.le_refl _) (.cells #[.int .i64 (k : Int)] 3)
        obtain ⟨tv', W5, r5, e5, f5, ⟨ya, yb, yc, rfl⟩, hA5, hF5⟩ := (R.below hBa).push (by simpa using hkn) (a := wr.heap.size) (k := k) (putAll (w := wr) (.cells #[.int .i64 (k : Int)] 3) wr.heap.size rfl) (by simp; omega)
        have hB5 := (hB1.trans (hBa.mono hs1)).trans hF5.be
        rw [← List.range_succ] at hA5
        have H5 := hide (And.intro hA5 hB5)
        have hs5 : h ≤ (W5.setCell ⟨h + 2, 2, none⟩ (.slice ya yb yc)).heap.size := by have := hB5.size; rw [unhide HH] at this; exact this
        have HS5 := hide hs5
        clear hA5 hF5 hB5 R hBa hB1 hs5 c0 c1 c3
        go_wp2_with (first
          | (at_builtin; refine wpList_append_eq rfl _ _ 53 rfl 53 rfl _ _ rfl rfl _ _ r5 ?_))
        go_roundw
        case rel => exact ⟨k + 1, _, by omega, by go_num, (unhide H5).1, ⟨_, _, _, rfl⟩, (unhide H5).2, unhide HS5⟩
        case measure => simp [intOf]; omega
      · obtain rfl : k = n := by omega
        have HR := hide R
        clear R
        go_wp2_with fail
        go_ret
        rw [unhide HH]
        exact ⟨_, _, _, _, rfl, unhide HR, hB1⟩
  · obtain ⟨V, hV, hsz, g0, g1, g2, hB⟩ := three w (.cells (Array.replicate n (Value.int .i64 0)) 2) (.cells (Array.replicate n (Value.int .i64 0)) 2) (.cells #[.slice (some ⟨w.heap.size + 1, 0, none⟩) n n, .slice (some ⟨w.heap.size, 0, none⟩) n n, .slice none 0 0, .int .i64 0] 55)
    rw [hV]
    clear hV hmk
    have R0 : RA w.heap.size V (w.heap.size + 2) (w.heap.size + 1) (w.heap.size) n (List.replicate n (0, 0)) (List.range 0) (.slice none 0 0) 0 :=
      ⟨g2, by rw [gens_rep]; exact g1, by rw [numbs_rep]; exact g0, Rw.nil _ _ _ _, by simp, by omega, ⟨by omega, by omega, by omega⟩, h2, by simp⟩
    generalize hh : w.heap.size = h at *
    have HH := hide hh
    have hs0 : h ≤ V.heap.size := by omega
    have HR0 := hide R0
    clear g0 g1 g2 hh hsz R0
    go_wp2_with fail
    go_loopw [4] (fun i wr => ∃ (k : Nat) (tv : Value), k ≤ n ∧ i = .int .i64 k ∧ RA h wr (h + 2) (h + 1) (h) n (List.replicate n (0, 0)) (List.range k) tv 0 ∧ (∃ x y z, tv = .slice x y z) ∧ Below h w wr ∧ h ≤ wr.heap.size) (fun i _ => n - (intOf i).toNat)
    case atStart => exact ⟨0, _, Nat.zero_le _, rfl, unhide HR0, ⟨_, _, _, rfl⟩, hB, hs0⟩
    case round =>
      obtain ⟨k, tv, hk, rfl, R, ⟨ta, tl, tc, rfl⟩, hB1, hs1⟩ := hrel
      clear HR0 hB hs0
      by_cases hkn : k < n
      · have j1 : (k : Int) < (n : Int) := by omega
        obtain ⟨c0, c1, c2, c3, cf⟩ := R.cells
        have hBa := (Below.refl _ wr).alloc (Nat.le_refl _) (.cells #[.int .i64 (k : Int)] 3)
        obtain ⟨tv', W5, r5, e5, f5, ⟨ya, yb, yc, rfl⟩, hA5, hF5⟩ := (R.below hBa).push (by simpa using hkn) (a := wr.heap.size) (k := k) (putAll (w := wr) (.cells #[.int .i64 (k : Int)] 3) wr.heap.size rfl) (by simp; omega)
        have hB5 := (hB1.trans (hBa.mono hs1)).trans hF5.be
        rw [← List.range_succ] at hA5
        have H5 := hide (And.intro hA5 hB5)
        have hs5 : h ≤ (W5.setCell ⟨h + 2, 2, none⟩ (.slice ya yb yc)).heap.size := by have := hB5.size; rw [unhide HH] at this; exact this
        have HS5 := hide hs5
        clear hA5 hF5 hB5 R hBa hB1 hs5 c0 c1 c3
        go_wp2_with (first
          | (at_builtin; refine wpList_append_eq rfl _ _ 53 rfl 53 rfl _ _ rfl rfl _ _ r5 ?_))
        go_roundw
        case rel => exact ⟨k + 1, _, by omega, by go_num, (unhide H5).1, ⟨_, _, _, rfl⟩, (unhide H5).2, unhide HS5⟩
        case measure => simp [intOf]; omega
      · obtain rfl : k = n := by omega
        have HR := hide R
        clear R
        go_wp2_with fail
        go_ret
        rw [unhide HH]
        exact ⟨_, _, _, _, rfl, unhide HR, hB1⟩

theorem info44 : (Try.prog.info? 44).map (fun i => (i.zero, i.size, i.bytes)) = some (some (.agg #[.int .i64 0, .int .i64 0]), 2, 16) := by kernel_rfl

set_option maxRecDepth 100000 in
set_option maxHeartbeats 1000000 in
theorem rlive (B rb gb vb n : Nat) (gs : List Slot) (q : List Nat) (tv : Value) (st : Int) (w : World) (h : RA B w rb gb vb n gs q tv st) (hnn : ∀ (i : Nat) (g v : Int), gs[i]? = some (g, v) → 0 ≤ g) :
    Calls Try.prog 24 #[.pointer (some ⟨rb, 0, none⟩)] w fun e w' => ∃ v, e = .returned v ∧ w'.ownsRow w.heap.size 44 2 v (lives gs n).length (rowsOf Slot.row (lives gs n)) ∧ Below w.heap.size w w' := by
  obtain ⟨i0, hi, hz0, hz1, hz2⟩ := info_parts info44
  have n64 := h.n64
  have HR := hide h
  have HN := hide hnn
  clear h hnn
  go_enter Try.func24, Try.ntmps24
  go_wp2_with fail
  go_loopw [3, 4] (fun v i wr => ∃ k : Nat, k ≤ n ∧ i = .int .i64 k ∧ wr.ownsRow w.heap.size 44 2 v (lives gs k).length (rowsOf Slot.row (lives gs k)) ∧ Below w.heap.size w wr) (fun _ i _ => n - (intOf i).toNat)
  case atStart => exact ⟨0, Nat.zero_le _, rfl, World.ownsRow_nil _ _ _ _, Below.refl _ _⟩
  case round =>
    obtain ⟨k, hk, rfl, own, hB⟩ := hrel
    have R := (unhide HR).below hB
    have hs := hB.size
    obtain ⟨c0, c1, c2, c3, cf⟩ := R.cells
    by_cases hkn : k < n
    · have j1 : (k : Int) < (n : Int) := by omega
      have j0 : (0 : Int) ≤ (k : Int) := by omega
      obtain ⟨⟨g, v⟩, hg⟩ : ∃ y, gs[k]? = some y := ⟨_, List.getElem?_eq_getElem (by rw [R.len]; exact hkn)⟩
      obtain ⟨s0, -, -, -, -⟩ := R.slot hg
      have g0 := unhide HN k g v hg
      have hll := lives_len gs k
      by_cases ho : g % 2 = 1
      · have t : g.tmod 2 = 1 := by rw [Int.tmod_eq_emod_of_nonneg g0]; exact ho
        have own2 := own_keep (W' := wr.alloc (.cells #[.int .i64 (k : Int), .int .i64 g] 44)) own (fun j cur hc => Below.heap_alloc _ _ _ (lt_of_heap hc))
        have hB2 := hB.alloc hs (.cells #[.int .i64 (k : Int), .int .i64 g] 44)
        have el := lives_yes hg ho
        have HO := hide own2
        have HEL := hide el
        generalize hxs : lives gs k = xs at *
        have HXS := hide hxs
        have hs2 : w.heap.size ≤ (wr.alloc (.cells #[.int .i64 (k : Int), .int .i64 g] 44)).heap.size := by simp; omega
        clear own ho hg R el hB hxs c1 c2 c3 cf
        go_wp2_with (first
          | (at_builtin; refine wpList_append_own_at _ rfl _ _ 56 rfl w.heap.size 44 i0 (.agg #[.int .i64 0, .int .i64 0]) 2 16 Try.underlying56 hi hz0 hz1 hz2 rfl (by decide) _ _ _ rfl own2 ⟨wr.heap.size, 0, none⟩ 1 1 [.int .i64 (k : Int), .int .i64 g] rfl rfl ?c1 ?c2 ?c3 ?c4 ?c5 ?_))
        case c1 =>
          intro j u hj
          match j, hj with
          | 0, hj => simp at hj; subst hj; simp [Addr.add]
          | 1, hj => simp at hj; subst hj; simp [Addr.add]
        case c2 => intro u hu; simp at hu; rcases hu with rfl | rfl <;> rfl
        case c3 => unfold maxLen; omega
        case c4 => omega
        case c5 => exact hs2
        intro v' w5 own5 hgr _ _
        have hB5 := below_grownR hB2 (Rw.of_own (unhide HO)) hgr hs2
        have own6 : w5.ownsRow w.heap.size 44 2 v' (lives gs (k + 1)).length (rowsOf Slot.row (lives gs (k + 1))) := by
          rw [unhide HEL, List.length_append, rows_app, rows_one]
          exact own5
        have HO6 := hide own6
        clear own5 own6 hgr own2
        go_wp2_with fail
        go_roundw
        case rel => exact ⟨k + 1, by omega, by go_num, unhide HO6, hB5⟩
        case measure => simp [intOf]; omega
      · have t : g.tmod 2 = 0 := by rw [Int.tmod_eq_emod_of_nonneg g0]; omega
        have own2 := own
        rw [← lives_no hg ho] at own2
        have HO := hide own2
        clear own own2 ho hg R c1 c2 c3 cf
        go_wp2_with fail
        go_roundw
        case rel => exact ⟨k + 1, by omega, by go_num, unhide HO, hB⟩
        case measure => simp [intOf]; omega
    · obtain rfl : k = n := by omega
      have HO := hide own
      clear own R c1 c2 c3 cf
      go_wp2_with fail
      go_ret
      exact ⟨_, rfl, unhide HO, hB⟩
end Go.Proofs.Ytfhphamjalpjpaa
