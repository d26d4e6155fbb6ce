/-
  A file's bytes, read: the contract of read.
-/
import Derived.Test.YtaogokgklkdmpaaInner
namespace Go.Proofs.Ytaogokgklkdmpaa
open Go.RowKit Go.Maps

theorem info5 : (Try.prog.info? 5).map (fun i => (i.zero, i.size, i.bytes)) = some (some (.int .u8 0), 1, 1) := by kernel_rfl
theorem size5 : (Try.prog.info? 5).map (·.size) = some 1 := by kernel_rfl
theorem make_run (n : Nat) (hn : n ≤ 1000000) (w : World) : (Instr.makeSlice 28 (.int .i64 (n : Int)) (.int .i64 (n : Int))).run Try.prog w = .ok (.slice (some ⟨w.heap.size, 0, none⟩) n n) (w.alloc (.cells (lst (fun _ => 0) 0 n).toArray 5)) := by
  obtain ⟨i0, hi, hz0, hz1, hz2⟩ := info_parts info5
  have h := run_make w 28 5 i0 (.int .u8 0) Try.underlying28 hi hz0 .i64 .i64 (n : Int) (n : Int) (by omega) (by omega) (by rw [hz2]; omega) (by omega)
  rw [h, hz1]
  simp only [Int.toNat_natCast]
  have e : madeCells (Value.int .u8 0).cells (n * 1) = (lst (fun _ => 0) 0 n).toArray := by
    apply Array.ext
    · simp [madeCells, lst_length]
    · intro j h1 h2
      simp [madeCells, lst, Value.cells, Nat.mod_one]
  rw [e]
theorem slice74 (b r : Nat) (hr : r < 16) (w : World) : (Instr.sliceAt 74 (.pointer (some ⟨b, 0, none⟩)) (some (.int .i64 (r : Int))) none none).run Try.prog w = .ok (.slice (some ⟨b, r, none⟩) (16 - r) (16 - r)) w := by
  have h1 : Try.prog.underlying 74 = some (.array 16 5) := Try.underlying74
  obtain ⟨i0, hi, hz0, hz1, hz2⟩ := info_parts info5
  have e3 : ¬ (16 = r) := by omega
  have e4 : r ≤ 16 := by omega
  simp [Instr.sliceAt, Instr.sureAddr, run_underlying h1, Instr.sliceBounds, Instr.sliceBound, asIntOf, sizeOf, typeInfo, hi, hz1, e3, e4]
  rw [Addr.add_mid, Nat.zero_add]
theorem Below.lay {u w : World} (h : Below u.heap.size u w) (o : Obj) : Below u.heap.size u (w.alloc o) := h.alloc h.size o
theorem wrap_ok {d m : Nat} (h : d + m ≤ 1000000) : IntKind.i64.wrap ((d : Int) + (m : Int)) = ((d + m : Nat) : Int) := by
  rw [IntKind.wrap_i64]; omega
set_option maxHeartbeats 1000000 in
theorem cread_any {W : World} {c m : Nat} {x : F} (h : Fl W c m x) (a n : Nat) (A : Int) (ha : 0 < n → A = (a : Int) ∧ a + n ≤ x.size) (hn : n ≤ 1024) :
    Calls Try.prog 34 #[P0 c, I A, I (n : Int)] W fun e w' => e = .returned (.slice (some ⟨W.heap.size, 0, none⟩) n n) ∧ w'.heap[W.heap.size]? = some (.cells (lst x.byte a n).toArray 5) ∧ Below W.heap.size W w' := by
  have hmk := make_run n (by omega)
  have H := hide h
  have HA := hide ha
  clear h ha
  go_enter Try.func34, Try.ntmps34
  go_wp2_with fail
  go_loopw [8] (fun v wr => ∃ (d : Nat), d ≤ n ∧ v = I (d : Int) ∧ Hid (wr.heap[W.heap.size]? = some (.cells (lst (cutF x.byte (a + d)) a n).toArray 5)) ∧ Hid (Below W.heap.size W wr)) (fun v _ => n - (intOf v).toNat)
  case atStart =>
    refine ⟨0, by omega, rfl, hide ?_, hide ((Below.refl _ W).alloc (Nat.le_refl _) _)⟩
    rw [heap_alloc_new]
    rw [lst_congr (g := cutF x.byte (a + 0)) (b := a) fun j _ => by simp only [cutF]; rw [if_neg (by omega)]]
  case round =>
    obtain ⟨d, hd, rfl, hg, hb⟩ := hrel
    by_cases hdn : d < n
    · have g1 : (d : Int) < (n : Int) := by omega
      have g0 : (0 : Int) ≤ (d : Int) := by omega
      obtain ⟨hA1, hA2⟩ := unhide HA (by omega)
      have h2 := (unhide H).below (unhide hb)
      have hmax := h2.ok.most
      obtain ⟨q, r, hq, hr⟩ : ∃ q r : Nat, a + d = 16 * q + r ∧ r < 16 := ⟨(a + d) / 16, (a + d) % 16, by omega, by omega⟩
      have hlk := h2.hm.look ht55 (zero74 _) (k := (q : Int)) (wf_of (by omega))
      rw [bk_row h2.ok.hol] at hlk
      obtain ⟨_, c1, _⟩ := h2.cells
      clear h2
      obtain ⟨R, hR⟩ : ∃ R, R = (lst x.byte (16 * q) 16).toArray := ⟨_, rfl⟩
      have hRs : R.size = 16 := by rw [hR]; simp [lst_length]
      have hst := store74 hRs (by rw [hR]; exact lst_all _ _ _)
      rw [← hR] at hlk
      replace hR := hide hR
      have r0 : (0 : Int) ≤ (r : Int) := by omega
      have r1 : (r : Int) < 16 := by omega
      have a0 : (0 : Int) ≤ A := by omega
      have a1 : A ≤ 1024 := by omega
      have d1 : (d : Int) ≤ 1024 := by omega
      replace hA1 := hide hA1
      replace hq := hide hq
      go_wp2_with fail
      refine (split_any _ q r (by rw [unhide hA1, ← unhide hq]; omega) hr (by have := unhide hq; omega) _).mono ?_
      rintro e1 w1 ⟨rfl, rfl⟩
      go_wp2_with fail
      obtain ⟨w2, hw2⟩ : ∃ w2, w2 = w1.alloc (Obj.cells R 74) := ⟨_, rfl⟩
      rw [← hw2]
      have G2 : w2.heap[w1.heap.size]? = some (.cells R 74) := by rw [hw2]; exact heap_alloc_new _ _
      have hsz := (unhide hb).size
      have hlt := lt_of_heap (unhide hg)
      have G1 : w2.heap[W.heap.size]? = some (.cells (lst (cutF x.byte (a + d)) a n).toArray 5) := by rw [hw2, Below.heap_alloc _ _ _ hlt]; exact unhide hg
      have B2 : Below W.heap.size W w2 := by rw [hw2]; exact Below.lay (unhide hb) _
      clear hlk c1 hst hmk hg hb hsz
      generalize w1.heap.size = b2 at *
      obtain ⟨mm, hmm⟩ : ∃ mm, mm = min (16 - r) (n - d) := ⟨_, rfl⟩
      have hpos : 0 < mm := by omega
      have C2 : ∀ j v, (lst x.byte (a + d) mm)[j]? = some v → w2.cell? ((⟨b2, r, none⟩ : Addr).add j) = some v := by
        intro j v hv
        rw [lst_get] at hv
        split at hv
        · rw [Addr.add_mid, cell_of G2, unhide hR, ← hv]
          have := unhide hq
          simp only [List.getElem?_toArray]
          rw [lst_get' (by omega)]
          congr 3
          omega
        · cases hv
      replace hw2 := hide hw2
      replace hmm := hide hmm
      replace G1 := hide G1
      replace G2 := hide G2
      replace B2 := hide B2
      replace C2 := hide C2
      have dn : ((n - d : Nat) : Int) = (n : Int) - (d : Int) := by omega
      replace dn := hide dn
      have hsl := slice74 b2 r hr
      have hnd : ¬ n = d := by omega
      go_region_law (refine step_copy_splice (by rfl) (.tmp 33) (.tmp 35) 28 28 (by rfl) 5 Try.underlying28 size5 (some ⟨W.heap.size, d, none⟩) (some ⟨b2, r, none⟩) (n - d) (n - d) (16 - r) (16 - r) (by rfl) (by rfl) W.heap.size d (lst (cutF x.byte (a + d)) a n) 5 (unhide G1) (lst x.byte (a + d) mm) (by rw [lst_length]; exact unhide hmm) (fun _ => ⟨rfl, _, rfl, unhide C2⟩) (by rw [lst_length, lst_length]; have := unhide hmm; omega) (lst_one _ _ _) W.heap.size W (below_dn (unhide B2) _) (Nat.le_refl _) ?_; intro w4 hg4 hb4)
      rw [lst_length, wrap_ok (by have := unhide hmm; omega)]
      simp only [Act.put, List.getElem_toArray, List.getElem_cons_succ, List.getElem_cons_zero, List.setIfInBounds_toArray, List.set_cons_zero, List.set_cons_succ]
      have HB4 := hide hb4
      clear hb4
      go_wp2_with fail
      have e := unhide hmm
      refine ⟨⟨d + mm, by omega, rfl, hide ?_, HB4⟩, by simp [intOf]; omega⟩
      rw [unhide hg4, splice_lst (h := cutF x.byte (a + (d + mm))) (by omega)]
      · intro j hj
        simp only [cutF]
        rw [if_pos (by omega), Nat.add_assoc]
      · intro j hj ho
        simp only [cutF]
        by_cases h1 : j < d
        · rw [if_pos (by omega), if_pos (by omega)]
        · rw [if_neg (by omega), if_neg (by omega)]
    · obtain rfl : d = n := by omega
      have g1 : ¬ (d : Int) < (d : Int) := by omega
      go_wp2_with fail
      go_ret
      refine ⟨rfl, ?_, unhide hb⟩
      rw [unhide hg, lst_congr (g := x.byte) (b := a) fun j hj => by simp only [cutF]; rw [if_pos (by omega)]]
end Go.Proofs.Ytaogokgklkdmpaa
