/-
  The contract of Right.
-/
import Derived.Test.YtcopjhidijhlaaaCFly
namespace Go.Proofs.Ytcopjhidijhlaaa.Cl
open Go.RowKit Go.Shelf
attribute [local go_sem] Oper.semAt_some

/-- What stays while the numbers are gone over: the call, the answer's cell, the iterator's box, the row of places. -/
abbrev rks (x : Cc) (d : Value) (h : Nat) (a : Int) : List (Nat × Obj) := [(h, .cells (x.cs d) 27), (h + 1, .cells #[I a] 23), (h + 2, .cells #[Pt h 0] 62), (h + 3, .deferred (some [])), (h + 5, .cells (five h) 63)]
set_option maxRecDepth 100000 in
set_option maxHeartbeats 1000000 in
theorem right_in (x : Cc) (a : Option Addr) (k cap : Nat) (hk : k = x.data.length) (w : World) :
    CallsIn Fence.wide 5 Try.prog 21 #[.agg (x.cs (.slice a k cap))] w fun e w' => e = .returned (I x.right) ∧ Below w.heap.size w w' := by
  have hro : Fence.wide.round = none := rfl
  subst hk
  obtain ⟨d, hd⟩ : ∃ d : Value, d = .slice a x.data.length cap := ⟨_, rfl⟩
  refine callsIn_of_wp_marks Try.func21 rfl trivial ?_ hro
  simp only [Try.ntmps21, List.size_toArray, List.length_cons, List.length_nil, Nat.reduceAdd, Nat.reduceSub, Array.replicate_succ, Array.replicate_zero, List.push_toArray, List.append_toArray, List.nil_append, List.cons_append]
  by_cases hop : x.op < 1 ∨ 20 < x.op
  · have hr : x.right = 1 := by unfold Cc.right; rw [if_pos hop]
    rw [hr]
    obtain ⟨V, hV, hsz, g0, g1, hB⟩ := alloc2 w (.cells (x.cs (.slice a x.data.length cap)) 27) (.cells #[I 0] 23)
    have c1 : V.cell? ⟨w.heap.size + 1, 0, none⟩ = some (I 0) := by rw [cell_of g1]; rfl
    have c0 : V.cell? ⟨w.heap.size, 0, none⟩ = some (I x.op) := by rw [cell_of g0]; rfl
    have cf : V.frozen? ⟨w.heap.size + 1, 0, none⟩ = false := frozen_of g1 0
    have q1 := heap_set g1 0 (I 1)
    have q2 : (V.setCell ⟨w.heap.size + 1, 0, none⟩ (I 1)).cell? ⟨w.heap.size + 1, 0, none⟩ = some (I 1) := by rw [cell_of q1]; rfl
    have HB := hide (hB.setCell (p := ⟨w.heap.size + 1, 0, none⟩) (by simp) (I 1))
    clear hB g0 g1 q1 hd hr
    rcases hop with hop | hop
    · gi_wp2_with fail
      exact ⟨I 1, by simp [results, Try.results21, go_sem, q2], rfl, unhide HB⟩
    · have o1 : ¬ x.op < 1 := by omega
      gi_wp2_with fail
      exact ⟨I 1, by simp [results, Try.results21, go_sem, q2], rfl, unhide HB⟩
  · have o1 : ¬ x.op < 1 := by omega
    have o2 : ¬ 20 < x.op := by omega
    gi_wp2_with fail
    refine ⟨trivial, (callsIn_wide.2 (numbers_any w.heap.size (w.heap.size + 2) _ (by simp))).mono ?_⟩
    rintro e w' ⟨rfl, rfl⟩
    rw [← hd]
    replace hd := hide hd
    obtain ⟨V, hV, hsz, g0, g1, g2, hB⟩ := alloc3 w (.cells (x.cs d) 27) (.cells #[I 0] 23) (.cells #[Pt w.heap.size 0] 62)
    rw [hV]
    clear hV
    generalize hh : w.heap.size = h at *
    gi_wp2_with fail
    refine wpIn_range_ret hro (by omega) (gf := 44) (lb := #[Pt (h + 2) 0]) rfl trivial (enters_of Try.func44 (by kernel_rfl) rfl) ?_
    intro r hF hst hpe htm hps has hbo
    obtain ⟨L1, D1, hB2, hs2⟩ := setup V r
    rw [hsz] at L1 D1 hs2 ⊢
    generalize ((V.alloc (.deferred (some []))).alloc (.loop r)) = W1 at L1 D1 hB2 hs2 ⊢
    have J0 : Fg w W1 r h (h + 4) [(h, .cells (x.cs d) 27), (h + 1, .cells #[I 0] 23), (h + 2, .cells #[Pt h 0] 62), (h + 3, .deferred (some []))] :=
      ⟨L1, by
        intro p hp
        simp only [List.mem_cons, List.not_mem_nil, or_false] at hp
        rcases hp with rfl | rfl | rfl | rfl
        · exact (hB2.block _ (by omega)).trans g0
        · exact (hB2.block _ (by omega)).trans g1
        · exact (hB2.block _ (by omega)).trans g2
        · exact D1, hB.trans (hB2.mono (by omega))⟩
    clear L1 D1 hB2 g0 g1 g2 hB
    refine (nums_iter (h + 4) (h + 2) h W1 (fun i W => Fg w W r h (h + 4) (rks x d h 0) ∧ ∀ j, j < i → okN (x.num j) = true) (fun W => ∃ rd : Loop, rd.state = .done ∧ rd.pending = some .ret ∧ Fg w W rd h (h + 4) (rks x d h 1) ∧ x.okNs = false) (by rw [cell_of (J0.nth 2 rfl)]; rfl) ?_ (fun i W' J => by rw [show W1.heap.size = h + 5 by omega]; exact J.1.nth 4 rfl) ?_).mono ?_
    · obtain ⟨V2, hV2, hsV, gV, hBV⟩ := alloc1 W1 (.cells (five h) 63)
      rw [hV2]
      rw [show W1.heap.size = h + 5 by omega] at gV
      have F1 := J0.below hBV (by omega)
      refine ⟨⟨F1.l, ?_, below_drew F1.be⟩, by omega⟩
      intro p hp
      simp only [List.mem_cons, List.not_mem_nil, or_false] at hp
      rcases hp with rfl | rfl | rfl | rfl | rfl
      · exact F1.nth 0 rfl
      · exact F1.nth 1 rfl
      · exact F1.nth 2 rfl
      · exact F1.nth 3 rfl
      · exact gV
    · intro i W2 hi J
      refine yield_ret hF hst hpe htm hps has hbo rfl J.1.l ?_
      clear htm hps has hbo hst hpe J0
      intro rb
      gi_wp2
      refine ⟨J.1.l, ?_⟩
      have F4 := J.1.put rb (by omega) (by simp)
      have hJ := hide J.2
      clear J
      generalize W2.putObj (h + 4) (.loop rb) = W4 at *
      have k0 := F4.nth 0 rfl
      have c0 : W4.cell? ⟨h, 3 + i, none⟩ = some (I (x.num i)) := by rw [cell_of k0]; exact x.num_get d hi
      cases hx : okN (x.num i) with
      | true =>
        obtain ⟨n1, n2⟩ := okN_true hx
        have n3 : ¬ x.num i < -2147483648 := by omega
        have n4 : ¬ 2147483647 < x.num i := by omega
        have HF4 := hide F4
        have HX := hide hx
        clear F4 k0 hx
        gi_wp2_with fail
        refine ⟨(unhide HF4).l, (unhide HF4).put r (by omega) (by simp), fun j hj => ?_⟩
        rcases Nat.lt_or_ge j i with h1 | h1
        · exact unhide hJ j h1
        · obtain rfl : j = i := by omega
          exact unhide HX
      | false =>
        have k1 := F4.nth 1 rfl
        have c1 : W4.cell? ⟨h + 1, 0, none⟩ = some (I 0) := by rw [cell_of k1]; rfl
        have cf : W4.frozen? ⟨h + 1, 0, none⟩ = false := frozen_of k1 0
        have F5 : Fg w (W4.setCell ⟨h + 1, 0, none⟩ (I 1)) rb h (h + 4) (rks x d h 1) := F4.set (h + 1) 0 (I 1) (by omega) (by omega) (by
          intro p hp
          simp only [List.mem_cons, List.not_mem_nil, or_false] at hp
          rcases hp with rfl | rfl | rfl | rfl | rfl
          · left; simp
          · right; simpa using heap_set k1 0 (I 1)
          · left; simp
          · left; simp
          · left; simp)
        have HF5 := hide F5
        have HX := hide (Cc.okNs_no hx)
        clear F4 k0 k1 F5
        rcases okN_false hx with n1 | n1
        · clear hx
          gi_wp2_with fail
          exact ⟨(unhide HF5).l, ⟨_, rfl, rfl, (unhide HF5).put _ (by omega) (by simp), unhide HX⟩⟩
        · have n3 : ¬ x.num i < -2147483648 := by omega
          clear hx
          gi_wp2_with fail
          exact ⟨(unhide HF5).l, ⟨_, rfl, rfl, (unhide HF5).put _ (by omega) (by simp), unhide HX⟩⟩
    · rintro e W2 ⟨rfl, J | ⟨rd, hd1, hd2, F5, hno⟩⟩
      · refine ⟨⟨_, rfl⟩, .inl ⟨J.1.l, ?_⟩⟩
        have F6 := J.1.put { r with state := .exhausted } (by omega) (by simp)
        have hok := Cc.okNs_of (x := x) J.2
        generalize W2.putObj (h + 4) (.loop { r with state := .exhausted }) = W3 at *
        have k0 := F6.nth 0 rfl
        have k1 := F6.nth 1 rfl
        have c1 : W3.cell? ⟨h, 1, none⟩ = some (S x.path) := by rw [cell_of k0]; rfl
        have c2 : W3.cell? ⟨h, 2, none⟩ = some (S x.dst) := by rw [cell_of k0]; rfl
        have c8 : W3.cell? ⟨h, 8, none⟩ = some (.slice a x.data.length cap) := by rw [cell_of k0, unhide hd]; rfl
        have z1 : W3.cell? ⟨h + 1, 0, none⟩ = some (I 0) := by rw [cell_of k1]; rfl
        have zf : W3.frozen? ⟨h + 1, 0, none⟩ = false := frozen_of k1 0
        have hr : x.right = if 5000 < x.path.length ∨ 5000 < x.dst.length ∨ 2000 < x.data.length then 3 else 0 := by
          unfold Cc.right; rw [if_neg hop, if_neg (by rw [hok]; simp)]
        have HF6 := hide F6
        have HR := hide hr
        have HK1 := hide k1
        clear J J0 F6 k0 k1 htm hps has hbo hst hpe hr
        by_cases l1 : 5000 < x.path.length
        · have m1 : (5000 : Int) < (x.path.length : Int) := by omega
          gi_wp2_with fail
          refine ⟨by simp, .inl ⟨_, _, rfl, run_takeDeferred ((Below.heap_setCell _ _ _ _ (by simp)).trans ((unhide HF6).nth 3 rfl)), ?_⟩⟩
          have be7 := below_put ((unhide HF6).be.setCell (p := ⟨h + 1, 0, none⟩) (by simp) (I 3)) (L := h + 3) (by omega) (.deferred none)
          have q7 : ((W3.setCell ⟨h + 1, 0, none⟩ (I 3)).putObj (h + 3) (.deferred none)).heap[h + 1]? = some (.cells #[I 3] 23) := by
            rw [World.putObj_heap_other (by omega), heap_set (unhide HK1)]; simp
          generalize (W3.setCell ⟨h + 1, 0, none⟩ (I 3)).putObj (h + 3) (.deferred none) = W7 at *
          have z8 : W7.cell? ⟨h + 1, 0, none⟩ = some (I 3) := by rw [cell_of q7]; rfl
          refine ⟨I 3, by simp [results, Try.results21, go_sem, z8], ?_, (by first | exact be7 | (rw [hh]; exact be7))⟩
          rw [unhide HR, if_pos (.inl l1)]
        · have m1 : ¬ (5000 : Int) < (x.path.length : Int) := by omega
          by_cases l2 : 5000 < x.dst.length
          · have m2 : (5000 : Int) < (x.dst.length : Int) := by omega
            gi_wp2_with fail
            refine ⟨by simp, .inl ⟨_, _, rfl, run_takeDeferred ((Below.heap_setCell _ _ _ _ (by simp)).trans ((unhide HF6).nth 3 rfl)), ?_⟩⟩
            have be7 := below_put ((unhide HF6).be.setCell (p := ⟨h + 1, 0, none⟩) (by simp) (I 3)) (L := h + 3) (by omega) (.deferred none)
            have q7 : ((W3.setCell ⟨h + 1, 0, none⟩ (I 3)).putObj (h + 3) (.deferred none)).heap[h + 1]? = some (.cells #[I 3] 23) := by
              rw [World.putObj_heap_other (by omega), heap_set (unhide HK1)]; simp
            generalize (W3.setCell ⟨h + 1, 0, none⟩ (I 3)).putObj (h + 3) (.deferred none) = W7 at *
            have z8 : W7.cell? ⟨h + 1, 0, none⟩ = some (I 3) := by rw [cell_of q7]; rfl
            refine ⟨I 3, by simp [results, Try.results21, go_sem, z8], ?_, (by first | exact be7 | (rw [hh]; exact be7))⟩
            rw [unhide HR, if_pos (.inr (.inl l2))]
          · have m2 : ¬ (5000 : Int) < (x.dst.length : Int) := by omega
            by_cases l3 : 2000 < x.data.length
            · have m3 : (2000 : Int) < (x.data.length : Int) := by omega
              gi_wp2_with fail
              refine ⟨by simp, .inl ⟨_, _, rfl, run_takeDeferred ((Below.heap_setCell _ _ _ _ (by simp)).trans ((unhide HF6).nth 3 rfl)), ?_⟩⟩
              have be7 := below_put ((unhide HF6).be.setCell (p := ⟨h + 1, 0, none⟩) (by simp) (I 3)) (L := h + 3) (by omega) (.deferred none)
              have q7 : ((W3.setCell ⟨h + 1, 0, none⟩ (I 3)).putObj (h + 3) (.deferred none)).heap[h + 1]? = some (.cells #[I 3] 23) := by
                rw [World.putObj_heap_other (by omega), heap_set (unhide HK1)]; simp
              generalize (W3.setCell ⟨h + 1, 0, none⟩ (I 3)).putObj (h + 3) (.deferred none) = W7 at *
              have z8 : W7.cell? ⟨h + 1, 0, none⟩ = some (I 3) := by rw [cell_of q7]; rfl
              refine ⟨I 3, by simp [results, Try.results21, go_sem, z8], ?_, (by first | exact be7 | (rw [hh]; exact be7))⟩
              rw [unhide HR, if_pos (.inr (.inr l3))]
            · have m3 : ¬ (2000 : Int) < (x.data.length : Int) := by omega
              gi_wp2_with fail
              refine ⟨by simp, .inl ⟨_, _, rfl, run_takeDeferred ((Below.heap_setCell _ _ _ _ (by simp)).trans ((unhide HF6).nth 3 rfl)), ?_⟩⟩
              have be7 := below_put ((unhide HF6).be.setCell (p := ⟨h + 1, 0, none⟩) (by simp) (I 0)) (L := h + 3) (by omega) (.deferred none)
              have q7 : ((W3.setCell ⟨h + 1, 0, none⟩ (I 0)).putObj (h + 3) (.deferred none)).heap[h + 1]? = some (.cells #[I 0] 23) := by
                rw [World.putObj_heap_other (by omega), heap_set (unhide HK1)]; simp
              generalize (W3.setCell ⟨h + 1, 0, none⟩ (I 0)).putObj (h + 3) (.deferred none) = W7 at *
              have z8 : W7.cell? ⟨h + 1, 0, none⟩ = some (I 0) := by rw [cell_of q7]; rfl
              refine ⟨I 0, by simp [results, Try.results21, go_sem, z8], ?_, (by first | exact be7 | (rw [hh]; exact be7))⟩
              rw [unhide HR, if_neg (by omega)]
      · refine ⟨⟨_, rfl⟩, .inr ⟨rd, hd1, hd2, F5.l, ?_⟩⟩
        have F6 := F5.put { rd with state := .exhausted } (by omega) (by simp)
        generalize W2.putObj (h + 4) (.loop { rd with state := .exhausted }) = W3 at *
        have HF6 := hide F6
        have HN := hide hno
        clear J0 F6 htm hps has hbo hst hpe F5 hno
        gi_wp2_with fail
        refine ⟨by simp, .inl ⟨_, _, rfl, run_takeDeferred ((unhide HF6).nth 3 rfl), ?_⟩⟩
        have be7 := below_put (unhide HF6).be (L := h + 3) (by omega) (.deferred none)
        have q7 : (W3.putObj (h + 3) (.deferred none)).heap[h + 1]? = _ := (World.putObj_heap_other (by omega)).trans ((unhide HF6).nth 1 rfl)
        generalize W3.putObj (h + 3) (.deferred none) = W7 at *
        have z8 : W7.cell? ⟨h + 1, 0, none⟩ = some (I 1) := by rw [cell_of q7]; rfl
        refine ⟨I 1, by simp [results, Try.results21, go_sem, z8], ?_, (by first | exact be7 | (rw [hh]; exact be7))⟩
        unfold Cc.right
        rw [if_neg hop, if_pos (unhide HN)]
/-- Right. -/
theorem right_any (x : Cc) (a : Option Addr) (k cap : Nat) (hk : k = x.data.length) (w : World) :
    Calls Try.prog 21 #[.agg (x.cs (.slice a k cap))] w fun e w' => e = .returned (I x.right) ∧ Below w.heap.size w w' := callsIn_wide.1 (right_in x a k cap hk w)
end Go.Proofs.Ytcopjhidijhlaaa.Cl
