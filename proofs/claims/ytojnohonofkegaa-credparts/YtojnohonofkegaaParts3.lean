/-
  CredParts: one of the others asks.
-/
import Derived.Test.YtojnohonofkegaaPartsA
namespace Go.Proofs.Ytojnohonofkegaa
open Go.RowKit

set_option maxRecDepth 100000 in
set_option maxHeartbeats 4000000 in
theorem parts3tt (cu cg n k m u g l z a b : Int) (w : World) (hA : may cu cg m u g a = true) (hB : may cu cg m u g b = true) (h0 : ¬ cu = 0) (h1 : ¬ cu = u) (h2 : ¬ cg = g) : Calls Try.prog 5 #[Cr cu cg, St n k m u g l z, I a, I b] w fun e w' => e = .returned (.bool true) ∧ Below w.heap.size w w' := by
  have R1 : may cu cg m u g (bits .or .i64 (bits .and .i64 a 7) (bits .and .i64 b 7)) = true := by rw [mayOr, hA, hB]; rfl
  have R2 := (may7 cu cg m u g a).trans hA
  have R3 := (may7 cu cg m u g b).trans hB
  have R4 := hA
  have R5 : may cu cg (bits .and .i64 m 7) u g a = true := by
    have h := (may_kp cu cg m u g a).trans hA
    unfold kp at h
    rw [if_neg h0, if_neg h1, if_neg h2] at h
    exact h
  clear hA hB
  have h0' : (cu == 0) = false := by simpa using h0
  have h1' : (cu == u) = false := by simpa using h1
  have h2' : (cg == g) = false := by simpa using h2
  clear h0 h1 h2
  go_enter Try.func5, Try.ntmps5
  go_wp2_with fail
  refine (may_any cu cg n k m u g l z _ _).mono ?_
  rintro e v1 ⟨rfl, B1⟩
  rw [R1]
  have L := (lay2 _ _ _).step B1
  clear B1 R1
  obtain ⟨b0, e0⟩ : ∃ b, b = w.heap.size := ⟨_, rfl⟩
  obtain ⟨b1, e1⟩ : ∃ b, b = w.heap.size + 1 := ⟨_, rfl⟩
  have K : Kd b0 b1 cu cg n k m u g l z w v1.drew := Kd.drew ⟨L, e0, e1⟩
  rw [← e1, ← e0]
  clear L e0 e1
  have C := K.two
  go_wp2_with fail
  go_region_held3 (fun W => Two b0 b1 cu cg n k m u g l z W) (assumption)
    (first
      | (go_at_call 8; refine (may_any cu cg n k m u g l z _ _).mono ?_; rintro e v2 ⟨rfl, B2⟩; (first | rw [R2] | rw [R3] | rw [R4]); replace K := K.step B2; clear B2; have C2 := K.two)
      | fail)
  clear R2 R3
  obtain ⟨c0, c1, d0, d1, d2, d3, d4, d5, d6⟩ := K.two
  have K3 : Kd b0 b1 cu cg n k m u g l z w (v2.alloc (StO n k m u g l z)) := K.step ((Below.refl _ _).alloc (Nat.le_refl _) _)
  obtain ⟨x0, x1, y0, y1, y2, y3, y4, y5, y6⟩ := K3.two
  go_wp2_with fail
  have E : Ke b0 b1 v2.heap.size cu cg n k m u g l z (bits .and .i64 m 7) w v2 (v2.alloc (StO n k (bits .and .i64 m 7) u g l z)) := Ke.made K _
  clear K K3 c0 c1 d0 d1 d2 d3 d4 d5 d6 x0 x1 y0 y1 y2 y3 y4 y5 y6
  replace E := E.drew
  generalize v2.alloc (StO n k (bits .and .i64 m 7) u g l z) = V at *
  generalize v2.heap.size = b2 at *
  have F := E.three
  go_region_held3 (fun W => Three b0 b1 b2 cu cg n k m u g l z n k (bits .and .i64 m 7) u g l z W) (assumption)
    (first
      | (go_at_call 8; refine (may_any cu cg n k _ u g l z a _).mono ?_; rintro e v3 ⟨rfl, B3⟩; (first | rw [R5] | rw [R4]); replace E := E.step B3; clear B3; have F3 := E.three)
      | (go_at_call 11; refine (known_any _).mono ?_; rintro e v4 ⟨rfl, B4⟩; replace E := E.step B4; clear B4; have F4 := E.three))
  go_wp2_with fail
  go_ret
  exact ⟨rfl, E.1.1.below⟩
set_option maxRecDepth 100000 in
set_option maxHeartbeats 4000000 in
theorem parts3tf (cu cg n k m u g l z a b : Int) (w : World) (hA : may cu cg m u g a = true) (hB : may cu cg m u g b = false) (h0 : ¬ cu = 0) (h1 : ¬ cu = u) (h2 : ¬ cg = g) : Calls Try.prog 5 #[Cr cu cg, St n k m u g l z, I a, I b] w fun e w' => e = .returned (.bool true) ∧ Below w.heap.size w w' := by
  have R1 : may cu cg m u g (bits .or .i64 (bits .and .i64 a 7) (bits .and .i64 b 7)) = false := by rw [mayOr, hA, hB]; rfl
  have R2 := (may7 cu cg m u g a).trans hA
  have R3 := (may7 cu cg m u g b).trans hB
  have R4 := hA
  have R5 : may cu cg (bits .and .i64 m 7) u g a = true := by
    have h := (may_kp cu cg m u g a).trans hA
    unfold kp at h
    rw [if_neg h0, if_neg h1, if_neg h2] at h
    exact h
  clear hA hB
  have h0' : (cu == 0) = false := by simpa using h0
  have h1' : (cu == u) = false := by simpa using h1
  have h2' : (cg == g) = false := by simpa using h2
  clear h0 h1 h2
  go_enter Try.func5, Try.ntmps5
  go_wp2_with fail
  refine (may_any cu cg n k m u g l z _ _).mono ?_
  rintro e v1 ⟨rfl, B1⟩
  rw [R1]
  have L := (lay2 _ _ _).step B1
  clear B1 R1
  obtain ⟨b0, e0⟩ : ∃ b, b = w.heap.size := ⟨_, rfl⟩
  obtain ⟨b1, e1⟩ : ∃ b, b = w.heap.size + 1 := ⟨_, rfl⟩
  have K : Kd b0 b1 cu cg n k m u g l z w v1.drew := Kd.drew ⟨L, e0, e1⟩
  rw [← e1, ← e0]
  clear L e0 e1
  have C := K.two
  go_wp2_with fail
  go_region_held3 (fun W => Two b0 b1 cu cg n k m u g l z W) (assumption)
    (first
      | (go_at_call 8; refine (may_any cu cg n k m u g l z _ _).mono ?_; rintro e v2 ⟨rfl, B2⟩; (first | rw [R2] | rw [R3] | rw [R4]); replace K := K.step B2; clear B2; have C2 := K.two)
      | fail)
  clear R2 R3
  obtain ⟨c0, c1, d0, d1, d2, d3, d4, d5, d6⟩ := K.two
  have K3 : Kd b0 b1 cu cg n k m u g l z w (v2.alloc (StO n k m u g l z)) := K.step ((Below.refl _ _).alloc (Nat.le_refl _) _)
  obtain ⟨x0, x1, y0, y1, y2, y3, y4, y5, y6⟩ := K3.two
  go_wp2_with fail
  have E : Ke b0 b1 v2.heap.size cu cg n k m u g l z (bits .and .i64 m 7) w v2 (v2.alloc (StO n k (bits .and .i64 m 7) u g l z)) := Ke.made K _
  clear K K3 c0 c1 d0 d1 d2 d3 d4 d5 d6 x0 x1 y0 y1 y2 y3 y4 y5 y6
  replace E := E.drew
  generalize v2.alloc (StO n k (bits .and .i64 m 7) u g l z) = V at *
  generalize v2.heap.size = b2 at *
  have F := E.three
  go_region_held3 (fun W => Three b0 b1 b2 cu cg n k m u g l z n k (bits .and .i64 m 7) u g l z W) (assumption)
    (first
      | (go_at_call 8; refine (may_any cu cg n k _ u g l z a _).mono ?_; rintro e v3 ⟨rfl, B3⟩; (first | rw [R5] | rw [R4]); replace E := E.step B3; clear B3; have F3 := E.three)
      | (go_at_call 11; refine (known_any _).mono ?_; rintro e v4 ⟨rfl, B4⟩; replace E := E.step B4; clear B4; have F4 := E.three))
  go_wp2_with fail
  go_ret
  exact ⟨rfl, E.1.1.below⟩
set_option maxRecDepth 100000 in
set_option maxHeartbeats 4000000 in
theorem parts3f (cu cg n k m u g l z a b : Int) (w : World) (hA : may cu cg m u g a = false) (h0 : ¬ cu = 0) (h1 : ¬ cu = u) (h2 : ¬ cg = g) : Calls Try.prog 5 #[Cr cu cg, St n k m u g l z, I a, I b] w fun e w' => e = .returned (.bool true) ∧ Below w.heap.size w w' := by
  have R1 : may cu cg m u g (bits .or .i64 (bits .and .i64 a 7) (bits .and .i64 b 7)) = false := by rw [mayOr, hA]; rfl
  have R2 := (may7 cu cg m u g a).trans hA
  have R4 := hA
  have R5 : may cu cg (bits .and .i64 m 7) u g a = false := by
    have h := (may_kp cu cg m u g a).trans hA
    unfold kp at h
    rw [if_neg h0, if_neg h1, if_neg h2] at h
    exact h
  clear hA
  have h0' : (cu == 0) = false := by simpa using h0
  have h1' : (cu == u) = false := by simpa using h1
  have h2' : (cg == g) = false := by simpa using h2
  clear h0 h1 h2
  go_enter Try.func5, Try.ntmps5
  go_wp2_with fail
  refine (may_any cu cg n k m u g l z _ _).mono ?_
  rintro e v1 ⟨rfl, B1⟩
  rw [R1]
  have L := (lay2 _ _ _).step B1
  clear B1 R1
  obtain ⟨b0, e0⟩ : ∃ b, b = w.heap.size := ⟨_, rfl⟩
  obtain ⟨b1, e1⟩ : ∃ b, b = w.heap.size + 1 := ⟨_, rfl⟩
  have K : Kd b0 b1 cu cg n k m u g l z w v1.drew := Kd.drew ⟨L, e0, e1⟩
  rw [← e1, ← e0]
  clear L e0 e1
  have C := K.two
  go_wp2_with fail
  refine wp_region_held_drew (S := fun W => Two b0 b1 cu cg n k m u g l z W) (by kernel_rfl) C (fun hHeld => ?_)
  refine wpAnyH_take (i := 0) (v := ?_) rfl (by kernel_rfl) (by kernel_rfl) (by kernel_rfl) (fun _ _ _ h => h) (Or.inl ⟨by rfl, ?_⟩) (by assumption) ?_
  rotate_left
  · intro w hSw
    (try dsimp only at hSw)
    go_simp
    (try with_reducible rfl)
  simp only [Act.put, List.getElem_toArray, List.getElem_cons_zero, List.setIfInBounds_toArray, List.set_cons_zero, List.set_cons_succ]
  refine wpAnyH_take (i := 1) (v := ?_) rfl (by kernel_rfl) (by kernel_rfl) (by kernel_rfl) (fun _ _ _ h => h) (Or.inl ⟨by rfl, ?_⟩) (by assumption) ?_
  rotate_left
  · intro w hSw
    (try dsimp only at hSw)
    go_simp
    (try with_reducible rfl)
  simp only [Act.put, List.getElem_toArray, List.getElem_cons_succ, List.getElem_cons_zero, List.setIfInBounds_toArray, List.set_cons_zero, List.set_cons_succ]
  refine wpAnyH_take (i := 2) (v := ?_) rfl (by kernel_rfl) (by kernel_rfl) (by kernel_rfl) (fun _ _ _ h => h) (Or.inl ⟨by rfl, ?_⟩) (by assumption) ?_
  rotate_left
  · intro w hSw
    (try dsimp only at hSw)
    go_simp
    (try with_reducible rfl)
  simp only [Act.put, List.getElem_toArray, List.getElem_cons_succ, List.getElem_cons_zero, List.setIfInBounds_toArray, List.set_cons_zero, List.set_cons_succ]
  refine wpAnyH_take (i := 3) (v := ?_) rfl (by kernel_rfl) (by kernel_rfl) (by kernel_rfl) (fun _ _ _ h => h) (Or.inl ⟨by rfl, ?_⟩) (by assumption) ?_
  rotate_left
  · intro w hSw
    (try dsimp only at hSw)
    go_simp
    (try with_reducible rfl)
  simp only [Act.put, List.getElem_toArray, List.getElem_cons_succ, List.getElem_cons_zero, List.setIfInBounds_toArray, List.set_cons_zero, List.set_cons_succ]
  refine wpAnyH_take (i := 4) (v := ?_) rfl (by kernel_rfl) (by kernel_rfl) (by kernel_rfl) (fun _ _ _ h => h) (Or.inl ⟨by rfl, ?_⟩) (by assumption) ?_
  rotate_left
  · intro w hSw
    (try dsimp only at hSw)
    go_simp
    (try with_reducible rfl)
  simp only [Act.put, List.getElem_toArray, List.getElem_cons_succ, List.getElem_cons_zero, List.setIfInBounds_toArray, List.set_cons_zero, List.set_cons_succ]
  refine wpAnyH_ready (rs := [5]) (by kernel_rfl) (by simp) ?_
  refine AllReadyH.cons rfl (fun K' hK => ?_) AllReadyH.nil
  go_simp
  refine (may_any cu cg n k m u g l z _ _).mono ?_
  rintro e va ⟨rfl, B2⟩
  rw [R2]
  replace K := K.step B2
  clear B2
  refine hK.out _ _ K.two (fun hHeld => ?_)
  clear hK K' hHeld
  have hHeld := K.two
  refine wpAnyH_take (i := 6) (v := ?_) rfl (by kernel_rfl) (by kernel_rfl) (by kernel_rfl) (fun _ _ _ h => h) (Or.inl ⟨by rfl, ?_⟩) (by assumption) ?_
  rotate_left
  · intro w hSw
    (try dsimp only at hSw)
    go_simp
    (try with_reducible rfl)
  simp only [Act.put, List.getElem_toArray, List.getElem_cons_succ, List.getElem_cons_zero, List.setIfInBounds_toArray, List.set_cons_zero, List.set_cons_succ]
  refine wpAnyH_take (i := 7) rfl (by kernel_rfl) (by kernel_rfl) (by kernel_rfl) (fun _ _ _ h => h) (Or.inr ⟨by rfl, rfl⟩) (by assumption) ?_
  simp only [Act.put, List.getElem_toArray, List.getElem_cons_succ, List.getElem_cons_zero, List.setIfInBounds_toArray, List.set_cons_zero, List.set_cons_succ]
  refine wpAnyH_take (i := 8) rfl (by kernel_rfl) (by kernel_rfl) (by kernel_rfl) (fun _ _ _ h => h) (Or.inr ⟨by rfl, rfl⟩) (by assumption) ?_
  simp only [Act.put, List.getElem_toArray, List.getElem_cons_succ, List.getElem_cons_zero, List.setIfInBounds_toArray, List.set_cons_zero, List.set_cons_succ]
  refine wpAnyH_take (i := 9) rfl (by kernel_rfl) (by kernel_rfl) (by kernel_rfl) (fun _ _ _ h => h) (Or.inr ⟨by rfl, rfl⟩) (by assumption) ?_
  simp only [Act.put, List.getElem_toArray, List.getElem_cons_succ, List.getElem_cons_zero, List.setIfInBounds_toArray, List.set_cons_zero, List.set_cons_succ]
  refine wpAnyH_take (i := 10) rfl (by kernel_rfl) (by kernel_rfl) (by kernel_rfl) (fun _ _ _ h => h) (Or.inr ⟨by rfl, rfl⟩) (by assumption) ?_
  simp only [Act.put, List.getElem_toArray, List.getElem_cons_succ, List.getElem_cons_zero, List.setIfInBounds_toArray, List.set_cons_zero, List.set_cons_succ]
  refine wpAnyH_take (i := 11) rfl (by kernel_rfl) (by kernel_rfl) (by kernel_rfl) (fun _ _ _ h => h) (Or.inr ⟨by rfl, rfl⟩) (by assumption) ?_
  simp only [Act.put, List.getElem_toArray, List.getElem_cons_succ, List.getElem_cons_zero, List.setIfInBounds_toArray, List.set_cons_zero, List.set_cons_succ]
  refine wpAnyH_take (i := 12) (v := ?_) rfl (by kernel_rfl) (by kernel_rfl) (by kernel_rfl) (fun _ _ _ h => h) (Or.inl ⟨by rfl, ?_⟩) (by assumption) ?_
  rotate_left
  · intro w hSw
    (try dsimp only at hSw)
    go_simp
    (try with_reducible rfl)
  simp only [Act.put, List.getElem_toArray, List.getElem_cons_succ, List.getElem_cons_zero, List.setIfInBounds_toArray, List.set_cons_zero, List.set_cons_succ]
  refine wpAnyH_take (i := 13) (v := ?_) rfl (by kernel_rfl) (by kernel_rfl) (by kernel_rfl) (fun _ _ _ h => h) (Or.inl ⟨by rfl, ?_⟩) (by assumption) ?_
  rotate_left
  · intro w hSw
    (try dsimp only at hSw)
    go_simp
    (try with_reducible rfl)
  simp only [Act.put, List.getElem_toArray, List.getElem_cons_succ, List.getElem_cons_zero, List.setIfInBounds_toArray, List.set_cons_zero, List.set_cons_succ]
  refine wpAnyH_take (i := 14) (v := ?_) rfl (by kernel_rfl) (by kernel_rfl) (by kernel_rfl) (fun _ _ _ h => h) (Or.inl ⟨by rfl, ?_⟩) (by assumption) ?_
  rotate_left
  · intro w hSw
    (try dsimp only at hSw)
    go_simp
    (try with_reducible rfl)
  simp only [Act.put, List.getElem_toArray, List.getElem_cons_succ, List.getElem_cons_zero, List.setIfInBounds_toArray, List.set_cons_zero, List.set_cons_succ]
  refine wpAnyH_take (i := 15) (v := ?_) rfl (by kernel_rfl) (by kernel_rfl) (by kernel_rfl) (fun _ _ _ h => h) (Or.inl ⟨by rfl, ?_⟩) (by assumption) ?_
  rotate_left
  · intro w hSw
    (try dsimp only at hSw)
    go_simp
    (try with_reducible rfl)
  simp only [Act.put, List.getElem_toArray, List.getElem_cons_succ, List.getElem_cons_zero, List.setIfInBounds_toArray, List.set_cons_zero, List.set_cons_succ]
  refine wpAnyH_take (i := 16) (v := ?_) rfl (by kernel_rfl) (by kernel_rfl) (by kernel_rfl) (fun _ _ _ h => h) (Or.inl ⟨by rfl, ?_⟩) (by assumption) ?_
  rotate_left
  · intro w hSw
    (try dsimp only at hSw)
    go_simp
    (try with_reducible rfl)
  simp only [Act.put, List.getElem_toArray, List.getElem_cons_succ, List.getElem_cons_zero, List.setIfInBounds_toArray, List.set_cons_zero, List.set_cons_succ]
  refine wpAnyH_take (i := 17) (v := ?_) rfl (by kernel_rfl) (by kernel_rfl) (by kernel_rfl) (fun _ _ _ h => h) (Or.inl ⟨by rfl, ?_⟩) (by assumption) ?_
  rotate_left
  · intro w hSw
    (try dsimp only at hSw)
    go_simp
    (try with_reducible rfl)
  simp only [Act.put, List.getElem_toArray, List.getElem_cons_succ, List.getElem_cons_zero, List.setIfInBounds_toArray, List.set_cons_zero, List.set_cons_succ]
  refine wpAnyH_take (i := 19) (v := ?_) rfl (by kernel_rfl) (by kernel_rfl) (by kernel_rfl) (fun _ _ _ h => h) (Or.inl ⟨by rfl, ?_⟩) (by assumption) ?_
  rotate_left
  · intro w hSw
    (try dsimp only at hSw)
    go_simp
    (try with_reducible rfl)
  simp only [Act.put, List.getElem_toArray, List.getElem_cons_succ, List.getElem_cons_zero, List.setIfInBounds_toArray, List.set_cons_zero, List.set_cons_succ]
  refine wpAnyH_take (i := 20) (v := ?_) rfl (by kernel_rfl) (by kernel_rfl) (by kernel_rfl) (fun _ _ _ h => h) (Or.inl ⟨by rfl, ?_⟩) (by assumption) ?_
  rotate_left
  · intro w hSw
    (try dsimp only at hSw)
    go_simp
    (try with_reducible rfl)
  simp only [Act.put, List.getElem_toArray, List.getElem_cons_succ, List.getElem_cons_zero, List.setIfInBounds_toArray, List.set_cons_zero, List.set_cons_succ]
  refine wpAnyH_take (i := 21) (v := ?_) rfl (by kernel_rfl) (by kernel_rfl) (by kernel_rfl) (fun _ _ _ h => h) (Or.inl ⟨by rfl, ?_⟩) (by assumption) ?_
  rotate_left
  · intro w hSw
    (try dsimp only at hSw)
    go_simp
    (try with_reducible rfl)
  simp only [Act.put, List.getElem_toArray, List.getElem_cons_succ, List.getElem_cons_zero, List.setIfInBounds_toArray, List.set_cons_zero, List.set_cons_succ]
  refine wpAnyH_take (i := 22) (v := ?_) rfl (by kernel_rfl) (by kernel_rfl) (by kernel_rfl) (fun _ _ _ h => h) (Or.inl ⟨by rfl, ?_⟩) (by assumption) ?_
  rotate_left
  · intro w hSw
    (try dsimp only at hSw)
    go_simp
    (try with_reducible rfl)
  simp only [Act.put, List.getElem_toArray, List.getElem_cons_succ, List.getElem_cons_zero, List.setIfInBounds_toArray, List.set_cons_zero, List.set_cons_succ]
  refine wpAnyH_ready (rs := [18]) (by kernel_rfl) (by simp) ?_
  refine AllReadyH.cons rfl (fun K' hK => ?_) AllReadyH.nil
  go_simp
  refine (may_any cu cg n k m u g l z _ _).mono ?_
  rintro e vb ⟨rfl, B2⟩
  rw [R4]
  replace K := K.step B2
  clear B2
  refine hK.out _ _ K.two (fun hHeld => ?_)
  clear hK K' hHeld
  have hHeld := K.two
  refine wpAnyH_ready (rs := [23]) (by kernel_rfl) (by simp) ?_
  refine AllReadyH.cons rfl (fun K' hK => ?_) AllReadyH.nil
  go_simp
  refine (may_any cu cg n k m u g l z _ _).mono ?_
  rintro e v2 ⟨rfl, B2⟩
  rw [R2]
  replace K := K.step B2
  clear B2
  refine hK.out _ _ K.two (fun hHeld => ?_)
  clear hK K' hHeld
  have hHeld := K.two
  refine wpAnyH_take (i := 24) (v := ?_) rfl (by kernel_rfl) (by kernel_rfl) (by kernel_rfl) (fun _ _ _ h => h) (Or.inl ⟨by rfl, ?_⟩) (by assumption) ?_
  rotate_left
  · intro w hSw
    (try dsimp only at hSw)
    go_simp
    (try with_reducible rfl)
  simp only [Act.put, List.getElem_toArray, List.getElem_cons_succ, List.getElem_cons_zero, List.setIfInBounds_toArray, List.set_cons_zero, List.set_cons_succ]
  refine wpAnyH_take (i := 25) (v := ?_) rfl (by kernel_rfl) (by kernel_rfl) (by kernel_rfl) (fun _ _ _ h => h) (Or.inl ⟨by rfl, ?_⟩) (by assumption) ?_
  rotate_left
  · intro w hSw
    (try dsimp only at hSw)
    go_simp
    (try with_reducible rfl)
  simp only [Act.put, List.getElem_toArray, List.getElem_cons_succ, List.getElem_cons_zero, List.setIfInBounds_toArray, List.set_cons_zero, List.set_cons_succ]
  refine wpAnyH_done (by kernel_rfl) ?_ _
  clear R2
  obtain ⟨c0, c1, d0, d1, d2, d3, d4, d5, d6⟩ := K.two
  have K3 : Kd b0 b1 cu cg n k m u g l z w (v2.alloc (StO n k m u g l z)) := K.step ((Below.refl _ _).alloc (Nat.le_refl _) _)
  obtain ⟨x0, x1, y0, y1, y2, y3, y4, y5, y6⟩ := K3.two
  go_wp2_with fail
  have E : Ke b0 b1 v2.heap.size cu cg n k m u g l z (bits .and .i64 m 7) w v2 (v2.alloc (StO n k (bits .and .i64 m 7) u g l z)) := Ke.made K _
  clear K K3 c0 c1 d0 d1 d2 d3 d4 d5 d6 x0 x1 y0 y1 y2 y3 y4 y5 y6
  replace E := E.drew
  generalize v2.alloc (StO n k (bits .and .i64 m 7) u g l z) = V at *
  generalize v2.heap.size = b2 at *
  have F := E.three
  go_region_held3 (fun W => Three b0 b1 b2 cu cg n k m u g l z n k (bits .and .i64 m 7) u g l z W) (assumption)
    (first
      | (go_at_call 8; refine (may_any cu cg n k _ u g l z a _).mono ?_; rintro e v3 ⟨rfl, B3⟩; (first | rw [R5] | rw [R4]); replace E := E.step B3; clear B3; have F3 := E.three)
      | (go_at_call 11; refine (known_any _).mono ?_; rintro e v4 ⟨rfl, B4⟩; replace E := E.step B4; clear B4; have F4 := E.three))
  go_wp2_with fail
  go_ret
  exact ⟨rfl, E.1.1.below⟩
end Go.Proofs.Ytojnohonofkegaa
