/-
  The contract of known.
-/
import Derived.Test.YtlngeaacjbdmhaaApi
namespace Go.Proofs.Ytlngeaacjbdmhaa
open Go.RowKit Go.Maps

abbrev tA : ByteArray := ⟨#[97]⟩
abbrev tB : ByteArray := ⟨#[98]⟩
def K1 : Tr := (Tr.new 2 0).make 1 tA 1 0 0 0 ⟨#[]⟩
def K3 : Tr := K1.hold 2
def K4 : Tr := K3.part 1 tA
theorem kA : (Tr.new 2 0).makeN 1 tA 1 ⟨#[]⟩ = 2 ∧ (Tr.new 2 0).makeE 1 tA 1 ⟨#[]⟩ = 0 := by decide +kernel
theorem kB : K1.makeN 1 tB 1 ⟨#[]⟩ = 0 ∧ K1.makeE 1 tB 1 ⟨#[]⟩ = 43 := by decide +kernel
theorem kB2 : K1.make 1 tB 1 0 0 0 ⟨#[]⟩ = K1 := by rw [Tr.make, if_neg (by rw [kB.2]; decide)]
theorem kC : K1.holdE 2 = 0 ∧ K3.partE 1 tA = 0 ∧ (K4.findN 1 tA).getD 0 = 0 ∧ (K4.findN 1 tA).isSome = false ∧ (K4.nd 2).isSome = true := by decide +kernel
/-- What the calls of known answer, the trees between them letters. -/
theorem known_facts : ∃ k1 k3 k4 : Tr, ((Tr.new 2 0).makeN 1 tA 1 ⟨#[]⟩ = 2 ∧ (Tr.new 2 0).makeE 1 tA 1 ⟨#[]⟩ = 0 ∧ (Tr.new 2 0).make 1 tA 1 0 0 0 ⟨#[]⟩ = k1) ∧ (k1.makeN 1 tB 1 ⟨#[]⟩ = 0 ∧ k1.makeE 1 tB 1 ⟨#[]⟩ = 43 ∧ k1.make 1 tB 1 0 0 0 ⟨#[]⟩ = k1) ∧ (k1.holdE 2 = 0 ∧ k1.hold 2 = k3) ∧ (k3.partE 1 tA = 0 ∧ k3.part 1 tA = k4) ∧ ((k4.findN 1 tA).getD 0 = 0 ∧ (k4.findN 1 tA).isSome = false) ∧ (k4.nd 2).isSome = true :=
  ⟨K1, K3, K4, ⟨kA.1, kA.2, rfl⟩, ⟨kB.1, kB.2, kB2⟩, ⟨kC.1, rfl⟩, ⟨kC.2.1, rfl⟩, ⟨kC.2.2.1, kC.2.2.2.1⟩, kC.2.2.2.2⟩
set_option maxRecDepth 100000 in
set_option maxHeartbeats 1000000 in
theorem known_any (w : World) : Calls Try.prog 18 #[] w fun e w' => e = .returned (.bool true) ∧ Below w.heap.size w w' := by
  obtain ⟨k1, k3, k4, FA, FB, FC, FD, FE, FF⟩ := known_facts
  obtain ⟨s0, s1, s2, s3, s4, s5, s6, hv2⟩ := k4.stat_form 2
  have HV := hide hv2
  have HA := hide FA
  have HBB := hide FB
  have HC := hide FC
  have HD := hide FD
  have HE := hide FE
  have HF := hide FF
  have H0 := hide (new_Q 2 0 (by omega) (by omega) w)
  have hw1 : Hid ((kl 1).wf = true) := hide (by decide)
  have hw2 : Hid ((kl 2).wf = true) := hide (by decide)
  clear hv2 FA FB FC FD FE FF
  go_enter Try.func18, Try.ntmps18
  go_wp2_with fail
  refine (unhide H0).mono ?_
  rintro e w1 ⟨t, rfl, T1, B1⟩
  go_wp2_with fail
  refine (make_Q (unhide T1) (by omega) (unhide hw1) tA 0 1 0 0 0 0 0 ⟨#[]⟩ (by decide) 2 0 k1 (unhide HA).1 (unhide HA).2.1 (unhide HA).2.2).mono ?_
  rintro e w2 ⟨rfl, T2, X2⟩
  go_wp2_with fail
  refine (make_Q (unhide T2) (by omega) (unhide hw1) tB 0 1 0 0 0 0 0 ⟨#[]⟩ (by decide) 0 43 k1 (unhide HBB).1 (unhide HBB).2.1 (unhide HBB).2.2).mono ?_
  rintro e w3 ⟨rfl, T3, X3⟩
  go_wp2_with fail
  refine (hold_Q (unhide T3) (by omega) (unhide hw2) 0 k3 (unhide HC).1 (unhide HC).2).mono ?_
  rintro e w4 ⟨rfl, T4, X4⟩
  go_wp2_with fail
  refine (part_Q (unhide T4) (by omega) (unhide hw1) tA 0 k4 (unhide HD).1 (unhide HD).2).mono ?_
  rintro e w5 ⟨rfl, T5, X5⟩
  go_wp2_with fail
  refine (find_Q (unhide T5) (by omega) (unhide hw1) tA 0 false (unhide HE).1 (unhide HE).2).mono ?_
  rintro e w6 ⟨rfl, T6, X6⟩
  go_wp2_with fail
  refine (stat_Q (unhide T6) (by omega) (unhide hw2) (stV s0 s1 s2 s3 s4 s5 s6) true (unhide HV) (unhide HF)).mono ?_
  rintro e w7 ⟨rfl, T7, X7⟩
  go_wp2_with fail
  go_ret
  have hle := (unhide B1).size
  have hX := (((unhide X2).trans (unhide X3)).trans ((unhide X4).trans (unhide X5))).trans ((Tx.of_below (unhide X6) (unhide T5).lo_le).trans (Tx.of_below (unhide X7) (unhide T6).lo_le))
  have hF := hX.fst (unhide B1) (Nat.le_refl _)
  exact ⟨rfl, hF.alloc hF.size _⟩
end Go.Proofs.Ytlngeaacjbdmhaa
