/-
  BlockNumbers: chapter 9's runs.
-/
import Derived.Test.YtaogokgklkdmpaaKnown
namespace Go.Proofs.Ytaogokgklkdmpaa
open Go.RowKit Go.Maps

def nS0 : S := (⟨2, []⟩ : S).add
def nS1 : S := writeS nS0 1 (1024) 1 (fun _ => 120)
def nS2 : S := writeS nS1 1 1029 0 (fun _ => 0)
def nS3 : S := writeS nS2 1 (-1) 1 (fun _ => 120)
def nS4 : S := writeS nS3 1 8 30 (fun _ => 0)
def nS5 : S := writeS nS4 1 8 24 (fun _ => 0)
def nS6 : S := cutS nS5 1 (17)
def nS7 : S := cutS nS6 1 (16)
def nS8 : S := cutS nS7 1 (1025)
def nS9 : S := cutS nS8 1 (-1)
def nS10 : S := writeS nS9 9 0 1 (fun _ => 120)
def nS11 : S := dropS nS10 1
def nS12 : S := dropS nS11 1
theorem in_made (w : World) (n : Nat) : In (w.alloc (.cells (lst (fun _ => 0) 0 n).toArray 5)) (some ⟨w.heap.size, 0, none⟩) n n (fun _ => 0) := fun _ => ⟨w.heap.size, 0, rfl, Bs.of_row (heap_alloc_new _ _), Nat.le_refl _⟩
set_option maxRecDepth 100000 in
set_option maxHeartbeats 1000000 in
theorem numbers_walk (w : World) : Calls Try.prog 3 #[] w fun e w' => e = .returned (.bool true) ∧ Below w.heap.size w w' := by
  have hcv := conv28
  go_enter Try.func3, Try.ntmps3
  go_wp2_with fail
  refine (new_bad _ (by omega) _).mono ?_
  rintro e w1 ⟨rfl, rfl⟩
  go_wp2_with fail
  refine (new_bad _ (by omega) _).mono ?_
  rintro e w2 ⟨rfl, rfl⟩
  go_wp2_with fail
  refine (new_Z _ 2 rfl (by omega) _).mono ?_
  rintro e w3 ⟨p, rfl, P, B⟩
  go_wp2_with fail
  refine (file_Z (s := ⟨2, []⟩) P 1 rfl (by decide) B).mono ?_
  clear P B
  rintro e w4 ⟨rfl, P, _, B⟩
  go_wp2_with fail
  refine (write_Z (s := nS0) (hide ((unhide P).alloc _)) 1 (by decide) (1024) (by decide) _ 1 1 _ (in_one _ _ _) 42 (by decide +kernel) (hide ((unhide B).alloc (unhide P).bs _))).mono ?_
  clear P B
  rintro e w5 ⟨rfl, P, _, B⟩
  go_wp2_with fail
  refine (write_Z (s := nS1) P 1 (by decide) 1029 (by decide) _ 0 0 (fun _ => 0) (fun h => absurd h (by omega)) 0 (by decide +kernel) B).mono ?_
  clear P B
  rintro e w6 ⟨rfl, P, _, B⟩
  go_wp2_with fail
  refine (write_Z (s := nS2) (hide ((unhide P).alloc _)) 1 (by decide) (-1) (by decide) _ 1 1 _ (in_one _ _ _) 39 (by decide +kernel) (hide ((unhide B).alloc (unhide P).bs _))).mono ?_
  clear P B
  rintro e w7 ⟨rfl, P, _, B⟩
  have hmk : ∀ w : World, (Instr.makeSlice 28 (.int .i64 30) (.int .i64 30)).run Try.prog w = .ok (.slice (some ⟨w.heap.size, 0, none⟩) 30 30) (w.alloc (.cells (lst (fun _ => 0) 0 30).toArray 5)) := make_run 30 (by omega)
  go_wp2_with fail
  refine (write_Z (s := nS3) (hide ((unhide P).alloc _)) 1 (by decide) 8 (by decide) _ 30 30 _ (in_made _ 30) 43 (by decide +kernel) (hide ((unhide B).alloc (unhide P).bs _))).mono ?_
  clear P B
  rintro e w8 ⟨rfl, P, _, B⟩
  clear hmk
  have hmk : ∀ w : World, (Instr.makeSlice 28 (.int .i64 24) (.int .i64 24)).run Try.prog w = .ok (.slice (some ⟨w.heap.size, 0, none⟩) 24 24) (w.alloc (.cells (lst (fun _ => 0) 0 24).toArray 5)) := make_run 24 (by omega)
  go_wp2_with fail
  refine (write_Z (s := nS4) (hide ((unhide P).alloc _)) 1 (by decide) 8 (by decide) _ 24 24 _ (in_made _ 24) 0 (by decide +kernel) (hide ((unhide B).alloc (unhide P).bs _))).mono ?_
  clear P B
  rintro e w9 ⟨rfl, P, _, B⟩
  clear hmk
  go_wp2_with fail
  refine (cut_Z (s := nS5) P 1 (by decide) (17) 0 (by decide +kernel) B).mono ?_
  clear P B
  rintro e w10 ⟨rfl, P, _, B⟩
  go_wp2_with fail
  refine (used_Z (s := nS6) P 1 (by decide) 2 (by decide +kernel)).mono ?_
  rintro e w11 ⟨rfl, rfl⟩
  go_wp2_with fail
  refine (cut_Z (s := nS6) P 1 (by decide) (16) 0 (by decide +kernel) B).mono ?_
  clear P B
  rintro e w12 ⟨rfl, P, _, B⟩
  go_wp2_with fail
  refine (left_Z (s := nS7) P 1 (by decide +kernel)).mono ?_
  rintro e w13 ⟨rfl, rfl⟩
  go_wp2_with fail
  refine (cut_Z (s := nS7) P 1 (by decide) (1025) 42 (by decide +kernel) B).mono ?_
  clear P B
  rintro e w14 ⟨rfl, P, _, B⟩
  go_wp2_with fail
  refine (cut_Z (s := nS8) P 1 (by decide) (-1) 39 (by decide +kernel) B).mono ?_
  clear P B
  rintro e w15 ⟨rfl, P, _, B⟩
  go_wp2_with fail
  refine (write_Z (s := nS9) (hide ((unhide P).alloc _)) 9 (by decide) 0 (by decide) _ 1 1 _ (in_one _ _ _) 1 (by decide +kernel) (hide ((unhide B).alloc (unhide P).bs _))).mono ?_
  clear P B
  rintro e w16 ⟨rfl, P, _, B⟩
  go_wp2_with fail
  refine (drop_Z (s := nS10) P 1 (by decide) 0 (by decide +kernel) B).mono ?_
  clear P B
  rintro e w17 ⟨rfl, P, _, B⟩
  go_wp2_with fail
  refine (drop_Z (s := nS11) P 1 (by decide) 1 (by decide +kernel) B).mono ?_
  clear P B
  rintro e w18 ⟨rfl, P, _, B⟩
  go_wp2_with fail
  refine (read_Z (s := nS12) P 1 (by decide) 0 1 (by decide) 1 (by decide +kernel) 0 (by decide +kernel) B).mono ?_
  clear P B
  rintro e w19 ⟨v, rfl, _, _, P, B⟩
  go_wp2_with fail
  refine (left_Z (s := nS12) P 2 (by decide +kernel)).mono ?_
  rintro e w20 ⟨rfl, rfl⟩
  go_wp2_with fail
  refine (known_any _).mono ?_
  rintro e w21 ⟨rfl, B2⟩
  go_wp2_with fail
  go_ret
  exact ⟨rfl, (unhide B).trans (B2.mono (unhide P).bs)⟩
end Go.Proofs.Ytaogokgklkdmpaa
