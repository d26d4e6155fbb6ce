/-
  TreeLive's walk: what is live is just what names reach from the root, or is held.
-/
import Derived.Test.YtlngeaacjbdmhaaLvT0
import Derived.Test.YtlngeaacjbdmhaaLvT3
namespace Go.Proofs.Ytlngeaacjbdmhaa
open Go.RowKit Go.Maps
set_option linter.unusedVariables false

set_option maxRecDepth 100000 in
set_option maxHeartbeats 40000000 in
theorem live_walk (pa : Option Addr) (len cap : Nat) (w : World) (hl : AsksAt w pa len) : Calls Try.prog 3 #[.slice pa len cap] w fun e w' => e = .returned (.bool true) ∧ Below w.heap.size w w' := by
  have H0 := hide (new_Q 20 10 (by omega) (by omega) w)
  have HK := hide known_any
  have HB := hide hl.2
  have hlen := hl.1
  have hz := zeroA200
  clear hl
  go_enter Try.func3, Try.ntmps3
  go_wp2_with fail
  refine (unhide H0).mono ?_
  rintro e w1 ⟨t, rfl, T1, B1⟩
  have hBa := (Below.refl _ w1).alloc (Nat.le_refl _) (.cells (ac fun _ => 0) 27)
  have HR0 : Hid (LT w (w1.alloc (.cells (ac fun _ => 0) 27)) t w1.heap.size 1 (Tr.new 20 10)) :=
    ⟨(unhide T1).below hBa, (unhide B1).trans (hBa.mono (unhide B1).size), rfl, ⟨_, heap_alloc_new w1 _, fun n _ => by rw [new_hd]; rfl⟩, (unhide B1).size⟩
  have HZ0 : Hid (∀ i, i < 200 → (ac fun _ => 0)[i]? = some (I 0)) := fun i hi => ac_at _ i hi
  have HZe : Hid ((ac fun _ => 0).setIfInBounds 1 (I 1) = ac (upi (fun _ => 0) 1 1)) := ac_set _ _ _
  clear H0 T1 B1 hBa
  generalize hZ : ac (fun _ => 0) = Z at *
  clear hZ
  go_upto_block 0 with fail
  generalize w1.heap.size = g at *
  generalize w1.alloc (.cells Z 27) = V0 at *
  refine wp_cut (R0 w t g len cap pa _ _ _ _ _ _ _ _ _ _ _ _ _ _ _ _ _ _ _ _ _ _ _ _ _ _ _ _ _ _ _ _ _ _ _ _ _ _ _ _ _ _ _ _ _ _ _ _ _ _ _ _ _ _ _ _ _ _ _ _ _ _ _ _ _ _ _ _ _ _ _ _ _ _ _ _ _ _ _ _ _ _ _ _ _ _ _ _ _ _ _ _ _ _ _ _ _ _ _ _ _ _ _ _ _ _ _ _ _) ?_ (fun J K' h1 h2 => t0 w t g len cap pa _ _ _ _ _ _ _ _ _ _ _ _ _ _ _ _ _ _ _ _ _ _ _ _ _ _ _ _ _ _ _ _ _ _ _ _ _ _ _ _ _ _ _ _ _ _ _ _ _ _ _ _ _ _ _ _ _ _ _ _ _ _ _ _ _ _ _ _ _ _ _ _ _ _ _ _ _ _ _ _ _ _ _ _ _ _ _ _ _ _ _ _ _ _ _ _ _ _ _ _ _ _ _ _ _ _ _ _ _ _ _ _ _ _ _ _ _ _ _ _ _ _ _ _ _ _ _ _ _ _ _ _ _ _ _ _ _ _ _ _ _ _ _ _ _ _ _ _ _ _ _ _ _ _ _ _ _ _ _ _ _ _ _ _ _ _ _ _ _ _ _ _ _ _ _ _ _ _ _ _ _ _ _ _ _ _ _ _ _ _ _ _ _ _ _ _ _ _ _ _ _ _ _ _ _ _ _ _ _ _ _ _ _ _ _ _ _ _ _ _ _ _ _ _ _ _ _ _ _ _ _ _ _ _ _ _ _ _ _ _ _ _ _ _ _ _ HB hlen HR0 J K' h1 h2)
  intro _ wc hinv
  obtain ⟨u2, hinv⟩ := hinv
  obtain ⟨u6, hinv⟩ := hinv
  obtain ⟨u7, hinv⟩ := hinv
  obtain ⟨u8, hinv⟩ := hinv
  obtain ⟨u9, hinv⟩ := hinv
  obtain ⟨u10, hinv⟩ := hinv
  obtain ⟨u11, hinv⟩ := hinv
  obtain ⟨u12, hinv⟩ := hinv
  obtain ⟨u13, hinv⟩ := hinv
  obtain ⟨u14, hinv⟩ := hinv
  obtain ⟨u15, hinv⟩ := hinv
  obtain ⟨u16, hinv⟩ := hinv
  obtain ⟨u17, hinv⟩ := hinv
  obtain ⟨u18, hinv⟩ := hinv
  obtain ⟨u19, hinv⟩ := hinv
  obtain ⟨u20, hinv⟩ := hinv
  obtain ⟨u21, hinv⟩ := hinv
  obtain ⟨u22, hinv⟩ := hinv
  obtain ⟨u23, hinv⟩ := hinv
  obtain ⟨u24, hinv⟩ := hinv
  obtain ⟨u25, hinv⟩ := hinv
  obtain ⟨u26, hinv⟩ := hinv
  obtain ⟨u27, hinv⟩ := hinv
  obtain ⟨u28, hinv⟩ := hinv
  obtain ⟨u29, hinv⟩ := hinv
  obtain ⟨u30, hinv⟩ := hinv
  obtain ⟨u31, hinv⟩ := hinv
  obtain ⟨u32, hinv⟩ := hinv
  obtain ⟨u33, hinv⟩ := hinv
  obtain ⟨u34, hinv⟩ := hinv
  obtain ⟨u35, hinv⟩ := hinv
  obtain ⟨u36, hinv⟩ := hinv
  obtain ⟨u37, hinv⟩ := hinv
  obtain ⟨u38, hinv⟩ := hinv
  obtain ⟨u39, hinv⟩ := hinv
  obtain ⟨u40, hinv⟩ := hinv
  obtain ⟨u41, hinv⟩ := hinv
  obtain ⟨u42, hinv⟩ := hinv
  obtain ⟨u43, hinv⟩ := hinv
  obtain ⟨u44, hinv⟩ := hinv
  obtain ⟨u45, hinv⟩ := hinv
  obtain ⟨u46, hinv⟩ := hinv
  obtain ⟨u47, hinv⟩ := hinv
  obtain ⟨u48, hinv⟩ := hinv
  obtain ⟨u49, hinv⟩ := hinv
  obtain ⟨u50, hinv⟩ := hinv
  obtain ⟨u51, hinv⟩ := hinv
  obtain ⟨u52, hinv⟩ := hinv
  obtain ⟨u53, hinv⟩ := hinv
  obtain ⟨u54, hinv⟩ := hinv
  obtain ⟨u55, hinv⟩ := hinv
  obtain ⟨u56, hinv⟩ := hinv
  obtain ⟨u57, hinv⟩ := hinv
  obtain ⟨u58, hinv⟩ := hinv
  obtain ⟨u59, hinv⟩ := hinv
  obtain ⟨u60, hinv⟩ := hinv
  obtain ⟨u61, hinv⟩ := hinv
  obtain ⟨u62, hinv⟩ := hinv
  obtain ⟨u63, hinv⟩ := hinv
  obtain ⟨u64, hinv⟩ := hinv
  obtain ⟨u65, hinv⟩ := hinv
  obtain ⟨u66, hinv⟩ := hinv
  obtain ⟨u67, hinv⟩ := hinv
  obtain ⟨u68, hinv⟩ := hinv
  obtain ⟨u69, hinv⟩ := hinv
  obtain ⟨u70, hinv⟩ := hinv
  obtain ⟨u71, hinv⟩ := hinv
  obtain ⟨u72, hinv⟩ := hinv
  obtain ⟨u73, hinv⟩ := hinv
  obtain ⟨u74, hinv⟩ := hinv
  obtain ⟨u75, hinv⟩ := hinv
  obtain ⟨u76, hinv⟩ := hinv
  obtain ⟨u77, hinv⟩ := hinv
  obtain ⟨u78, hinv⟩ := hinv
  obtain ⟨u79, hinv⟩ := hinv
  obtain ⟨u80, hinv⟩ := hinv
  obtain ⟨u81, hinv⟩ := hinv
  obtain ⟨u82, hinv⟩ := hinv
  obtain ⟨u83, hinv⟩ := hinv
  obtain ⟨u84, hinv⟩ := hinv
  obtain ⟨u85, hinv⟩ := hinv
  obtain ⟨u86, hinv⟩ := hinv
  obtain ⟨u87, hinv⟩ := hinv
  obtain ⟨u88, hinv⟩ := hinv
  obtain ⟨u89, hinv⟩ := hinv
  obtain ⟨u90, hinv⟩ := hinv
  obtain ⟨u91, hinv⟩ := hinv
  obtain ⟨u92, hinv⟩ := hinv
  obtain ⟨u93, hinv⟩ := hinv
  obtain ⟨u94, hinv⟩ := hinv
  obtain ⟨u95, hinv⟩ := hinv
  obtain ⟨u96, hinv⟩ := hinv
  obtain ⟨u97, hinv⟩ := hinv
  obtain ⟨u98, hinv⟩ := hinv
  obtain ⟨u99, hinv⟩ := hinv
  obtain ⟨u100, hinv⟩ := hinv
  obtain ⟨u101, hinv⟩ := hinv
  obtain ⟨u102, hinv⟩ := hinv
  obtain ⟨u103, hinv⟩ := hinv
  obtain ⟨u104, hinv⟩ := hinv
  obtain ⟨u105, hinv⟩ := hinv
  obtain ⟨u106, hinv⟩ := hinv
  obtain ⟨u107, hinv⟩ := hinv
  obtain ⟨u108, hinv⟩ := hinv
  obtain ⟨u109, hinv⟩ := hinv
  obtain ⟨u110, hinv⟩ := hinv
  obtain ⟨u111, hinv⟩ := hinv
  obtain ⟨u112, hinv⟩ := hinv
  obtain ⟨u113, hinv⟩ := hinv
  obtain ⟨u114, hinv⟩ := hinv
  obtain ⟨u115, hinv⟩ := hinv
  obtain ⟨u116, hinv⟩ := hinv
  obtain ⟨u117, hinv⟩ := hinv
  obtain ⟨u118, hinv⟩ := hinv
  obtain ⟨u119, hinv⟩ := hinv
  obtain ⟨u120, hinv⟩ := hinv
  obtain ⟨u121, hinv⟩ := hinv
  obtain ⟨u122, hinv⟩ := hinv
  obtain ⟨u123, hinv⟩ := hinv
  obtain ⟨u124, hinv⟩ := hinv
  obtain ⟨u125, hinv⟩ := hinv
  obtain ⟨u126, hinv⟩ := hinv
  obtain ⟨u127, hinv⟩ := hinv
  obtain ⟨u128, hinv⟩ := hinv
  obtain ⟨u129, hinv⟩ := hinv
  obtain ⟨u130, hinv⟩ := hinv
  obtain ⟨u131, hinv⟩ := hinv
  obtain ⟨u132, hinv⟩ := hinv
  obtain ⟨u133, hinv⟩ := hinv
  obtain ⟨u134, hinv⟩ := hinv
  obtain ⟨u135, hinv⟩ := hinv
  obtain ⟨u136, hinv⟩ := hinv
  obtain ⟨u137, hinv⟩ := hinv
  obtain ⟨u138, hinv⟩ := hinv
  obtain ⟨u139, hinv⟩ := hinv
  obtain ⟨u140, hinv⟩ := hinv
  obtain ⟨hcut, ha⟩ := hinv
  subst ha
  try dsimp only
  obtain ⟨j, T, hj, HJ⟩ := hcut
  clear HB HR0
  obtain ⟨U, hU⟩ : ∃ U, U = wc := ⟨_, rfl⟩
  rw [← hU] at HJ ⊢
  clear hU
  have hBU := (Below.refl _ U).alloc (Nat.le_refl _) (.cells Z 27)
  obtain ⟨V1, hV1⟩ : ∃ V1, U.alloc (.cells Z 27) = V1 := ⟨_, rfl⟩
  have v1h : V1.heap[U.heap.size]? = some (.cells Z 27) := by rw [← hV1]; exact heap_alloc_new U _
  rw [hV1] at hBU
  have v1s : V1.heap.size = U.heap.size + 1 := by rw [← hV1]; simp
  have v1c : V1.cell? ⟨U.heap.size, 1, none⟩ = some (I 0) := by rw [cell_of v1h]; exact unhide HZ0 1 (by omega)
  have v1f : V1.frozen? ⟨U.heap.size, 1, none⟩ = false := frozen_of v1h 1
  obtain ⟨V2, hV2⟩ : ∃ V2, V1.setCell ⟨U.heap.size, 1, none⟩ (I 1) = V2 := ⟨_, rfl⟩
  have v2h : V2.heap[U.heap.size]? = some (.cells (ac (upi (fun _ => 0) 1 1)) 27) := by rw [← hV2, heap_set v1h, unhide HZe]
  have v2s : V2.heap.size = U.heap.size + 1 := by rw [← hV2, ← v1s]; simp [World.setCell]
  have hB2 : Below U.heap.size U V2 := by rw [← hV2]; exact hBU.setCell (p := ⟨U.heap.size, 1, none⟩) (Nat.le_refl _) _
  obtain ⟨V3, hV3⟩ : ∃ V3, V2.alloc (.cells #[I 1] 3) = V3 := ⟨_, rfl⟩
  have hB3 : Below V2.heap.size V2 V3 := by rw [← hV3]; exact (Below.refl _ V2).alloc (Nat.le_refl _) _
  have v3h : V3.heap[U.heap.size + 1]? = some (.cells #[I 1] 3) := by rw [← hV3, ← v2s]; exact heap_alloc_new V2 _
  have hBU3 : Below U.heap.size U V3 := hB2.trans (hB3.mono (by omega))
  have hlo : w.heap.size ≤ U.heap.size := (unhide HJ).b.size
  have hgU := lt_of_heap (unhide HJ).h.choose_spec.1
  have HS0 : Hid (LS w V3 t g U.heap.size T (upi (fun _ => 0) 1 1) (.slice (some ⟨U.heap.size + 1, 0, none⟩) 1 1) [1]) :=
    LS.mk_start ((unhide HJ).below hBU3) (by omega) ((hB3.block _ (by omega)).trans v2h) (by omega) hlo v3h (by omega)
  have HF := hide ((unhide HJ).q.f.mono (B' := 125) (by omega))
  clear hBU hB2 hB3 hBU3 v1h v2h v3h v1s hgU HJ HZ0 HZe
  generalize hr : U.heap.size = r at *
  go_upto_block 3 with fail
  have HS1 : Hid (LS w V3 t g r T (upi (fun _ => 0) 1 1) (.slice (some ⟨r + 1, 0, none⟩) 1 1) [1]) := HS0
  clear HS0 hV1 hV2 hV3 v1c v1f v2s hr hz
  refine wp_cut (R3 w t g r T _ _ _ _ _ _ _ _ _ _ _ _ _ _ _ _ _ _ _ _ _ _ _ _ _ _ _ _ _ _ _ _ _ _ _ _ _ _ _ _ _ _ _ _ _ _) ?_ (fun J K' h1 h2 => t3 w t g r T _ _ _ _ _ _ _ _ _ _ _ _ _ _ _ _ _ _ _ _ _ _ _ _ _ _ _ _ _ _ _ _ _ _ _ _ _ _ _ _ _ _ _ _ _ _ _ _ _ _ _ _ _ _ _ _ _ _ _ _ _ _ _ _ _ _ _ _ _ _ _ _ _ _ _ _ _ _ _ _ _ _ _ _ _ _ _ _ _ _ _ _ _ _ _ _ _ _ _ _ _ _ _ _ _ _ _ _ _ _ _ _ _ _ _ _ _ _ _ _ _ _ _ _ _ _ _ _ _ _ _ _ _ _ _ _ _ _ _ _ _ _ _ _ _ _ _ _ _ _ _ _ _ _ _ _ _ _ _ _ _ _ _ _ _ _ _ _ _ _ _ _ _ _ _ _ _ _ _ _ _ _ _ _ _ _ _ _ _ _ _ _ _ _ _ _ _ _ _ _ _ _ _ _ _ _ _ _ _ _ _ _ _ _ _ _ _ _ _ _ _ _ _ _ _ _ _ _ _ _ _ _ _ _ _ _ _ _ _ _ _ _ _ _ _ _ HF HS1 J K' h1 h2)
  intro _ wc hinv
  obtain ⟨u2, hinv⟩ := hinv
  obtain ⟨u11, hinv⟩ := hinv
  obtain ⟨u12, hinv⟩ := hinv
  obtain ⟨u13, hinv⟩ := hinv
  obtain ⟨u14, hinv⟩ := hinv
  obtain ⟨u15, hinv⟩ := hinv
  obtain ⟨u16, hinv⟩ := hinv
  obtain ⟨u17, hinv⟩ := hinv
  obtain ⟨u18, hinv⟩ := hinv
  obtain ⟨u19, hinv⟩ := hinv
  obtain ⟨u20, hinv⟩ := hinv
  obtain ⟨u21, hinv⟩ := hinv
  obtain ⟨u22, hinv⟩ := hinv
  obtain ⟨u23, hinv⟩ := hinv
  obtain ⟨u24, hinv⟩ := hinv
  obtain ⟨u25, hinv⟩ := hinv
  obtain ⟨u26, hinv⟩ := hinv
  obtain ⟨u27, hinv⟩ := hinv
  obtain ⟨u28, hinv⟩ := hinv
  obtain ⟨u29, hinv⟩ := hinv
  obtain ⟨u30, hinv⟩ := hinv
  obtain ⟨u31, hinv⟩ := hinv
  obtain ⟨u32, hinv⟩ := hinv
  obtain ⟨u33, hinv⟩ := hinv
  obtain ⟨u34, hinv⟩ := hinv
  obtain ⟨u35, hinv⟩ := hinv
  obtain ⟨u36, hinv⟩ := hinv
  obtain ⟨u37, hinv⟩ := hinv
  obtain ⟨u38, hinv⟩ := hinv
  obtain ⟨u39, hinv⟩ := hinv
  obtain ⟨u40, hinv⟩ := hinv
  obtain ⟨u41, hinv⟩ := hinv
  obtain ⟨u42, hinv⟩ := hinv
  obtain ⟨u43, hinv⟩ := hinv
  obtain ⟨u44, hinv⟩ := hinv
  obtain ⟨u45, hinv⟩ := hinv
  obtain ⟨u46, hinv⟩ := hinv
  obtain ⟨u47, hinv⟩ := hinv
  obtain ⟨u48, hinv⟩ := hinv
  obtain ⟨u49, hinv⟩ := hinv
  obtain ⟨u50, hinv⟩ := hinv
  obtain ⟨u51, hinv⟩ := hinv
  obtain ⟨u52, hinv⟩ := hinv
  obtain ⟨u53, hinv⟩ := hinv
  obtain ⟨u54, hinv⟩ := hinv
  obtain ⟨u55, hinv⟩ := hinv
  obtain ⟨u56, hinv⟩ := hinv
  obtain ⟨u57, hinv⟩ := hinv
  obtain ⟨u58, hinv⟩ := hinv
  obtain ⟨u59, hinv⟩ := hinv
  obtain ⟨u60, hinv⟩ := hinv
  obtain ⟨u61, hinv⟩ := hinv
  obtain ⟨u62, hinv⟩ := hinv
  obtain ⟨u63, hinv⟩ := hinv
  obtain ⟨u64, hinv⟩ := hinv
  obtain ⟨u65, hinv⟩ := hinv
  obtain ⟨u66, hinv⟩ := hinv
  obtain ⟨u67, hinv⟩ := hinv
  obtain ⟨u68, hinv⟩ := hinv
  obtain ⟨u69, hinv⟩ := hinv
  obtain ⟨u70, hinv⟩ := hinv
  obtain ⟨u71, hinv⟩ := hinv
  obtain ⟨u72, hinv⟩ := hinv
  obtain ⟨u73, hinv⟩ := hinv
  obtain ⟨u74, hinv⟩ := hinv
  obtain ⟨u75, hinv⟩ := hinv
  obtain ⟨u76, hinv⟩ := hinv
  obtain ⟨u77, hinv⟩ := hinv
  obtain ⟨u78, hinv⟩ := hinv
  obtain ⟨u79, hinv⟩ := hinv
  obtain ⟨u80, hinv⟩ := hinv
  obtain ⟨u81, hinv⟩ := hinv
  obtain ⟨u82, hinv⟩ := hinv
  obtain ⟨u83, hinv⟩ := hinv
  obtain ⟨u84, hinv⟩ := hinv
  obtain ⟨u85, hinv⟩ := hinv
  obtain ⟨u86, hinv⟩ := hinv
  obtain ⟨u87, hinv⟩ := hinv
  obtain ⟨u88, hinv⟩ := hinv
  obtain ⟨u89, hinv⟩ := hinv
  obtain ⟨u90, hinv⟩ := hinv
  obtain ⟨u91, hinv⟩ := hinv
  obtain ⟨u92, hinv⟩ := hinv
  obtain ⟨u93, hinv⟩ := hinv
  obtain ⟨u94, hinv⟩ := hinv
  obtain ⟨u95, hinv⟩ := hinv
  obtain ⟨u96, hinv⟩ := hinv
  obtain ⟨u97, hinv⟩ := hinv
  obtain ⟨u98, hinv⟩ := hinv
  obtain ⟨u99, hinv⟩ := hinv
  obtain ⟨u100, hinv⟩ := hinv
  obtain ⟨u101, hinv⟩ := hinv
  obtain ⟨u102, hinv⟩ := hinv
  obtain ⟨u103, hinv⟩ := hinv
  obtain ⟨u104, hinv⟩ := hinv
  obtain ⟨u105, hinv⟩ := hinv
  obtain ⟨u106, hinv⟩ := hinv
  obtain ⟨u107, hinv⟩ := hinv
  obtain ⟨u108, hinv⟩ := hinv
  obtain ⟨u109, hinv⟩ := hinv
  obtain ⟨u110, hinv⟩ := hinv
  obtain ⟨u111, hinv⟩ := hinv
  obtain ⟨u112, hinv⟩ := hinv
  obtain ⟨u113, hinv⟩ := hinv
  obtain ⟨u114, hinv⟩ := hinv
  obtain ⟨u115, hinv⟩ := hinv
  obtain ⟨u116, hinv⟩ := hinv
  obtain ⟨u117, hinv⟩ := hinv
  obtain ⟨u118, hinv⟩ := hinv
  obtain ⟨u119, hinv⟩ := hinv
  obtain ⟨u120, hinv⟩ := hinv
  obtain ⟨u121, hinv⟩ := hinv
  obtain ⟨u122, hinv⟩ := hinv
  obtain ⟨u123, hinv⟩ := hinv
  obtain ⟨u124, hinv⟩ := hinv
  obtain ⟨u125, hinv⟩ := hinv
  obtain ⟨u126, hinv⟩ := hinv
  obtain ⟨u127, hinv⟩ := hinv
  obtain ⟨u128, hinv⟩ := hinv
  obtain ⟨u129, hinv⟩ := hinv
  obtain ⟨u130, hinv⟩ := hinv
  obtain ⟨u131, hinv⟩ := hinv
  obtain ⟨u132, hinv⟩ := hinv
  obtain ⟨u133, hinv⟩ := hinv
  obtain ⟨u134, hinv⟩ := hinv
  obtain ⟨u135, hinv⟩ := hinv
  obtain ⟨u136, hinv⟩ := hinv
  obtain ⟨u137, hinv⟩ := hinv
  obtain ⟨u138, hinv⟩ := hinv
  obtain ⟨u139, hinv⟩ := hinv
  obtain ⟨u140, hinv⟩ := hinv
  obtain ⟨u141, hinv⟩ := hinv
  obtain ⟨u142, hinv⟩ := hinv
  obtain ⟨u143, hinv⟩ := hinv
  obtain ⟨u144, hinv⟩ := hinv
  obtain ⟨u145, hinv⟩ := hinv
  obtain ⟨u146, hinv⟩ := hinv
  obtain ⟨u147, hinv⟩ := hinv
  obtain ⟨u148, hinv⟩ := hinv
  obtain ⟨u149, hinv⟩ := hinv
  obtain ⟨u150, hinv⟩ := hinv
  obtain ⟨u151, hinv⟩ := hinv
  obtain ⟨u152, hinv⟩ := hinv
  obtain ⟨u153, hinv⟩ := hinv
  obtain ⟨u154, hinv⟩ := hinv
  obtain ⟨u155, hinv⟩ := hinv
  obtain ⟨u156, hinv⟩ := hinv
  obtain ⟨u157, hinv⟩ := hinv
  obtain ⟨u158, hinv⟩ := hinv
  obtain ⟨u159, hinv⟩ := hinv
  obtain ⟨u160, hinv⟩ := hinv
  obtain ⟨u161, hinv⟩ := hinv
  obtain ⟨u162, hinv⟩ := hinv
  obtain ⟨u163, hinv⟩ := hinv
  obtain ⟨u164, hinv⟩ := hinv
  obtain ⟨u165, hinv⟩ := hinv
  obtain ⟨u166, hinv⟩ := hinv
  obtain ⟨u167, hinv⟩ := hinv
  obtain ⟨u168, hinv⟩ := hinv
  obtain ⟨u169, hinv⟩ := hinv
  obtain ⟨u170, hinv⟩ := hinv
  obtain ⟨u171, hinv⟩ := hinv
  obtain ⟨u172, hinv⟩ := hinv
  obtain ⟨u173, hinv⟩ := hinv
  obtain ⟨u174, hinv⟩ := hinv
  obtain ⟨u175, hinv⟩ := hinv
  obtain ⟨u176, hinv⟩ := hinv
  obtain ⟨u177, hinv⟩ := hinv
  obtain ⟨u178, hinv⟩ := hinv
  obtain ⟨u179, hinv⟩ := hinv
  obtain ⟨u180, hinv⟩ := hinv
  obtain ⟨u181, hinv⟩ := hinv
  obtain ⟨u182, hinv⟩ := hinv
  obtain ⟨u183, hinv⟩ := hinv
  obtain ⟨u184, hinv⟩ := hinv
  obtain ⟨u185, hinv⟩ := hinv
  obtain ⟨u186, hinv⟩ := hinv
  obtain ⟨u187, hinv⟩ := hinv
  obtain ⟨u188, hinv⟩ := hinv
  obtain ⟨u189, hinv⟩ := hinv
  obtain ⟨u190, hinv⟩ := hinv
  obtain ⟨u191, hinv⟩ := hinv
  obtain ⟨u192, hinv⟩ := hinv
  obtain ⟨u193, hinv⟩ := hinv
  obtain ⟨u194, hinv⟩ := hinv
  obtain ⟨u195, hinv⟩ := hinv
  obtain ⟨u196, hinv⟩ := hinv
  obtain ⟨u197, hinv⟩ := hinv
  obtain ⟨u198, hinv⟩ := hinv
  obtain ⟨u199, hinv⟩ := hinv
  obtain ⟨u200, hinv⟩ := hinv
  obtain ⟨u201, hinv⟩ := hinv
  obtain ⟨u202, hinv⟩ := hinv
  obtain ⟨u203, hinv⟩ := hinv
  obtain ⟨u204, hinv⟩ := hinv
  obtain ⟨u205, hinv⟩ := hinv
  obtain ⟨u206, hinv⟩ := hinv
  obtain ⟨u207, hinv⟩ := hinv
  obtain ⟨u208, hinv⟩ := hinv
  obtain ⟨hcut, ha⟩ := hinv
  subst ha
  try dsimp only
  obtain ⟨V, R, qv, HBv, HRv, HLv⟩ := hcut
  clear HS1
  go_wp2_with fail
  go_loopw [19] (fun iv wr => ∃ n : Nat, iv = .int .i64 (n : Int) ∧ 1 ≤ n ∧ n ≤ 100 ∧ Hid (LS w wr t g r T R qv [])) (fun iv _ => 100 - (intOf iv).toNat)
  case atStart => exact ⟨1, rfl, by omega, by omega, HLv⟩
  case round =>
    obtain ⟨n, rfl, hn1, hn2, HLn⟩ := hrel
    clear HLv
    by_cases hn : n < 100
    · have l1 : (n : Int) < 100 := by omega
      have l2 : (n : Int) < 200 := by omega
      have l3 : (0 : Int) ≤ (n : Int) := by omega
      have HWN : Hid ((kl (n : Int)).wf = true) := wf_of (by omega)
      have hlive := (unhide HBv).live (unhide HF) (n : Int)
      have hRn := unhide HRv n (by omega)
      obtain ⟨am, ham⟩ : ∃ am, T.met V (n : Int) = am := ⟨_, rfl⟩
      obtain ⟨bh, hbh⟩ : ∃ bh, T.hd (n : Int) = bh := ⟨_, rfl⟩
      rw [ham, hbh] at hlive
      rw [ham] at hRn
      cases hnd : T.nd (n : Int) with
      | none =>
        rw [hnd] at hlive
        have hst : T.stat (n : Int) = stV 0 0 0 0 0 0 0 := by simp only [Tr.stat, hnd]; rfl
        have HST := hide (stat_Q (unhide HLn).q (by omega) (unhide HWN) _ false hst (by rw [hnd]; rfl))
        have h0 : am = 0 ∧ bh = 0 := by
          simp at hlive; omega
        obtain ⟨rfl, rfl⟩ := h0
        have HRn := hide hRn
        have HBH := hide hbh
        clear hlive hRn ham hbh hst hnd
        go_wp2_with fail
        refine (unhide HST).mono ?_
        rintro e w5 ⟨rfl, -, X5⟩
        have hBa := (Below.refl _ w5).alloc (Nat.le_refl _) (Obj.cells #[I 0, I 0, I 0, I 0, I 0, I 0, I 0] 29)
        have L6 := ((unhide HLn).below (unhide X5)).below hBa
        obtain ⟨r6, g6⟩ := L6.at (k := n) (by omega)
        rw [unhide HRn] at r6
        rw [unhide HBH] at g6
        have hc := heap_alloc_new w5 (Obj.cells #[I 0, I 0, I 0, I 0, I 0, I 0, I 0] 29)
        have HL6 := hide L6
        clear L6 hBa X5 HST HLn
        obtain ⟨z0, z1, z2, z3, z4, z5, z6, zf⟩ := cells7 hc
        clear hc zf
        go_wp2_with fail
        go_quiet (fail)
        have HL7 := hide ((unhide HL6).below (below_dn (Below.refl _ _) nq))
        go_wp2_with fail
        go_roundw
        case rel => exact ⟨n + 1, by go_num, by omega, by omega, HL7⟩
        case measure => simp [intOf]; omega
      | some x =>
        rw [hnd] at hlive
        have hst : T.stat (n : Int) = stV (n : Int) x.kind x.mode x.uid x.gid (T.links x : Nat) (T.size x : Nat) := by simp only [Tr.stat, hnd]; rfl
        have HST := hide (stat_Q (unhide HLn).q (by omega) (unhide HWN) _ true hst (by rw [hnd]; rfl))
        have hlk2 : x.kind = 2 → T.links x = am := fun hk => by rw [(unhide HBv).links (unhide HF) hnd hk, ham]
        obtain ⟨kd, hkd⟩ : ∃ kd, kd = x.kind := ⟨_, rfl⟩
        obtain ⟨mo, hmo⟩ : ∃ v, v = x.mode := ⟨_, rfl⟩
        obtain ⟨ui, hui⟩ : ∃ v, v = x.uid := ⟨_, rfl⟩
        obtain ⟨gi, hgi⟩ : ∃ v, v = x.gid := ⟨_, rfl⟩
        obtain ⟨lk, hlk⟩ : ∃ v, v = T.links x := ⟨_, rfl⟩
        obtain ⟨sz, hsz⟩ : ∃ v, v = T.size x := ⟨_, rfl⟩
        rw [← hkd, ← hmo, ← hui, ← hgi, ← hlk, ← hsz] at HST
        rw [← hkd, ← hlk] at hlk2
        have HLK := hide hlk2
        have HRn := hide hRn
        have HBH := hide hbh
        have hor : 0 < am ∨ (am = 0 ∧ 0 < bh) := by
          simp at hlive
          omega
        clear hlive hRn ham hbh hst hnd hkd hmo hui hgi hlk hsz hlk2
        go_wp2_with fail
        refine (unhide HST).mono ?_
        rintro e w5 ⟨rfl, -, X5⟩
        have hBa := (Below.refl _ w5).alloc (Nat.le_refl _) (Obj.cells #[I (n : Int), I kd, I mo, I ui, I gi, I (lk : Nat), I (sz : Nat)] 29)
        have L6 := ((unhide HLn).below (unhide X5)).below hBa
        obtain ⟨r6, g6⟩ := L6.at (k := n) (by omega)
        rw [unhide HRn] at r6
        rw [unhide HBH] at g6
        have hc := heap_alloc_new w5 (Obj.cells #[I (n : Int), I kd, I mo, I ui, I gi, I (lk : Nat), I (sz : Nat)] 29)
        have HL6 := hide L6
        clear L6 hBa X5 HST HLn HRn HBH
        generalize hV7 : w5.alloc (Obj.cells #[I (n : Int), I kd, I mo, I ui, I gi, I (lk : Nat), I (sz : Nat)] 29) = V7 at HL6 hc r6 g6
        generalize hp7 : w5.heap.size = p7 at hc
        obtain ⟨z0, z1, z2, z3, z4, z5, z6, -⟩ := cells7 hc
        clear hc
        rcases hor with ho | ⟨ha0, ho⟩
        · have o1 : (0 : Int) < (am : Int) := by omega
          have o2 : (0 < am) = True := by simp; omega
          by_cases k2 : kd = 2
          · have e := unhide HLK k2
            subst k2
            subst e
            go_wp2_with fail
            go_quiet (fail)
            have HL7 := hide ((unhide HL6).below (below_dn (Below.refl _ _) nq))
            go_wp2_with fail
            go_roundw
            case rel => exact ⟨n + 1, by go_num, by omega, by omega, HL7⟩
            case measure => simp [intOf]; omega
          · have t2 : (kd == 2) = false := by simpa using k2
            clear k2
            go_wp2_with fail
            go_quiet (fail)
            have HL7 := hide ((unhide HL6).below (below_dn (Below.refl _ _) nq))
            go_wp2_with fail
            go_roundw
            case rel => exact ⟨n + 1, by go_num, by omega, by omega, HL7⟩
            case measure => simp [intOf]; omega
        · have o1 : (0 : Int) < (bh : Int) := by omega
          have o2 : (0 < bh) = True := by simp; omega
          have a1 : (0 < am) = False := by simp; omega
          have a2 : ((0 : Int) < (am : Int)) = False := by simp; omega
          clear ha0
          by_cases k2 : kd = 2
          · have e := unhide HLK k2
            subst k2
            subst e
            go_wp2_with fail
            go_quiet (fail)
            have HL7 := hide ((unhide HL6).below (below_dn (Below.refl _ _) nq))
            go_wp2_with fail
            go_roundw
            case rel => exact ⟨n + 1, by go_num, by omega, by omega, HL7⟩
            case measure => simp [intOf]; omega
          · have t2 : (kd == 2) = false := by simpa using k2
            clear k2
            go_wp2_with fail
            go_quiet (fail)
            have HL7 := hide ((unhide HL6).below (below_dn (Below.refl _ _) nq))
            go_wp2_with fail
            go_roundw
            case rel => exact ⟨n + 1, by go_num, by omega, by omega, HL7⟩
            case measure => simp [intOf]; omega
    · obtain rfl : n = 100 := by omega
      have HE := hide (unhide HLn).b
      have hsz := (unhide HLn).b.size
      clear HLn hn
      go_wp2_with fail
      refine (unhide HK wr).mono ?_
      rintro e v3 ⟨rfl, hB3⟩
      have HFi := hide ((unhide HE).trans (hB3.mono hsz))
      clear hB3 HE
      go_wp2_with fail
      go_ret
      exact ⟨rfl, unhide HFi⟩

end Go.Proofs.Ytlngeaacjbdmhaa
