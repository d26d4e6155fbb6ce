/-
  Jobs that a law lays itself; the run that known makes, and that known answers true.
-/
import Derived.Test.YtkgeapmafpeapaaMade
import Derived.Test.YtkgeapmafpeapaaWithin
namespace Go.Proofs.Ytkgeapmafpeapaa
open Go.RowKit
attribute [local go_sem ↓] Go.wp_at_zero Go.wp_at_succ

theorem JobsAt.of_rows {W : World} {g : Nat} {cs : Array Value} {e : TypeId} {f : Nat × Nat} {js : List Jb} (h : W.heap[g]? = some (.cells cs e f)) (hp : ∀ (i : Nat) (v : Value), (rowsOf Jb.row js)[i]? = some v → cs[i]? = some v) : JobsAt W (some ⟨g, 0, none⟩) js := by
  intro k j hj
  have hg : ∀ f, f < 5 → ∀ v, j.row[f]? = some v → W.cell? ⟨g, 0 + k * 5 + f, none⟩ = some v := by
    intro f hf v hv
    rw [cell_of h, Nat.zero_add]
    apply hp
    rw [Nat.mul_comm, rowsOf_get Jb.row 5 Jb.row_length js k f j hj hf]
    exact hv
  exact ⟨g, 0, rfl, (Array.getElem?_eq_some_iff.1 h).1, hg 0 (by omega) _ rfl, hg 1 (by omega) _ rfl, hg 2 (by omega) _ rfl, hg 3 (by omega) _ rfl, hg 4 (by omega) _ rfl⟩
theorem JobsAt.of_owns {W : World} {base : Nat} {v : Value} {js : List Jb} (h : W.ownsRow base 30 5 v js.length (rowsOf Jb.row js)) : ∃ pa cap, v = .slice pa js.length cap ∧ JobsAt W pa js := by
  obtain ⟨-, ⟨rfl, hz⟩ | ⟨g, cap, cur, rfl, hgb, hgg, hcap, hcm, hcs, htk⟩⟩ := h
  · have e : js = [] := List.length_eq_zero_iff.1 hz
    subst e
    exact ⟨none, 0, rfl, fun k j hj => by simp at hj⟩
  · refine ⟨_, cap, rfl, JobsAt.of_rows hgg ?_⟩
    intro i u hu
    rw [← htk] at hu
    have hi : i < js.length * 5 := by
      have := (List.getElem?_eq_some_iff.1 hu).1
      simp at this; omega
    rw [List.getElem?_take_of_lt hi] at hu
    simpa using hu

theorem Run.steps {w : World} {r b c q n : Nat} {ws : List Int} {st : Int} {ms : List Mach} (h : Run w r b c q n ws st ms) : Calls Try.prog 22 #[.pointer (some ⟨b, 0, none⟩)] w fun e w' => e = .returned (.int .i64 st) ∧ w' = w := by
  obtain ⟨k, a, o, v, d, hm⟩ := h.sys.mem
  exact steps_any b c n ws st k a o v d w hm
theorem Run.words {w : World} {r b c q n : Nat} {ws : List Int} {st : Int} {ms : List Mach} (h : Run w r b c q n ws st ms) : Calls Try.prog 24 #[.pointer (some ⟨b, 0, none⟩)] w fun e w' => e = .returned (.slice (some ⟨w.heap.size, 0, none⟩) n n) ∧ w'.heap[w.heap.size]? = some (.cells (ws.map (Value.int .i64)).toArray 2) ∧ Below w.heap.size w w' := by
  obtain ⟨k, a, o, v, d, hm⟩ := h.sys.mem
  exact words_any b c n ws st k a o v d w hm

theorem new4 (w : World) : Calls Try.prog 10 #[.int .i64 4] w fun e w' => e = .returned (.tuple #[.pointer (some ⟨w.heap.size + 1, 0, none⟩), .int .i64 0]) ∧ Mem w' (w.heap.size + 1) w.heap.size 4 [0, 0, 0, 0] 0 0 0 0 0 false ∧ Below w.heap.size w w' := new_yes 4 (by omega) (by omega) w
theorem new3 (w : World) : Calls Try.prog 10 #[.int .i64 3] w fun e w' => e = .returned (.tuple #[.pointer (some ⟨w.heap.size + 1, 0, none⟩), .int .i64 0]) ∧ Mem w' (w.heap.size + 1) w.heap.size 3 [0, 0, 0] 0 0 0 0 0 false ∧ Below w.heap.size w w' := new_yes 3 (by omega) (by omega) w
theorem new2 (w : World) : Calls Try.prog 10 #[.int .i64 2] w fun e w' => e = .returned (.tuple #[.pointer (some ⟨w.heap.size + 1, 0, none⟩), .int .i64 0]) ∧ Mem w' (w.heap.size + 1) w.heap.size 2 [0, 0] 0 0 0 0 0 false ∧ Below w.heap.size w w' := new_yes 2 (by omega) (by omega) w
theorem new1 (w : World) : Calls Try.prog 10 #[.int .i64 1] w fun e w' => e = .returned (.tuple #[.pointer (some ⟨w.heap.size + 1, 0, none⟩), .int .i64 0]) ∧ Mem w' (w.heap.size + 1) w.heap.size 1 [0] 0 0 0 0 0 false ∧ Below w.heap.size w w' := new_yes 1 (by omega) (by omega) w

theorem Frq.belowAt {B b c q : Nat} {w w0 w' : World} (h : Frq b c q w w') (g : Below B w0 w) (hb : B ≤ b) (hc : B ≤ c) (hq : B ≤ q) (hB : B ≤ w.heap.size) : Below B w0 w' := g.trans (h.below hb hc hq hB)

def kM (nx lf : Int) (dn : Bool) : Mach := ⟨1, 0, 0, 0, 0, 1, dn, 0, 0, 0, nx, lf, 0, 0, 0⟩

set_option maxRecDepth 100000 in
set_option maxHeartbeats 1000000 in
theorem known_true (w : World) : Calls Try.prog 14 #[] w fun e w' => e = .returned (.bool true) ∧ Below w.heap.size w w' := by
  go_enter Try.func14, Try.ntmps14
  go_wp2_with fail
  refine (new4 _).mono ?_
  rintro e w2 ⟨rfl, hM2, hB2⟩
  have z2 := hB2.size
  generalize hh : w.heap.size = h at *
  have HH := hide hh
  clear hh
  go_wp2_with fail
  have hJ : JobsAt (w2.alloc (.cells #[.int .i64 1, .int .i64 0, .int .i64 0, .int .i64 0, .int .i64 0] 30)) (some ⟨w2.heap.size, 0, none⟩) [⟨1, 0, 0, 0, 0⟩] := JobsAt.of_rows (putAll _ _ rfl) (fun i v h => by simpa [rowsOf, Jb.row] using h)
  have hM3 := hM2.alloc (.cells #[.int .i64 1, .int .i64 0, .int .i64 0, .int .i64 0, .int .i64 0] 30)
  have hB3 := hB2.alloc z2 (.cells #[.int .i64 1, .int .i64 0, .int .i64 0, .int .i64 0, .int .i64 0] 30)
  have z3 : h ≤ (w2.alloc (.cells #[.int .i64 1, .int .i64 0, .int .i64 0, .int .i64 0, .int .i64 0] 30)).heap.size := by simp; omega
  generalize w2.alloc (.cells #[.int .i64 1, .int .i64 0, .int .i64 0, .int .i64 0, .int .i64 0] 30) = w3 at *
  refine (new_good (h + 1) h 4 _ 0 0 0 0 0 false [⟨1, 0, 0, 0, 0⟩] _ 1 w3 hM3 hJ (by simp) (by intro k j hj; match k, hj with | 0, hj => simp at hj; subst hj; exact ⟨by simp, by simp, by simp, .inl ⟨rfl, by simp⟩⟩) (by simp)).mono ?_
  rintro e w4 ⟨r, q, rfl, hr, hq, hR4, hB4⟩
  replace hR4 : Run w4 r (h + 1) h q 4 [0, 0, 0, 0] 0 [kM 0 0 false] := hR4
  have hB5 : Below h w w4 := hB3.trans (hB4.mono z3)
  have z4 : h ≤ w4.heap.size := by have := hB4.size; omega
  clear hJ hM2 hM3 hB2 hB3 hB4
  go_wp2_with fail
  refine (step_yes r (h + 1) h q 4 0 _ 0 _ _ w4 hR4 rfl rfl (by omega) (by omega) ⟨.inl rfl, by simp [kM], by simp [kM], by simp [kM], by simp [kM], by simp [kM], by simp [kM], by simp [kM], fun _ => .inl rfl, fun h => by simp [kM] at h, fun h => by simp [kM] at h⟩ (by simp [kM])).mono ?_
  rintro e w5 ⟨rfl, hR5, hF5⟩
  replace hR5 : Run w5 r (h + 1) h q 4 [1, 0, 0, 0] 1 [kM 3 0 false] := hR5
  have hB6 := hF5.belowAt hB5 (by omega) (Nat.le_refl _) (by omega) z4
  have z5 : h ≤ w5.heap.size := by have := hF5.size; omega
  have et : ((kM 0 0 false).step [0, 0, 0, 0]).1.told = .agg #[.bool false, .int .i64 0, .int .i64 0, .int .i64 0] := rfl
  rw [et]
  clear et
  go_wp2_with fail
  have hb5 := hR5.sys.blt
  have hc5 := hR5.sys.clt
  have hq5 := hR5.sys.qlt
  have x5 := cell_of (putAll (w := w5) (.cells #[.bool false, .int .i64 0, .int .i64 0, .int .i64 0] 33) w5.heap.size rfl) 0
  have y5 : w5.heap.size < (w5.alloc (.cells #[.bool false, .int .i64 0, .int .i64 0, .int .i64 0] 33)).heap.size := by simp
  have hR6 := hR5.alloc (.cells #[.bool false, .int .i64 0, .int .i64 0, .int .i64 0] 33)
  have hB7 := hB6.alloc z5 (.cells #[.bool false, .int .i64 0, .int .i64 0, .int .i64 0] 33)
  generalize w5.alloc (.cells #[.bool false, .int .i64 0, .int .i64 0, .int .i64 0] 33) = w6 at *
  simp at x5
  generalize w5.heap.size = g at *
  clear hR5 hB6 hF5 hR4 hB5
  refine (step_yes r (h + 1) h q 4 0 _ 1 _ _ w6 hR6 rfl rfl (by omega) (by omega) ⟨.inl rfl, by simp [kM], by simp [kM], by simp [kM], by simp [kM], by simp [kM], by simp [kM], by simp [kM], fun _ => .inr (.inl rfl), fun h => by simp [kM] at h, fun h => by simp [kM] at h⟩ (by simp [kM])).mono ?_
  rintro e w7 ⟨rfl, hR7, hF7⟩
  replace hR7 : Run w7 r (h + 1) h q 4 [0, 0, 0, 0] 2 [kM 5 0 true] := hR7
  have hB8 := hF7.belowAt hB7 (by omega) (Nat.le_refl _) (by omega) (by omega)
  have z7 : g < w7.heap.size := by have := hF7.size; omega
  have x7 : w7.cell? ⟨g, 0, none⟩ = some (.bool false) := (World.cell?_of_block (w := w6) (hF7.block g (by omega) (by omega) (by omega) (by omega))).trans x5
  have et : ((kM 3 0 false).step [1, 0, 0, 0]).1.told = .agg #[.bool true, .int .i64 0, .int .i64 0, .int .i64 0] := rfl
  rw [et]
  clear et x5 hR6 hB7 hF7
  go_wp2_with fail
  have x8 := cell_of (putAll (w := w7) (.cells #[.bool true, .int .i64 0, .int .i64 0, .int .i64 0] 33) w7.heap.size rfl) 0
  have y8 : w7.heap.size < (w7.alloc (.cells #[.bool true, .int .i64 0, .int .i64 0, .int .i64 0] 33)).heap.size := by simp
  have hR8 := hR7.alloc (.cells #[.bool true, .int .i64 0, .int .i64 0, .int .i64 0] 33)
  have hB9 := hB8.alloc (by omega) (.cells #[.bool true, .int .i64 0, .int .i64 0, .int .i64 0] 33)
  have x9 := (World.cell?_of_block (w := w7) (a := ⟨g, 0, none⟩) (Below.heap_alloc w7 (.cells #[.bool true, .int .i64 0, .int .i64 0, .int .i64 0] 33) g z7)).trans x7
  generalize w7.alloc (.cells #[.bool true, .int .i64 0, .int .i64 0, .int .i64 0] 33) = w8 at *
  simp at x8
  generalize w7.heap.size = g2 at *
  clear hR7 hB8 x7
  refine (step_done r (h + 1) h q 4 0 _ 2 _ _ w8 hR8 rfl rfl).mono ?_
  rintro e w9 ⟨rfl, hB10⟩
  have u0 := (hB10.cell (p := ⟨g, 0, none⟩) (by show g < _; omega)).trans x9
  have u1 := (hB10.cell (p := ⟨g2, 0, none⟩) (by show g2 < _; omega)).trans x8
  have hz := hB10.size
  have hB11 := hB9.trans (hB10.mono (by omega))
  unfold noState
  have g1 : g < w9.heap.size := by omega
  have g3 : g2 < w9.heap.size := by omega
  clear x8 x9 hB10
  go_wp2_with fail
  go_ret
  exact ⟨rfl, by rw [unhide HH]; exact hB11.alloc (by omega) _⟩
end Go.Proofs.Ytkgeapmafpeapaa
