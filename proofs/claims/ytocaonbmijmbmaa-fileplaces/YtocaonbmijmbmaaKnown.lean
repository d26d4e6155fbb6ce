/-
  The calls with named answers; some of the chapter's runs: known answers true and turns nothing that lay.
-/
import Derived.Test.YtocaonbmijmbmaaActB
namespace Go.Proofs.Ytocaonbmijmbmaa
open Go.RowKit Go.Shelf
attribute [local go_sem ↓] Go.wp_at_zero Go.wp_at_succ

theorem open_k {b n : Nat} {es : List Op} {p m k f : Int} {w : World} (h : Tb w b n es) {A E : Int} {L : List Op} (hA : openA es n p = A) (hE : roomE es n p = E) (hL : openL es n p m k f = L) :
    Calls Try.prog 8 #[.pointer (some ⟨b, 0, none⟩), I p, .agg #[I m, I k], I f] w fun e w' => e = .returned (.tuple #[I A, I E]) ∧ Tb w' b n L ∧ Fr b w w' := by
  subst hA hE hL; exact openc_any b n es p m k f w h
theorem close_k {b n : Nat} {es : List Op} {p d : Int} {w : World} (h : Tb w b n es) {m k E : Int} {L : List Op} (hm : (getV es p d).m = m) (hk : (getV es p d).n = k) (hE : findE es p d = E) (hL : closeL es p d = L) :
    Calls Try.prog 9 #[.pointer (some ⟨b, 0, none⟩), I p, I d] w fun e w' => e = .returned (.tuple #[.agg #[I m, I k], I E]) ∧ Tb w' b n L ∧ Fr b w w' := by
  subst hm hk hE hL; exact close_any b n es p d w h
theorem seek_k {b n : Nat} {es : List Op} {p d s : Int} {w : World} (h : Tb w b n es) {E : Int} {L : List Op} (hE : seekE es p d s = E) (hL : seekL es p d s = L) :
    Calls Try.prog 10 #[.pointer (some ⟨b, 0, none⟩), I p, I d, I s] w fun e w' => e = .returned (I E) ∧ Tb w' b n L ∧ Fr b w w' := by
  subst hE hL; exact seek_any b n es p d s w h
theorem get_k {b n : Nat} {es : List Op} {p d : Int} {w : World} (h : Tb w b n es) {m k f s E : Int} (hm : (getV es p d).m = m) (hk : (getV es p d).n = k) (hf : (getV es p d).f = f) (hs : (getV es p d).s = s) (hE : findE es p d = E) :
    Calls Try.prog 11 #[.pointer (some ⟨b, 0, none⟩), I p, I d] w fun e w' => e = .returned (.tuple #[.agg #[I m, I k, I f, I s], I E]) ∧ Below w.heap.size w w' := by
  subst hm hk hf hs hE; exact get_any b n es p d w h
theorem in_k {b n : Nat} {es : List Op} {m : Int} {w : World} (h : Tb w b n es) {c : Nat} (hc : es.countP (isMt m) = c) :
    Calls Try.prog 13 #[.pointer (some ⟨b, 0, none⟩), I m] w fun e w' => e = .returned (I c) ∧ Below w.heap.size w w' := by
  subst hc; exact in_any b n es m w h

/-- A file in a variable's block. -/
theorem var4 (w : World) (a b c d : Int) (t : TypeId) : ∃ V, w.alloc (.cells #[I a, I b, I c, I d] t) = V ∧ V.heap[w.heap.size]? = some (.cells #[I a, I b, I c, I d] t) ∧ Below w.heap.size w V ∧ V.heap.size = w.heap.size + 1 :=
  ⟨_, rfl, putAll (w := w) (.cells #[I a, I b, I c, I d] t) w.heap.size rfl, (Below.refl _ _).alloc (Nat.le_refl _) _, by simp⟩

set_option maxRecDepth 100000 in
set_option maxHeartbeats 1000000 in
theorem known_true (w : World) : Calls Try.prog 14 #[] w fun e w' => e = .returned (.bool true) ∧ Below w.heap.size w w' := by
  go_enter Try.func14, Try.ntmps14
  go_wp2_with fail
  refine (new_good 64 (by omega) (by omega) w).mono ?_
  rintro e w0 ⟨rfl, hT0, hB⟩
  have hb : w.heap.size ≤ w.heap.size := Nat.le_refl _
  generalize hbb : w.heap.size = b at *
  have hs0 := hB.size
  rw [hbb] at hs0
  go_wp2_with fail
  refine (open_k (p := 0) (m := 0) (k := 0) (f := 1) hT0 (A := 0) (E := 0) (L := [⟨0, 0, 0, 0, 1, 0⟩]) (by decide +kernel) (by decide +kernel) (by decide +kernel)).mono ?_
  rintro e w1 ⟨rfl, hT1, hF1⟩
  replace hB := hB.trans (hF1.below hb hs0)
  have hs1 : b ≤ w1.heap.size := Nat.le_trans hs0 hF1.size
  clear hs0 hT0 hF1
  go_wp2_with fail
  refine (open_k (p := 0) (m := 0) (k := 0) (f := 1) hT1 (A := 1) (E := 0) (L := [⟨0, 0, 0, 0, 1, 0⟩, ⟨0, 1, 0, 0, 1, 0⟩]) (by decide +kernel) (by decide +kernel) (by decide +kernel)).mono ?_
  rintro e w2 ⟨rfl, hT2, hF2⟩
  replace hB := hB.trans (hF2.below hb hs1)
  have hs2 : b ≤ w2.heap.size := Nat.le_trans hs1 hF2.size
  clear hs1 hT1 hF2
  go_wp2_with fail
  refine (close_k (p := 0) (d := 0) hT2 (m := 0) (k := 0) (E := 0) (L := [⟨0, 1, 0, 0, 1, 0⟩]) (by decide +kernel) (by decide +kernel) (by decide +kernel) (by decide +kernel)).mono ?_
  rintro e w3 ⟨rfl, hT3, hF3⟩
  replace hB := hB.trans (hF3.below hb hs2)
  have hs3 : b ≤ w3.heap.size := Nat.le_trans hs2 hF3.size
  clear hs2 hT2 hF3
  go_wp2_with fail
  refine (open_k (p := 0) (m := 0) (k := 5) (f := 3) hT3 (A := 0) (E := 0) (L := [⟨0, 1, 0, 0, 1, 0⟩, ⟨0, 0, 0, 5, 3, 0⟩]) (by decide +kernel) (by decide +kernel) (by decide +kernel)).mono ?_
  rintro e w4 ⟨rfl, hT4, hF4⟩
  replace hB := hB.trans (hF4.below hb hs3)
  have hs4 : b ≤ w4.heap.size := Nat.le_trans hs3 hF4.size
  clear hs3 hT3 hF4
  go_wp2_with fail
  refine (get_k (p := 0) (d := 0) hT4 (m := 0) (k := 5) (f := 3) (s := 0) (E := 0) (by decide +kernel) (by decide +kernel) (by decide +kernel) (by decide +kernel) (by decide +kernel)).mono ?_
  rintro e w5 ⟨rfl, hB5⟩
  replace hB := hB.trans (hB5.mono hs4)
  have hs5 : b ≤ w5.heap.size := Nat.le_trans hs4 hB5.size
  obtain ⟨w6, h6, g6, hB6, hz6⟩ := var4 w5 0 5 3 0 34
  obtain ⟨x0, x1, x2, x3⟩ := cells4 g6
  have xf := frozen_of g6
  replace hB := hB.trans (hB6.mono hs5)
  have HB := hide hB
  clear hs4 hT4 hB5 hB6 g6 hB
  go_wp2_with fail
  go_ret
  exact ⟨rfl, by rw [hbb]; exact (unhide HB).setCell (p := ⟨w5.heap.size, 3, none⟩) hs5 _⟩
end Go.Proofs.Ytocaonbmijmbmaa
