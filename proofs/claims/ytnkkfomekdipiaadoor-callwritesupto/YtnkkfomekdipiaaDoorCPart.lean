/-
  The parts of a line: numbers, texts.
-/
import Derived.Test.YtnkkfomekdipiaaDoorCPlain
import Derived.Test.YtnkkfomekdipiaaDoorCDec
import Derived.Test.YtnkkfomekdipiaaDoorShelf
namespace Go.Proofs.YtnkkfomekdipiaaDoor.Cl
open Go.RowKit
attribute [local go_sem ↓] Go.wp_at_zero Go.wp_at_succ

/-- The table of powers lies below B. -/
abbrev Tab (B : Nat) (w : World) : Prop := Lib.TabBelow Tryd.prog B w "internal/strconv.uint64pow10" .u64 Lib.pow10Tab
theorem appInt_any (B : Nat) (i : Int) (h0 : -9223372036854775808 ≤ i) (h1 : i ≤ 9223372036854775807) (w : World) (hb : B ≤ w.heap.size) (ht : Tab B w) :
    Calls Tryd.prog 52 #[.slice none 0 0, I i, I 10] w fun e w' => ∃ v', e = .returned v' ∧ Bw w' B v' (Lib.itoa i) ∧ Kp B w w' := by
  refine (Any.strconv_AppendInt_10 Tryd.lays176 B 0 i h0 h1 (.slice none 0 0) [] w (World.ownsRow_nil _ _ _ _) hb (by omega) ht).mono ?_
  rintro e w' ⟨v', rfl, h1, h2, h3⟩
  have h4 : w'.ownsRow B 5 1 v' (0 + (Lib.itoa i).length) ([] ++ Lib.byteCells (Lib.itoa i)) := h1
  exact ⟨v', rfl, Bw.of (n := 0 + (Lib.itoa i).length) h4 (by simp), h2, h3⟩

theorem store3 {W : World} {b : Nat} {t : TypeId} {a0 a1 a2 : Value} (h : W.heap[b]? = some (.cells #[a0, a1, a2] t)) (v0 v1 v2 : Value) :
    ∃ X1 X2 X3 : World, (W.setCell ⟨b, 0, none⟩ v0 = X1 ∧ X1.setCell ⟨b, 1, none⟩ v1 = X2 ∧ X2.setCell ⟨b, 2, none⟩ v2 = X3) ∧
      (W.cell? ⟨b, 0, none⟩ = some a0 ∧ X1.cell? ⟨b, 1, none⟩ = some a1 ∧ X2.cell? ⟨b, 2, none⟩ = some a2) ∧
      (W.frozen? ⟨b, 0, none⟩ = false ∧ X1.frozen? ⟨b, 1, none⟩ = false ∧ X2.frozen? ⟨b, 2, none⟩ = false) ∧
      X3.heap[b]? = some (.cells #[v0, v1, v2] t) ∧ Gr b W X3 := by
  obtain ⟨X1, e1⟩ : ∃ X, W.setCell ⟨b, 0, none⟩ v0 = X := ⟨_, rfl⟩
  have h1 : X1.heap[b]? = some (.cells #[v0, a1, a2] t) := by rw [← e1, heap_set h]; rfl
  have g1 : Gr b W X1 := e1 ▸ Gr.set b 0 W v0
  obtain ⟨X2, e2⟩ : ∃ X, X1.setCell ⟨b, 1, none⟩ v1 = X := ⟨_, rfl⟩
  have h2 : X2.heap[b]? = some (.cells #[v0, v1, a2] t) := by rw [← e2, heap_set h1]; rfl
  have g2 : Gr b X1 X2 := e2 ▸ Gr.set b 1 X1 v1
  obtain ⟨X3, e3⟩ : ∃ X, X2.setCell ⟨b, 2, none⟩ v2 = X := ⟨_, rfl⟩
  have h3 : X3.heap[b]? = some (.cells #[v0, v1, v2] t) := by rw [← e3, heap_set h2]; rfl
  have g3 : Gr b X2 X3 := e3 ▸ Gr.set b 2 X2 v2
  refine ⟨X1, X2, X3, ⟨e1, e2, e3⟩, ⟨?_, ?_, ?_⟩, ⟨frozen_of h _, frozen_of h1 _, frozen_of h2 _⟩, h3, (g1.trans g2).trans g3⟩
  · rw [cell_of h]; rfl
  · rw [cell_of h1]; rfl
  · rw [cell_of h2]; rfl
/-- What a store into one block that is no row of bytes leaves alone, told from B on. -/
theorem Kp.gr {B b : Nat} {u v w : World} (h : Kp B u v) (hu : B ≤ u.heap.size) (g : Gr b v w) (hb : u.heap.size ≤ b) : Kp B u w := by
  refine ⟨h.be.trans (g.below (by omega) (Nat.le_trans hu h.be.size)), fun k o hk hn ho => ?_⟩
  exact g.keep (h.ok k o hk hn ho) (by have := lt_of_heap hk; omega)
abbrev P0 : Array Value := #[.bool false, S [], .slice none 0 0]

set_option maxRecDepth 100000 in
set_option maxHeartbeats 1000000 in
theorem numP_any (B : Nat) (wd : List UInt8) (n : Int) (h0 : -9223372036854775808 ≤ n) (h1 : n ≤ 9223372036854775807) (w : World) (hb : B ≤ w.heap.size) (ht : Tab B w) :
    Calls Tryd.prog 34 #[S wd, I n] w fun e w' => ∃ v, e = .returned (.agg #[.bool (n != 0), S wd, v]) ∧ Bw w' B v (Lib.itoa n) ∧ Kp B w w' := by
  obtain ⟨V, hV, hs, g0, hB⟩ := alloc1 w (.cells P0 71)
  have HA := hide (appInt_any B n h0 h1 V (by omega) (ht.on (hB.mono hb)))
  obtain ⟨says, hsays⟩ : ∃ x, (n != 0) = x := ⟨_, rfl⟩
  rw [hsays]
  go_enter Tryd.func34, Tryd.ntmps34
  go_wp2_with fail
  refine (unhide HA).mono ?_
  rintro e W1 ⟨v1, rfl, r1, k1⟩
  obtain ⟨a1, n1, c1, rfl⟩ := r1.sl
  have g1 := k1.keep g0 (by decide)
  obtain ⟨X1, X2, X3, ⟨e1, e2, e3⟩, ⟨s1, s2, s3⟩, ⟨f1, f2, f3⟩, gX, grX⟩ := store3 g1 (.bool says) (S wd) (.slice a1 n1 c1)
  have z0 : X3.cell? ⟨w.heap.size, 0, none⟩ = some (.bool says) := by rw [cell_of gX]; rfl
  have z1 : X3.cell? ⟨w.heap.size, 1, none⟩ = some (S wd) := by rw [cell_of gX]; rfl
  have z2 : X3.cell? ⟨w.heap.size, 2, none⟩ = some (.slice a1 n1 c1) := by rw [cell_of gX]; rfl
  have HK := hide (show Kp B w X3 from ((Kp.of_below hB hb).trans k1).gr hb grX (Nat.le_refl _))
  have HR := hide (r1.gr grX g1 (by decide))
  clear r1 k1 g1 gX grX g0 hB hV HA hs ht
  go_wp2_with fail
  exact bodyPost_ret (v := .agg #[.bool says, S wd, .slice a1 n1 c1]) (by simp [results, Tryd.results34, go_sem, z0, z1, z2]) rfl ⟨_, rfl, unhide HR, unhide HK⟩
set_option maxRecDepth 100000 in
set_option maxHeartbeats 1000000 in
theorem textS_any (B : Nat) (wd t : List UInt8) (hl : 3 * t.length ≤ 140737488355000) (w : World) (hb : B ≤ w.heap.size) :
    Calls Tryd.prog 33 #[S wd, S t] w fun e w' => ∃ v, e = .returned (.agg #[.bool (decide (0 < t.length)), S wd, v]) ∧ Bw w' B v (plain t) ∧ Kp B w w' := by
  obtain ⟨V, hV, hs, g0, hB⟩ := alloc1 w (.cells P0 71)
  have HA := hide (plainS_any B (.slice none 0 0) [] t V (Bw.nil _ _) (by omega) (by simpa using hl))
  obtain ⟨says, hsays⟩ : ∃ x, (decide (0 < t.length)) = x := ⟨_, rfl⟩
  rw [hsays]
  have hj : (says = true ∧ (0 : Int) < (t.length : Int) ∧ 0 < t.length) ∨ (says = false ∧ ((0 : Int) < (t.length : Int)) = False ∧ (0 < t.length) = False) := by
    by_cases h : 0 < t.length
    · left; exact ⟨by rw [← hsays]; simpa using h, by omega, h⟩
    · right; exact ⟨by rw [← hsays]; simpa using h, eq_false (by omega), eq_false h⟩
  clear hsays
  rcases hj with ⟨rfl, j, j'⟩ | ⟨rfl, j, j'⟩
  · go_enter Tryd.func33, Tryd.ntmps33
    go_wp2_with fail
    refine (unhide HA).mono ?_
    rintro e W1 ⟨v1, rfl, r1, k1⟩
    obtain ⟨a1, n1, c1, rfl⟩ := r1.sl
    have g1 := k1.keep g0 (by decide)
    obtain ⟨X1, X2, X3, ⟨e1, e2, e3⟩, ⟨s1, s2, s3⟩, ⟨f1, f2, f3⟩, gX, grX⟩ := store3 g1 (.bool true) (S wd) (.slice a1 n1 c1)
    have z0 : X3.cell? ⟨w.heap.size, 0, none⟩ = some (.bool true) := by rw [cell_of gX]; rfl
    have z1 : X3.cell? ⟨w.heap.size, 1, none⟩ = some (S wd) := by rw [cell_of gX]; rfl
    have z2 : X3.cell? ⟨w.heap.size, 2, none⟩ = some (.slice a1 n1 c1) := by rw [cell_of gX]; rfl
    have HK := hide (show Kp B w X3 from ((Kp.of_below hB hb).trans k1).gr hb grX (Nat.le_refl _))
    have HR := hide (r1.gr grX g1 (by decide))
    clear r1 k1 g1 gX grX g0 hB hV HA hs
    go_wp2_with fail
    exact bodyPost_ret (v := .agg #[.bool true, S wd, .slice a1 n1 c1]) (by simp [results, Tryd.results33, go_sem, z0, z1, z2]) rfl ⟨_, rfl, by simpa using unhide HR, unhide HK⟩
  · go_enter Tryd.func33, Tryd.ntmps33
    go_wp2_with fail
    refine (unhide HA).mono ?_
    rintro e W1 ⟨v1, rfl, r1, k1⟩
    obtain ⟨a1, n1, c1, rfl⟩ := r1.sl
    have g1 := k1.keep g0 (by decide)
    obtain ⟨X1, X2, X3, ⟨e1, e2, e3⟩, ⟨s1, s2, s3⟩, ⟨f1, f2, f3⟩, gX, grX⟩ := store3 g1 (.bool false) (S wd) (.slice a1 n1 c1)
    have z0 : X3.cell? ⟨w.heap.size, 0, none⟩ = some (.bool false) := by rw [cell_of gX]; rfl
    have z1 : X3.cell? ⟨w.heap.size, 1, none⟩ = some (S wd) := by rw [cell_of gX]; rfl
    have z2 : X3.cell? ⟨w.heap.size, 2, none⟩ = some (.slice a1 n1 c1) := by rw [cell_of gX]; rfl
    have HK := hide (show Kp B w X3 from ((Kp.of_below hB hb).trans k1).gr hb grX (Nat.le_refl _))
    have HR := hide (r1.gr grX g1 (by decide))
    clear r1 k1 g1 gX grX g0 hB hV HA hs
    go_wp2_with fail
    exact bodyPost_ret (v := .agg #[.bool false, S wd, .slice a1 n1 c1]) (by simp [results, Tryd.results33, go_sem, z0, z1, z2]) rfl ⟨_, rfl, by simpa using unhide HR, unhide HK⟩
set_option maxRecDepth 100000 in
set_option maxHeartbeats 1000000 in
theorem textB_any (B : Nat) (wd t : List UInt8) (a : Option Addr) (m cap : Nat) (hm : m = t.length) (hl : 3 * t.length ≤ 140737488355000) (w : World) (hb : B ≤ w.heap.size) (hby : By w B a t) :
    Calls Tryd.prog 35 #[S wd, .slice a m cap] w fun e w' => ∃ v, e = .returned (.agg #[.bool (decide (0 < t.length)), S wd, v]) ∧ Bw w' B v (plain t) ∧ Kp B w w' := by
  subst hm
  obtain ⟨V, hV, hs, g0, hB⟩ := alloc1 w (.cells P0 71)
  have HA := hide (plainB_any B (.slice none 0 0) [] t a _ cap rfl V (Bw.nil _ _) (by omega) (hby.below (hB.mono hb)) (by simpa using hl))
  obtain ⟨says, hsays⟩ : ∃ x, (decide (0 < t.length)) = x := ⟨_, rfl⟩
  rw [hsays]
  have hj : (says = true ∧ (0 : Int) < (t.length : Int) ∧ 0 < t.length) ∨ (says = false ∧ ((0 : Int) < (t.length : Int)) = False ∧ (0 < t.length) = False) := by
    by_cases h : 0 < t.length
    · left; exact ⟨by rw [← hsays]; simpa using h, by omega, h⟩
    · right; exact ⟨by rw [← hsays]; simpa using h, eq_false (by omega), eq_false h⟩
  clear hsays
  rcases hj with ⟨rfl, j, j'⟩ | ⟨rfl, j, j'⟩
  · go_enter Tryd.func35, Tryd.ntmps35
    go_wp2_with fail
    refine (unhide HA).mono ?_
    rintro e W1 ⟨v1, rfl, r1, k1⟩
    obtain ⟨a1, n1, c1, rfl⟩ := r1.sl
    have g1 := k1.keep g0 (by decide)
    obtain ⟨X1, X2, X3, ⟨e1, e2, e3⟩, ⟨s1, s2, s3⟩, ⟨f1, f2, f3⟩, gX, grX⟩ := store3 g1 (.bool true) (S wd) (.slice a1 n1 c1)
    have z0 : X3.cell? ⟨w.heap.size, 0, none⟩ = some (.bool true) := by rw [cell_of gX]; rfl
    have z1 : X3.cell? ⟨w.heap.size, 1, none⟩ = some (S wd) := by rw [cell_of gX]; rfl
    have z2 : X3.cell? ⟨w.heap.size, 2, none⟩ = some (.slice a1 n1 c1) := by rw [cell_of gX]; rfl
    have HK := hide (show Kp B w X3 from ((Kp.of_below hB hb).trans k1).gr hb grX (Nat.le_refl _))
    have HR := hide (r1.gr grX g1 (by decide))
    clear r1 k1 g1 gX grX g0 hB hV HA hs hby
    go_wp2_with fail
    exact bodyPost_ret (v := .agg #[.bool true, S wd, .slice a1 n1 c1]) (by simp [results, Tryd.results35, go_sem, z0, z1, z2]) rfl ⟨_, rfl, by simpa using unhide HR, unhide HK⟩
  · go_enter Tryd.func35, Tryd.ntmps35
    go_wp2_with fail
    refine (unhide HA).mono ?_
    rintro e W1 ⟨v1, rfl, r1, k1⟩
    obtain ⟨a1, n1, c1, rfl⟩ := r1.sl
    have g1 := k1.keep g0 (by decide)
    obtain ⟨X1, X2, X3, ⟨e1, e2, e3⟩, ⟨s1, s2, s3⟩, ⟨f1, f2, f3⟩, gX, grX⟩ := store3 g1 (.bool false) (S wd) (.slice a1 n1 c1)
    have z0 : X3.cell? ⟨w.heap.size, 0, none⟩ = some (.bool false) := by rw [cell_of gX]; rfl
    have z1 : X3.cell? ⟨w.heap.size, 1, none⟩ = some (S wd) := by rw [cell_of gX]; rfl
    have z2 : X3.cell? ⟨w.heap.size, 2, none⟩ = some (.slice a1 n1 c1) := by rw [cell_of gX]; rfl
    have HK := hide (show Kp B w X3 from ((Kp.of_below hB hb).trans k1).gr hb grX (Nat.le_refl _))
    have HR := hide (r1.gr grX g1 (by decide))
    clear r1 k1 g1 gX grX g0 hB hV HA hs hby
    go_wp2_with fail
    exact bodyPost_ret (v := .agg #[.bool false, S wd, .slice a1 n1 c1]) (by simp [results, Tryd.results35, go_sem, z0, z1, z2]) rfl ⟨_, rfl, by simpa using unhide HR, unhide HK⟩
end Go.Proofs.YtnkkfomekdipiaaDoor.Cl
