/-
  The part of a line that tells names.
-/
import Derived.Test.YtnkkfomekdipiaaDoorCPart
namespace Go.Proofs.YtnkkfomekdipiaaDoor.Cl
open Go.RowKit
attribute [local go_sem ↓] Go.wp_at_zero Go.wp_at_succ

/-- Texts that lie below a block's number. -/
def Ns (W : World) (B : Nat) (a : Option Addr) (ns : List (List UInt8)) : Prop := ∀ (k : Nat) (t : List UInt8), ns[k]? = some t → ∃ b off, a = some ⟨b, off, none⟩ ∧ b < B ∧ W.cell? ⟨b, off + k, none⟩ = some (S t)
theorem Ns.below {W W' : World} {B : Nat} {a : Option Addr} {ns : List (List UInt8)} (h : Ns W B a ns) (g : Below B W W') : Ns W' B a ns := fun k c hk => by
  obtain ⟨b, off, h1, h2, h3⟩ := h k c hk
  exact ⟨b, off, h1, h2, (World.cell?_of_block (g.block b h2)).trans h3⟩
theorem Ns.mono {W : World} {B B' : Nat} {a : Option Addr} {ns : List (List UInt8)} (h : Ns W B a ns) (g : B ≤ B') : Ns W B' a ns := fun k c hk => by
  obtain ⟨b, off, h1, h2, h3⟩ := h k c hk
  exact ⟨b, off, h1, Nat.lt_of_lt_of_le h2 g, h3⟩
theorem Ns.nil (W : World) (B : Nat) (a : Option Addr) : Ns W B a [] := fun k c h => by simp at h
/-- What is told behind so many names. -/
def namA : List UInt8 → Nat → List (List UInt8) → List UInt8
  | b, _, [] => b
  | b, i, x :: xs => namA ((if 0 < i then b ++ [44] else b) ++ plain x) (i + 1) xs
def nam (ns : List (List UInt8)) : List UInt8 := namA [] 0 ns
/-- How long it is at most. -/
def namL : List (List UInt8) → Nat
  | [] => 0
  | x :: xs => 3 * x.length + 1 + namL xs

set_option maxRecDepth 100000 in
set_option maxHeartbeats 1000000 in
theorem namesP_any (B : Nat) (wd : List UInt8) (ns : List (List UInt8)) (a : Option Addr) (m cap : Nat) (hm : m = ns.length) (hl : namL ns ≤ 140737488350000) (w : World) (hb : B ≤ w.heap.size) (hns : Ns w B a ns) :
    Calls Tryd.prog 37 #[S wd, .slice a m cap] w fun e w' => ∃ v, e = .returned (.agg #[.bool (decide (0 < ns.length)), S wd, v]) ∧ Bw w' B v (nam ns) ∧ Kp B w w' := by
  subst hm
  have hlen : ns.length ≤ namL ns := by
    clear hns hl
    induction ns with
    | nil => simp [namL]
    | cons x xs ih => simp [namL]; omega
  obtain ⟨V, hV, hs, g0, hB⟩ := alloc1 w (.cells P0 71)
  obtain ⟨says, hsays⟩ : ∃ x, decide (0 < ns.length) = x := ⟨_, rfl⟩
  rw [hsays]
  have hj : (says = true ∧ (0 : Int) < (ns.length : Int) ∧ 0 < ns.length) ∨ (says = false ∧ ((0 : Int) < (ns.length : Int)) = False ∧ (0 < ns.length) = False) := by
    by_cases h : 0 < ns.length
    · left; exact ⟨by rw [← hsays]; simpa using h, by omega, h⟩
    · right; exact ⟨by rw [← hsays]; simpa using h, eq_false (by omega), eq_false h⟩
  replace hj := hide hj
  clear hsays
  have HN := hide hns
  clear hns
  go_enter Tryd.func37, Tryd.ntmps37
  go_wp2_with fail
  go_loopw [5, 10] (fun v i wr => ∃ (k : Nat) (v' : Value) (l : List UInt8), k ≤ ns.length ∧ i = .int .i64 k ∧ v = v' ∧ Bw wr B v' l ∧ l.length + namL (ns.drop k) ≤ 140737488350000 ∧ namA l k (ns.drop k) = nam ns ∧ wr.heap[w.heap.size]? = some (.cells P0 71) ∧ Kp B w wr) (fun _ i _ => ns.length - (intOf i).toNat)
  case atStart => exact ⟨0, _, [], Nat.zero_le _, rfl, rfl, Bw.nil _ _, by simpa using hl, rfl, g0, Kp.of_below hB hb⟩
  case round =>
    obtain ⟨k, v', l, hk, rfl, rfl, hw, hll, hnm, hg, hK⟩ := hrel
    obtain ⟨av, nv, cv, rfl⟩ := hw.sl
    by_cases hkt : k < ns.length
    · have j1 : (k : Int) < (ns.length : Int) := by omega
      have j0 : (0 : Int) ≤ (k : Int) := by omega
      have j2 : (k : Int) < 4611686018427387904 := by omega
      have hbw : B ≤ wr.heap.size := Nat.le_trans hb hK.be.size
      obtain ⟨x, hx0⟩ : ∃ x, x = ns[k] := ⟨_, rfl⟩
      have hdr : ns.drop k = x :: ns.drop (k + 1) := by rw [hx0]; exact List.drop_eq_getElem_cons hkt
      rw [hdr] at hll hnm
      simp only [namL] at hll
      simp only [namA] at hnm
      obtain ⟨ab, ao, rfl, -, hcell⟩ := ((unhide HN).below hK.be) k x (by rw [hx0]; exact List.getElem?_eq_getElem hkt)
      by_cases hk0 : 0 < k
      · have q1 : (0 : Int) < (k : Int) := by omega
        rw [if_pos hk0] at hnm
        obtain ⟨v2, W2, hrun, hw2, hK2⟩ := hw.new hbw 22 [44] 1 rfl #[.int .u8 44] rfl (by simp; omega)
        obtain ⟨a2, n2, c2, rfl⟩ := hw2.sl
        have HP := hide (plainS_any B (.slice a2 n2 c2) (l ++ [44]) x W2 hw2 (Nat.le_trans hbw hK2.be.size) (by simp; omega))
        have HX := hide (⟨hll, hnm, hK2.keep hg (by decide), hK.trans hK2⟩ : _ ∧ _ ∧ _ ∧ _)
        clear hw hw2 hll hnm hK hK2 hbw hdr hx0 hg g0 hB hV hs
        go_wp2_with (at_builtin; refine wpList_app rfl _ _ 22 22 rfl 22 rfl _ _ (by rfl) (by rfl) _ _ hrun ?_)
        refine (unhide HP).mono ?_
        rintro e W3 ⟨v3, rfl, r3, k3⟩
        obtain ⟨a3, n3, c3, rfl⟩ := r3.sl
        obtain ⟨hll, hnm, hg, hK⟩ := unhide HX
        have HY := hide (⟨r3, hll, hnm, k3.keep hg (by decide), hK.trans k3, plain_len x⟩ : _ ∧ _ ∧ _ ∧ _ ∧ _ ∧ _)
        clear r3 k3 HX HP hll hnm hg hK hrun
        go_wp2_with fail
        obtain ⟨r3, hll, hnm, hg, hK, hp⟩ := unhide HY
        exact ⟨⟨k + 1, _, _, by omega, by go_num, rfl, r3, by simp at hp ⊢; omega, hnm, hg, hK⟩, by simp [intOf]; omega⟩
      · have q1 : ((0 : Int) < (k : Int)) = False := eq_false (by omega)
        have q2 : (0 < k) = False := eq_false hk0
        rw [if_neg hk0] at hnm
        have HP := hide (plainS_any B (.slice av nv cv) l x wr hw hbw (by omega))
        have HX := hide (⟨hll, hnm, hg, hK⟩ : _ ∧ _ ∧ _ ∧ _)
        clear hw hll hnm hK hbw hdr hx0 hg g0 hB hV hs
        go_wp2_with fail
        refine (unhide HP).mono ?_
        rintro e W3 ⟨v3, rfl, r3, k3⟩
        obtain ⟨a3, n3, c3, rfl⟩ := r3.sl
        obtain ⟨hll, hnm, hg, hK⟩ := unhide HX
        have HY := hide (⟨r3, hll, hnm, k3.keep hg (by decide), hK.trans k3, plain_len x⟩ : _ ∧ _ ∧ _ ∧ _ ∧ _ ∧ _)
        clear r3 k3 HX HP hll hnm hg hK
        go_wp2_with fail
        obtain ⟨r3, hll, hnm, hg, hK, hp⟩ := unhide HY
        exact ⟨⟨k + 1, _, _, by omega, by go_num, rfl, r3, by simp at hp ⊢; omega, hnm, hg, hK⟩, by simp [intOf]; omega⟩
    · obtain rfl : k = ns.length := by omega
      rw [List.drop_length] at hnm
      simp only [namA] at hnm
      subst hnm
      rcases unhide hj with ⟨rfl, j, j'⟩ | ⟨rfl, j, j'⟩
      · obtain ⟨X1, X2, X3, ⟨e1, e2, e3⟩, ⟨s1, s2, s3⟩, ⟨f1, f2, f3⟩, gX, grX⟩ := store3 hg (.bool true) (S wd) (.slice av nv cv)
        have z0 : X3.cell? ⟨w.heap.size, 0, none⟩ = some (.bool true) := by rw [cell_of gX]; rfl
        have z1 : X3.cell? ⟨w.heap.size, 1, none⟩ = some (S wd) := by rw [cell_of gX]; rfl
        have z2 : X3.cell? ⟨w.heap.size, 2, none⟩ = some (.slice av nv cv) := by rw [cell_of gX]; rfl
        have HK := hide (hK.gr hb grX (Nat.le_refl _))
        have HR := hide (hw.gr grX hg (by decide))
        clear hw hK hg gX grX g0 hB hV hs hll hj HN
        go_wp2_with fail
        exact bodyPost_ret (v := .agg #[.bool true, S wd, .slice av nv cv]) (by simp [results, Tryd.results37, go_sem, z0, z1, z2]) rfl ⟨_, rfl, unhide HR, unhide HK⟩
      · obtain ⟨X1, X2, X3, ⟨e1, e2, e3⟩, ⟨s1, s2, s3⟩, ⟨f1, f2, f3⟩, gX, grX⟩ := store3 hg (.bool false) (S wd) (.slice av nv cv)
        have z0 : X3.cell? ⟨w.heap.size, 0, none⟩ = some (.bool false) := by rw [cell_of gX]; rfl
        have z1 : X3.cell? ⟨w.heap.size, 1, none⟩ = some (S wd) := by rw [cell_of gX]; rfl
        have z2 : X3.cell? ⟨w.heap.size, 2, none⟩ = some (.slice av nv cv) := by rw [cell_of gX]; rfl
        have HK := hide (hK.gr hb grX (Nat.le_refl _))
        have HR := hide (hw.gr grX hg (by decide))
        clear hw hK hg gX grX g0 hB hV hs hll hj HN
        go_wp2_with fail
        exact bodyPost_ret (v := .agg #[.bool false, S wd, .slice av nv cv]) (by simp [results, Tryd.results37, go_sem, z0, z1, z2]) rfl ⟨_, rfl, unhide HR, unhide HK⟩
end Go.Proofs.YtnkkfomekdipiaaDoor.Cl
