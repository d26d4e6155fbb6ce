/-
  The contract of Encode.
-/
import Derived.Test.YtcopjhidijhlaaaSG
import Derived.Test.YtcopjhidijhlaaaSB
namespace Go.Proofs.Ytcopjhidijhlaaa.Cl
open Go.RowKit
attribute [local go_sem ↓] Go.wp_at_zero Go.wp_at_succ

/-- Why a list can't be written; its bytes. -/
def encR (l : List It) : Int := if 1024 < l.length then 4 else whys l
def eb (l : List It) : List UInt8 := if encR l = 0 then encs l else []
theorem eb_no {l : List It} (h : encR l ≠ 0) : eb l = [] := by unfold eb; rw [if_neg h]
theorem eb_yes {l : List It} (h : encR l = 0) : eb l = encs l := by unfold eb; rw [if_pos h]
theorem Ips.at' {W : World} {B g off : Nat} {ps : List Ip} (h : Ips W B (some ⟨g, off, none⟩) ps) {k : Nat} {p : Ip} (hk : ps[k]? = some p) : (∀ j v, (p.1.cs p.2)[j]? = some v → W.cell? ⟨g, off + k * 12 + j, none⟩ = some v) ∧ Du W B p := by
  obtain ⟨g', off', e, -, h3, h4⟩ := h k p hk
  simp at e
  obtain ⟨rfl, rfl⟩ := e
  exact ⟨h3, h4⟩
theorem row12 {W : World} {g o : Nat} {x : It} {d : Value} (h : ∀ j v, (x.cs d)[j]? = some v → W.cell? ⟨g, o + j, none⟩ = some v) :
    W.cell? ⟨g, o, none⟩ = some (I x.kind) ∧ W.cell? ⟨g, o + 1, none⟩ = some (I x.thread) ∧ W.cell? ⟨g, o + 2, none⟩ = some (I x.n) ∧ W.cell? ⟨g, o + 3, none⟩ = some (I x.c.op) ∧ W.cell? ⟨g, o + 4, none⟩ = some (S x.c.path) ∧ W.cell? ⟨g, o + 5, none⟩ = some (S x.c.dst) ∧ W.cell? ⟨g, o + 6, none⟩ = some (I x.c.fd) ∧ W.cell? ⟨g, o + 7, none⟩ = some (I x.c.fl) ∧ W.cell? ⟨g, o + 8, none⟩ = some (I x.c.mo) ∧ W.cell? ⟨g, o + 9, none⟩ = some (I x.c.n) ∧ W.cell? ⟨g, o + 10, none⟩ = some (I x.c.m) ∧ W.cell? ⟨g, o + 11, none⟩ = some d :=
  ⟨h 0 _ rfl, h 1 _ rfl, h 2 _ rfl, h 3 _ rfl, h 4 _ rfl, h 5 _ rfl, h 6 _ rfl, h 7 _ rfl, h 8 _ rfl, h 9 _ rfl, h 10 _ rfl, h 11 _ rfl⟩
abbrev fsts (ps : List Ip) : List It := ps.map (·.1)
theorem fsts_get {ps : List Ip} {k : Nat} {p : Ip} (h : ps[k]? = some p) : (fsts ps)[k]? = some p.1 := by simp [fsts, h]
set_option maxRecDepth 100000 in
set_option maxHeartbeats 4000000 in
theorem sencode_any (ps : List Ip) (a : Option Addr) (n cap : Nat) (hn : n = ps.length) (w : World) (hI : Ips w w.heap.size a ps) :
    Calls Try.prog 9 #[.slice a n cap] w fun e w' => ∃ v, e = .returned (.tuple #[v, I (encR (fsts ps))]) ∧ Bw w' w.heap.size v (eb (fsts ps)) ∧ Below w.heap.size w w' := by
  have hln : (fsts ps).length = n := by simp [hn]
  by_cases h0 : 1024 < n
  · have hR : encR (fsts ps) = 4 := by unfold encR; rw [if_pos (by omega)]
    rw [hR, eb_no (by rw [hR]; decide)]
    have h1 : (1024 : Int) < (n : Int) := by omega
    clear hn hI
    go_enter Try.func9, Try.ntmps9
    go_wp2_with fail
    go_ret2
    exact ⟨_, rfl, Bw.nil _ _, Below.refl _ _⟩
  · have hR : encR (fsts ps) = whys (fsts ps) := by unfold encR; rw [if_neg (by omega)]
    have h1 : ¬ (1024 : Int) < (n : Int) := by omega
    have HR := hide hR
    have HI := hide hI
    have HN := hide hn
    have HL := hide hln
    have H0 := hide h0
    clear hI hn hR hln h0
    go_enter Try.func9, Try.ntmps9
    go_wp2_with fail
    go_loopw [4, 13] (fun v i wr => ∃ (k : Nat) (v' : Value), k ≤ n ∧ i = .int .i64 k ∧ v' = v ∧ Bw wr w.heap.size v' (encs ((fsts ps).take k)) ∧ Kp w.heap.size w wr ∧ ∀ j y, j < k → (fsts ps)[j]? = some y → y.right = 0) (fun _ i _ => n - (intOf i).toNat)
    case atStart => exact ⟨0, .slice none 0 0, by omega, rfl, rfl, by simpa [encs] using Bw.nil w w.heap.size, Kp.refl _ _, fun j y hj => by omega⟩
    case round =>
      obtain ⟨k, v', hk, rfl, rfl, hw, hK, hall⟩ := hrel
      by_cases hkn : k < n
      · have j1 : (k : Int) < (n : Int) := by omega
        have j0 : (0 : Int) ≤ (k : Int) := by omega
        obtain ⟨p, hp⟩ : ∃ p, ps[k]? = some p := ⟨_, List.getElem?_eq_getElem (by have := unhide HN; omega)⟩
        obtain ⟨g, off, ha⟩ : ∃ g off, a = some ⟨g, off, none⟩ := by
          obtain ⟨g, off, e, -⟩ := unhide HI k p hp
          exact ⟨g, off, e⟩
        subst ha
        obtain ⟨hrow, hdu⟩ := ((unhide HI).below hK.be).at' hp
        have hf := fsts_get hp
        obtain ⟨x, d⟩ := p
        obtain ⟨da, dc, hde, hby, hdc, hdm⟩ := hdu
        simp only at hrow hf hby hdc hde
        subst hde
        obtain ⟨r0, r1, r2, r3, r4, r5, r6, r7, r8, r9, r10, r11⟩ := row12 hrow
        have hB : w.heap.size ≤ wr.heap.size := hK.be.size
        obtain ⟨W3, hW3, hs3, g3, hB3⟩ := alloc1 wr (.cells Z12 29)
        obtain ⟨X1, X2, X3, X4, X5, X6, X7, X8, X9, X10, X11, X12, ⟨y1, y2, y3, y4, y5, y6, y7, y8, y9, y10, y11, y12⟩, ⟨s1, s2, s3, s4, s5, s6, s7, s8, s9, s10, s11, s12⟩, ⟨f1, f2, f3, f4, f5, f6, f7, f8, f9, f10, f11, f12⟩, gX, grX⟩ := store12 g3 (I x.kind) (I x.thread) (I x.n) (I x.c.op) (S x.c.path) (S x.c.dst) (I x.c.fd) (I x.c.fl) (I x.c.mo) (I x.c.n) (I x.c.m) (.slice da x.c.data.length dc)
        obtain ⟨i0, i1, i2, i3, i4, i5, i6, i7, i8, i9, i10, i11⟩ := cells12 (x := x) (d := .slice da x.c.data.length dc) gX
        have be3 : Below wr.heap.size wr X12 := hB3.trans (grX.below (Nat.le_refl _) (by omega))
        have HC := hide (iright_any x da _ dc rfl X12)
        have HX := hide (⟨hw, hK, hall, hf, hby, be3, gX⟩ : _ ∧ _ ∧ _ ∧ _ ∧ _ ∧ _ ∧ _)
        unfold It.cs at HC
        clear hw hK hall hf hby hrow be3 gX grX g3 hB3 hs3 hp
        go_wp2_with fail
        refine (unhide HC).mono ?_
        rintro e W4 ⟨rfl, be4⟩
        obtain ⟨hw, hK, hall, hf, hby, be3, gX⟩ := unhide HX
        have g4 := (be4.block _ (lt_of_heap gX)).trans gX
        have be5 := be3.trans (be4.mono be3.size)
        have hw4 := hw.below be5
        have hK4 := hK.trans (Kp.of_below be5 hB)
        have hby4 := (hby.below (Below.mono be5 hB))
        clear HX HC i0 i1 i2 i3 i4 i5 i6 i7 i8 i9 i10 i11 gX be3 be4 hw hK hby y1 y2 y3 y4 y5 y6 y7 y8 y9 y10 y11 y12 s1 s2 s3 s4 s5 s6 s7 s8 s9 s10 s11 s12 f1 f2 f3 f4 f5 f6 f7 f8 f9 f10 f11 f12 hW3 r0 r1 r2 r3 r4 r5 r6 r7 r8 r9 r10 r11
        obtain ⟨i0, i1, i2, i3, i4, i5, i6, i7, i8, i9, i10, i11⟩ := cells12 (x := x) (d := .slice da x.c.data.length dc) g4
        by_cases hx : x.right = 0
        · have hx2 : (x.right == 0) = true := by simpa using hx
          have hx3 : (x.right != 0) = false := by simp [hx]
          have hlen := encs_len (l := (fsts ps).take k) (fun y hy => by
            obtain ⟨j, hj⟩ := List.mem_iff_getElem?.1 hy
            rw [List.getElem?_take] at hj
            split at hj
            · exact hall j y (by assumption) hj
            · cases hj)
          rw [List.length_take] at hlen
          have HP := hide (put_any w.heap.size v' _ x hx da _ dc rfl W4 hw4 (Nat.le_trans hB be5.size) hby4 (by omega))
          unfold It.cs at HP
          have HZ := hide (⟨hK4, hall, hf, hx⟩ : _ ∧ _ ∧ _ ∧ _)
          clear hw4 hK4 hall hf hx hby4 hlen g4 be5 hB
          go_wp2_with fail
          refine (unhide HP).mono ?_
          rintro e W5 ⟨v5, rfl, hw5, kk5⟩
          obtain ⟨hK4, hall, hf, hx⟩ := unhide HZ
          rw [← encs_take hf] at hw5
          have HF := hide (⟨hw5, hK4.trans kk5, fun j y hj hy => (show y.right = 0 from by
            rcases Nat.lt_or_ge j k with h | h
            · exact hall j y h hy
            · obtain rfl : j = k := by omega
              rw [hf] at hy
              rw [← Option.some.inj hy]
              exact hx)⟩ : _ ∧ _ ∧ ∀ j y, j < k + 1 → (fsts ps)[j]? = some y → y.right = 0)
          clear hw5 hK4 kk5 hall hf hx HZ HP
          go_wp2_with fail
          exact ⟨⟨k + 1, v5, by omega, by go_num, rfl, (unhide HF).1, (unhide HF).2.1, (unhide HF).2.2⟩, by simp [intOf]; omega⟩
        · have hx2 : (x.right == 0) = false := by simpa using hx
          have hx3 : (x.right != 0) = true := by simpa using hx
          have hwy := whys_at hf hall hx
          have HF := hide (⟨hwy, hK4.be⟩ : _ ∧ _)
          have HX0 := hide hx
          clear hw4 hK4 hall hf hx hby4 g4 be5 hB hwy
          go_wp2_with fail
          go_ret2
          refine ⟨.slice none 0 0, by rw [unhide HR, (unhide HF).1]; rfl, ?_, (unhide HF).2⟩
          rw [eb_no (by rw [unhide HR, (unhide HF).1]; exact unhide HX0)]
          exact Bw.nil _ _
      · obtain rfl : k = n := by omega
        have j1 : ¬ (k : Int) < (k : Int) := by omega
        have hz : whys (fsts ps) = 0 := whys_of fun y hy => by
          obtain ⟨j, hj⟩ := List.mem_iff_getElem?.1 hy
          exact hall j y (by have := (List.getElem?_eq_some_iff.1 hj).1; have := unhide HL; omega) hj
        have HF := hide (⟨hw, hK, hz⟩ : _ ∧ _ ∧ _)
        clear hw hK hall hz
        go_wp2_with fail
        go_ret2
        obtain ⟨h1, h2, h3⟩ := unhide HF
        refine ⟨v', by rw [unhide HR, h3]; rfl, ?_, h2.be⟩
        rw [eb_yes (by rw [unhide HR, h3])]
        rw [List.take_of_length_le (by rw [unhide HL]; omega)] at h1
        exact h1
end Go.Proofs.Ytcopjhidijhlaaa.Cl
