/-
  ChainAlone: the walk.
-/
import Derived.Test.YtbmcnfdciogmjaaAny
namespace Go.Proofs.Ytbmcnfdciogmjaa
open Go.RowKit
attribute [local go_sem ↓] Go.wp_at_zero Go.wp_at_succ

/-- A slice of strings that came in. -/
def StrsAt (W : World) (pa : Option Addr) (len : Nat) : Prop := len ≤ 9223372036854775807 ∧ ∀ i, i < len → ∃ b off s, pa = some ⟨b, off, none⟩ ∧ b < W.heap.size ∧ W.cell? ⟨b, off + i, none⟩ = some (.string s) ∧ s.size ≤ 9223372036854775807
theorem StrsAt.below {W W' : World} {pa : Option Addr} {len : Nat} (h : StrsAt W pa len) (g : Below W.heap.size W W') : StrsAt W' pa len :=
  ⟨h.1, fun i hi => by
    obtain ⟨b, off, s, h1, h2, h3, h4⟩ := h.2 i hi
    exact ⟨b, off, s, h1, Nat.lt_of_lt_of_le h2 g.size, (cell_same (g.block b h2) _).trans h3, h4⟩⟩

theorem go_one (key : ByteArray) (M : Nat) (hM : 1 ≤ M) (y : E) (R : List E) (j : Int) :
    ((go key 1 y R j).ov = true ∧ go key M y R j = go key 1 y R j) ∨ ∃ z R', R = z :: R' ∧ go key 1 y R j = ⟨z, j + 1, false, false, 0⟩ ∧ go key M y R j = go key (M - 1) z R' (j + 1) := by
  obtain ⟨M, rfl⟩ : ∃ N, M = N + 1 := ⟨M - 1, by omega⟩
  cases R with
  | nil => exact .inl ⟨rfl, rfl⟩
  | cons z R =>
    by_cases hz : z.key = key
    · exact .inl ⟨by simp [go, hz], by simp [go, hz]⟩
    · exact .inr ⟨z, R, rfl, by simp [go, hz], by simp [go, hz]⟩

/-- A look that nobody disturbs, j steps behind its beginning. -/
structure AL (w0 W : World) (bt bh n : Nat) (ch : Nat → List E) (m : Pairs) (lb : Nat) (key : ByteArray) (j : Nat) : Prop where
  ex : ∃ y R, Lk W lb key y (j : Int) false false 0 ∧ go key (m.length + 1) (headE bh (slotOf n key)) (ch (slotOf n key)) 0 = go key (m.length + 1 - j) y R (j : Int) ∧ Path W (y :: R) ∧ (∀ x ∈ y :: R, x.blk ≠ lb) ∧ R.length + j = (ch (slotOf n key)).length
  tb : Tb w0.heap.size W bt bh n ch m
  no : ¬ Own bt bh n ch lb
  bel : Below w0.heap.size w0 W
  lo : w0.heap.size ≤ lb
theorem AL.start {w0 W : World} {bt bh n : Nat} {ch : Nat → List E} {m : Pairs} {lb : Nat} {key : ByteArray} (hT : Tb w0.heap.size W bt bh n ch m) (hL : Lk W lb key (headE bh (slotOf n key)) 0 false false 0) (hn : ¬ Own bt bh n ch lb) (hB : Below w0.heap.size w0 W) (hl : w0.heap.size ≤ lb) : AL w0 W bt bh n ch m lb key 0 := by
  refine ⟨⟨_, _, hL, rfl, hT.path _ (slot_lt hT.lo key), fun x hx e => hn ?_, rfl⟩, hT, hn, hB, hl⟩
  rcases List.mem_cons.1 hx with rfl | hx
  · exact .inr (.inl e.symm)
  · exact .inr (.inr ⟨_, slot_lt hT.lo key, x, hx, e⟩)
theorem AL.both {w0 W : World} {bt bh n : Nat} {ch : Nat → List E} {m : Pairs} {lb : Nat} {key : ByteArray} {j : Nat} (h : AL w0 W bt bh n ch m lb key j) :
    (Calls Try.prog 13 #[.pointer (some ⟨lb, 0, none⟩)] W fun e w' => e = .returned (.tuple #[.int .i64 0, .bool false]) ∧ Below W.heap.size W w') ∧
    ∀ W', Below W.heap.size W W' → Calls Try.prog 12 #[.pointer (some ⟨lb, 0, none⟩)] W' fun e w' => (e = .returned (.bool false) ∧ AL w0 w' bt bh n ch m lb key (j + 1) ∧ j + 1 ≤ 64) ∨ (e = .returned (.bool true) ∧ ∃ z t, Lk w' lb key z t true (has m key) (val m key) ∧ Tb w0.heap.size w' bt bh n ch m ∧ Below w0.heap.size w0 w') := by
  obtain ⟨⟨y, R, hL, hg, hP, hne, hlen⟩, hT, hn, hB, hlo⟩ := h
  refine ⟨found_any lb key y j false false 0 W hL, fun W' hW => ?_⟩
  have hT' := hT.below hW
  have hcl := hT.chlen (slot_lt hT.lo key)
  have hml := hT.mlen
  have hB' : Below w0.heap.size w0 W' := hB.trans (hW.mono hB.size)
  refine (step_any lb key y R j W' (hL.below hW) (hP.below hW) hne (by omega) (by omega)).mono fun e w' ⟨he, hL', hF⟩ => ?_
  have hT2 : Tb w0.heap.size w' bt bh n ch m := hT'.fr hF fun p hp => by
    simp at hp
    rcases hp with rfl | rfl | rfl | rfl | rfl <;> exact hn
  have hB2 : Below w0.heap.size w0 w' := Fr.below hB' hF hB'.size fun p hp => by
    simp at hp
    rcases hp with rfl | rfl | rfl | rfl | rfl <;> exact hlo
  rcases go_one key (m.length + 1 - j) (by omega) y R j with ⟨ho, e1⟩ | ⟨z, R', rfl, e1, e2⟩
  · right
    obtain ⟨z, t, hf⟩ := hT.go_fd key
    rw [hg, e1] at hf
    rw [ho] at he
    rw [hf] at hL'
    exact ⟨he, z, t, hL', hT2, hB2⟩
  · left
    rw [e1] at he hL'
    simp at hlen
    refine ⟨he, ⟨⟨z, R', ?_, ?_, ?_, fun x hx => hne x (List.mem_cons_of_mem _ hx), by omega⟩, hT2, hn, hB2, hlo⟩, by omega⟩
    · exact_mod_cast hL'
    · rw [hg, e2]
      have a1 : m.length + 1 - j - 1 = m.length + 1 - (j + 1) := by omega
      rw [a1]; rfl
    · exact (hP.2.below hW).fr hF fun x hx t _ => lkS_ne (hne x (List.mem_cons_of_mem _ hx))

set_option maxRecDepth 100000 in
set_option maxHeartbeats 1000000 in
theorem alone_walk (n : Int) (pa : Option Addr) (len cap : Nat) (key : ByteArray) (hs : key.size ≤ 9223372036854775807) (w : World) (hK : StrsAt w pa len) :
    Calls Try.prog 6 #[.int .i64 n, .slice pa len cap, .string key] w fun e w' => e = .returned (.bool true) ∧ Below w.heap.size w w' := by
  have K1 := hide (within_any n 7 w (by omega) (by omega))
  go_enter Try.func6, Try.ntmps6
  go_wp2_with fail
  refine (unhide K1).mono ?_
  rintro e w1 ⟨⟨r, r0, r1, rfl⟩, rfl⟩
  obtain ⟨nn, hn1, hn2, hnn⟩ : ∃ nn : Nat, 1 ≤ nn ∧ nn ≤ 64 ∧ (nn : Int) = 1 + r := ⟨(1 + r).toNat, by omega, by omega, by omega⟩
  have K2 := hide (new_T nn hn1 hn2 w1)
  rw [hnn] at K2
  clear hnn
  go_wp2_with fail
  refine (unhide K2).mono ?_
  rintro e w2 ⟨bt, rfl, hT2, -⟩
  replace hT2 := hide hT2
  replace hK := hide hK
  clear K1 K2 r0 r1
  go_wp2_with fail
  go_loopw [9] (fun i wr => ∃ (k : Nat) (m : Pairs), k ≤ 50 ∧ i = .int .i64 (k : Int) ∧ Hid (Tbl w1.heap.size w1 wr bt nn m)) (fun i _ => match i with | .int _ x => 50 - x.toNat | _ => 0)
  case atStart => exact ⟨0, [], by omega, rfl, hT2⟩
  case round =>
    obtain ⟨k, m, hk, rfl, hT⟩ := hrel
    by_cases hg : k < len ∧ k < 50
    · obtain ⟨g1, g2⟩ := hg
      have q1 : (k : Int) < (len : Int) := by omega
      have q2 : (k : Int) < 50 := by omega
      obtain ⟨b, off, s, rfl, hb, hc, hs2⟩ := ((unhide hK).below ((unhide hT).bel)).2 k g1
      have K3 := hide (put_T s ((k : Int) + 1) hs2 (unhide hT))
      clear hb
      go_wp2_with fail
      refine (unhide K3).mono ?_
      rintro e w3 ⟨rfl, hT3, -⟩
      replace hT3 := hide hT3
      go_wp2_with fail
      exact ⟨⟨k + 1, _, by omega, rfl, hT3⟩, by simp; omega⟩
    · have q : (k : Int) < (len : Int) → ¬ (k : Int) < 50 := fun h1 h2 => hg ⟨by omega, by omega⟩
      have HX : (¬ (k : Int) < (len : Int)) ∨ ((k : Int) < (len : Int) ∧ ¬ (k : Int) < 50) := by
        by_cases h1 : (k : Int) < (len : Int)
        · exact .inr ⟨h1, q h1⟩
        · exact .inl h1
      clear q hg
      obtain ⟨bh, ch, hTb, hBel⟩ := unhide hT
      replace hTb := hide hTb
      replace hBel := hide hBel
      clear hT hT2 hK
      rcases HX with q | ⟨q1, q2⟩
      · go_wp2_with fail
        have K4 := hide (look_any _ bt bh nn ch m key hs wr (unhide hTb))
        refine (unhide K4).mono ?_
        rintro e w4 ⟨lb, rfl, hlb, hL4, hB4⟩
        have hTb4 := hide ((unhide hTb).below hB4)
        have hNO : ¬ Own bt bh nn ch lb := fun ho => by have := (unhide hTb).own_lt ho; omega
        have hlb2 : w1.heap.size ≤ lb := Nat.le_trans (unhide hBel).size hlb
        have hBel4 := hide ((unhide hBel).trans (hB4.mono (unhide hBel).size))
        replace hL4 := hide hL4
        replace hNO := hide hNO
        replace hlb2 := hide hlb2
        clear hB4 hlb K4 hTb hBel
        go_wp2_with fail
        go_loopw [11] (fun i wr => ∃ (j : Nat), j ≤ 64 ∧ i = .int .i64 (j : Int) ∧ Hid (AL w1 wr bt bh nn ch m lb key j)) (fun i _ => match i with | .int _ x => 64 - x.toNat | _ => 0)
        case atStart => exact ⟨0, by omega, rfl, hide (AL.start (unhide hTb4) (unhide hL4) (unhide hNO) (unhide hBel4) (unhide hlb2))⟩
        case round =>
          obtain ⟨j, hj, rfl, hA⟩ := hrel
          clear hTb4 hL4 hBel4
          have q3 : (j : Int) < 100 := by omega
          obtain ⟨K5, K6⟩ := AL.both (unhide hA)
          replace K5 := hide K5
          replace K6 := hide K6
          go_wp2_with fail
          refine (unhide K5).mono ?_
          rintro e w5 ⟨rfl, hB5⟩
          replace K6 := hide (unhide K6 w5 hB5)
          clear hB5 K5
          go_wp2_with fail
          refine (unhide K6).mono ?_
          rintro e w6 (⟨rfl, hA6, hj6⟩ | ⟨rfl, z, t, hL6, hT6, hB6⟩)
          · replace hA6 := hide hA6
            go_wp2_with fail
            exact ⟨⟨j + 1, hj6, rfl, hA6⟩, by simp; omega⟩
          · have K7 := hide (found_any lb key z t true (has m key) (val m key) w6 hL6)
            have K8 := hide (fun w' (hw : Below w6.heap.size w6 w') => get_any _ bt bh nn ch m key hs w' (hT6.below hw))
            have hbs := hide (hT6.kt)
            have hbl := hide (hT6.own_lt (k := bt) (.inl rfl))
            replace hB6 := hide hB6
            clear hL6 hT6 K6 hA
            generalize val m key = vv at *
            generalize has m key = hh at *
            go_wp2_with fail
            refine (unhide K7).mono ?_
            rintro e w7 ⟨rfl, hB7⟩
            replace K8 := hide (unhide K8 w7 hB7)
            replace hB7 := hide hB7
            clear K7
            go_wp2_with fail
            refine (unhide K8).mono ?_
            rintro e w8 ⟨rfl, hB8⟩
            replace hB8 := hide hB8
            have K9 := hide (known_any w8)
            clear K8
            go_wp2_with fail
            refine (unhide K9).mono ?_
            rintro e w9 ⟨rfl, hB9⟩
            replace hB9 := hide hB9
            go_wp2_with fail
            go_ret
            refine ⟨rfl, ?_⟩
            have l6 := (unhide hB6).size
            have l7 := (unhide hB7).size
            have l8 := (unhide hB8).size
            exact (((unhide hB6).trans ((unhide hB7).mono (by omega))).trans ((unhide hB8).mono (by omega))).trans ((unhide hB9).mono (by omega))
      · go_wp2_with fail
        have K4 := hide (look_any _ bt bh nn ch m key hs wr (unhide hTb))
        refine (unhide K4).mono ?_
        rintro e w4 ⟨lb, rfl, hlb, hL4, hB4⟩
        have hTb4 := hide ((unhide hTb).below hB4)
        have hNO : ¬ Own bt bh nn ch lb := fun ho => by have := (unhide hTb).own_lt ho; omega
        have hlb2 : w1.heap.size ≤ lb := Nat.le_trans (unhide hBel).size hlb
        have hBel4 := hide ((unhide hBel).trans (hB4.mono (unhide hBel).size))
        replace hL4 := hide hL4
        replace hNO := hide hNO
        replace hlb2 := hide hlb2
        clear hB4 hlb K4 hTb hBel
        go_wp2_with fail
        go_loopw [11] (fun i wr => ∃ (j : Nat), j ≤ 64 ∧ i = .int .i64 (j : Int) ∧ Hid (AL w1 wr bt bh nn ch m lb key j)) (fun i _ => match i with | .int _ x => 64 - x.toNat | _ => 0)
        case atStart => exact ⟨0, by omega, rfl, hide (AL.start (unhide hTb4) (unhide hL4) (unhide hNO) (unhide hBel4) (unhide hlb2))⟩
        case round =>
          obtain ⟨j, hj, rfl, hA⟩ := hrel
          clear hTb4 hL4 hBel4
          have q3 : (j : Int) < 100 := by omega
          obtain ⟨K5, K6⟩ := AL.both (unhide hA)
          replace K5 := hide K5
          replace K6 := hide K6
          go_wp2_with fail
          refine (unhide K5).mono ?_
          rintro e w5 ⟨rfl, hB5⟩
          replace K6 := hide (unhide K6 w5 hB5)
          clear hB5 K5
          go_wp2_with fail
          refine (unhide K6).mono ?_
          rintro e w6 (⟨rfl, hA6, hj6⟩ | ⟨rfl, z, t, hL6, hT6, hB6⟩)
          · replace hA6 := hide hA6
            go_wp2_with fail
            exact ⟨⟨j + 1, hj6, rfl, hA6⟩, by simp; omega⟩
          · have K7 := hide (found_any lb key z t true (has m key) (val m key) w6 hL6)
            have K8 := hide (fun w' (hw : Below w6.heap.size w6 w') => get_any _ bt bh nn ch m key hs w' (hT6.below hw))
            have hbs := hide (hT6.kt)
            have hbl := hide (hT6.own_lt (k := bt) (.inl rfl))
            replace hB6 := hide hB6
            clear hL6 hT6 K6 hA
            generalize val m key = vv at *
            generalize has m key = hh at *
            go_wp2_with fail
            refine (unhide K7).mono ?_
            rintro e w7 ⟨rfl, hB7⟩
            replace K8 := hide (unhide K8 w7 hB7)
            replace hB7 := hide hB7
            clear K7
            go_wp2_with fail
            refine (unhide K8).mono ?_
            rintro e w8 ⟨rfl, hB8⟩
            replace hB8 := hide hB8
            have K9 := hide (known_any w8)
            clear K8
            go_wp2_with fail
            refine (unhide K9).mono ?_
            rintro e w9 ⟨rfl, hB9⟩
            replace hB9 := hide hB9
            go_wp2_with fail
            go_ret
            refine ⟨rfl, ?_⟩
            have l6 := (unhide hB6).size
            have l7 := (unhide hB7).size
            have l8 := (unhide hB8).size
            exact (((unhide hB6).trans ((unhide hB7).mono (by omega))).trans ((unhide hB8).mono (by omega))).trans ((unhide hB9).mono (by omega))
end Go.Proofs.Ytbmcnfdciogmjaa
