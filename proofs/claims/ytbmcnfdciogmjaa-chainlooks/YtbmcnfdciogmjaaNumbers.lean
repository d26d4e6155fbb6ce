/-
  ChainNumbers: the walk.
-/
import Derived.Test.YtbmcnfdciogmjaaKeysB
import Derived.Test.YtbmcnfdciogmjaaAlone
namespace Go.Proofs.Ytbmcnfdciogmjaa
open Go.RowKit Go.Sort
attribute [local go_sem ↓] Go.wp_at_zero Go.wp_at_succ

theorem keys_T {base : Nat} {w0 w : World} {bt n : Nat} {m : Pairs} (h : Tbl base w0 w bt n m) :
    Calls Try.prog 15 #[.pointer (some ⟨bt, 0, none⟩)] w fun e w' => ∃ g cap, e = .returned (.slice (some ⟨g, 0, none⟩) m.length cap) ∧ w'.ownsRow w.heap.size 9 1 (.slice (some ⟨g, 0, none⟩) m.length cap) m.length ((ordered m).map encStr) ∧ Below w.heap.size w w' := by
  obtain ⟨bh, ch, hT, hB⟩ := h
  exact keys_any base bt bh n ch m w hT

def ky (k : Nat) : ByteArray := ⟨#[UInt8.ofNat (48 + k)]⟩
def mi (i : Nat) : Pairs := (List.range i).map fun k => (ky k, (k : Int))
theorem mi_succ (i : Nat) : mi (i + 1) = mi i ++ [(ky i, (i : Int))] := by simp [mi, List.range_succ]
theorem ky_inj {a b : Nat} (ha : a < 64) (hb : b < 64) (h : ky a = ky b) : a = b := by
  have : UInt8.ofNat (48 + a) = UInt8.ofNat (48 + b) := by simpa [ky] using h
  have := congrArg UInt8.toNat this
  simp at this
  omega
theorem mi_has {i k : Nat} (hk : k < 64) (hi : i ≤ 64) : has (mi i) (ky k) = decide (k < i) := by
  by_cases h : k < i
  · rw [decide_eq_true h, has_iff]
    exact ⟨k, by simp [mi]; exact ⟨k, h, rfl, rfl⟩⟩
  · rw [decide_eq_false h, has_false]
    intro v hv
    simp [mi] at hv
    obtain ⟨j, hj, e, _⟩ := hv
    have := ky_inj (by omega) hk e
    omega
theorem mi_put {i : Nat} (hi : i < 64) : putE (mi i) (ky i) = 0 ∧ putM (mi i) (ky i) (i : Int) = mi (i + 1) := by
  have h := mi_has (i := i) hi (by omega)
  have hl : (mi i).length = i := by simp [mi]
  rw [decide_eq_false (by omega)] at h
  simp [putE, putM, h, hl, hi, mi_succ]

theorem ky_size (k : Nat) : (ky k).size ≤ 9223372036854775807 := by
  have : (ky k).size = 1 := rfl
  omega
theorem ky_enc : ∀ k : Nat, k < 64 → Utf8.encode (48 + (k : Int)) = ky k := by decide +kernel
theorem m64_full : putE (mi 64) ⟨#[102, 117, 108, 108]⟩ = 13 ∧ putM (mi 64) ⟨#[102, 117, 108, 108]⟩ 1 = mi 64 := by
  have h : has (mi 64) ⟨#[102, 117, 108, 108]⟩ = false := by
    rw [has_false]
    intro v hv
    simp [mi] at hv
    obtain ⟨j, hj, e, _⟩ := hv
    simp [ky] at e
  have hl : (mi 64).length = 64 := by simp [mi]
  simp [putE, putM, h, hl]
theorem m64_has : has (mi 64) ⟨#[53]⟩ = true := (mi_has (i := 64) (k := 5) (by omega) (by omega)).trans (by decide)
theorem m64_drop : val (mi 64) ⟨#[53]⟩ = 5 ∧ dropE (mi 64) ⟨#[53]⟩ = 0 := by
  refine ⟨?_, by simp [dropE, m64_has]⟩
  have h1 := val_mem m64_has
  have h2 : ((⟨#[53]⟩ : ByteArray), (5 : Int)) ∈ mi 64 := by simp [mi]; exact ⟨5, by omega, rfl, rfl⟩
  have hn : ((mi 64).map (·.1)).Nodup := by decide +kernel
  exact nodup_val hn h1 h2

theorem m64_nodup : ((mi 64).map (·.1)).Nodup := by decide +kernel
theorem m63_has {m : Pairs} (h : drop (mi 64) ⟨#[53]⟩ = m) : has m ⟨#[53]⟩ = false := by
  rw [← h, has_false]
  intro v hv
  exact ((mem_drop m64_nodup).1 hv).2 rfl
theorem m63_len {m : Pairs} (h : drop (mi 64) ⟨#[53]⟩ = m) : m.length = 63 := by rw [← h, drop_len m64_has]; simp [mi]
theorem m63_first {m : Pairs} (h : drop (mi 64) ⟨#[53]⟩ = m) : (ordered m)[0]? = some [48] := by
  have e : m.map (fun p => kb p.1) = (drop (mi 64) ⟨#[53]⟩).map (fun p => kb p.1) := by rw [h]
  unfold ordered
  rw [e, List.mergeSort_of_pairwise]
  · decide +kernel
  · decide +kernel
theorem own_get {W : World} {base : Nat} {g cap n : Nat} {xs : List Value} (h : W.ownsRow base 9 1 (.slice (some ⟨g, 0, none⟩) n cap) n xs) (j : Nat) (u : Value) (hj : xs[j]? = some u) : W.cell? ⟨g, j, none⟩ = some u := by
  rcases h.2 with ⟨hnil, _⟩ | ⟨g', cap', cur, hv, hbase, hb, h1, h2, h3, h4⟩
  · simp at hnil
  · simp at hv
    obtain ⟨rfl, rfl⟩ := hv
    have hj2 := (List.getElem?_eq_some_iff.1 hj).1
    have := h.1
    rw [cell_of hb, ← hj, ← h4, List.getElem?_take_of_lt (by omega)]
    simp

set_option maxRecDepth 100000 in
set_option maxHeartbeats 1000000 in
theorem numbers_walk (w : World) :
    Calls Try.prog 3 #[] w fun e w' => e = .returned (.bool true) ∧ Below w.heap.size w w' := by
  have K1 := hide (new_bad 0 (.inl (by omega)) w)
  have K2 := hide (new_bad 65 (.inr (by omega)) w)
  have K3 := hide (new_T 3 (by omega) (by omega) w)
  go_enter Try.func3, Try.ntmps3
  go_wp2_with fail
  refine (unhide K1).mono ?_
  rintro e w1 ⟨rfl, rfl⟩
  go_wp2_with fail
  refine (unhide K2).mono ?_
  rintro e w2 ⟨rfl, rfl⟩
  go_wp2_with fail
  refine (unhide K3).mono ?_
  rintro e w3 ⟨bt, rfl, hT3, -⟩
  have K4 := hide (drop_T (m := []) ⟨#[120]⟩ (by decide) hT3)
  rw [show val [] ⟨#[120]⟩ = 0 from rfl, show dropE [] ⟨#[120]⟩ = 14 from rfl, show drop [] ⟨#[120]⟩ = [] from rfl] at K4
  clear hT3 K1 K2 K3
  go_wp2_with fail
  refine (unhide K4).mono ?_
  rintro e w4 ⟨rfl, hT4, -⟩
  replace hT4 := hide hT4
  clear K4
  go_wp2_with fail
  go_loopw [9] (fun i wr => ∃ (k : Nat), k ≤ 64 ∧ i = .int .i64 (k : Int) ∧ Hid (Tbl w2.heap.size w2 wr bt 3 (mi k))) (fun i _ => 64 - (intOf i).toNat)
  case atStart => exact ⟨0, by omega, rfl, hT4⟩
  case round =>
    obtain ⟨k, hk, rfl, hT⟩ := hrel
    clear hT4
    by_cases hk2 : k < 64
    · have q : (k : Int) < 64 := by omega
      have q0 : (0 : Int) ≤ (k : Int) := by omega
      have K5 := hide (put_T (ky k) (k : Int) (ky_size k) (unhide hT))
      rw [(mi_put hk2).1, (mi_put hk2).2, ← ky_enc k hk2] at K5
      clear hT
      go_wp2_with fail
      refine (unhide K5).mono ?_
      rintro e w5 ⟨rfl, hT5, -⟩
      replace hT5 := hide hT5
      go_wp2_with fail
      exact ⟨⟨k + 1, by omega, rfl, hT5⟩, by simp [intOf]; omega⟩
    · obtain rfl : k = 64 := by omega
      have K6 := hide (put_T ⟨#[102, 117, 108, 108]⟩ 1 (by decide) (unhide hT))
      rw [m64_full.1, m64_full.2] at K6
      clear hT
      go_wp2_with fail
      refine (unhide K6).mono ?_
      rintro e w5 ⟨rfl, hT5, -⟩
      have K7 := hide (drop_T ⟨#[53]⟩ (by decide) hT5)
      rw [m64_drop.1, m64_drop.2] at K7
      clear hT5 K6
      go_wp2_with fail
      refine (unhide K7).mono ?_
      rintro e w6 ⟨rfl, hT6, -⟩
      generalize hm : drop (mi 64) ⟨#[53]⟩ = m at *
      replace hm := hide hm
      obtain ⟨bh, ch, hTb, hBel⟩ := hT6
      have K8 := hide (look_any _ bt bh 3 ch m ⟨#[53]⟩ (by decide) w6 hTb)
      clear K7
      replace hTb := hide hTb
      replace hBel := hide hBel
      go_wp2_with fail
      refine (unhide K8).mono ?_
      rintro e w7 ⟨lb, rfl, hlb, hL7, hB7⟩
      have hTb7 := (unhide hTb).below hB7
      have hNO : ¬ Own bt bh 3 ch lb := fun ho => by have := (unhide hTb).own_lt ho; omega
      have hlb2 : w2.heap.size ≤ lb := Nat.le_trans (unhide hBel).size hlb
      have hA7 := hide (AL.start hTb7 hL7 hNO ((unhide hBel).trans (hB7.mono (unhide hBel).size)) hlb2)
      clear hB7 hlb K8 hTb hBel hTb7 hNO hlb2 hL7
      go_wp2_with fail
      go_loopw [14] (fun i wr => ∃ (j : Nat), j ≤ 64 ∧ i = .int .i64 (j : Int) ∧ Hid (AL w2 wr bt bh 3 ch m lb ⟨#[53]⟩ j)) (fun i _ => 64 - (intOf i).toNat)
      case atStart => exact ⟨0, by omega, rfl, hA7⟩
      case round =>
        obtain ⟨j, hj, rfl, hA⟩ := hrel
        clear hA7
        have q3 : (j : Int) < 100 := by omega
        have K9 := hide ((AL.both (unhide hA)).2 wr (Below.refl _ wr))
        go_wp2_with fail
        refine (unhide K9).mono ?_
        rintro e w8 (⟨rfl, hA8, hj8⟩ | ⟨rfl, z, t, hL8, hT8, hB8⟩)
        · replace hA8 := hide hA8
          go_wp2_with fail
          exact ⟨⟨j + 1, hj8, rfl, hA8⟩, by simp [intOf]; omega⟩
        · have K10 := hide (found_any lb ⟨#[53]⟩ z t true (has m ⟨#[53]⟩) (val m ⟨#[53]⟩) w8 hL8)
          rw [m63_has (unhide hm)] at K10
          have hTl8 : Tbl w2.heap.size w2 w8 bt 3 m := ⟨bh, ch, hT8, hB8⟩
          replace hTl8 := hide hTl8
          clear hL8 hT8 hB8 hA K9
          generalize val m ⟨#[53]⟩ = vv at *
          have hm63 := m63_len (unhide hm)
          have hm0 := hide (m63_first (unhide hm))
          go_wp2_with fail
          refine (unhide K10).mono ?_
          rintro e w9 ⟨rfl, hB9⟩
          have hTl9 := (unhide hTl8).below hB9
          have K11 := hide (len_T hTl9)
          have K12 := hide (keys_T hTl9)
          rw [hm63] at K11 K12
          replace hTl9 := hide hTl9
          clear hTl8 hB9 K10
          go_wp2_with fail
          refine (unhide K11).mono ?_
          rintro e w10 ⟨rfl, rfl⟩
          clear K11
          go_wp2_with fail
          refine (unhide K12).mono ?_
          rintro e w11 ⟨g, cap, rfl, -, hB11⟩
          have hTl11 := (unhide hTl9).below hB11
          have K13 := hide (keys_T hTl11)
          rw [hm63] at K13
          replace hTl11 := hide hTl11
          clear hB11 K12 hTl9
          go_wp2_with fail
          refine (unhide K13).mono ?_
          rintro e w12 ⟨g2, cap2, rfl, hO12, hB12⟩
          have hTl12 := hide ((unhide hTl11).below hB12)
          have hc0 := own_get hO12 0 _ (by rw [List.getElem?_map, unhide hm0]; rfl)
          have K14 := hide (known_any w12)
          clear hB12 hO12 K13 hTl11
          go_wp2_with fail
          refine (unhide K14).mono ?_
          rintro e w13 ⟨rfl, hB13⟩
          replace hB13 := hide hB13
          go_wp2_with fail
          go_ret
          exact ⟨rfl, (unhide hTl12).bel.trans ((unhide hB13).mono (unhide hTl12).base_le)⟩
end Go.Proofs.Ytbmcnfdciogmjaa
