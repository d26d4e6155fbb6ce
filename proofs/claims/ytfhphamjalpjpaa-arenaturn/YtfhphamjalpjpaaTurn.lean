/-
  ArenaTurn answers true: all slots of an arena are taken, some are freed in whatever order, and they are taken again in just that order, each with a generation greater by two; then the arena is full. It holds for every number and every list of numbers.
-/
import Derived.Test.YtfhphamjalpjpaaTurnB
import Derived.ProofKit
import Derived.OpenShut
import Derived.ShutString
import Derived.ChangeOld
import Derived.Below
namespace Go.Proofs.Ytfhphamjalpjpaa.arenaTurn
open Go.ChangeShapes Go.WideShapes Go.ChangeAt Go.RowKit
open Go.ChangeMaps (open_string shut_string)
set_option linter.unusedVariables false
attribute [local go_sem ↓] Go.wp_at_zero Go.wp_at_succ

theorem own : ownKnob Try.prog.godebug = none := by kernel_rfl
theorem laidOut : laidOutB Try.prog = true := by kernel_rfl

/-- What the frame tells of a slice of integers. -/
def IsRow (k : IntKind) (w : World) (a : Option Addr) (len cap : Nat) (zs : List Int) : Prop :=
  (a = none ∧ len = 0 ∧ cap = 0 ∧ zs = []) ∨
  ∃ x, a = some x ∧ len ≤ cap ∧ cap ≤ maxLen ∧ zs.length = cap ∧ (∀ i, i < zs.length → w.cell? (x.add i) = some (.int k (zs.getD i 0))) ∧ ∀ n ∈ zs, (Lit.int k n).wf = true
theorem IsRow.picks {w : World} {a : Option Addr} {len cap : Nat} {zs : List Int} (h : IsRow .i64 w a len cap zs) : Picks w a len := by
  rcases h with ⟨rfl, rfl, rfl, rfl⟩ | ⟨x, rfl, hl, hm, hz, hc, hw⟩
  · exact ⟨Nat.zero_le _, fun i hi => absurd hi (Nat.not_lt_zero _)⟩
  · refine ⟨Nat.le_trans hl hm, fun i hi => ?_⟩
    have hiz : i < zs.length := by omega
    have c := hc i hiz
    have c0 := hc 0 (by omega)
    obtain ⟨b, off, sp⟩ := x
    have e : (⟨b, off, sp⟩ : Addr).add 0 = ⟨b, off, sp⟩ := rfl
    rw [e] at c0
    obtain rfl := spot_none c0
    rw [addr_add] at c
    have hb := wf_bounds (hw (zs.getD i 0) (by rw [List.getD_eq_getElem?_getD, List.getElem?_eq_getElem hiz]; exact List.getElem_mem hiz))
    exact ⟨b, off, zs.getD i 0, rfl, cell_lt c, c, hb.1, hb.2⟩

theorem take_yesL (b c d n k : Nat) (gs : List Slot) (q q' : List Nat) (st v g u g1 : Int) (w : World) (hq : q = k :: q') (h : Ar w b c d n gs q st) (hk : gs[k]? = some (g, u)) (g0 : 0 ≤ g) (gm : g ≤ 1000000) (hg : g + 1 = g1) :
    Calls Try.prog 10 #[.pointer (some ⟨b, 0, none⟩), .int .i64 v] w fun e w' => e = .returned (.tuple #[.agg #[.int .i64 (k : Int), .int .i64 g1], .int .i64 0]) ∧ Ar w' b c d n (gs.set k (g + 1, v)) q' st ∧ Fr b c d w w' := by
  subst hg hq
  exact take_yes b c d n k gs q' st v g u w h hk g0 gm

set_option maxRecDepth 100000 in
set_option maxHeartbeats 4000000 in
theorem walk (a0 : Int) (a1 : Option Addr) (len1 cap1 : Nat) (w : World) (hp : Picks w a1 len1) :
    Calls Try.prog 7 #[.int .i64 a0, .slice a1 len1 cap1] w fun e w' => e = .returned (.bool true) ∧ Below w.heap.size w w' := by
  obtain ⟨i0, hi, hz0, hz1, hz2⟩ := info_parts infoH
  obtain ⟨hml, hrow⟩ := hp
  unfold maxLen at hml
  have HR := hide hrow
  clear hrow
  go_enter Try.func7, Try.ntmps7
  go_wp2_with fail
  refine (within_any a0 10 _ (by omega) (by omega)).mono ?_
  rintro e w1 ⟨⟨n0, p0, p1, rfl⟩, rfl⟩
  obtain ⟨n, hn⟩ : ∃ n : Nat, 2 + n0 = (n : Int) := ⟨(2 + n0).toNat, by omega⟩
  have n1 : 2 ≤ n := by omega
  have n2 : n ≤ 12 := by omega
  have n2' : (n : Int) ≤ 12 := by omega
  go_wp2_with fail

  clear p0 p1 hn
  refine (new_good n (by omega) (by omega) w1).mono ?_
  rintro e w0 ⟨c, d, rfl, hc, hd, hA0, hB⟩
  generalize hw : w1.heap.size = h at *
  have HW := hide hw
  clear hw
  have hb : h ≤ h + 2 := by omega
  generalize h + 2 = b at *
  rw [← gsTaken_zero] at hA0
  have hs0 : h ≤ w0.heap.size := by have := hB.size; rw [unhide HW] at this; exact this
  go_wp2_with fail
  go_loopw [7, 8] (fun v i wr => ∃ k : Nat, k ≤ n ∧ i = .int .i64 k ∧ Ar wr b c d n (gsTaken n k) ((List.range n).drop k) 0 ∧ Hs h wr v (hof (List.range k)) ∧ Below h w1 wr ∧ h ≤ wr.heap.size) (fun _ i _ => n - (intOf i).toNat)
  case atStart => exact ⟨0, Nat.zero_le _, rfl, hA0, World.ownsRow_nil _ _ _ _, hB, hs0⟩
  case round =>
    obtain ⟨k, hk, rfl, hA, hO, hB, hs⟩ := hrel
    clear hA0 hs0
    by_cases hkn : k < n
    · have j1 : (k : Int) < (n : Int) := by omega
      have hq := drop_range n k hkn
      have HT := hide (take_yesL b c d n k _ _ _ 0 (k : Int) 0 0 1 wr hq hA (gsTaken_get n k hkn) (by omega) (by omega) rfl)
      have HA := hide hA
      have HO := hide hO
      clear hq hA hO
      go_wp2_with fail
      refine (unhide HT).mono ?_
      rintro e w2 ⟨rfl, hA2, hF2⟩
      rw [gsTaken_set n k hkn] at hA2
      have hO2 := (unhide HO).fr (unhide HA) hF2
      have hB2 := hB.trans (hF2.below hb hc hd hs)
      have hs2 : h ≤ w2.heap.size := Nat.le_trans hs hF2.size
      obtain ⟨w3, hx, k3, hK, hz⟩ := stored w2 (k : Int) 1
      obtain ⟨y0, y1, yf⟩ := hcells k3
      have hA3 := (hA2.below hK).alloc (hObj (k : Int) 1)
      have hO3 := (hO2.below hK).below ((Below.refl _ w3).alloc (Nat.le_refl _) (hObj (k : Int) 1))
      have hB3 := (hB2.trans (hK.mono hs2)).alloc (by omega) (hObj (k : Int) 1)
      have hs3 : h ≤ (w3.alloc (hObj (k : Int) 1)).heap.size := by simp; omega
      have ell : (hof (List.range k)).length = k := by simp
      have HA3 := hide hA3
      have HO3 := hide hO3
      have HB3 := hide hB3
      have hO4 : (w3.alloc (hObj (k : Int) 1)).ownsRow h 29 2 u7 k (rowsOf Slot.row (hof (List.range k))) := by
        have t : (w3.alloc (hObj (k : Int) 1)).ownsRow h 29 2 u7 (hof (List.range k)).length (rowsOf Slot.row (hof (List.range k))) := hO3
        rwa [ell] at t
      clear hA2 hF2 hO2 hB2 hA3 hO3 hB3 k3 hK ell HT HA HO hB hs hz
      generalize hrw : rowsOf Slot.row (hof (List.range k)) = RW at hO4
      have HRW := hide hrw
      clear hrw
      go_wp2_with (first
        | (at_builtin; refine wpList_append_own_at _ rfl _ _ 36 rfl h 29 i0 (.agg #[.int .i64 0, .int .i64 0]) 2 16 Try.underlying36 hi hz0 hz1 hz2 rfl (by decide) _ _ _ rfl hO4 ⟨w3.heap.size, 0, none⟩ 1 1 [.int .i64 (k : Int), .int .i64 1] rfl rfl ?c1 ?c2 ?c3 ?c4 ?c5 ?_))
      case c1 =>
        intro j u hj
        match j, hj with
        | 0, hj => simp at hj; subst hj; simp [Addr.add]
        | 1, hj => simp at hj; subst hj; simp [Addr.add]
      case c2 => intro u hu; simp at hu; rcases hu with rfl | rfl <;> rfl
      case c3 => unfold maxLen; omega
      case c4 => omega
      case c5 => exact hs3
      intro v' w5 own5 hgr _ _
      have hA5 := (unhide HA3).grown (unhide HO3) hgr
      have hB5 := below_grown (unhide HB3) (unhide HO3) hgr hs3
      have hs5 : h ≤ w5.heap.size := Nat.le_trans hs3 hgr.size
      have hO5 : Hs h w5 v' (hof (List.range (k + 1))) := by
        have e1 : hof (List.range (k + 1)) = hof (List.range k) ++ [((k : Int), 1)] := by simp [hof, List.range_succ]
        unfold Hs
        rw [e1, rows_app, rows_one, unhide HRW]
        simpa using own5
      have HO5 := hide hO5
      have HA5 := hide hA5
      clear own5 hgr hO5 hA5 hO4 HA3 HO3 HB3
      go_wp2_with fail
      go_roundw
      case rel => exact ⟨k + 1, by omega, by go_num, unhide HA5, unhide HO5, hB5, hs5⟩
      case measure => simp [intOf]; omega
    · obtain rfl : n = k := by omega
      clear hk hkn
      rw [List.drop_eq_nil_of_le (by simp)] at hA
      have HT0 := hide (Tn.start n)
      have HA := hide hA
      have HO := hide hO
      clear hA hO
      go_wp2_with fail
      go_loopw [7, 11, 12] (fun v7 v11 i wr => ∃ (t : Nat) (gs : List Slot) (lv fr : List Nat), t ≤ len1 ∧ i = .int .i64 t ∧ Tn n gs lv fr ∧ Ar wr b c d n gs fr 0 ∧ Hs h wr v7 (hof lv) ∧ Hs h wr v11 (hof fr) ∧ (∀ k, v11.ownBlock = some k → v7.ownBlock ≠ some k) ∧ Below h w1 wr ∧ h ≤ wr.heap.size) (fun _ _ i _ => len1 - (intOf i).toNat)
      case atStart => exact ⟨0, _, _, _, Nat.zero_le _, rfl, unhide HT0, unhide HA, unhide HO, World.ownsRow_nil _ _ _ _, by simp [Value.ownBlock], hB, hs⟩
      case round =>
        obtain ⟨t, gs, lv, fr, ht, rfl, hT, hA, hL, hF, hne, hB, hs⟩ := hrel
        clear HT0 HA HO
        obtain ⟨la, lc, rfl⟩ := hL.form
        obtain ⟨fa, fc, rfl⟩ := hF.form
        simp only [List.length_map] at hL hF hne ⊢
        have HT := hide hT
        have HA := hide hA
        have HL := hide hL
        have HF := hide hF
        have HNE := hide hne
        clear hT hA hL hF hne
        by_cases htl : t < len1
        · have j1 : (t : Int) < (len1 : Int) := by omega
          by_cases hlv : lv = []
          · subst hlv
            simp only [List.length_nil] at HL HNE ⊢
            clear HNE HR
            go_wp2_with fail
            go_loopw [14] (fun i wr => ∃ (t : Nat) (gs : List Slot), t ≤ fr.length ∧ i = .int .i64 t ∧ (∀ s ∈ fr.drop t, gs[s]? = some (2, 0)) ∧ Ar wr b c d n gs (fr.drop t) 0 ∧ Hs h wr (.slice fa fr.length fc) (hof fr) ∧ Below h w1 wr ∧ h ≤ wr.heap.size) (fun i _ => fr.length - (intOf i).toNat)
            case atStart => exact ⟨0, gs, Nat.zero_le _, rfl, by simpa using (unhide HT).frOk, by simpa using unhide HA, unhide HF, hB, hs⟩
            case round =>
              obtain ⟨t, gs, ht, rfl, hgs, hA, hF, hB, hs⟩ := hrel
              clear HA HL HF
              have hfl12 : fr.length ≤ 12 := by have := (unhide HT).len; omega
              by_cases htf : t < fr.length
              · obtain ⟨s, hsl⟩ : ∃ s, fr[t]? = some s := ⟨_, List.getElem?_eq_getElem htf⟩
                have hdr : fr.drop t = s :: fr.drop (t + 1) := by
                  have := (List.getElem?_eq_some_iff.1 hsl).2
                  rw [List.drop_eq_getElem_cons htf, this]
                have hg := hgs s (by rw [hdr]; simp)
                have hnd : (s :: fr.drop (t + 1)).Nodup := by rw [← hdr]; exact ((List.nodup_append.1 (unhide HT).nd).2.1).sublist (List.drop_sublist _ _)
                have HTK := hide (take_yesL b c d n s gs _ _ 0 7 2 0 3 wr hdr hA hg (by omega) (by omega) rfl)
                have hfn : hof fr ≠ [] := by intro e; have := congrArg List.length e; simp at this; rw [this] at htf; simp at htf
                obtain ⟨g, cap, cur, e0, hgb, hgg, hcap, hcm, hce⟩ := hF.open_ hfn
                simp only [List.length_map, Value.slice.injEq] at e0
                obtain ⟨rfl, -, rfl⟩ := e0
                have hcc := Hs.at hce (k := t) (s := (s : Int)) (x := 1) (by simp [hof, hsl])
                have HA := hide hA
                have HF := hide hF
                have HGS := hide hgs
                have HND := hide hnd
                have HDR := hide hdr
                have HCC := hide hcc
                generalize hfl : fr.length = fl at *
                have HFL := hide hfl
                clear hA hF hgs hg hnd hdr hce hcc hsl hfn hgg hfl
                have j1 : (t : Int) < (fl : Int) := by omega
                have j0 : (0 : Int) ≤ (t : Int) := by omega
                go_wp2_with fail
                refine (unhide HTK).mono ?_
                rintro e w2 ⟨rfl, hA2, hF2⟩
                have hO2 := (unhide HF).fr (unhide HA) hF2
                have hB2 := hB.trans (hF2.below hb hc hd hs)
                have hs2 : h ≤ w2.heap.size := Nat.le_trans hs hF2.size
                obtain ⟨w3, hx, k3, hK, hz⟩ := stored w2 (s : Int) 3
                obtain ⟨y0, y1, yf⟩ := hcells k3
                have hA3 := hA2.below hK
                have hO3 := hO2.below hK
                have hB3 := hB2.trans (hK.mono hs2)
                have hs3 : h ≤ w3.heap.size := by omega
                obtain ⟨z0, z1⟩ := Hs.at hO3.cells_ (k := t) (s := (s : Int)) (x := 1) (by have := unhide HDR; have e := congrArg (·[0]?) this; simp at e; simp [hof, e])
                have HA3 := hide hA3
                have HO3 := hide hO3
                clear hA2 hF2 hO2 hB2 hA3 hO3 k3 hK HTK HA HF hB hs hs2 hz
                go_wp2_with fail
                go_quiet (fail)
                go_wp2_with fail
                go_roundw
                case rel =>
                  refine ⟨t + 1, _, by omega, by go_num, ?_, (unhide HA3).dn _, (unhide HO3).keep (fun _ _ _ _ => rfl), below_dn hB3 _, hs3⟩
                  intro s' hs'
                  have hne : s ≠ s' := by rintro rfl; exact (List.nodup_cons.1 (unhide HND)).1 hs'
                  rw [List.getElem?_set_ne hne]
                  exact unhide HGS s' (by rw [unhide HDR]; exact List.mem_cons_of_mem _ hs')
                case measure => simp [intOf]; omega
              · obtain rfl : t = fr.length := by omega
                rw [List.drop_length] at hA
                have HTK := hide (take_no b c d n gs 0 1 wr hA)
                generalize hfl : fr.length = fl at *
                clear hgs hF hA htf hfl
                go_wp2_with fail
                refine (unhide HTK).mono ?_
                rintro e w2 ⟨rfl, hA2, hB2'⟩
                have hB2 := hB.trans (hB2'.mono hs)
                have hs2 : h ≤ w2.heap.size := Nat.le_trans hs hB2'.size
                clear HTK hB2' hA2 hB hs
                go_wp2_with fail
                obtain ⟨w3, hx, k3, hK, hz⟩ := stored w2 0 0
                rw [hx]
                refine (known_true w3).mono ?_
                rintro e w4 ⟨rfl, hB4⟩
                go_wp2_with fail
                go_ret
                rw [unhide HW]
                exact ⟨rfl, (hB2.trans (hK.mono hs2)).trans (hB4.mono (by omega))⟩
          · have hlp : 0 < lv.length := List.length_pos_iff.2 hlv
            have hlen := (unhide HT).len
            obtain ⟨ob, off, x, rfl, hob, hcx, x0, x1⟩ := unhide HR t htl
            have hcx2 := (hB.cell (p := ⟨ob, off + t, none⟩) hob).trans hcx
            have hln : hof lv ≠ [] := by intro e; have := congrArg List.length e; simp at this; exact hlv this
            obtain ⟨g, cap, cur, e0, hgb, hgg, hcap, hcm, -⟩ := (unhide HL).open_ hln
            simp only [List.length_map, Value.slice.injEq] at e0
            obtain ⟨rfl, -, rfl⟩ := e0
            simp only [List.length_map] at hcap
            have hgl := lt_of_heap hgg
            generalize hll : lv.length = l at *
            have HLL := hide hll
            generalize hfl : fr.length = fl at *
            have HFL := hide hfl
            clear hll hfl hln hgg hcx hlv
            have j2 : (0 : Int) < (l : Int) := by omega
            have j3 : (l : Int) ≤ 12 := by omega
            have j4 : (0 : Int) ≤ (t : Int) := by omega
            have HWI := hide (within_any x ((l : Int) - 1) wr (by omega) (by omega))
            go_wp2_with fail
            refine (unhide HWI).mono ?_
            rintro e w2 ⟨⟨r, r0, r1, rfl⟩, rfl⟩
            obtain ⟨k, rfl⟩ := Int.eq_ofNat_of_zero_le r0
            have hkl : k < l := by omega
            have k1 : (k : Int) < (l : Int) := by omega
            obtain ⟨s, hsk⟩ : ∃ s, lv[k]? = some s := ⟨_, List.getElem?_eq_getElem (by rw [unhide HLL]; exact hkl)⟩
            obtain ⟨z0, z1⟩ := Hs.at (unhide HL).cells_ (k := k) (s := (s : Int)) (x := 1) (by simp [hof, hsk])
            obtain ⟨v, hv⟩ := (unhide HT).lvOk s (List.mem_of_getElem? hsk)
            have HFR := hide (free_ok b c d n s gs fr 0 1 v w2 (unhide HA) hv (by omega) (by omega) (by omega) (by rw [unhide HFL]; omega))
            have HSK := hide hsk
            clear HWI hv hsk hcx2 r1
            go_wp2_with fail
            refine (unhide HFR).mono ?_
            rintro e w3 ⟨rfl, hA3, hF3⟩
            have hL3 := (unhide HL).fr (unhide HA) hF3
            have hO3 := (unhide HF).fr (unhide HA) hF3
            have hB3 := hB.trans (hF3.below hb hc hd hs)
            have hs3 : h ≤ w3.heap.size := Nat.le_trans hs hF3.size
            obtain ⟨q0, q1⟩ := Hs.at hL3.cells_ (k := k) (s := (s : Int)) (x := 1) (by simp [hof, unhide HSK])
            have hT3 := (unhide HT).free (unhide HSK)
            have hA4 := hA3.alloc (hObj (s : Int) 1)
            have hBa := (Below.refl _ w3).alloc (Nat.le_refl _) (hObj (s : Int) 1)
            have hL4 := hL3.below hBa
            have hO4 := hO3.below hBa
            have hB4 := hB3.alloc hs3 (hObj (s : Int) 1)
            have hs4 : h ≤ (w3.alloc (hObj (s : Int) 1)).heap.size := by simp; omega
            have hO5 : (w3.alloc (hObj (s : Int) 1)).ownsRow h 29 2 (.slice fa fl fc) fl (rowsOf Slot.row (hof fr)) := by
              have t : (w3.alloc (hObj (s : Int) 1)).ownsRow h 29 2 (.slice fa fl fc) (hof fr).length (rowsOf Slot.row (hof fr)) := hO4
              rwa [List.length_map, unhide HFL] at t
            have H4 := hide (And.intro hA4 (And.intro hL4 (And.intro hO4 hB4)))
            have HT3 := hide hT3
            generalize hrw : rowsOf Slot.row (hof fr) = RW at hO5
            have HRW := hide hrw
            clear z0 z1 HFR hA3 hF3 hL3 hO3 hB3 hA4 hL4 hO4 hB4 hT3 hBa HL HF HA HT hB hs hrw
            go_wp2_with (first
              | (at_builtin; refine wpList_append_own_at _ rfl _ _ 36 rfl h 29 i0 (.agg #[.int .i64 0, .int .i64 0]) 2 16 Try.underlying36 hi hz0 hz1 hz2 rfl (by decide) _ _ _ rfl hO5 ⟨w3.heap.size, 0, none⟩ 1 1 [.int .i64 (s : Int), .int .i64 1] rfl rfl ?c1 ?c2 ?c3 ?c4 ?c5 ?_))
            case c1 =>
              intro j u hj
              match j, hj with
              | 0, hj => simp at hj; subst hj; simp [Addr.add]
              | 1, hj => simp at hj; subst hj; simp [Addr.add]
            case c2 => intro u hu; simp at hu; rcases hu with rfl | rfl <;> rfl
            case c3 => unfold maxLen; omega
            case c4 => omega
            case c5 => exact hs4
            intro v5 w5 own5 hgr _ hat
            obtain ⟨hA4, hL4, hO4, hB4⟩ := unhide H4
            have hA6 := hA4.grown hO4 hgr
            have hB6 := below_grown hB4 hO4 hgr hs4
            have hs6 : h ≤ w5.heap.size := Nat.le_trans hs4 hgr.size
            have hL6 := hL4.grown (v := .slice fa fl fc) hgr (fun k hk e => unhide HNE k e hk)
            have hO6 : Hs h w5 v5 (hof (fr ++ [s])) := by
              have e1 : hof (fr ++ [s]) = hof fr ++ [((s : Int), 1)] := by simp [hof]
              unfold Hs
              rw [e1, rows_app, rows_one, unhide HRW]
              simpa [unhide HFL] using own5
            have hl5 : ∀ j, v5.ownBlock = some j → j < w5.heap.size := fun j hj => (hO6.lt hj).1
            have hgl6 : g < w5.heap.size := (hL6.lt (k := g) rfl).1
            clear hA4 hL4 hO4 hB4 own5 hgr hat H4 hO5 q0 q1
            obtain ⟨p2, hp2⟩ : ∃ p2 : Addr, p2 = if lc = k + 1 then ⟨g, 0, none⟩ else ⟨g, (k + 1) * 2, none⟩ := ⟨_, rfl⟩
            obtain ⟨v8, v9, W8, W9, r8, r9, hL9, hB9, hb9⟩ := erase_run h w5 g lc l k (hof lv) hL6 (by rw [List.length_map, unhide HLL]) hkl (by omega) hs6 hgl6 p2 (by intro hlt; rw [hp2, if_neg (by omega)])
            have hA9 := hA6.below hB9
            have hO9 := hO6.below hB9
            have hB10 := hB6.trans (hB9.mono hs6)
            have hs9 : h ≤ W9.heap.size := Nat.le_trans hs6 hB9.size
            rw [← hof_erase] at hL9
            have hne9 : ∀ j, v5.ownBlock = some j → v9.ownBlock ≠ some j := fun j h1 h2 => by have := hl5 j h1; have := hb9 j h2; omega
            have H9 := hide (And.intro hA9 (And.intro hL9 (And.intro hO9 (And.intro hB10 hne9))))
            clear hA6 hB6 hL6 hO6 hl5 hA9 hO9 hB10 hL9 hne9 hB9 hb9
            generalize hK1 : k + 1 = K1 at *
            have HK1 := hide hK1
            have e1 : (k : Int) + 1 = (K1 : Int) := by omega
            have e2 : IntKind.i64.wrap ((k : Int) + 1) = (K1 : Int) := by rw [e1, IntKind.wrap_i64]; omega
            have e3 : IntKind.i64.wrap (K1 : Int) = (K1 : Int) := by rw [IntKind.wrap_i64]; omega
            have m0 : (0 : Int) ≤ (k : Int) := by omega
            have m1 : (k : Int) ≤ (lc : Int) := by omega
            have m2 : (0 : Int) ≤ (K1 : Int) := by omega
            have m3 : (K1 : Int) ≤ (l : Int) := by omega
            have m4 : (l : Int) ≤ (lc : Int) := by omega
            go_wp2_with fail
            by_cases hlc : lc = K1
            · rw [if_pos hlc] at hp2
              subst hp2
              obtain rfl : l = K1 := by omega
              subst hlc
              simp only [Nat.sub_self] at r9
              go_region_held3 (fun _ => True) (exact trivial)
                (first
                  | (refine step_append_eq (by rfl) _ _ 36 (by rfl) 36 (by rfl) _ _ (by rfl) (by rfl) _ _ r8 ?_)
                  | (refine step_append_eq (by rfl) _ _ 36 (by rfl) 36 (by rfl) _ _ (by rfl) (by rfl) _ _ r9 ?_))
              all_goals go_wp2_with fail
              go_roundw
              case rel =>
                obtain ⟨hA9, hL9, hO9, hB10, hne9⟩ := unhide H9
                refine ⟨t + 1, _, _, _, by omega, by go_num, unhide HT3, hA9, hL9, hO9, hne9, hB10, hs9⟩
              case measure => simp [intOf]; omega
            · rw [if_neg hlc] at hp2
              subst hp2
              have hlc2 : ¬ K1 = lc := fun e => hlc e.symm
              go_region_held3 (fun _ => True) (exact trivial)
                (first
                  | (refine step_append_eq (by rfl) _ _ 36 (by rfl) 36 (by rfl) _ _ (by rfl) (by rfl) _ _ r8 ?_)
                  | (refine step_append_eq (by rfl) _ _ 36 (by rfl) 36 (by rfl) _ _ (by rfl) (by rfl) _ _ r9 ?_))
              all_goals go_wp2_with fail
              go_roundw
              case rel =>
                obtain ⟨hA9, hL9, hO9, hB10, hne9⟩ := unhide H9
                refine ⟨t + 1, _, _, _, by omega, by go_num, unhide HT3, hA9, hL9, hO9, hne9, hB10, hs9⟩
              case measure => simp [intOf]; omega
        · obtain rfl : t = len1 := by omega
          clear HNE HR
          go_wp2_with fail
          go_loopw [14] (fun i wr => ∃ (t : Nat) (gs : List Slot), t ≤ fr.length ∧ i = .int .i64 t ∧ (∀ s ∈ fr.drop t, gs[s]? = some (2, 0)) ∧ Ar wr b c d n gs (fr.drop t) 0 ∧ Hs h wr (.slice fa fr.length fc) (hof fr) ∧ Below h w1 wr ∧ h ≤ wr.heap.size) (fun i _ => fr.length - (intOf i).toNat)
          case atStart => exact ⟨0, gs, Nat.zero_le _, rfl, by simpa using (unhide HT).frOk, by simpa using unhide HA, unhide HF, hB, hs⟩
          case round =>
            obtain ⟨t, gs, ht, rfl, hgs, hA, hF, hB, hs⟩ := hrel
            clear HA HL HF
            have hfl12 : fr.length ≤ 12 := by have := (unhide HT).len; omega
            by_cases htf : t < fr.length
            · obtain ⟨s, hsl⟩ : ∃ s, fr[t]? = some s := ⟨_, List.getElem?_eq_getElem htf⟩
              have hdr : fr.drop t = s :: fr.drop (t + 1) := by
                have := (List.getElem?_eq_some_iff.1 hsl).2
                rw [List.drop_eq_getElem_cons htf, this]
              have hg := hgs s (by rw [hdr]; simp)
              have hnd : (s :: fr.drop (t + 1)).Nodup := by rw [← hdr]; exact ((List.nodup_append.1 (unhide HT).nd).2.1).sublist (List.drop_sublist _ _)
              have HTK := hide (take_yesL b c d n s gs _ _ 0 7 2 0 3 wr hdr hA hg (by omega) (by omega) rfl)
              have hfn : hof fr ≠ [] := by intro e; have := congrArg List.length e; simp at this; rw [this] at htf; simp at htf
              obtain ⟨g, cap, cur, e0, hgb, hgg, hcap, hcm, hce⟩ := hF.open_ hfn
              simp only [List.length_map, Value.slice.injEq] at e0
              obtain ⟨rfl, -, rfl⟩ := e0
              have hcc := Hs.at hce (k := t) (s := (s : Int)) (x := 1) (by simp [hof, hsl])
              have HA := hide hA
              have HF := hide hF
              have HGS := hide hgs
              have HND := hide hnd
              have HDR := hide hdr
              have HCC := hide hcc
              generalize hfl : fr.length = fl at *
              have HFL := hide hfl
              clear hA hF hgs hg hnd hdr hce hcc hsl hfn hgg hfl
              have j1 : (t : Int) < (fl : Int) := by omega
              have j0 : (0 : Int) ≤ (t : Int) := by omega
              go_wp2_with fail
              refine (unhide HTK).mono ?_
              rintro e w2 ⟨rfl, hA2, hF2⟩
              have hO2 := (unhide HF).fr (unhide HA) hF2
              have hB2 := hB.trans (hF2.below hb hc hd hs)
              have hs2 : h ≤ w2.heap.size := Nat.le_trans hs hF2.size
              obtain ⟨w3, hx, k3, hK, hz⟩ := stored w2 (s : Int) 3
              obtain ⟨y0, y1, yf⟩ := hcells k3
              have hA3 := hA2.below hK
              have hO3 := hO2.below hK
              have hB3 := hB2.trans (hK.mono hs2)
              have hs3 : h ≤ w3.heap.size := by omega
              obtain ⟨z0, z1⟩ := Hs.at hO3.cells_ (k := t) (s := (s : Int)) (x := 1) (by have := unhide HDR; have e := congrArg (·[0]?) this; simp at e; simp [hof, e])
              have HA3 := hide hA3
              have HO3 := hide hO3
              clear hA2 hF2 hO2 hB2 hA3 hO3 k3 hK HTK HA HF hB hs hs2 hz
              go_wp2_with fail
              go_quiet (fail)
              go_wp2_with fail
              go_roundw
              case rel =>
                refine ⟨t + 1, _, by omega, by go_num, ?_, (unhide HA3).dn _, (unhide HO3).keep (fun _ _ _ _ => rfl), below_dn hB3 _, hs3⟩
                intro s' hs'
                have hne : s ≠ s' := by rintro rfl; exact (List.nodup_cons.1 (unhide HND)).1 hs'
                rw [List.getElem?_set_ne hne]
                exact unhide HGS s' (by rw [unhide HDR]; exact List.mem_cons_of_mem _ hs')
              case measure => simp [intOf]; omega
            · obtain rfl : t = fr.length := by omega
              rw [List.drop_length] at hA
              have HTK := hide (take_no b c d n gs 0 1 wr hA)
              generalize hfl : fr.length = fl at *
              clear hgs hF hA htf hfl
              go_wp2_with fail
              refine (unhide HTK).mono ?_
              rintro e w2 ⟨rfl, hA2, hB2'⟩
              have hB2 := hB.trans (hB2'.mono hs)
              have hs2 : h ≤ w2.heap.size := Nat.le_trans hs hB2'.size
              clear HTK hB2' hA2 hB hs
              go_wp2_with fail
              obtain ⟨w3, hx, k3, hK, hz⟩ := stored w2 0 0
              rw [hx]
              refine (known_true w3).mono ?_
              rintro e w4 ⟨rfl, hB4⟩
              go_wp2_with fail
              go_ret
              rw [unhide HW]
              exact ⟨rfl, (hB2.trans (hK.mono hs2)).trans (hB4.mono (by omega))⟩

set_option maxRecDepth 100000 in
theorem lifted (os : Os) (started : os.Started) (H : Type) (enc : TypeId × Value → H) :
    ReturnsInHanded {} Try.checked os 7 .any (Rows.arenaTurnSpec.pre6 enc Try.prog Try.f7 Rows.arenaTurnRow.domain false) (Rows.arenaTurnSpec.post enc Try.prog Try.f7 false true false false) := by
  refine returnsInHanded_of_change (C := Try.checked) own started (by kernel_rfl) Try.func7
    (ChangeSpec.witness6 (enc := enc) (C := Try.checked) false ⟨#[], #[.int .i64 0, .slice none 0 0], []⟩ 8 (by kernel_rfl) (by kernel_rfl) (by kernel_rfl) (by kernel_rfl)) ?_
  intro W base args ds gs before hval0 hW hcnd _
  have hval : ∀ (j : Nat) t v, Try.f7.params[j]? = some t → args[j]? = some v → Value.okWide Try.prog W .any base t v := hval0
  have hW' := hW
  obtain ⟨p, q, hA0, hV, rfl, hfz, hnd⟩ := hW
  have hA : DataW.TrodAll enc Try.prog W 0 (fun _ => true) true Try.f7.params.toList args.toList ds p := hA0
  rw [Try.params7] at hA hval
  obtain ⟨v0, vs0, d0, ds0, p0, q0, hargs, rfl, rfl, h0, r0⟩ := trodAll_cons hA
  obtain ⟨v1, vs1, d1, ds1, p1, q1, rfl, rfl, rfl, h1, r1⟩ := trodAll_cons r0
  obtain ⟨rfl, rfl, rfl⟩ := trodAll_nil r1
  obtain rfl : args = #[v0, v1] := by cases args; simp_all
  obtain ⟨rfl, rfl⟩ := trodVars_none hV
  obtain ⟨a0, rfl, rfl, rfl, w0⟩ := open_int Try.underlying3 (hval 0 3 v0 rfl rfl) h0
  obtain ⟨a1, len1, cap1, rfl⟩ := okWide_slice Try.underlying53 (hval 1 53 v1 rfl rfl)
  have k1 := h1
  have lt1 : ∀ x ∈ p1, x.block < W.heap.size := by obtain ⟨m, hm⟩ := k1; exact DataW.trod_lt m _ _ _ hm
  obtain ⟨z1, w1⟩ : ∃ zs, IsRow .i64 W a1 len1 cap1 zs := by
    obtain ⟨fuel, hf⟩ := h1
    rcases open_ints Try.underlying53 Try.underlying3 (by kernel_rfl) hf with ⟨hcs, _⟩ | ⟨x, l, c, zs, hcs, _, hl, hm, hz, _, hcell, hwz⟩
    · simp [Value.cells] at hcs
      obtain ⟨rfl, rfl, rfl⟩ := hcs
      exact ⟨[], .inl ⟨rfl, rfl, rfl, rfl⟩⟩
    · simp [Value.cells] at hcs
      obtain ⟨rfl, rfl, rfl⟩ := hcs
      exact ⟨zs, .inr ⟨_, rfl, hl, hm, by simpa using hz, hcell, hwz⟩⟩
  clear hA0 hval0
  refine (walk a0 a1 len1 cap1 W w1.picks).mono fun e W' ⟨he, bel⟩ => ?_
  subst he
  exact ⟨_, rfl, _, _, _, [], _, [], hW', trodAll_mk1 (shut_bool Try.underlying4 _), (trodAll_cons_mk (shut_int Try.underlying3 w0) (trodAll_cons_mk (Below.trod laidOut (by kernel_rfl) (of_decide_eq_true (by kernel_rfl)) k1 bel lt1) trodAll_mk0)), rfl, bel.frame _, fun h => by cases h⟩

theorem over : Rows.arenaTurnRow.holds Try.pinned (OpenSpec.ofChange Rows.arenaTurnSpec) :=
  OpenClaim.holds_of_wide 7 Try.f7 rfl rfl rfl rfl rfl rfl rfl ⟨rfl, rfl, rfl, rfl, rfl⟩ rfl rfl rfl rfl rfl (by kernel_rfl) Try.func7 (by kernel_rfl)
    (of_decide_eq_true (by kernel_rfl)) (by unfold Func.isWrapper; first | (rw [if_pos (by decide +kernel)]; kernel_rfl) | (rw [if_neg (by decide +kernel)]; exact ⟨rfl, rfl⟩))
    (fun os started H enc _ => lifted os started H enc)

end Go.Proofs.Ytfhphamjalpjpaa.arenaTurn

namespace Go.Proofs.Ytfhphamjalpjpaa
/-- ArenaTurn answers true. -/
theorem arenaTurn_proved : Rows.ArenaTurnSaid := arenaTurn.over
#print axioms arenaTurn_proved
end Go.Proofs.Ytfhphamjalpjpaa
