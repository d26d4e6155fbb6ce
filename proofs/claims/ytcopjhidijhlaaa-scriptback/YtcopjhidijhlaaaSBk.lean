/-
  ScriptBack's walk.
-/
import Derived.Test.YtcopjhidijhlaaaSM
import Derived.Test.YtcopjhidijhlaaaSQ
import Derived.Test.YtcopjhidijhlaaaSReadA
namespace Go.Proofs.Ytcopjhidijhlaaa.Cl
open Go.RowKit
attribute [local go_sem ↓] Go.wp_at_zero Go.wp_at_succ

set_option maxRecDepth 100000 in
set_option maxHeartbeats 8000000 in
theorem sback_walk (ps : List Ip) (a : Option Addr) (n cap : Nat) (a2 : Option Addr) (l : List UInt8) (cap2 : Nat) (w : World) (hn : n = ps.length) (hc : n ≤ cap) (hm : cap ≤ maxLen) (hI : Ips w w.heap.size a ps) (h2 : By w w.heap.size a2 l ∧ l.length ≤ cap2 ∧ cap2 ≤ maxLen ∧ (a2 = none → cap2 = 0)) :
    Calls Try.prog 6 #[.slice a n cap, .slice a2 l.length cap2] w fun e w' => e = .returned (.bool true) ∧ Below w.heap.size w w' := by
  have q1 : (n : Int) ≤ (cap : Int) := by omega
  have q2 : (cap : Int) ≤ 9223372036854775807 := by unfold maxLen at hm; omega
  have HBY := hide h2.1
  have HL := hide (⟨h2.2.1, h2.2.2.1⟩ : _ ∧ _)
  obtain ⟨m, qs0, hm0, hq0, hI0, hcase⟩ : ∃ (m : Nat) (qs0 : List Ip), m = qs0.length ∧ m ≤ 40 ∧ Ips w w.heap.size a qs0 ∧ ((40 < n ∧ m = 40) ∨ (¬ 40 < n ∧ m = n)) := by
    by_cases h40 : 40 < n
    · exact ⟨40, ps.take 40, by rw [List.length_take]; omega, Nat.le_refl _, hI.take 40, .inl ⟨h40, rfl⟩⟩
    · exact ⟨n, ps, hn, by omega, hI, .inr ⟨h40, rfl⟩⟩
  have HI := hide hI0
  have HM := hide (⟨hm0, hq0⟩ : _ ∧ _)
  clear h2 hn hI hm0 hq0 hI0 hc hm
  go_enter Try.func6, Try.ntmps6
  go_upto_if 14 with fail
  go_cut [0] from 15 to 16 (fun v wc => v = .slice a m cap ∧ w = wc)
  case first =>
    rcases hcase with ⟨h40, rfl⟩ | ⟨h40, rfl⟩
    · have j40 : (40 : Int) < (n : Int) := by omega
      have j41 : (40 : Int) ≤ (cap : Int) := by omega
      go_wp2_with fail
      go_meet
      case rel => exact ⟨rfl, rfl⟩
    · have j40 : ¬ (40 : Int) < (m : Int) := by omega
      go_wp2_with fail
      go_meet
      case rel => exact ⟨rfl, rfl⟩
  case rest =>
  obtain ⟨rfl, rfl⟩ := hcut
  clear hcase
  have HE := hide (sencode_any qs0 a m cap (unhide HM).1 w (unhide HI))
  obtain ⟨L, hL⟩ : ∃ L, fsts qs0 = L := ⟨_, rfl⟩
  rw [hL] at HE
  have HLL := hide hL
  clear hL
  by_cases hz : encR L = 0
  · have hz2 := hz
    rw [hz, eb_yes hz] at HE
    unfold encR at hz2
    have hl0 : L.length = m := by rw [← unhide HLL]; simp; exact (unhide HM).1.symm
    have hm40 := (unhide HM).2
    rw [if_neg (by omega)] at hz2
    have hlr := whys_ok hz2
    have hdec : decs 1024 (encs L) = L := by
      have h1 := dec_encs L 1024 [] hlr (by omega)
      rw [List.append_nil] at h1
      rw [h1, decs_nil, List.append_nil]
    have HDC := hide hdec
    have hm40' : m ≤ 40 := hm40
    clear hz hz2 hl0 hlr hdec hm40
    go_wp2_with fail
    refine (unhide HE).mono ?_
    rintro e W2 ⟨v2, rfl, r2, be2⟩
    obtain ⟨ba, bcap, rfl, hbb, hbl, hbm, hbn⟩ := bwForm5 r2
    have HD2 := hide (sdecode_any (encs L) ba _ bcap rfl hbl hbm W2 hbb)
    have HB2 := hide be2
    clear HE r2 be2 hbb hbl hbm hbn
    generalize (encs L).length = el at *
    go_wp2_with fail
    refine (unhide HD2).mono ?_
    rintro e W3 ⟨v3, ts, rfl, hts, ht3, be3⟩
    obtain ⟨ta, tc, rfl, hti, -⟩ := ht3.form
    have hts2 : fsts ts = fsts qs0 := hts.trans ((unhide HDC).trans (unhide HLL).symm)
    have htl : ts.length = m := by
      have := congrArg List.length hts2
      simp at this
      have := (unhide HM).1
      omega
    have HB3 := hide ((unhide HB2).trans (be3.mono (unhide HB2).size))
    have HK := hide (items_same ts qs0 hts2 ta a m m tc cap htl.symm (unhide HM).1 (by omega) W3 hti (((unhide HI).below (unhide HB3)).mono (unhide HB3).size))
    rw [htl]
    clear HD2 HB2 be3 hts ht3 hti hts2 htl hm40'
    go_wp2_with fail
    refine (unhide HK).mono ?_
    rintro e W5 ⟨rfl, be5⟩
    have HB5 := hide ((unhide HB3).trans (be5.mono (unhide HB3).size))
    clear be5 HK HB3
    go_wp2_with fail
    have HD := hide (sdecode_any l a2 _ cap2 rfl (unhide HL).1 (unhide HL).2 W5 (((unhide HBY).below (unhide HB5)).mono (unhide HB5).size))
    go_wp2_with fail
    refine (unhide HD).mono ?_
    rintro e W6 ⟨vm, qs, rfl, hqs, hir, be6⟩
    obtain ⟨va, vc, rfl, hip, hvc, hvm⟩ := hir.form
    obtain ⟨mq, hmq⟩ : ∃ mq, qs.length = mq := ⟨_, rfl⟩
    have hq1024 : mq ≤ 1024 := by
      have h1 := congrArg List.length hqs
      have h2 := (decs_len 1024 l).1
      simp at h1
      omega
    have hrt : ∀ p ∈ qs, p.1.kind ≠ 0 → p.1.right = 0 := fun p hp => decs_right 1024 l p.1 (by rw [← hqs]; exact List.mem_map_of_mem hp)
    have HQ := hide (⟨hip, hrt⟩ : _ ∧ _)
    have HB6 := hide ((unhide HB5).trans (be6.mono (unhide HB5).size))
    rw [hmq]
    have HMQ := hide hmq
    have hvc2 : (mq : Int) ≤ (vc : Int) := by omega
    clear HD hqs hir be6 hip hmq hrt
    go_wp2_with fail
    go_loopw [7, 9] (fun gv i wr => ∃ (k : Nat) (v : Value), k ≤ mq ∧ i = .int .i64 k ∧ v = gv ∧ Ir wr W6.heap.size v ((qs.take k).filter (fun p => p.1.kind != 0)) ∧ Below W6.heap.size W6 wr) (fun _ i _ => mq - (intOf i).toNat)
    case atStart => exact ⟨0, _, by omega, rfl, rfl, by simpa using Ir.nil _ _, Below.refl _ _⟩
    case round =>
      obtain ⟨k, v, hk, rfl, rfl, hir, hB⟩ := hrel
      obtain ⟨xa, xl, xc, rfl⟩ := hir.sl3
      by_cases hkn : k < mq
      · have j1 : (k : Int) < (mq : Int) := by omega
        have j0 : (0 : Int) ≤ (k : Int) := by omega
        have j2 : (k : Int) ≤ 1000000 := by omega
        obtain ⟨p, hp⟩ : ∃ p, qs[k]? = some p := ⟨_, List.getElem?_eq_getElem (by have := unhide HMQ; omega)⟩
        obtain ⟨g, off, ea⟩ : ∃ g off, va = some ⟨g, off, none⟩ := by
          obtain ⟨g, off, e, -⟩ := (unhide HQ).1 k p hp
          exact ⟨g, off, e⟩
        subst ea
        have hright := (unhide HQ).2 p (List.mem_of_getElem? hp)
        have HRW0 := hide (fun W' (g0 : Below W6.heap.size W6 W') => ((unhide HQ).1.below g0).at' hp)
        have htk : (qs.take (k + 1)).filter (fun p => p.1.kind != 0) = (qs.take k).filter (fun p => p.1.kind != 0) ++ (if p.1.kind != 0 then [p] else []) := by
          rw [List.take_add_one, hp, List.filter_append]
          simp [List.filter_cons]
        obtain ⟨x, d⟩ := p
        obtain ⟨hrow, hdu⟩ := unhide HRW0 _ hB
        have hdu0 := (unhide HRW0 _ (Below.refl _ _)).2
        obtain ⟨da, dc, hde, hby, -⟩ := id hdu
        simp only at hrow hde hby HRW0 htk hright
        subst hde
        obtain ⟨r0, r1, r2, r3, r4, r5, r6, r7, r8, r9, r10, r11⟩ := row12 hrow
        by_cases hk0 : x.kind = 0
        · have hk2 : (x.kind != 0) = false := by simp [hk0]
          rw [hk2] at htk
          simp only [Bool.false_eq_true, if_false, List.append_nil] at htk
          have HF := hide (⟨(by rw [htk]; exact hir), hB⟩ : Ir wr W6.heap.size (.slice xa xl xc) ((qs.take (k + 1)).filter (fun p => p.1.kind != 0)) ∧ _)
          clear hir hB hp hright HRW0 htk hdu hdu0 hby hrow hk0
          go_wp2_with fail
          exact ⟨⟨k + 1, _, by omega, by go_num, rfl, (unhide HF).1, (unhide HF).2⟩, by simp [intOf]; omega⟩
        · have hk2 : (x.kind != 0) = true := by simpa using hk0
          rw [hk2, if_pos rfl] at htk
          have hx0 := hright hk0
          have HC := hide (iright_any x da _ dc rfl wr)
          rw [hx0] at HC
          unfold It.cs at HC
          have HX := hide (⟨hir, hB, htk, hdu0⟩ : _ ∧ _ ∧ _ ∧ _)
          clear hir hB hp hright htk hdu hdu0 hby hrow hk0 hx0
          go_wp2_with fail
          refine (unhide HC).mono ?_
          rintro e W7 ⟨rfl, be7⟩
          obtain ⟨hir, hB, htk, hdu0⟩ := unhide HX
          have hB7 := hB.trans (be7.mono hB.size)
          obtain ⟨v8, W8, hrun, hir8, hK8⟩ := (hir.below be7).new (Nat.le_trans hB.size be7.size) x (.slice da x.c.data.length dc) ((hdu0.below hB7).mono hB7.size) (fun hne k e e2 => by
            have h1 := (hir.below be7).own e2
            obtain ⟨da', dc', hde', hby', -⟩ := hdu0
            obtain ⟨c0, hc0⟩ : ∃ c0, x.c.data[0]? = some c0 := ⟨_, List.getElem?_eq_getElem (by
              cases hd : x.c.data with
              | nil => exact absurd hd hne
              | cons c l => simp)⟩
            obtain ⟨b', off', e4, h5, -⟩ := hby' 0 c0 hc0
            simp only at hde' e
            rw [hde', e4] at e
            simp [Value.ownBlock] at e
            omega) (by
            have h1 := List.length_filter_le (fun p : Ip => p.1.kind != 0) (qs.take k)
            rw [List.length_take] at h1
            omega)
          obtain ⟨ya, yl, yc, rfl⟩ := hir8.sl3
          obtain ⟨s0, s1, s2, s3, s4, s5, s6, s7, s8, s9, s10, s11⟩ := row12 (unhide HRW0 _ hB7).1
          rw [← htk] at hir8
          have HF := hide (⟨hir8, hB7.trans hK8.be⟩ : _ ∧ _)
          unfold It.cs at hrun
          clear hir hB htk hdu0 be7 hB7 hir8 hK8 HX HC HRW0 r0 r1 r2 r3 r4 r5 r6 r7 r8 r9 r10 r11
          go_wp2_with (at_builtin; refine wpList_app rfl _ _ 30 30 rfl 30 rfl _ _ (by rfl) (by rfl) _ _ hrun ?_; clear hrun)
          exact ⟨⟨k + 1, _, by omega, by go_num, rfl, (unhide HF).1, (unhide HF).2⟩, by simp [intOf]; omega⟩
      · obtain rfl : mq = k := by omega
        have j1 : ¬ (mq : Int) < (mq : Int) := by omega
        rw [List.take_of_length_le (by have := unhide HMQ; omega)] at hir
        obtain ⟨gs, hgs⟩ : ∃ gs, qs.filter (fun p : Ip => p.1.kind != 0) = gs := ⟨_, rfl⟩
        rw [hgs] at hir
        have hgl : gs.length ≤ 1024 := by
          have h1 := List.length_filter_le (fun p : Ip => p.1.kind != 0) qs
          have := unhide HMQ
          rw [hgs] at h1
          omega
        have hgr : ∀ y ∈ fsts gs, y.right = 0 := fun y hy => by
          obtain ⟨p, hp, rfl⟩ := List.mem_map.1 hy
          rw [← hgs] at hp
          obtain ⟨h1, h2⟩ := List.mem_filter.1 hp
          exact (unhide HQ).2 p h1 (by simpa using h2)
        have henc : encR (fsts gs) = 0 := by
          unfold encR
          rw [if_neg (by simp; omega)]
          exact whys_of hgr
        obtain ⟨ga, gc, ge, hgi, -⟩ := hir.form
        simp only [Value.slice.injEq] at ge
        obtain ⟨rfl, hxl, rfl⟩ := ge
        have HE := hide (sencode_any gs xa xl xc hxl wr hgi)
        rw [henc, eb_yes henc] at HE
        have HB7 := hide ((unhide HB6).trans (hB.mono (unhide HB6).size))
        have HG := hide (⟨hgi, hxl, hgl, hgr⟩ : _ ∧ _ ∧ _ ∧ _)
        clear hir hgs hgl hgr henc hgi hxl hB HB6
        go_wp2_with fail
        refine (unhide HE).mono ?_
        rintro e W8 ⟨v8, rfl, r8, be8⟩
        obtain ⟨ba, bcap, rfl, hbb, hbl, hbm, hbn⟩ := bwForm5 r8
        have HD8 := hide (sdecode_any (encs (fsts gs)) ba _ bcap rfl hbl hbm W8 hbb)
        have HB8 := hide ((unhide HB7).trans (be8.mono (unhide HB7).size))
        have HG8 := hide ((unhide HG).1.below be8)
        have HS8 := hide be8.size
        clear HE r8 be8 hbb hbl hbm hbn HB7
        generalize (encs (fsts gs)).length = el at *
        go_wp2_with fail
        refine (unhide HD8).mono ?_
        rintro e W9 ⟨v9, ts, rfl, hts, ht9, be9⟩
        obtain ⟨hgi0, hxl, hgl, hgr⟩ := unhide HG
        have hts2 : fsts ts = fsts gs := hts.trans (by
          have h1 := dec_encs (fsts gs) 1024 [] hgr (by simp; omega)
          rw [List.append_nil] at h1
          rw [h1, decs_nil, List.append_nil])
        obtain ⟨ta, tc, rfl, hti, -⟩ := ht9.form
        have htl : ts.length = xl := by
          have := congrArg List.length hts2
          simp at this
          omega
        have HK := hide (items_same ts gs hts2 ta xa xl xl tc xc htl.symm hxl (by omega) W9 hti (((unhide HG8).below (be9.mono (unhide HS8))).mono (Nat.le_trans (unhide HS8) be9.size)))
        rw [htl]
        have HB9 := hide ((unhide HB8).trans (be9.mono (unhide HB8).size))
        clear hgi0 hxl hgl hgr hts hts2 ht9 hti htl be9 HD8 HB8 HG8 HG
        go_wp2_with fail
        refine (unhide HK).mono ?_
        rintro e W10 ⟨rfl, be10⟩
        have HB10 := hide ((unhide HB9).trans (be10.mono (unhide HB9).size))
        clear be10 HK HB9
        go_wp2_with fail
        refine (sknown_any W10).mono ?_
        rintro e W11 ⟨rfl, be11⟩
        have HB11 := hide ((unhide HB10).trans (be11.mono (unhide HB10).size))
        clear be11 HB10
        go_wp2_with fail
        go_ret
        exact ⟨rfl, unhide HB11⟩
  · have hz2 : (encR L == 0) = false := by simpa using hz
    have hz3 : (encR L != 0) = true := by simpa using hz
    clear hz
    go_wp2_with fail
    refine (unhide HE).mono ?_
    rintro e W5 ⟨v2, rfl, r2, be2⟩
    obtain ⟨ba, bcap, rfl, -⟩ := r2.form
    have HB5 := hide be2
    clear HE r2 be2
    generalize encR L = z at *
    generalize (eb L).length = el at *
    go_wp2_with fail
    have HD := hide (sdecode_any l a2 _ cap2 rfl (unhide HL).1 (unhide HL).2 W5 (((unhide HBY).below (unhide HB5)).mono (unhide HB5).size))
    go_wp2_with fail
    refine (unhide HD).mono ?_
    rintro e W6 ⟨vm, qs, rfl, hqs, hir, be6⟩
    obtain ⟨va, vc, rfl, hip, hvc, hvm⟩ := hir.form
    obtain ⟨mq, hmq⟩ : ∃ mq, qs.length = mq := ⟨_, rfl⟩
    have hq1024 : mq ≤ 1024 := by
      have h1 := congrArg List.length hqs
      have h2 := (decs_len 1024 l).1
      simp at h1
      omega
    have hrt : ∀ p ∈ qs, p.1.kind ≠ 0 → p.1.right = 0 := fun p hp => decs_right 1024 l p.1 (by rw [← hqs]; exact List.mem_map_of_mem hp)
    have HQ := hide (⟨hip, hrt⟩ : _ ∧ _)
    have HB6 := hide ((unhide HB5).trans (be6.mono (unhide HB5).size))
    rw [hmq]
    have HMQ := hide hmq
    have hvc2 : (mq : Int) ≤ (vc : Int) := by omega
    clear HD hqs hir be6 hip hmq hrt
    go_wp2_with fail
    go_loopw [7, 9] (fun gv i wr => ∃ (k : Nat) (v : Value), k ≤ mq ∧ i = .int .i64 k ∧ v = gv ∧ Ir wr W6.heap.size v ((qs.take k).filter (fun p => p.1.kind != 0)) ∧ Below W6.heap.size W6 wr) (fun _ i _ => mq - (intOf i).toNat)
    case atStart => exact ⟨0, _, by omega, rfl, rfl, by simpa using Ir.nil _ _, Below.refl _ _⟩
    case round =>
      obtain ⟨k, v, hk, rfl, rfl, hir, hB⟩ := hrel
      obtain ⟨xa, xl, xc, rfl⟩ := hir.sl3
      by_cases hkn : k < mq
      · have j1 : (k : Int) < (mq : Int) := by omega
        have j0 : (0 : Int) ≤ (k : Int) := by omega
        have j2 : (k : Int) ≤ 1000000 := by omega
        obtain ⟨p, hp⟩ : ∃ p, qs[k]? = some p := ⟨_, List.getElem?_eq_getElem (by have := unhide HMQ; omega)⟩
        obtain ⟨g, off, ea⟩ : ∃ g off, va = some ⟨g, off, none⟩ := by
          obtain ⟨g, off, e, -⟩ := (unhide HQ).1 k p hp
          exact ⟨g, off, e⟩
        subst ea
        have hright := (unhide HQ).2 p (List.mem_of_getElem? hp)
        have HRW0 := hide (fun W' (g0 : Below W6.heap.size W6 W') => ((unhide HQ).1.below g0).at' hp)
        have htk : (qs.take (k + 1)).filter (fun p => p.1.kind != 0) = (qs.take k).filter (fun p => p.1.kind != 0) ++ (if p.1.kind != 0 then [p] else []) := by
          rw [List.take_add_one, hp, List.filter_append]
          simp [List.filter_cons]
        obtain ⟨x, d⟩ := p
        obtain ⟨hrow, hdu⟩ := unhide HRW0 _ hB
        have hdu0 := (unhide HRW0 _ (Below.refl _ _)).2
        obtain ⟨da, dc, hde, hby, -⟩ := id hdu
        simp only at hrow hde hby HRW0 htk hright
        subst hde
        obtain ⟨r0, r1, r2, r3, r4, r5, r6, r7, r8, r9, r10, r11⟩ := row12 hrow
        by_cases hk0 : x.kind = 0
        · have hk2 : (x.kind != 0) = false := by simp [hk0]
          rw [hk2] at htk
          simp only [Bool.false_eq_true, if_false, List.append_nil] at htk
          have HF := hide (⟨(by rw [htk]; exact hir), hB⟩ : Ir wr W6.heap.size (.slice xa xl xc) ((qs.take (k + 1)).filter (fun p => p.1.kind != 0)) ∧ _)
          clear hir hB hp hright HRW0 htk hdu hdu0 hby hrow hk0
          go_wp2_with fail
          exact ⟨⟨k + 1, _, by omega, by go_num, rfl, (unhide HF).1, (unhide HF).2⟩, by simp [intOf]; omega⟩
        · have hk2 : (x.kind != 0) = true := by simpa using hk0
          rw [hk2, if_pos rfl] at htk
          have hx0 := hright hk0
          have HC := hide (iright_any x da _ dc rfl wr)
          rw [hx0] at HC
          unfold It.cs at HC
          have HX := hide (⟨hir, hB, htk, hdu0⟩ : _ ∧ _ ∧ _ ∧ _)
          clear hir hB hp hright htk hdu hdu0 hby hrow hk0 hx0
          go_wp2_with fail
          refine (unhide HC).mono ?_
          rintro e W7 ⟨rfl, be7⟩
          obtain ⟨hir, hB, htk, hdu0⟩ := unhide HX
          have hB7 := hB.trans (be7.mono hB.size)
          obtain ⟨v8, W8, hrun, hir8, hK8⟩ := (hir.below be7).new (Nat.le_trans hB.size be7.size) x (.slice da x.c.data.length dc) ((hdu0.below hB7).mono hB7.size) (fun hne k e e2 => by
            have h1 := (hir.below be7).own e2
            obtain ⟨da', dc', hde', hby', -⟩ := hdu0
            obtain ⟨c0, hc0⟩ : ∃ c0, x.c.data[0]? = some c0 := ⟨_, List.getElem?_eq_getElem (by
              cases hd : x.c.data with
              | nil => exact absurd hd hne
              | cons c l => simp)⟩
            obtain ⟨b', off', e4, h5, -⟩ := hby' 0 c0 hc0
            simp only at hde' e
            rw [hde', e4] at e
            simp [Value.ownBlock] at e
            omega) (by
            have h1 := List.length_filter_le (fun p : Ip => p.1.kind != 0) (qs.take k)
            rw [List.length_take] at h1
            omega)
          obtain ⟨ya, yl, yc, rfl⟩ := hir8.sl3
          obtain ⟨s0, s1, s2, s3, s4, s5, s6, s7, s8, s9, s10, s11⟩ := row12 (unhide HRW0 _ hB7).1
          rw [← htk] at hir8
          have HF := hide (⟨hir8, hB7.trans hK8.be⟩ : _ ∧ _)
          unfold It.cs at hrun
          clear hir hB htk hdu0 be7 hB7 hir8 hK8 HX HC HRW0 r0 r1 r2 r3 r4 r5 r6 r7 r8 r9 r10 r11
          go_wp2_with (at_builtin; refine wpList_app rfl _ _ 30 30 rfl 30 rfl _ _ (by rfl) (by rfl) _ _ hrun ?_; clear hrun)
          exact ⟨⟨k + 1, _, by omega, by go_num, rfl, (unhide HF).1, (unhide HF).2⟩, by simp [intOf]; omega⟩
      · obtain rfl : mq = k := by omega
        have j1 : ¬ (mq : Int) < (mq : Int) := by omega
        rw [List.take_of_length_le (by have := unhide HMQ; omega)] at hir
        obtain ⟨gs, hgs⟩ : ∃ gs, qs.filter (fun p : Ip => p.1.kind != 0) = gs := ⟨_, rfl⟩
        rw [hgs] at hir
        have hgl : gs.length ≤ 1024 := by
          have h1 := List.length_filter_le (fun p : Ip => p.1.kind != 0) qs
          have := unhide HMQ
          rw [hgs] at h1
          omega
        have hgr : ∀ y ∈ fsts gs, y.right = 0 := fun y hy => by
          obtain ⟨p, hp, rfl⟩ := List.mem_map.1 hy
          rw [← hgs] at hp
          obtain ⟨h1, h2⟩ := List.mem_filter.1 hp
          exact (unhide HQ).2 p h1 (by simpa using h2)
        have henc : encR (fsts gs) = 0 := by
          unfold encR
          rw [if_neg (by simp; omega)]
          exact whys_of hgr
        obtain ⟨ga, gc, ge, hgi, -⟩ := hir.form
        simp only [Value.slice.injEq] at ge
        obtain ⟨rfl, hxl, rfl⟩ := ge
        have HE := hide (sencode_any gs xa xl xc hxl wr hgi)
        rw [henc, eb_yes henc] at HE
        have HB7 := hide ((unhide HB6).trans (hB.mono (unhide HB6).size))
        have HG := hide (⟨hgi, hxl, hgl, hgr⟩ : _ ∧ _ ∧ _ ∧ _)
        clear hir hgs hgl hgr henc hgi hxl hB HB6
        go_wp2_with fail
        refine (unhide HE).mono ?_
        rintro e W8 ⟨v8, rfl, r8, be8⟩
        obtain ⟨ba, bcap, rfl, hbb, hbl, hbm, hbn⟩ := bwForm5 r8
        have HD8 := hide (sdecode_any (encs (fsts gs)) ba _ bcap rfl hbl hbm W8 hbb)
        have HB8 := hide ((unhide HB7).trans (be8.mono (unhide HB7).size))
        have HG8 := hide ((unhide HG).1.below be8)
        have HS8 := hide be8.size
        clear HE r8 be8 hbb hbl hbm hbn HB7
        generalize (encs (fsts gs)).length = el at *
        go_wp2_with fail
        refine (unhide HD8).mono ?_
        rintro e W9 ⟨v9, ts, rfl, hts, ht9, be9⟩
        obtain ⟨hgi0, hxl, hgl, hgr⟩ := unhide HG
        have hts2 : fsts ts = fsts gs := hts.trans (by
          have h1 := dec_encs (fsts gs) 1024 [] hgr (by simp; omega)
          rw [List.append_nil] at h1
          rw [h1, decs_nil, List.append_nil])
        obtain ⟨ta, tc, rfl, hti, -⟩ := ht9.form
        have htl : ts.length = xl := by
          have := congrArg List.length hts2
          simp at this
          omega
        have HK := hide (items_same ts gs hts2 ta xa xl xl tc xc htl.symm hxl (by omega) W9 hti (((unhide HG8).below (be9.mono (unhide HS8))).mono (Nat.le_trans (unhide HS8) be9.size)))
        rw [htl]
        have HB9 := hide ((unhide HB8).trans (be9.mono (unhide HB8).size))
        clear hgi0 hxl hgl hgr hts hts2 ht9 hti htl be9 HD8 HB8 HG8 HG
        go_wp2_with fail
        refine (unhide HK).mono ?_
        rintro e W10 ⟨rfl, be10⟩
        have HB10 := hide ((unhide HB9).trans (be10.mono (unhide HB9).size))
        clear be10 HK HB9
        go_wp2_with fail
        refine (sknown_any W10).mono ?_
        rintro e W11 ⟨rfl, be11⟩
        have HB11 := hide ((unhide HB10).trans (be11.mono (unhide HB10).size))
        clear be11 HB10
        go_wp2_with fail
        go_ret
        exact ⟨rfl, unhide HB11⟩
end Go.Proofs.Ytcopjhidijhlaaa.Cl
