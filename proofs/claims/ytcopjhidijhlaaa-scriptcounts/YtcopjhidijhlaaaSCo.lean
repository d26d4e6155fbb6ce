/-
  ScriptCounts' walk.
-/
import Derived.Test.YtcopjhidijhlaaaSM
import Derived.Test.YtcopjhidijhlaaaSQ
import Derived.Test.YtcopjhidijhlaaaSReadA
namespace Go.Proofs.Ytcopjhidijhlaaa.Cl
open Go.RowKit
attribute [local go_sem ↓] Go.wp_at_zero Go.wp_at_succ

theorem wpList_appW {P : Program} {w : World} {ops : Array Oper} {rest : List Oper} {o : Oper} {a : Act} {Q : Exit → Act → World → Prop} (hw : Region.wanted o (yielded ops a.tmps) = true) (s x : Operand) (t t2 : TypeId)
    (ho : o.op = .call { callee := .builtin .append, args := #[s, x], argTypes := #[t, t2] }) (ty : TypeId) (hty : o.type = ty) (vs vx : Value) (hs : a.eval s = vs) (hx : a.eval x = vx) (v' : Value) (w' : World)
    (hrun : (Builtin.append_ #[t, t2] ty #[vs, vx]).run P w = .ok v' w') (h : wpList P ops Q rest (a.put o.dst v') w') : wpList P ops Q (o :: rest) a w := by
  unfold wpList
  rw [if_pos hw]
  left
  unfold Oper.wp execOp
  simp only [ho, resolve, invoke, builtin, Sem.run_bind, Sem.run_pure, Result.andThen_ok, List.map_toArray, List.map_cons, List.map_nil, hs, hx, hty, hrun]
  exact h
set_option maxRecDepth 100000 in
set_option maxHeartbeats 1500000 in
theorem scounts_walk (ps : List Ip) (a : Option Addr) (n cap : Nat) (a2 : Option Addr) (l : List UInt8) (cap2 : Nat) (w : World) (hn : n = ps.length) (hc : n ≤ cap) (hm : cap ≤ maxLen) (hI : Ips w w.heap.size a ps) (h2 : By w w.heap.size a2 l ∧ l.length ≤ cap2 ∧ cap2 ≤ maxLen ∧ (a2 = none → cap2 = 0)) :
    Calls Try.prog 8 #[.slice a n cap, .slice a2 l.length cap2] w fun e w' => e = .returned (.bool true) ∧ Below w.heap.size w w' := by
  have q1 : (n : Int) ≤ (cap : Int) := by omega
  have q2 : (cap : Int) ≤ 9223372036854775807 := by unfold maxLen at hm; omega
  obtain ⟨m, qs0, hm0, hq0, hI0, hmc, hcase⟩ : ∃ (m : Nat) (qs0 : List Ip), m = qs0.length ∧ m ≤ 20 ∧ Ips w w.heap.size a qs0 ∧ m ≤ cap ∧ ((20 < n ∧ m = 20) ∨ (¬ 20 < n ∧ m = n)) := by
    by_cases h20 : 20 < n
    · exact ⟨20, ps.take 20, by rw [List.length_take]; omega, Nat.le_refl _, hI.take 20, by omega, .inl ⟨h20, rfl⟩⟩
    · exact ⟨n, ps, hn, by omega, hI, hc, .inr ⟨h20, rfl⟩⟩
  obtain ⟨n2, l2, hl2, hn2, hb2, hcase2⟩ : ∃ (n2 : Nat) (l2 : List UInt8), n2 = l2.length ∧ n2 ≤ 800 ∧ By w w.heap.size a2 l2 ∧ ((800 < l.length ∧ n2 = 800) ∨ (¬ 800 < l.length ∧ n2 = l.length)) := by
    by_cases h8 : 800 < l.length
    · exact ⟨800, l.take 800, by rw [List.length_take]; omega, Nat.le_refl _, h2.1.take 800, .inl ⟨h8, rfl⟩⟩
    · exact ⟨l.length, l, rfl, by omega, h2.1, .inr ⟨h8, rfl⟩⟩
  have q4 : (l.length : Int) ≤ (cap2 : Int) := by have := h2.2.1; omega
  have q5 : (cap2 : Int) ≤ 9223372036854775807 := by have := h2.2.2.1; unfold maxLen at this; omega
  have HY := hide (⟨hb2, hl2, hn2, (show n2 ≤ cap2 by have := h2.2.1; rcases hcase2 with h | h <;> omega), h2.2.2.1⟩ : _ ∧ _ ∧ _ ∧ _ ∧ _)
  clear h2 hb2 hl2 hn2
  generalize l.length = nl at *
  have HI := hide hI0
  have HM := hide (⟨hm0, hq0, hmc⟩ : _ ∧ _ ∧ _)
  clear hn hI hm0 hq0 hI0 hc hm hmc
  go_enter Try.func8, Try.ntmps8
  go_upto_if 11 with fail
  go_cut [0] from 12 to 13 (fun v wc => v = .slice a m cap ∧ w = wc)
  case first =>
    rcases hcase with ⟨h40, rfl⟩ | ⟨h40, rfl⟩
    · have j40 : (20 : Int) < (n : Int) := by omega
      have j41 : (20 : Int) ≤ (cap : Int) := by omega
      go_wp2_with fail
      go_meet
      case rel => exact ⟨rfl, rfl⟩
    · have j40 : ¬ (20 : Int) < (m : Int) := by omega
      go_wp2_with fail
      go_meet
      case rel => exact ⟨rfl, rfl⟩
  case rest =>
  obtain ⟨rfl, rfl⟩ := hcut
  clear hcase q1
  have HE := hide (sencode_any qs0 a m cap (unhide HM).1 w (unhide HI))
  obtain ⟨L, hL⟩ : ∃ L, fsts qs0 = L := ⟨_, rfl⟩
  rw [hL] at HE
  have HLL := hide hL
  clear hL
  by_cases hz : encR L = 0
  · have hz2 := hz
    rw [hz, eb_yes hz] at HE
    unfold encR at hz2
    have hl0 : L.length = m := by rw [← unhide HLL]; simp; exact (unhide HM).1.symm
    have hm20 := (unhide HM).2.1
    rw [if_neg (by omega)] at hz2
    have HLR := hide (⟨whys_ok hz2, hl0⟩ : _ ∧ _)
    have hel := encs_len (whys_ok hz2)
    clear hz hz2 hl0
    go_wp2_with fail
    refine (unhide HE).mono ?_
    rintro e W2 ⟨v2, rfl, r2, be2⟩
    obtain ⟨ba, bcap, rfl, hbb, hbl, hbm, hbn⟩ := bwForm5 r2
    obtain ⟨el, hel2⟩ : ∃ el, (encs L).length = el := ⟨_, rfl⟩
    have hel3 : el ≤ 300000 := by have := (unhide HLR).2; omega
    have HR2 := hide (⟨hbb, hbl, hbm, hbn⟩ : _ ∧ _ ∧ _ ∧ _)
    have HB2 := hide be2
    rw [hel2]
    have HEL := hide hel2
    clear HE r2 be2 hbb hbl hbm hbn hel hel2
    go_upto_if 24 with fail
    go_cut [1] from 25 to 26 (fun v wc => v = .slice a2 n2 cap2 ∧ W2 = wc)
    case first =>
      rcases hcase2 with ⟨h8, rfl⟩ | ⟨h8, rfl⟩
      · have j80 : (800 : Int) < (nl : Int) := by omega
        have j81 : (800 : Int) ≤ (cap2 : Int) := by omega
        go_wp2_with fail
        go_meet
        case rel => exact ⟨rfl, rfl⟩
      · have j80 : ¬ (800 : Int) < (n2 : Int) := by omega
        go_wp2_with fail
        go_meet
        case rel => exact ⟨rfl, rfl⟩
    case rest =>
    obtain ⟨rfl, rfl⟩ := hcut
    clear hcase2
    have HD := hide (sdecode_any l2 a2 n2 cap2 (unhide HY).2.1 (unhide HY).2.2.2.1 (unhide HY).2.2.2.2 W2 (((unhide HY).1.below (unhide HB2)).mono (unhide HB2).size))
    go_wp2_with fail
    refine (unhide HD).mono ?_
    rintro e W3 ⟨v3, ts, rfl, hts, ht3, be3⟩
    obtain ⟨ta, tc, rfl, hti, htc, htm⟩ := ht3.form
    obtain ⟨z, hz⟩ : ∃ z, ts.length = z := ⟨_, rfl⟩
    have hzl : z ≤ n2 ∧ z ≤ 1024 := by
      have h1 := congrArg List.length hts
      have h2 := decs_len 1024 l2
      have h3 := (unhide HY).2.1
      simp at h1
      omega
    rw [hz]
    have HT := hide (⟨hti, hz, hts⟩ : _ ∧ _ ∧ _)
    have HB3 := hide ((unhide HB2).trans (be3.mono (unhide HB2).size))
    -- the bytes of both
    obtain ⟨V, hV, hVs, gV, hVB⟩ := alloc1 W3 (.cells #[] 5)
    have hbw0 : Bw V W3.heap.size (.slice (some ⟨W3.heap.size, 0, none⟩) 0 0) [] := .inr ⟨W3.heap.size, 0, #[], (0, 0), rfl, Nat.le_refl _, gV, .inl rfl, Nat.le_refl _, by unfold maxLen; omega, rfl, rfl⟩
    have hby1 : By V V.heap.size ba (encs L) := (((unhide HR2).1.below be3).below (hVB.mono be3.size)).mono (Nat.le_trans be3.size (by omega))
    obtain ⟨v4, W4, hrun4, hw4, hK4⟩ := hbw0.app (by omega) 22 ba (encs L) el bcap (unhide HEL).symm hby1 (by simp; rw [unhide HEL]; omega)
    obtain ⟨a4, n4, c4, rfl⟩ := hw4.sl
    have hB34 : Below W3.heap.size W3 W4 := hVB.trans hK4.be
    have hb4 : W3.heap.size ≤ W4.heap.size := hB34.size
    have hby2 : By W4 W4.heap.size a2 l2 := (((unhide HY).1.below (unhide HB3)).below (hB34.mono (unhide HB3).size)).mono (Nat.le_trans (unhide HB3).size hb4)
    obtain ⟨v5, W5, hrun5, hw5, hK5⟩ := hw4.app hb4 22 a2 l2 n2 cap2 (unhide HY).2.1 hby2 (by have := (unhide HY).2.1; have := (unhide HY).2.2.1; have := unhide HEL; simp; omega)
    obtain ⟨a5, c5, rfl, hb5, hc5, hm5, hn5⟩ := bwForm5 hw5
    have hB35 := hB34.trans hK5.be
    have HD5 := hide (sdecode_any _ a5 _ c5 rfl hc5 hm5 W5 hb5)
    rw [List.nil_append] at HD5
    have HB5 := hide ((unhide HB3).trans (hB35.mono (unhide HB3).size))
    have HB35 := hide hB35
    clear HD be3 hti hts ht3 htm hz gV hVs hVB hbw0 hby1 hw4 hK4 hB34 hb4 hby2 hw5 hK5 hB35 hb5 hc5 hm5 hn5
    rw [List.nil_append] at hrun5
    generalize hbl5 : (encs L ++ l2).length = bl5 at *
    replace hbl5 := hide hbl5
    go_wp2_with (first | (at_builtin; refine wpList_app rfl _ _ 22 22 rfl 22 rfl _ _ (by rfl) (by rfl) _ _ hrun4 ?_; clear hrun4) | (at_builtin; refine wpList_app rfl _ _ 22 22 rfl 22 rfl _ _ (by rfl) (by rfl) _ _ hrun5 ?_; clear hrun5))
    refine (unhide HD5).mono ?_
    rintro e W6 ⟨v6, us, rfl, hus, hu6, be6⟩
    obtain ⟨ua, uc, rfl, hui, huc, hum⟩ := hu6.form
    obtain ⟨y, hy⟩ : ∃ y, us.length = y := ⟨_, rfl⟩
    rw [hy]
    have hus2 : fsts us = fsts (qs0 ++ ts) := by
      have h1 := dec_encs L 1024 l2 (unhide HLR).1 (by have := (unhide HLR).2; omega)
      have h2 := decs_more (1024 - L.length) 1024 l2 (by have := (unhide HLR).2; have := (unhide HY).2.1; have := (unhide HY).2.2.1; omega) (by have := (unhide HY).2.1; have := (unhide HY).2.2.1; omega)
      rw [h2] at h1
      have h3 : fsts ts = decs 1024 l2 := (unhide HT).2.2
      refine (hus.trans h1).trans ?_
      rw [← h3, ← unhide HLL, fsts, fsts, fsts, List.map_append]
    have hB36 := (unhide HB35).trans (be6.mono (unhide HB35).size)
    have hB6 := (unhide HB5).trans (be6.mono (unhide HB5).size)
    -- the items of both
    obtain ⟨U, hU, hUs, gU, hUB⟩ := alloc1 W6 (.cells #[] 29)
    have hir0 : Ir U W6.heap.size (.slice (some ⟨W6.heap.size, 0, none⟩) 0 0) [] := ⟨⟨rfl, .inr ⟨W6.heap.size, 0, #[], rfl, Nat.le_refl _, gU, Nat.le_refl _, by unfold maxLen; omega, rfl, rfl⟩⟩, fun p h => by cases h⟩
    have hiq : Ips W6 W6.heap.size a qs0 := ((unhide HI).below hB6).mono hB6.size
    have hit : Ips W6 W6.heap.size ta ts := ((unhide HT).1.below hB36).mono hB36.size
    have hapt : ∀ (v : Value) (rs : List Ip) (aa : Option Addr), Ips W6 W6.heap.size aa rs → (∀ k, v.ownBlock = some k → W6.heap.size ≤ k) → ∀ p ∈ rs, Apt v p := by
      intro v rs aa hrs hv p hp hne k e e2
      obtain ⟨i, hi⟩ := List.mem_iff_getElem?.1 hp
      obtain ⟨-, -, -, -, -, da, dc, hde, hby, -⟩ := hrs i p hi
      obtain ⟨c0, hc0⟩ : ∃ c0, p.1.c.data[0]? = some c0 := ⟨_, List.getElem?_eq_getElem (by
        cases hd : p.1.c.data with
        | nil => exact absurd hd hne
        | cons c l => simp)⟩
      obtain ⟨b', off', e4, h5, -⟩ := hby 0 c0 hc0
      rw [hde, e4] at e
      simp [Value.ownBlock] at e
      have := hv k e2
      omega
    have hne : ∀ (rs : List Ip) (aa : Option Addr), Ips W6 W6.heap.size aa rs → aa ≠ none ∨ rs = [] := by
      intro rs aa hrs
      cases rs with
      | nil => exact .inr rfl
      | cons p rs =>
        obtain ⟨g, off, e, -⟩ := hrs 0 p rfl
        exact .inl (by rw [e]; simp)
    obtain ⟨v7, W7, hrun7, hir7, hK7⟩ := hir0.app (by omega) a m cap (unhide HM).1 ((hiq.below hUB).mono (by omega)) (hne _ _ hiq) (hapt _ _ _ hiq (fun k e => (hir0.own e).1)) (by have := (unhide HM).1; simp; omega)
    have hB67 : Below W6.heap.size W6 W7 := hUB.trans hK7.be
    obtain ⟨v8, W8, hrun8, hir8, hK8⟩ := hir7.app hB67.size ta z tc (unhide HT).2.1.symm ((hit.below hB67).mono hB67.size) (hne _ _ hit) (hapt _ _ _ hit (fun k e => (hir7.own e).1)) (by have := (unhide HM).1; have := (unhide HT).2.1; simp; omega)
    obtain ⟨a7, n7, c7, rfl⟩ := hir7.sl3
    rw [List.nil_append] at hir8
    obtain ⟨a8, c8, rfl, hi8, -⟩ := hir8.form
    obtain ⟨y8, hy8⟩ : ∃ y8, (qs0 ++ ts).length = y8 := ⟨_, rfl⟩
    have hyy : y = y8 := by
      have := congrArg List.length hus2
      simp only [fsts, List.length_map] at this
      omega
    rw [hy8, ← hyy] at hrun8
    have hB8 := hB67.trans hK8.be
    have HK := hide (items_same us (qs0 ++ ts) hus2 ua a8 y y uc c8 hy.symm (by omega) (by have := (unhide HM).1; have := (unhide HT).2.1; simp at hy8; omega) W8 ((hui.below hB8).mono hB8.size) hi8)
    have HB8 := hide (hB6.trans (hB8.mono hB6.size))
    have hz1 : (z : Int) ≤ (n2 : Int) := by omega
    have hz2 : (z : Int) ≤ 1024 := by omega
    clear HD5 be6 hus hu6 hui huc hum hy hus2 hB36 hB6 hUs gU hUB hir0 hiq hit hapt hne hir7 hK7 hB67 hir8 hK8 hi8 hy8 hyy hB8
    go_wp2_with (first | (at_builtin; refine wpList_appW (by rfl) _ _ 30 30 rfl 30 rfl _ _ (by rfl) (by rfl) _ _ hrun7 ?_; clear hrun7) | (at_builtin; refine wpList_appW (by rfl) _ _ 30 30 rfl 30 rfl _ _ (by rfl) (by rfl) _ _ hrun8 ?_; clear hrun8))
    refine (unhide HK).mono ?_
    rintro e W9 ⟨rfl, be9⟩
    have HB9 := hide ((unhide HB8).trans (be9.mono (unhide HB8).size))
    clear be9 HK HB8
    go_wp2_with fail
    refine (sknown_any W9).mono ?_
    rintro e W10 ⟨rfl, be10⟩
    have HB10 := hide ((unhide HB9).trans (be10.mono (unhide HB9).size))
    clear be10 HB9
    go_wp2_with fail
    go_ret
    exact ⟨rfl, unhide HB10⟩
  · have hz2 : (encR L == 0) = false := by simpa using hz
    have hz3 : (encR L != 0) = true := by simpa using hz
    clear hz
    go_wp2_with fail
    refine (unhide HE).mono ?_
    rintro e W2 ⟨v2, rfl, r2, be2⟩
    obtain ⟨ba, bcap, rfl, -⟩ := r2.form
    have HB2 := hide be2
    clear HE r2 be2
    generalize encR L = z at *
    generalize (eb L).length = el at *
    go_wp2_with fail
    refine (sknown_any W2).mono ?_
    rintro e W3 ⟨rfl, be3⟩
    have HB3 := hide ((unhide HB2).trans (be3.mono (unhide HB2).size))
    clear be3 HB2
    go_wp2_with fail
    go_ret
    exact ⟨rfl, unhide HB3⟩
end Go.Proofs.Ytcopjhidijhlaaa.Cl
