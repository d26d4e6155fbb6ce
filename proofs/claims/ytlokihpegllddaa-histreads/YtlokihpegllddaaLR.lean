/-
  HistReads: the law's walk.
-/
import Derived.Test.YtlokihpegllddaaLT
import Derived.Test.YtlokihpegllddaaHV
import Derived.Test.YtlokihpegllddaaHK
import Derived.Test.YtlokihpegllddaaHIn
namespace Go.Proofs.Ytlokihpegllddaa.Cl
open Go.RowKit Go.Shelf
attribute [local go_sem ↓] Go.wp_at_zero Go.wp_at_succ
attribute [local go_sem ↓] ld40_eq ld49_eq ld33_eq
attribute [local go_sem] ld40_ok ld49_ok ld33_ok

theorem rops_at (es : List Em) (a : Option Addr) (n cap : Nat) (hn : n = es.length) (hs : n ≤ 1000) (w : World) (hE : Es w w.heap.size a es) :
    Calls Try.prog 12 #[.slice a n cap] w fun e w' => ∃ (a2 : Option Addr) (m cap2 : Nat) (xs : List Om), e = .returned (.tuple #[.slice a2 m cap2, I (opsOf (es.map (·.e))).2.1, I (opsOf (es.map (·.e))).2.2]) ∧ Hid (m = xs.length ∧ Os w' w'.heap.size a2 xs ∧ xs.map (·.o) = (opsOf (es.map (·.e))).1 ∧ Below w.heap.size w w') := by
  refine (rops_any es a n cap hn hs w hE).mono ?_
  rintro e w' ⟨xs, v, rfl, ow, hx, hB2⟩
  obtain ⟨a2, cap2, rfl, os, -, -⟩ := ow.form
  exact ⟨a2, xs.length, cap2, xs, rfl, ⟨rfl, os, hx, hB2⟩⟩
/-- As both Before tell it, of calls that Ops answered. -/
theorem Good.bef_any {l : List Op} (h : Good l) {i j : Nat} {o p : Op} (hi : l[i]? = some o) (hj : l[j]? = some p) : befP o.fr o.tt p.fr p.tt = befR o.tt p.fr := by
  by_cases hij : i = j
  · subst hij
    rw [hi] at hj
    obtain rfl := Option.some.inj hj
    exact h.bef_self hi
  · exact h.bef_eq hij hi hj
set_option maxRecDepth 100000 in
set_option maxHeartbeats 4000000 in
theorem reads_walk (es : List Em) (a : Option Addr) (n cap : Nat) (r1 : Rr) (d1 m1 : Sl) (r2 : Rr) (d2 m2 : Sl) (w : World) (hn : n = es.length) (hc : n ≤ cap) (hm : cap ≤ maxLen) (hI : Es w w.heap.size a es) (hs : ∀ x ∈ es, Sm x) (_u : ∀ x, a = some x → x.spot = none ∨ n = 0) (h1 : Ra w r1 d1 m1) (h2 : Ra w r2 d2 m2) :
    Calls Try.prog 4 #[.slice a n cap, .agg (r1.cs d1 m1), .agg (r2.cs d2 m2)] w fun e w' => e = .returned (.bool true) ∧ Below w.heap.size w w' := by
  have q1 : (n : Int) ≤ (cap : Int) := by omega
  have q2 : (cap : Int) ≤ 9223372036854775807 := by unfold maxLen at hm; omega
  obtain ⟨C1, hC1⟩ : ∃ C, C = r1.cs d1 m1 := ⟨_, rfl⟩
  obtain ⟨C2, hC2⟩ : ∃ C, C = r2.cs d2 m2 := ⟨_, rfl⟩
  obtain ⟨V, hV, hVs, gV1, gV2, hBV⟩ := alloc2 w (.cells C1 33) (.cells C2 33)
  obtain ⟨m, qs, hm0, hq0, hI0, hs0, hcase⟩ := cut_events 60 hn hI hs
  have HI := hide (hI0.on hBV)
  have HS := hide hs0
  have HM := hide hm0
  have HC := hide (And.intro hC1 hC2)
  have HRA := hide (And.intro h1 h2)
  have HV := hide (⟨hBV, gV1, gV2⟩ : _ ∧ _ ∧ _)
  rw [← hC1, ← hC2]
  clear hn hI hm0 hI0 hc hm hs hs0 _u hC1 hC2 h1 h2 hBV gV1 gV2 hVs
  go_enter Try.func4, Try.ntmps4
  go_upto_if 17 with fail
  go_cut [0] from 18 to 19 (fun v wc => v = .slice a m cap ∧ wc = V)
  case first =>
    rcases hcase with ⟨h40, rfl⟩ | ⟨h40, rfl⟩
    · have j40 : (60 : Int) < (n : Int) := by omega
      have j41 : (60 : Int) ≤ (cap : Int) := by omega
      go_wp2_with fail
      go_meet
      case rel => exact ⟨rfl, rfl⟩
    · have j40 : ¬ (60 : Int) < (m : Int) := by omega
      go_wp2_with fail
      go_meet
      case rel => exact ⟨rfl, rfl⟩
  case rest =>
  obtain ⟨rfl, hwc⟩ := hcut
  rw [hwc]
  clear hwc hcase q1 hV
  go_wp2_with fail
  refine (ops_at qs a m cap (unhide HM) (by omega) V (unhide HI) (unhide HS)).mono ?_
  rintro e w1 ⟨a2, n2, cap2, xs, rfl, HX, hn2⟩
  have HI1 := hide ((unhide HI).on (unhide HX).2.2.2.1)
  obtain ⟨e1, he1⟩ : ∃ e1, (opsOf (qs.map (·.e))).2.1 = e1 := ⟨_, rfl⟩
  obtain ⟨e2, he2⟩ : ∃ e2, (opsOf (qs.map (·.e))).2.2 = e2 := ⟨_, rfl⟩
  have HR := hide (rops_at qs a m cap (unhide HM) (by omega) w1 (unhide HI1))
  rw [he1, he2] at HR
  rw [he1, he2]
  clear he1 he2
  go_wp2_with fail
  refine (unhide HR).mono ?_
  rintro e w2 ⟨a3, n3, cap3, ys, rfl, HY⟩
  have hn3 : n3 = n2 := by
    have g1 := (unhide HY).2.2.1
    rw [← (unhide HX).2.2.1] at g1
    have := congrArg List.length g1
    rw [List.length_map, List.length_map, ← (unhide HX).1, ← (unhide HY).1] at this
    exact this
  subst hn3
  have HG := hide (good_of (qs.map (·.e)))
  rw [← (unhide HX).2.2.1] at HG
  have HXY := hide (show xs.map (·.o) = ys.map (·.o) from by rw [(unhide HX).2.2.1, (unhide HY).2.2.1])
  have HOX := hide ((unhide HX).2.1.on (unhide HY).2.2.2)
  have HB2 := hide ((unhide HX).2.2.2.1.trans ((unhide HY).2.2.2.mono (unhide HX).2.2.2.1.size))
  obtain ⟨bs1, hbs1⟩ : ∃ b, serial (xs.map (·.o)) = b := ⟨_, rfl⟩
  obtain ⟨bs2, hbs2⟩ : ∃ b, sameR r1 r2 = b := ⟨_, rfl⟩
  have gA : ∀ W, Below w2.heap.size w2 W → Has11 W w.heap.size 0 ∧ at11 W w.heap.size 0 = C1 := fun W h => has11_of (by rw [(unhide HC).1]; rfl) fun j v hj => by
    have e1 := be_keep h (be_keep ((unhide HB2).mono (Nat.le_refl _)) (unhide HV).2.1)
    rw [cell_of e1, Nat.zero_add]; exact hj
  have gB : ∀ W, Below w2.heap.size w2 W → Has11 W (w.heap.size + 1) 0 ∧ at11 W (w.heap.size + 1) 0 = C2 := fun W h => has11_of (by rw [(unhide HC).2]; rfl) fun j v hj => by
    have e1 := be_keep h (be_keep ((unhide HB2).mono (Nat.le_refl _)) (unhide HV).2.2)
    rw [cell_of e1, Nat.zero_add]; exact hj
  have g1 : ∀ W, Below w2.heap.size w2 W → Has11 W w.heap.size 0 := fun W h => (gA W h).1
  have g2 : ∀ W, Below w2.heap.size w2 W → at11 W w.heap.size 0 = C1 := fun W h => (gA W h).2
  have g3 : ∀ W, Below w2.heap.size w2 W → Has11 W (w.heap.size + 1) 0 := fun W h => (gB W h).1
  have g4 : ∀ W, Below w2.heap.size w2 W → at11 W (w.heap.size + 1) 0 = C2 := fun W h => (gB W h).2
  have hbw : ∀ W, Below w2.heap.size w2 W → Below w.heap.size w W := fun W h => ((unhide HV).1.trans ((unhide HB2).mono (unhide HV).1.size)).trans (h.mono (((unhide HV).1.trans ((unhide HB2).mono (unhide HV).1.size))).size)
  have hra : ∀ W, Below w2.heap.size w2 W → Dq W W.heap.size d1 r1.data ∧ Nq W W.heap.size m1 r1.names ∧ Dq W W.heap.size d2 r2.data ∧ Nq W W.heap.size m2 r2.names := fun W h =>
    ⟨((unhide HRA).1.d.below (hbw W h) (Nat.le_refl _)).low, ((unhide HRA).1.m.below (hbw W h) (Nat.le_refl _)).low, ((unhide HRA).2.d.below (hbw W h) (Nat.le_refl _)).low, ((unhide HRA).2.m.below (hbw W h) (Nat.le_refl _)).low⟩
  have K1 := hide (fun (W : World) (h : Below w2.heap.size w2 W) => show Calls Try.prog 13 #[.slice a2 n3 cap2, .slice a3 n3 cap3] W fun e w' => e = .returned (.bool true) ∧ Below w2.heap.size w2 w' from
    (lsame_any xs ys a2 a3 n3 cap2 n3 cap3 (unhide HX).1 (unhide HY).1 (by omega) (unhide HXY) W ((unhide HOX).on h) ((unhide HY).2.1.on h)).mono fun e w' hh => ⟨hh.1, h.trans (hh.2.mono h.size)⟩)
  have K2 := hide (fun (W : World) (h : Below w2.heap.size w2 W) => show Calls Try.prog 9 #[.slice a2 n3 cap2] W fun e w' => e = .returned (.bool bs1) ∧ Below w2.heap.size w2 w' from hbs1 ▸
    (serial_all xs a2 n3 cap2 (unhide HX).1 (by omega) (unhide HG) W ((unhide HOX).on h) (unhide HX).2.2.2.2).mono fun e w' hh => ⟨hh.1, h.trans (hh.2.mono h.size)⟩)
  have K3 := hide (fun (W : World) (h : Below w2.heap.size w2 W) => show Calls Try.prog 14 #[.slice a3 n3 cap3] W fun e w' => e = .returned (.bool bs1) ∧ Below w2.heap.size w2 w' from by
    have h3 := rserial_any ys a3 n3 cap3 (unhide HY).1 (by omega) (by rw [← unhide HXY]; exact unhide HG) W ((unhide HY).2.1.on h)
    rw [← unhide HXY, hbs1] at h3
    exact h3.mono fun e w' hh => ⟨hh.1, h.trans (hh.2.mono h.size)⟩)
  have K4 := hide (fun (W : World) (h : Below w2.heap.size w2 W) => show Calls Try.prog 15 #[.agg C1, .agg C2] W fun e w' => e = .returned (.bool bs2) ∧ Below w2.heap.size w2 w' from by
    rw [(unhide HC).1, (unhide HC).2, ← hbs2]
    exact (same_any r1 r2 _ _ _ _ W (hra W h).1 (hra W h).2.1 (hra W h).2.2.1 (hra W h).2.2.2).mono fun e w' hh => ⟨hh.1, h.trans (hh.2.mono h.size)⟩)
  have K5 := hide (fun (W : World) (h : Below w2.heap.size w2 W) => show Calls Try.prog 16 #[.agg C1, .agg C2] W fun e w' => e = .returned (.bool bs2) ∧ Below w2.heap.size w2 w' from by
    rw [(unhide HC).1, (unhide HC).2, ← hbs2]
    exact (rsame_any r1 r2 _ _ _ _ W (hra W h).1 (hra W h).2.1 (hra W h).2.2.1 (hra W h).2.2.2).mono fun e w' hh => ⟨hh.1, h.trans (hh.2.mono h.size)⟩)
  have K6 := hide (fun (W : World) (h : Below w2.heap.size w2 W) => show Calls Try.prog 15 #[.agg C1, .agg C1] W fun e w' => e = .returned (.bool true) ∧ Below w2.heap.size w2 w' from by
    rw [(unhide HC).1, ← sameR_self r1]
    exact (same_any r1 r1 _ _ _ _ W (hra W h).1 (hra W h).2.1 (hra W h).1 (hra W h).2.1).mono fun e w' hh => ⟨hh.1, h.trans (hh.2.mono h.size)⟩)
  have z1 : (e1 != e1) = false := by simp
  have z2 : (e2 != e2) = false := by simp
  have z3 : (bs1 != bs1) = false := by simp
  have z4 : (bs2 != bs2) = false := by simp
  have bw : Below w2.heap.size w2 w2 := Below.refl _ _
  have HBW := hide hbw
  clear hbs1 hbs2 gA gB hbw hra HI HI1 HR HS
  go_upto_region 5 with fail
  go_cut [67] from 32 to 66 (fun v wc => v = .bool false ∧ Below w2.heap.size w2 wc)
  case first =>
    go_region_held3 (fun W => Below w2.heap.size w2 W) (first | assumption | exact below_drew (by assumption))
      (first
        | (go_at_call 13; refine (unhide K1 _ (by first | assumption | exact below_drew (by assumption))).mono ?_; rintro e w6 ⟨rfl, be⟩)
        | (go_at_call 9; refine (unhide K2 _ (by first | assumption | exact below_drew (by assumption))).mono ?_; rintro e w6 ⟨rfl, be⟩)
        | (go_at_call 14; refine (unhide K3 _ (by first | assumption | exact below_drew (by assumption))).mono ?_; rintro e w6 ⟨rfl, be⟩)
        | (go_at_call_has 15 (#[Value.agg C1, Value.agg C2] : Array Value); refine (unhide K4 _ (by first | assumption | exact below_drew (by assumption))).mono ?_; rintro e w6 ⟨rfl, be⟩)
        | (go_at_call 16; refine (unhide K5 _ (by first | assumption | exact below_drew (by assumption))).mono ?_; rintro e w6 ⟨rfl, be⟩)
        | (go_at_call_has 15 (#[Value.agg C1, Value.agg C1] : Array Value); refine (unhide K6 _ (by first | assumption | exact below_drew (by assumption))).mono ?_; rintro e w6 ⟨rfl, be⟩))
    all_goals
      go_wp2_with fail
      go_meet
      case rel => exact ⟨rfl, by first | assumption | exact below_drew (by assumption)⟩
  case rest =>
  obtain ⟨rfl, hBc⟩ := hcut
  have HBC := hide hBc
  clear hBc g1 g2 g3 g4 z1 z2 z3 z4 bw K1 K2 K3 K4 K5 K6
  go_wp2_with fail
  go_loopw [13] (fun s13 wr => ∃ i : Nat, i ≤ n3 ∧ s13 = .int .i64 i ∧ Below w2.heap.size w2 wr) (fun s13 _ => n3 - (intOf s13).toNat)
  case atStart => exact ⟨0, Nat.zero_le _, rfl, unhide HBC⟩
  case round =>
    obtain ⟨i, hi, rfl, hB⟩ := hrel
    by_cases hin : i < n3
    · have j1 : (i : Int) < (n3 : Int) := by omega
      have j0 : (0 : Int) ≤ (i : Int) := by omega
      obtain ⟨x, hx⟩ : ∃ x, xs[i]? = some x := ⟨_, List.getElem?_eq_getElem (by have := (unhide HX).1; omega)⟩
      obtain ⟨y, hy⟩ : ∃ y, ys[i]? = some y := ⟨_, List.getElem?_eq_getElem (by have := (unhide HY).1; omega)⟩
      obtain ⟨g, off, e1', -⟩ := (unhide HOX) i x hx
      obtain ⟨g', off', e2', -⟩ := (unhide HY).2.1 i y hy
      subst e1' e2'
      have HXI := hide hx
      have HYI := hide hy
      have HBI := hide hB
      clear hx hy hB
      go_wp2_with fail
      go_loopw [14] (fun s14 wr => ∃ k : Nat, k ≤ n3 ∧ s14 = .int .i64 k ∧ Below w2.heap.size w2 wr) (fun s14 _ => n3 - (intOf s14).toNat)
      case atStart => exact ⟨0, Nat.zero_le _, rfl, unhide HBI⟩
      case round =>
        obtain ⟨k, hk, rfl, hB⟩ := hrel
        by_cases hkn : k < n3
        · have y1 : (k : Int) < (n3 : Int) := by omega
          have y0 : (0 : Int) ≤ (k : Int) := by omega
          obtain ⟨x', hx'⟩ : ∃ x, xs[k]? = some x := ⟨_, List.getElem?_eq_getElem (by have := (unhide HX).1; omega)⟩
          obtain ⟨y', hy'⟩ : ∃ y, ys[k]? = some y := ⟨_, List.getElem?_eq_getElem (by have := (unhide HY).1; omega)⟩
          obtain ⟨gq, oq, eq, lA, ra, -⟩ := (unhide HOX) i x (unhide HXI)
          simp only [Option.some.injEq, Addr.mk.injEq, and_true] at eq
          obtain ⟨rfl, rfl⟩ := eq
          obtain ⟨A, hA⟩ : ∃ A, A = x.cs := ⟨_, rfl⟩
          have HA1 : ∀ W, Below wr.heap.size wr W → Has23 W g (off + i * 23) := fun W h => (has_keep (has_of ra).1 ((hB.trans (h.mono hB.size)).block g lA)).1
          have HA2 : ∀ W, Below wr.heap.size wr W → at23 W g (off + i * 23) = A := fun W h => by rw [(has_keep (has_of ra).1 ((hB.trans (h.mono hB.size)).block g lA)).2, (has_of ra).2, hA]
          obtain ⟨gq, oq, eq, lB, rb, -⟩ := (unhide HOX) k x' hx'
          simp only [Option.some.injEq, Addr.mk.injEq, and_true] at eq
          obtain ⟨rfl, rfl⟩ := eq
          obtain ⟨B, hB'⟩ : ∃ A, A = x'.cs := ⟨_, rfl⟩
          have HB1 : ∀ W, Below wr.heap.size wr W → Has23 W g (off + k * 23) := fun W h => (has_keep (has_of rb).1 ((hB.trans (h.mono hB.size)).block g lB)).1
          have HB2 : ∀ W, Below wr.heap.size wr W → at23 W g (off + k * 23) = B := fun W h => by rw [(has_keep (has_of rb).1 ((hB.trans (h.mono hB.size)).block g lB)).2, (has_of rb).2, hB']
          obtain ⟨gq, oq, eq, lD, rc, -⟩ := (unhide HY).2.1 i y (unhide HYI)
          simp only [Option.some.injEq, Addr.mk.injEq, and_true] at eq
          obtain ⟨rfl, rfl⟩ := eq
          obtain ⟨D, hD⟩ : ∃ A, A = y.cs := ⟨_, rfl⟩
          have HD1 : ∀ W, Below wr.heap.size wr W → Has23 W g' (off' + i * 23) := fun W h => (has_keep (has_of rc).1 ((hB.trans (h.mono hB.size)).block g' lD)).1
          have HD2 : ∀ W, Below wr.heap.size wr W → at23 W g' (off' + i * 23) = D := fun W h => by rw [(has_keep (has_of rc).1 ((hB.trans (h.mono hB.size)).block g' lD)).2, (has_of rc).2, hD]
          obtain ⟨gq, oq, eq, lE, rd, -⟩ := (unhide HY).2.1 k y' hy'
          simp only [Option.some.injEq, Addr.mk.injEq, and_true] at eq
          obtain ⟨rfl, rfl⟩ := eq
          obtain ⟨E, hE⟩ : ∃ A, A = y'.cs := ⟨_, rfl⟩
          have HE1 : ∀ W, Below wr.heap.size wr W → Has23 W g' (off' + k * 23) := fun W h => (has_keep (has_of rd).1 ((hB.trans (h.mono hB.size)).block g' lE)).1
          have HE2 : ∀ W, Below wr.heap.size wr W → at23 W g' (off' + k * 23) = E := fun W h => by rw [(has_keep (has_of rd).1 ((hB.trans (h.mono hB.size)).block g' lE)).2, (has_of rd).2, hE]
          have ho1 : x.o = y.o := by
            have h := congrArg (·[i]?) (unhide HXY)
            simpa [unhide HXI, unhide HYI] using h
          have ho2 : x'.o = y'.o := by
            have h := congrArg (·[k]?) (unhide HXY)
            simpa [hx', hy'] using h
          obtain ⟨bb, hbb⟩ : ∃ b, befR y.o.tt y'.o.fr = b := ⟨_, rfl⟩
          have hbp : befP x.o.fr x.o.tt x'.o.fr x'.o.tt = bb := by rw [(unhide HG).bef_any (om_get (unhide HXI)) (om_get hx'), ho1, ho2, hbb]
          have K1 := hide (fun (W : World) (h : Below wr.heap.size wr W) => show Calls Try.prog 10 #[.agg A, .agg B] W fun e w' => e = .returned (.bool bb) ∧ Below wr.heap.size wr w' from by
            have h3 := before_l A B x.o.fr x.o.tt x'.o.fr x'.o.tt (by rw [hA]; rfl) (by rw [hB']; rfl) (by rw [hA]; rfl) (by rw [hA]; rfl) (by rw [hB']; rfl) (by rw [hB']; rfl) W
            rw [hbp] at h3
            exact h3.mono fun e w' hh => ⟨hh.1, h.trans (hh.2.mono h.size)⟩)
          have K2 := hide (fun (W : World) (h : Below wr.heap.size wr W) => show Calls Try.prog 17 #[.agg D, .agg E] W fun e w' => e = .returned (.bool bb) ∧ Below wr.heap.size wr w' from by
            have h3 := rbefore_l D E y.o.tt y'.o.fr (by rw [hD]; rfl) (by rw [hE]; rfl) W
            rw [hbb] at h3
            exact h3.mono fun e w' hh => ⟨hh.1, h.trans (hh.2.mono h.size)⟩)
          have z1 : (bb != bb) = false := by simp
          have bw : Below wr.heap.size wr wr := Below.refl _ _
          have HBK := hide hB
          clear hA hB' hD hE ra rb rc rd hx' hy' ho1 ho2 hbb hbp hB lA lB lD lE
          go_wp2_with fail
          go_region_held3 (fun W => Below wr.heap.size wr W) (first | assumption | exact below_drew (by assumption))
            (first
              | (go_at_call 10; refine (unhide K1 _ (by first | assumption | exact below_drew (by assumption))).mono ?_; rintro e w6 ⟨rfl, be⟩)
              | (go_at_call 17; refine (unhide K2 _ (by first | assumption | exact below_drew (by assumption))).mono ?_; rintro e w6 ⟨rfl, be⟩))
          all_goals go_wp2_with fail
          all_goals exact ⟨⟨k + 1, by omega, by go_num, (unhide HBK).trans (Below.mono (by assumption) (unhide HBK).size)⟩, by simp [intOf]; omega⟩
        · obtain rfl : k = n3 := by omega
          have kk : ¬ (k : Int) < (k : Int) := by omega
          have HBK := hide hB
          clear hB
          go_wp2_with fail
          exact ⟨⟨i + 1, by omega, by go_num, unhide HBK⟩, by simp [intOf]; omega⟩
    · obtain rfl : i = n3 := by omega
      have kk : ¬ (i : Int) < (i : Int) := by omega
      have HBE := hide (unhide HBW _ hB)
      clear hB
      go_wp2_with (go_at_call 11; refine (known_any _).mono ?_; rintro e w9 ⟨rfl, be9⟩)
      go_ret
      exact ⟨rfl, (unhide HBE).trans (be9.mono (unhide HBE).size)⟩
end Go.Proofs.Ytlokihpegllddaa.Cl
