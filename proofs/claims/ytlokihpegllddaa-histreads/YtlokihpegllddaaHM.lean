/-
  The contract of Serial.
-/
import Derived.Test.YtlokihpegllddaaHMa
import Derived.Test.YtlokihpegllddaaHL
import Derived.WalkMore
namespace Go.Proofs.Ytlokihpegllddaa.Cl
open Go.RowKit Go.Shelf
attribute [local go_sem ↓] Go.wp_at_zero Go.wp_at_succ
attribute [local go_sem ↓] ld40_eq
attribute [local go_sem] ld40_ok

/-- As Before tells it, of calls that Ops answered. -/
theorem Good.bef_eq {l : List Op} (h : Good l) {i j : Nat} {o p : Op} (hij : i ≠ j) (hi : l[i]? = some o) (hj : l[j]? = some p) : befP o.fr o.tt p.fr p.tt = bef o p := by
  have : ordI o.fr o.tt p.fr p.tt ≠ 0 := by
    unfold ordI
    have h2 : o.fr ≠ p.fr := by
      rcases Nat.lt_trichotomy i j with h1 | h1 | h1
      · have := h.up i j o p h1 hi hj; omega
      · exact absurd h1 hij
      · have := h.up j i p o h1 hj hi; omega
    have h3 : ci o.fr p.fr ≠ 0 := fun e => h2 ((ci_zero _ _).1 e)
    rw [if_neg h3]
    exact h3
  simp [Cl.befP, bef, this]
theorem Good.bef_self {l : List Op} (h : Good l) {i : Nat} {o : Op} (hi : l[i]? = some o) : befP o.fr o.tt o.fr o.tt = bef o o := by
  have h1 := h.bef_no (Nat.le_refl i) hi hi
  rw [h1]
  unfold bef at h1
  unfold Cl.befP
  rw [h1]
  rfl
/-- What lies of a call that is read out: a block of its own. -/
structure Bo (W : World) (b : Nat) (A : Array Value) : Prop where
  h : W.heap[b]? = some (.cells A 40)
  s : A.size = 23
theorem Bo.has {W : World} {b : Nat} {A : Array Value} (q : Bo W b A) : Has23 W b 0 ∧ at23 W b 0 = A := by
  refine ⟨fun j hj => by rw [cell_of q.h, Nat.zero_add, Array.getElem?_eq_getElem (by rw [q.s]; exact hj)]; rfl, ?_⟩
  apply Array.ext_getElem?
  intro j
  by_cases hj : j < 23
  · simp [at23, hj, cell_of q.h, q.s]
  · rw [Array.getElem?_eq_none (by rw [size23]; omega), Array.getElem?_eq_none (by rw [q.s]; omega)]
theorem Bo.on {W W' : World} {b : Nat} {A : Array Value} (q : Bo W b A) (g : Below W.heap.size W W') : Bo W' b A := ⟨be_keep g q.h, q.s⟩
set_option maxRecDepth 100000 in
set_option maxHeartbeats 4000000 in
theorem serial_any (xs : List Om) (a : Option Addr) (n c : Nat) (hn : n = xs.length) (hs : n ≤ 1000) (ha : a = none → n = 0) (hG : Good (xs.map (·.o))) (w : World) (hO : Os w w.heap.size a xs) (b off : Nat) (hab : a = some ⟨b, off, none⟩) :
    Calls Try.prog 9 #[.slice a n c] w fun e w' => e = .returned (.bool (serial (xs.map (·.o)))) ∧ Below w.heap.size w w' := by
  subst hab
  have HC := hide (cloneO_any xs b off n c hn hs w hO)
  have HG := hide hG
  have HN := hide hn
  clear hO hG hn
  go_enter Try.func9, Try.ntmps9
  go_wp2_with fail
  go_step3
  go_wp2_with fail
  refine (unhide HC).mono ?_
  rintro e w1 ⟨g, cap, rfl, hg1, hg2, hg3, hr1, hB1⟩
  have HS := hide (sortO_any xs g cap w1 hr1 hg3 (unhide HG) (by have := unhide HN; omega))
  rw [← unhide HN] at HS
  have H1 := hide (⟨hg1, hg2, hg3, hB1⟩ : _ ∧ _ ∧ _ ∧ _)
  clear hr1 hB1 hg1 hg2 hg3
  go_wp2_with fail
  refine (unhide HS).mono ?_
  rintro e w2 ⟨rfl, hr2, hgr⟩
  have hB2 : Below w.heap.size w w2 := (unhide H1).2.2.2.trans ⟨hgr.os, hgr.tape, hgr.output, hgr.size, fun k hk => hgr.block k (by have := (unhide H1).2.2.2.size; omega) (by have := (unhide H1).1; simp; omega)⟩
  have hg4 : g < w2.heap.size := Nat.lt_of_lt_of_le (unhide H1).2.2.1 hgr.size
  have HR := hide hr2
  have HB2 := hide hB2
  have HG4 := hide hg4
  have hcap := (unhide H1).2.1
  clear hr2 hgr hB2 hg4
  go_wp2_with fail
  go_step3
  go_wp2_with fail
  go_loopw [14] (fun v wr => ∃ i : Nat, i ≤ n ∧ v = .int .i64 i ∧ Below w2.heap.size w2 wr ∧ ∀ (p : Nat) (o s : Op), p + 1 < n → p < i → (xs.map (·.o))[p]? = some o → (xs.map (·.o))[p + 1]? = some s → bef o s = true) (fun v _ => n - (intOf v).toNat)
  case atStart => exact ⟨0, Nat.zero_le _, rfl, Below.refl _ _, fun p o s h1 h2 => by omega⟩
  case round =>
    obtain ⟨i, hi, rfl, hB, hall⟩ := hrel
    have HA := hide hall
    clear hall
    by_cases hin : i < n
    · have j1 : (i : Int) < (n : Int) := by omega
      have j0 : (0 : Int) ≤ (i : Int) := by omega
      obtain ⟨x, hx⟩ : ∃ x, xs[i]? = some x := ⟨_, List.getElem?_eq_getElem (by have := unhide HN; omega)⟩
      obtain ⟨A, hA⟩ : ∃ A, A = x.cs := ⟨_, rfl⟩
      have sA : A.size = 23 := by rw [hA]; rfl
      have hc1 : ∀ W, Below w2.heap.size w2 W → Has23 W g (i * 23) ∧ at23 W g (i * 23) = A := fun W h => by
        have h2 : Hr W g xs := (unhide HR).keep (h.block g (unhide HG4))
        have h3 := has_of (W := W) (g := g) (o := i * 23) (x := x) (fun j v hj => h2.cell hx j v hj)
        exact ⟨h3.1, by rw [h3.2, hA]⟩
      have a21 : A[21]? = some (I x.o.fr) := by rw [hA]; rfl
      have a22 : A[22]? = some (I x.o.tt) := by rw [hA]; rfl
      have lA := (hc1 wr hB).1
      have mA := (hc1 wr hB).2
      obtain ⟨V, hV, hVs, gV, hBV⟩ := alloc1 wr (.cells Z23 40)
      obtain ⟨X, hX⟩ : ∃ X, V.setRow wr.heap.size A = X := ⟨_, rfl⟩
      have gX : Bo X wr.heap.size A := ⟨by rw [← hX, setRow_heap V _ _ A _ _ gV], sA⟩
      have grX : Gr wr.heap.size V X := ⟨by rw [← hX]; rfl, by rw [← hX]; rfl, by rw [← hX]; rfl, by rw [← hX]; simp, fun q _ hq => by rw [← hX]; exact setRow_other V _ q _ (fun e => hq (by simp [e]))⟩
      have hBX : Below w2.heap.size w2 X := (hB.trans ((hBV.mono hB.size))).trans (grX.below hB.size (Nat.le_trans hB.size (by omega)))
      have hone : A.all (·.oneCell') = true := by rw [hA]; simp [Value.oneCell', Om.cs]
      have hin2 : (Try.prog.info? 40).map (·.size) = some A.size := by rw [sA]; kernel_rfl
      have hsz : Z23.size = A.size := by rw [sA]; rfl
      obtain ⟨q, hq⟩ : ∃ q, q = i + 1 := ⟨_, rfl⟩
      have q1 : (i : Int) + 1 = (q : Int) := by omega
      have q2 : (0 : Int) ≤ (q : Int) := by omega
      have q3 : (q : Int) ≤ (n : Int) := by omega
      have q4 : q ≤ cap := by omega
      have HX := hide hx
      have HBX := hide hBX
      have HGX := hide gX
      have HQ := hide hq
      have H23 := hide (⟨a21, a22, sA⟩ : _ ∧ _ ∧ _)
      clear hA hc1 a21 a22 hx grX hBX gX hq hB hBV hVs
      go_upto_region 6 with (first | (refine wpList_store_row rfl 40 (.tmp 5) (.tmp 18) rfl wr.heap.size A (by rfl) (by rfl) 40 Z23 gV hin2 hsz hone ?_; rw [hX]))
      clear hV gV hX hone hin2 hsz lA mA sA
      generalize wr.heap.size = b5 at HGX ⊢
      by_cases hqn : q < n
      · have q5 : ¬ cap = q := by omega
        have q6 : (q : Int) < (n : Int) := by omega
        obtain ⟨m, hm⟩ : ∃ m, n - q = m := ⟨_, rfl⟩
        have m1 : (0 : Int) < (m : Int) := by omega
        have m2 : (m : Int) ≤ 1000 := by omega
        go_wp2_with fail
        go_loopw [24] (fun v wr2 => v = .int .i64 0 ∧ wr2 = X) (fun _ _ => 0)
        case atStart => exact ⟨rfl, rfl⟩
        case round =>
          obtain ⟨rfl, hwr⟩ := hrel
          rw [hwr]
          clear hwr
          obtain ⟨y, hy⟩ : ∃ y, xs[q]? = some y := ⟨_, List.getElem?_eq_getElem (by have := unhide HN; omega)⟩
          obtain ⟨B, hB'⟩ : ∃ B, B = y.cs := ⟨_, rfl⟩
          have sB : B.size = 23 := by rw [hB']; rfl
          have h2 : Hr X g xs := (unhide HR).keep ((unhide HBX).block g (unhide HG4))
          have h3 := has_of (W := X) (g := g) (o := q * 23) (x := y) (fun j v hj => h2.cell hy j v hj)
          have lB := h3.1
          have mB : at23 X g (q * 23) = B := by rw [h3.2, hB']
          obtain ⟨V, hV, hVs, gV, hBV⟩ := alloc1 X (.cells Z23 40)
          obtain ⟨X2, hX2⟩ : ∃ X2, V.setRow X.heap.size B = X2 := ⟨_, rfl⟩
          have gB : Bo X2 X.heap.size B := ⟨by rw [← hX2, setRow_heap V _ _ B _ _ gV], sB⟩
          have grX : Gr X.heap.size V X2 := ⟨by rw [← hX2]; rfl, by rw [← hX2]; rfl, by rw [← hX2]; rfl, by rw [← hX2]; simp, fun q _ hq => by rw [← hX2]; exact setRow_other V _ q _ (fun e => hq (by simp [e]))⟩
          have hBX2 : Below X.heap.size X X2 := hBV.trans (grX.below (Nat.le_refl _) (by omega))
          have gA : Bo X2 b5 A := (unhide HGX).on hBX2
          have hone : B.all (·.oneCell') = true := by rw [hB']; simp [Value.oneCell', Om.cs]
          have hin2 : (Try.prog.info? 40).map (·.size) = some B.size := by rw [sB]; kernel_rfl
          have hsz : Z23.size = B.size := by rw [sB]; rfl
          have lA2 := gA.has.1
          have mA2 := gA.has.2
          have lB2 := gB.has.1
          have mB2 := gB.has.2
          have hne : i ≠ q := by have := unhide HQ; omega
          have hAB := (unhide HG).bef_eq hne (om_get (unhide HX)) (om_get hy)
          have hBA := (unhide HG).bef_eq (Ne.symm hne) (om_get hy) (om_get (unhide HX))
          rw [(unhide HG).bef_no (i := i) (j := q) (by have := unhide HQ; omega) (om_get (unhide HX)) (om_get hy)] at hBA
          obtain ⟨bb, hbb⟩ : ∃ bb, bef x.o y.o = bb := ⟨_, rfl⟩
          rw [hbb] at hAB
          have HAB := hide (hAB ▸ before_l A B x.o.fr x.o.tt y.o.fr y.o.tt (unhide H23).2.2 sB (unhide H23).1 (unhide H23).2.1 (by rw [hB']; rfl) (by rw [hB']; rfl) X2)
          have HBA := hide (fun (W : World) => hBA ▸ before_l B A y.o.fr y.o.tt x.o.fr x.o.tt sB (unhide H23).2.2 (by rw [hB']; rfl) (by rw [hB']; rfl) (unhide H23).1 (unhide H23).2.1 W)
          have HY := hide hy
          have HBB := hide hbb
          have HGA := hide gA
          have HGB := hide gB
          have HB3 := hide ((unhide HBX).trans (hBX2.mono (unhide HBX).size))
          clear hB' h2 h3 hVs hBV gB grX hBX2 gA hAB hBA hne hy hbb sB
          cases bb with
          | true =>
            go_wp2_with (first | (refine wpList_store_row rfl 40 (.tmp 7) (.tmp 27) rfl X.heap.size B (by rfl) (by rfl) 40 Z23 gV hin2 hsz hone ?_; rw [hX2]) | (go_at_call_has 10 (#[Value.agg A, Value.agg B] : Array Value); refine (unhide HAB).mono ?_; rintro e w3 ⟨rfl, be3⟩; have l3A := ((unhide HGA).on be3).has.1; have m3A := ((unhide HGA).on be3).has.2; have l3B := ((unhide HGB).on be3).has.1; have m3B := ((unhide HGB).on be3).has.2; have HBE := hide be3; clear be3 hV hX2 gV hone hin2 hsz))
            exact ⟨⟨q, by omega, by go_num, (unhide HB3).trans ((unhide HBE).mono (unhide HB3).size), fun p o s h1 h2 h3 h4 => by
              rcases Nat.lt_or_ge p i with h | h
              · exact unhide HA p o s h1 h h3 h4
              · obtain rfl : p = i := by have := unhide HQ; omega
                rw [om_get (unhide HX)] at h3
                obtain rfl := Option.some.inj h3
                rw [← unhide HQ, om_get (unhide HY)] at h4
                obtain rfl := Option.some.inj h4
                exact unhide HBB⟩, by simp [intOf]; have := unhide HQ; omega⟩
          | false =>
            have HF := hide (show serial (xs.map (·.o)) = false by
              cases hq : serial (xs.map (·.o)) with
              | false => rfl
              | true => exact absurd ((unhide HG).serial_all hq (show i < q by have := unhide HQ; omega) (om_get (unhide HX)) (om_get (unhide HY))) (by rw [unhide HBB]; decide))
            go_wp2_with (first | (refine wpList_store_row rfl 40 (.tmp 7) (.tmp 27) rfl X.heap.size B (by rfl) (by rfl) 40 Z23 gV hin2 hsz hone ?_; rw [hX2]) | (go_at_call_has 10 (#[Value.agg A, Value.agg B] : Array Value); refine (unhide HAB).mono ?_; rintro e w3 ⟨rfl, be3⟩; have l3A := ((unhide HGA).on be3).has.1; have m3A := ((unhide HGA).on be3).has.2; have l3B := ((unhide HGB).on be3).has.1; have m3B := ((unhide HGB).on be3).has.2; have HBE := hide be3; clear be3 hV hX2 gV hone hin2 hsz) | (go_at_call 10; refine (unhide HBA _).mono ?_; rintro e w4 ⟨rfl, be4⟩; have HB4 := hide (((unhide HB3).trans ((unhide HBE).mono (unhide HB3).size)).trans (be4.mono (Nat.le_trans (unhide HB3).size (unhide HBE).size))); clear be4))
            try rw [Exit.noGoto_ret]
            go_ret
            exact ⟨by rw [unhide HF]; rfl, (unhide HB2).trans ((unhide HB4).mono (unhide HB2).size)⟩
      · obtain rfl : q = n := by omega
        have m1 : q - q = 0 := Nat.sub_self q
        by_cases q5 : cap = q
        · subst q5
          go_wp2_with fail
          go_loopw [24] (fun v wr2 => v = .int .i64 0 ∧ wr2 = X) (fun _ _ => 0)
          case atStart => exact ⟨rfl, rfl⟩
          case round =>
            obtain ⟨rfl, hwr⟩ := hrel
            rw [hwr]
            clear hwr
            go_wp2_with fail
            exact ⟨⟨_, Nat.le_refl _, by go_num, unhide HBX, fun p o s h1 h2 h3 h4 => unhide HA p o s h1 (by have := unhide HQ; omega) h3 h4⟩, by simp [intOf]; have := unhide HQ; omega⟩
        · go_wp2_with fail
          go_loopw [24] (fun v wr2 => v = .int .i64 0 ∧ wr2 = X) (fun _ _ => 0)
          case atStart => exact ⟨rfl, rfl⟩
          case round =>
            obtain ⟨rfl, hwr⟩ := hrel
            rw [hwr]
            clear hwr
            go_wp2_with fail
            exact ⟨⟨_, Nat.le_refl _, by go_num, unhide HBX, fun p o s h1 h2 h3 h4 => unhide HA p o s h1 (by have := unhide HQ; omega) h3 h4⟩, by simp [intOf]; have := unhide HQ; omega⟩
    · obtain rfl : i = n := by omega
      have kk : ¬ (i : Int) < (i : Int) := by omega
      have HB := hide ((unhide HB2).trans (hB.mono (unhide HB2).size))
      have HF := hide (show serial (xs.map (·.o)) = true from (serial_iff _).2 fun p o s hp hq => unhide HA p o s (by have h1 := (List.getElem?_eq_some_iff.1 hq).1; rw [List.length_map] at h1; have := unhide HN; omega) (by have h1 := (List.getElem?_eq_some_iff.1 hp).1; rw [List.length_map] at h1; have := unhide HN; omega) hp hq)
      clear hB
      go_wp2_with fail
      try rw [Exit.noGoto_ret]
      go_ret
      exact ⟨by rw [unhide HF]; rfl, unhide HB⟩
end Go.Proofs.Ytlokihpegllddaa.Cl
