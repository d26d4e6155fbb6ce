/-
  ChainKeys: the walk.
-/
import Derived.Test.YtbmcnfdciogmjaaTwo
import Derived.Sort.AtCall
import Derived.Laws.Cover1
import Derived.Sort.Walk0
namespace Go.Proofs.Ytbmcnfdciogmjaa
open Go.RowKit Go.Sort
attribute [local go_sem ↓] Go.wp_at_zero Go.wp_at_succ

/-- Each key lies with the number of a string that is itself. -/
def Nums (kl : List ByteArray) (m : Pairs) : Prop := ∀ k v, (k, v) ∈ m → ∃ j : Nat, v = (j : Int) ∧ kl[j]? = some k
theorem Nums.put {kl : List ByteArray} {m : Pairs} (h : Nums kl m) {i : Nat} {s : ByteArray} (hs : kl[i]? = some s) : Nums kl (putM m s (i : Int)) := by
  unfold putM
  split
  · exact h
  · split
    · intro k v hkv
      rcases List.mem_append.1 hkv with hkv | hkv
      · exact h k v hkv
      · simp at hkv; obtain ⟨rfl, rfl⟩ := hkv; exact ⟨i, rfl, hs⟩
    · exact h
theorem Nums.drop {kl : List ByteArray} {m : Pairs} (h : Nums kl m) (s : ByteArray) : Nums kl (drop m s) := fun k v hkv => h k v (List.mem_of_mem_eraseP hkv)

theorem str_ge {a b : ByteArray} (h : ¬ (kb b ≤ kb a)) : Op.bytesLess a.toList b.toList = true := by
  rw [bytesLess_eq, ByteArray.toList_eq, ByteArray.toList_eq]; exact decide_eq_true (List.not_le.1 h)
theorem two_nodup {base : Nat} {w0 W : World} {bt n bu l : Nat} {m q : Pairs} (h : Two base w0 W bt n bu l m q) : (m.map (·.1)).Nodup ∧ m.length ≤ 64 := by
  obtain ⟨bh, ch, bg, cg, h1, h2, h3, h4⟩ := h
  exact ⟨h1.mnod, h1.mlen⟩
theorem ordered_len (m : Pairs) : (ordered m).length = m.length := by simp [ordered]
theorem ordered_mem {m : Pairs} {l : List UInt8} (h : l ∈ ordered m) : ∃ p ∈ m, kb p.1 = l := by
  unfold ordered at h
  have := (List.mergeSort_perm (m.map fun p => kb p.1) leB).mem_iff.1 h
  simpa using this
theorem ofB_kb (k : ByteArray) : ofB (kb k) = k := by simp [ofB, kb]
theorem ordered_get {m : Pairs} {j : Nat} (h : j < m.length) : ∃ sj, ((ordered m).map ofB)[j]? = some sj ∧ has m sj = true := by
  have hl : j < (ordered m).length := by rw [ordered_len]; exact h
  refine ⟨_, by rw [List.getElem?_map, List.getElem?_eq_getElem hl]; rfl, ?_⟩
  obtain ⟨p, hp, he⟩ := ordered_mem (List.getElem_mem hl)
  rw [← he, ofB_kb, has_iff]
  exact ⟨p.2, hp⟩
theorem ordered_lt {m : Pairs} (hn : (m.map (·.1)).Nodup) {j : Nat} {a b : ByteArray} (ha : ((ordered m).map ofB)[j]? = some a) (hb : ((ordered m).map ofB)[j + 1]? = some b) : ¬ (kb b ≤ kb a) := by
  rw [List.getElem?_map] at ha hb
  obtain ⟨x, hx, rfl⟩ := Option.map_eq_some_iff.1 ha
  obtain ⟨y, hy, rfl⟩ := Option.map_eq_some_iff.1 hb
  have e1 : kb (ofB x) = x := by simp [ofB, kb]
  have e2 : kb (ofB y) = y := by simp [ofB, kb]
  rw [e1, e2]
  obtain ⟨lx, ex⟩ := List.getElem?_eq_some_iff.1 hx
  obtain ⟨ly, ey⟩ := List.getElem?_eq_some_iff.1 hy
  have hs : (ordered m).Pairwise (fun x y => leB x y = true) := List.pairwise_mergeSort leB_trans leB_total _
  have hnd : (ordered m).Nodup := by
    unfold ordered
    rw [(List.mergeSort_perm _ _).nodup_iff]
    have : (m.map fun p => kb p.1) = (m.map (·.1)).map kb := by simp
    rw [this]
    exact List.Pairwise.map _ (fun a b hab e => hab (kb_inj e)) hn
  intro hle
  have h1 := List.pairwise_iff_getElem.1 hs j (j + 1) lx ly (by omega)
  have h2 := List.pairwise_iff_getElem.1 hnd j (j + 1) lx ly (by omega)
  rw [ex, ey] at h1 h2
  simp only [leB, decide_eq_true_eq] at h1
  exact h2 (List.le_antisymm h1 hle)

set_option maxRecDepth 100000 in
set_option maxHeartbeats 8000000 in
theorem keys_walk (a b : Int) (pa : Option Addr) (len cap : Nat) (pd : Option Addr) (lend capd : Nat) (w : World) (hK : StrsAt w pa len) (hD : BoolsAt w pd lend) :
    Calls Try.prog 7 #[.int .i64 a, .int .i64 b, .slice pa len cap, .slice pd lend capd] w fun e w' => e = .returned (.bool true) ∧ Below w.heap.size w w' := by
  obtain ⟨kl, hkl, hL⟩ := hK.list
  have hmax := hK.1
  have hmaxd := hD.1
  have K1 := hide (within_any a 63 w (by omega) (by omega))
  replace hL := hide hL
  replace hD := hide hD
  replace hkl := hide hkl
  clear hK
  go_enter Try.func7, Try.ntmps7
  go_wp2_with fail
  refine (unhide K1).mono ?_
  rintro e w1 ⟨⟨r, r0, r1, rfl⟩, rfl⟩
  obtain ⟨nn, hn1, hn2, hnn⟩ : ∃ nn : Nat, 1 ≤ nn ∧ nn ≤ 64 ∧ (nn : Int) = 1 + r := ⟨(1 + r).toNat, by omega, by omega, by omega⟩
  have K2 := hide (new_T nn hn1 hn2 w1)
  rw [hnn] at K2
  clear hnn K1
  go_wp2_with fail
  refine (unhide K2).mono ?_
  rintro e w2 ⟨bt, rfl, hT2, -⟩
  replace hT2 := hide hT2
  clear K2 r0 r1
  have K3 := hide (within_any b 63 w2 (by omega) (by omega))
  go_wp2_with fail
  refine (unhide K3).mono ?_
  rintro e w3 ⟨⟨r', r0, r1, rfl⟩, rfl⟩
  obtain ⟨ll, hl1, hl2, hll⟩ : ∃ nn : Nat, 1 ≤ nn ∧ nn ≤ 64 ∧ (nn : Int) = 1 + r' := ⟨(1 + r').toNat, by omega, by omega, by omega⟩
  have K4 := hide (new_T ll hl1 hl2 w3)
  rw [hll] at K4
  clear hll K3
  go_wp2_with fail
  refine (unhide K4).mono ?_
  rintro e w4 ⟨bu, rfl, hT4, -⟩
  have H2 := hide (Two.start (unhide hT2) hT4)
  clear hT2 hT4 r0 r1 K4
  go_wp2_with fail
  go_loopw [13] (fun i wr => ∃ (k : Nat) (m : Pairs), k ≤ 60 ∧ i = .int .i64 (k : Int) ∧ Hid (Nums kl m) ∧ Hid (Two w1.heap.size w1 wr bt nn bu ll m m)) (fun i _ => 60 - (intOf i).toNat)
  case atStart => exact ⟨0, [], by omega, rfl, hide (fun k v h => by simp at h), H2⟩
  case round =>
    obtain ⟨k, m, hk, rfl, hN, hT⟩ := hrel
    clear H2
    by_cases hg : k < len ∧ k < 60
    · obtain ⟨g1, g2⟩ := hg
      have q1 : (k : Int) < (len : Int) := by omega
      have q2 : (k : Int) < 60 := by omega
      have q0 : (0 : Int) ≤ (k : Int) := by omega
      obtain ⟨s, hs⟩ : ∃ s, kl[k]? = some s := ⟨_, List.getElem?_eq_getElem (by rw [unhide hkl]; exact g1)⟩
      obtain ⟨sh, hsh⟩ : ∃ s, kl[k / 2]? = some s := ⟨_, List.getElem?_eq_getElem (by rw [unhide hkl]; omega)⟩
      obtain ⟨bb, off, rfl, hb, hc, hs2⟩ := (unhide hL) k s hs
      obtain ⟨bb', off', e', hb', hc', hs2'⟩ := (unhide hL) (k / 2) sh hsh
      simp only [Option.some.injEq, Addr.mk.injEq, and_true] at e'
      obtain ⟨rfl, rfl⟩ := e'
      have HC := hide (fun (W : World) (hW : Below w1.heap.size w1 W) => (cell_same (hW.block bb hb) (off + k)).trans hc)
      have HC' := hide (fun (W : World) (hW : Below w1.heap.size w1 W) => (cell_same (hW.block bb hb) (off + k / 2)).trans hc')
      have c0 := unhide HC wr (unhide hT).bel
      have P0 : Two w1.heap.size w1 wr.drew bt nn bu ll m m := (unhide hT).below (below_drew (Below.refl _ wr))
      have HN2 := hide ((unhide hN).put (i := k) hs)
      have HN3 := hide (((unhide hN).put (i := k) hs).drop sh)
      have hdiv : (k : Int).tdiv 2 = ((k / 2 : Nat) : Int) := by rw [Int.tdiv_eq_ediv_of_nonneg q0]; omega
      have q5 : ((k / 2 : Nat) : Int) < (len : Int) := by omega
      have q6 : (0 : Int) ≤ ((k / 2 : Nat) : Int) := by omega
      clear hb hc hc' hs hsh hb' hN hT
      go_wp2_with fail
      have HP0 : Hid (∀ W, W = wr.drew → Calls Try.prog 10 #[.pointer (some ⟨bt, 0, none⟩), .string s, .int .i64 (k : Int)] W fun e w' => e = .returned (.int .i64 (putE m s)) ∧ Two w1.heap.size w1 w' bt nn bu ll (putM m s (k : Int)) m) := hide (fun W hW => by rw [hW]; exact put_two s (k : Int) hs2 P0)
      have HP1 : Hid (∀ W, Two w1.heap.size w1 W bt nn bu ll (putM m s (k : Int)) m → Calls Try.prog 10 #[.pointer (some ⟨bu, 0, none⟩), .string s, .int .i64 (k : Int)] W fun e w' => e = .returned (.int .i64 (putE m s)) ∧ Two w1.heap.size w1 w' bu ll bt nn (putM m s (k : Int)) (putM m s (k : Int))) := hide (fun W hW => put_two s (k : Int) hs2 hW.symm)
      clear P0
      generalize hpe : putE m s = pe at *
      generalize hpm : putM m s (k : Int) = pm at *
      go_region_held3 (fun w' => w'.cell? ⟨bb, off + k, none⟩ = some (.string s)) (go_keep)
        (first
          | (go_at_call_has 10 (Value.pointer (some (⟨bt, 0, none⟩ : Addr))); refine (unhide HP0 _ rfl).mono ?_; rintro e w' ⟨rfl, P'⟩; have q0' := unhide HC w' P'.bel)
          | (go_at_call_has 10 (Value.pointer (some (⟨bu, 0, none⟩ : Addr))); refine (unhide HP1 _ (by assumption)).mono ?_; rintro e w'' ⟨rfl, P''⟩; have q0'' := unhide HC w'' P''.bel))
      have P2 := hide P''.symm
      clear P' P'' q0' q0'' HP0 HP1 c0 hpe
      replace hpm := hide hpm
      by_cases hd : k < lend
      · obtain ⟨db, doff, dv, rfl, hdb, hdc⟩ := (unhide hD).2 k hd
        have d0 := (cell_same ((unhide P2).bel.block db hdb) (doff + k)).trans hdc
        have q8 : (k : Int) < (lend : Int) := by omega
        clear hdb hdc
        cases dv with
        | false =>
          go_wp2_with fail
          exact ⟨⟨k + 1, pm, by omega, rfl, HN2, P2⟩, by simp [intOf]; omega⟩
        | true =>
          have c5 := unhide HC' w'' (unhide P2).bel
          have K7 := hide (drop_two sh hs2' (unhide P2))
          go_wp2_with fail
          refine (unhide K7).mono ?_
          rintro e w7 ⟨rfl, P7⟩
          have c7 := unhide HC' w7 P7.bel
          have K8 := hide (drop_two sh hs2' P7.symm)
          clear P7 K7 c5 d0
          go_wp2_with fail
          refine (unhide K8).mono ?_
          rintro e w8 ⟨rfl, P8⟩
          have P9 := hide P8.symm
          clear P8 K8 c7
          generalize val pm sh = vv at *
          generalize dropE pm sh = ee at *
          go_wp2_with fail
          exact ⟨⟨k + 1, _, by omega, rfl, HN3, P9⟩, by simp [intOf]; omega⟩
      · have q8 : ¬ (k : Int) < (lend : Int) := by omega
        go_wp2_with fail
        exact ⟨⟨k + 1, pm, by omega, rfl, HN2, P2⟩, by simp [intOf]; omega⟩
    · have q : (k : Int) < (len : Int) → ¬ (k : Int) < 60 := fun h1 h2 => hg ⟨by omega, by omega⟩
      have HX : (¬ (k : Int) < (len : Int)) ∨ ((k : Int) < (len : Int) ∧ ¬ (k : Int) < 60) := by
        by_cases h1 : (k : Int) < (len : Int)
        · exact .inr ⟨h1, q h1⟩
        · exact .inl h1
      clear q hg
      have K9 := hide (keys_T (unhide hT).left)
      have hmn := hide (two_nodup (unhide hT))
      rcases HX with q | ⟨q1, q2⟩
      · go_wp2_with fail
        refine (unhide K9).mono ?_
        rintro e w9 ⟨g, cap9, rfl, hO9, hB9⟩
        have P9 := hide ((unhide hT).below hB9)
        have R9 := hide (RowO.of_own hO9)
        clear hO9 hB9 K9 hT
        generalize hL9 : m.length = L at *
        replace hL9 := hide hL9
        go_wp2_with fail
        go_loopw [19] (fun i wr => ∃ (j : Nat), j ≤ L ∧ i = .int .i64 (j : Int) ∧ Hid (Two w1.heap.size w1 wr bt nn bu ll m m) ∧ Hid (RowO wr (some ⟨g, 0, none⟩) ((ordered m).map ofB))) (fun i _ => L - (intOf i).toNat)
        case atStart => exact ⟨0, by omega, rfl, P9, R9⟩
        case round =>
          obtain ⟨j, hj, rfl, P, R⟩ := hrel
          clear P9 R9
          by_cases hjl : j < L
          · have j0 : (0 : Int) ≤ (j : Int) := by omega
            have j1 : (j : Int) < (L : Int) := by omega
            obtain ⟨sj, hsj, hhas⟩ := ordered_get (m := m) (j := j) (by rw [unhide hL9]; exact hjl)
            obtain ⟨g', o', eg, -, cj⟩ := (unhide R) j sj hsj
            simp only [Option.some.injEq, Addr.mk.injEq, and_true] at eg
            obtain ⟨rfl, rfl⟩ := eg
            obtain ⟨vn, hvn, hkv⟩ := (unhide hN) sj (val m sj) (val_mem hhas)
            have hvl : vn < len := by rw [← unhide hkl]; exact (List.getElem?_eq_some_iff.1 hkv).1
            obtain ⟨bb, off, rfl, hbb, hcc, hss⟩ := (unhide hL) vn sj hkv
            have HCV := hide (fun (W : World) (hW : Below w1.heap.size w1 W) => (cell_same (hW.block bb hbb) (off + vn)).trans hcc)
            have K10 := hide (get_two sj hss (unhide P))
            rw [hhas, hvn] at K10
            have v0 : (0 : Int) ≤ (vn : Int) := by omega
            have v1 : (vn : Int) < (len : Int) := by omega
            have v2 : ¬ (vn : Int) < 0 := by omega
            have v3 : ¬ (len : Int) ≤ (vn : Int) := by omega
            clear hbb hcc
            simp only [Nat.zero_add] at cj
            go_wp2_with fail
            refine (unhide K10).mono ?_
            rintro e w10 ⟨rfl, P10, hB10⟩
            have R10 := hide ((unhide R).below hB10)
            obtain ⟨g', o', eg, -, cj10⟩ := (unhide R10) j sj hsj
            simp only [Option.some.injEq, Addr.mk.injEq, and_true] at eg
            obtain ⟨rfl, rfl⟩ := eg
            have K11 := hide (get_two sj hss P10.symm)
            rw [hhas, hvn] at K11
            clear P10 hB10 K10 R P cj
            simp only [Nat.zero_add] at cj10
            go_wp2_with fail
            refine (unhide K11).mono ?_
            rintro e w11 ⟨rfl, P11, hB11⟩
            have R11 := hide ((unhide R10).below hB11)
            have P12 := hide P11.symm
            obtain ⟨g', o', eg, -, cj11⟩ := (unhide R11) j sj hsj
            simp only [Option.some.injEq, Addr.mk.injEq, and_true] at eg
            obtain ⟨rfl, rfl⟩ := eg
            have ck := unhide HCV w11 P11.bel
            simp only [Nat.zero_add] at cj11
            clear P11 hB11 K11 R10 cj10
            by_cases hj0 : j = 0
            · have hL64 : L ≤ 64 := (unhide hmn).2
              have p4 : (0 < j) = False := by simp; omega
              have p5 : ((0 : Int) < (j : Int)) = False := by simp; omega
              have v4 : ((vn : Int) < 0) = False := by simp
              have v5 : ((len : Int) ≤ (vn : Int)) = False := by simp; omega
              have v6 : (len ≤ vn) = False := by simp; omega
              clear hsj hkv hhas hvn v2 v3 hj0
              go_wp2_with fail
              go_quiet (fail)
              go_wp2_with fail
              refine ⟨⟨j + 1, by omega, rfl, hide ((unhide P12).below (below_dn (Below.refl _ w11) _)), hide ((unhide R11).below (below_dn (Below.refl _ w11) _))⟩, by simp [intOf]; omega⟩
            · obtain ⟨p, hp⟩ : ∃ p, p + 1 = j := ⟨j - 1, by omega⟩
              obtain ⟨sp, hsp, -⟩ := ordered_get (m := m) (j := p) (by rw [unhide hL9]; omega)
              obtain ⟨g', o', eg, -, cp⟩ := (unhide R11) p sp hsp
              simp only [Option.some.injEq, Addr.mk.injEq, and_true] at eg
              obtain ⟨rfl, rfl⟩ := eg
              simp only [Nat.zero_add] at cp
              have hlt := ordered_lt (unhide hmn).1 hsp (by rw [hp]; exact hsj)
              have p0 : (0 : Int) < (j : Int) := by omega
              have hL64 : L ≤ 64 := (unhide hmn).2
              have p4 : (0 < j) = True := by simp; omega
              have p5 : ((0 : Int) < (j : Int)) = True := by simp; omega
              have e1 : wrap64 ((j : Int) - 1) = (p : Int) := by simp only [wrap64]; omega
              have e2 : IntKind.i64.wrap ((j : Int) - 1) = (p : Int) := by rw [IntKind.wrap_i64]; omega
              have e3 : (j : Int) - 1 = (p : Int) := by omega
              have p2 : (p : Int) < (L : Int) := by omega
              have p3 : (0 : Int) ≤ (p : Int) := by omega
              have v4 : ((vn : Int) < 0) = False := by simp
              have v5 : ((len : Int) ≤ (vn : Int)) = False := by simp; omega
              have v6 : (len ≤ vn) = False := by simp; omega
              have hge := str_ge hlt
              replace hp := hide hp
              clear hlt hsp hsj hkv hhas hvn v2 v3 hj0
              go_wp2_with fail
              go_quiet (fail)
              go_wp2_with fail
              refine ⟨⟨j + 1, by omega, rfl, hide ((unhide P12).below (below_dn (Below.refl _ w11) _)), hide ((unhide R11).below (below_dn (Below.refl _ w11) _))⟩, by simp [intOf]; omega⟩
          · have j1 : ¬ (j : Int) < (L : Int) := by omega
            have hLs : L ≤ 64 := (unhide hmn).2
            have K12 := hide (keys_T (unhide P).symm.left)
            rw [unhide hL9] at K12
            go_wp2_with fail
            refine (unhide K12).mono ?_
            rintro e w12 ⟨g2, cap2, rfl, hO12, hB12⟩
            have P12 := hide ((unhide P).below hB12)
            have K13 := hide (same_yes (some ⟨g, 0, none⟩) (some ⟨g2, 0, none⟩) cap9 cap2 L ((ordered m).map ofB) (by rw [List.length_map, ordered_len, unhide hL9]) (by omega) w12 ((unhide R).below hB12) (RowO.of_own hO12))
            clear hO12 hB12 K12 P R
            go_wp2_with fail
            refine (unhide K13).mono ?_
            rintro e w13 ⟨rfl, hB13⟩
            have P13 := hide ((unhide P12).below hB13)
            have K14 := hide (len_T (unhide P13).left)
            rw [unhide hL9] at K14
            have K15 := hide (known_any w13)
            clear K13 P12 hB13
            go_wp2_with fail
            refine (unhide K14).mono ?_
            rintro e w14 ⟨rfl, rfl⟩
            go_wp2_with fail
            refine (unhide K15).mono ?_
            rintro e w15 ⟨rfl, hB15⟩
            replace hB15 := hide hB15
            go_wp2_with fail
            go_ret
            exact ⟨rfl, (unhide P13).bel.trans ((unhide hB15).mono (unhide P13).left.base_le)⟩
      · go_wp2_with fail
        refine (unhide K9).mono ?_
        rintro e w9 ⟨g, cap9, rfl, hO9, hB9⟩
        have P9 := hide ((unhide hT).below hB9)
        have R9 := hide (RowO.of_own hO9)
        clear hO9 hB9 K9 hT
        generalize hL9 : m.length = L at *
        replace hL9 := hide hL9
        go_wp2_with fail
        go_loopw [19] (fun i wr => ∃ (j : Nat), j ≤ L ∧ i = .int .i64 (j : Int) ∧ Hid (Two w1.heap.size w1 wr bt nn bu ll m m) ∧ Hid (RowO wr (some ⟨g, 0, none⟩) ((ordered m).map ofB))) (fun i _ => L - (intOf i).toNat)
        case atStart => exact ⟨0, by omega, rfl, P9, R9⟩
        case round =>
          obtain ⟨j, hj, rfl, P, R⟩ := hrel
          clear P9 R9
          by_cases hjl : j < L
          · have j0 : (0 : Int) ≤ (j : Int) := by omega
            have j1 : (j : Int) < (L : Int) := by omega
            obtain ⟨sj, hsj, hhas⟩ := ordered_get (m := m) (j := j) (by rw [unhide hL9]; exact hjl)
            obtain ⟨g', o', eg, -, cj⟩ := (unhide R) j sj hsj
            simp only [Option.some.injEq, Addr.mk.injEq, and_true] at eg
            obtain ⟨rfl, rfl⟩ := eg
            obtain ⟨vn, hvn, hkv⟩ := (unhide hN) sj (val m sj) (val_mem hhas)
            have hvl : vn < len := by rw [← unhide hkl]; exact (List.getElem?_eq_some_iff.1 hkv).1
            obtain ⟨bb, off, rfl, hbb, hcc, hss⟩ := (unhide hL) vn sj hkv
            have HCV := hide (fun (W : World) (hW : Below w1.heap.size w1 W) => (cell_same (hW.block bb hbb) (off + vn)).trans hcc)
            have K10 := hide (get_two sj hss (unhide P))
            rw [hhas, hvn] at K10
            have v0 : (0 : Int) ≤ (vn : Int) := by omega
            have v1 : (vn : Int) < (len : Int) := by omega
            have v2 : ¬ (vn : Int) < 0 := by omega
            have v3 : ¬ (len : Int) ≤ (vn : Int) := by omega
            clear hbb hcc
            simp only [Nat.zero_add] at cj
            go_wp2_with fail
            refine (unhide K10).mono ?_
            rintro e w10 ⟨rfl, P10, hB10⟩
            have R10 := hide ((unhide R).below hB10)
            obtain ⟨g', o', eg, -, cj10⟩ := (unhide R10) j sj hsj
            simp only [Option.some.injEq, Addr.mk.injEq, and_true] at eg
            obtain ⟨rfl, rfl⟩ := eg
            have K11 := hide (get_two sj hss P10.symm)
            rw [hhas, hvn] at K11
            clear P10 hB10 K10 R P cj
            simp only [Nat.zero_add] at cj10
            go_wp2_with fail
            refine (unhide K11).mono ?_
            rintro e w11 ⟨rfl, P11, hB11⟩
            have R11 := hide ((unhide R10).below hB11)
            have P12 := hide P11.symm
            obtain ⟨g', o', eg, -, cj11⟩ := (unhide R11) j sj hsj
            simp only [Option.some.injEq, Addr.mk.injEq, and_true] at eg
            obtain ⟨rfl, rfl⟩ := eg
            have ck := unhide HCV w11 P11.bel
            simp only [Nat.zero_add] at cj11
            clear P11 hB11 K11 R10 cj10
            by_cases hj0 : j = 0
            · have hL64 : L ≤ 64 := (unhide hmn).2
              have p4 : (0 < j) = False := by simp; omega
              have p5 : ((0 : Int) < (j : Int)) = False := by simp; omega
              have v4 : ((vn : Int) < 0) = False := by simp
              have v5 : ((len : Int) ≤ (vn : Int)) = False := by simp; omega
              have v6 : (len ≤ vn) = False := by simp; omega
              clear hsj hkv hhas hvn v2 v3 hj0
              go_wp2_with fail
              go_quiet (fail)
              go_wp2_with fail
              refine ⟨⟨j + 1, by omega, rfl, hide ((unhide P12).below (below_dn (Below.refl _ w11) _)), hide ((unhide R11).below (below_dn (Below.refl _ w11) _))⟩, by simp [intOf]; omega⟩
            · obtain ⟨p, hp⟩ : ∃ p, p + 1 = j := ⟨j - 1, by omega⟩
              obtain ⟨sp, hsp, -⟩ := ordered_get (m := m) (j := p) (by rw [unhide hL9]; omega)
              obtain ⟨g', o', eg, -, cp⟩ := (unhide R11) p sp hsp
              simp only [Option.some.injEq, Addr.mk.injEq, and_true] at eg
              obtain ⟨rfl, rfl⟩ := eg
              simp only [Nat.zero_add] at cp
              have hlt := ordered_lt (unhide hmn).1 hsp (by rw [hp]; exact hsj)
              have p0 : (0 : Int) < (j : Int) := by omega
              have hL64 : L ≤ 64 := (unhide hmn).2
              have p4 : (0 < j) = True := by simp; omega
              have p5 : ((0 : Int) < (j : Int)) = True := by simp; omega
              have e1 : wrap64 ((j : Int) - 1) = (p : Int) := by simp only [wrap64]; omega
              have e2 : IntKind.i64.wrap ((j : Int) - 1) = (p : Int) := by rw [IntKind.wrap_i64]; omega
              have e3 : (j : Int) - 1 = (p : Int) := by omega
              have p2 : (p : Int) < (L : Int) := by omega
              have p3 : (0 : Int) ≤ (p : Int) := by omega
              have v4 : ((vn : Int) < 0) = False := by simp
              have v5 : ((len : Int) ≤ (vn : Int)) = False := by simp; omega
              have v6 : (len ≤ vn) = False := by simp; omega
              have hge := str_ge hlt
              replace hp := hide hp
              clear hlt hsp hsj hkv hhas hvn v2 v3 hj0
              go_wp2_with fail
              go_quiet (fail)
              go_wp2_with fail
              refine ⟨⟨j + 1, by omega, rfl, hide ((unhide P12).below (below_dn (Below.refl _ w11) _)), hide ((unhide R11).below (below_dn (Below.refl _ w11) _))⟩, by simp [intOf]; omega⟩
          · have j1 : ¬ (j : Int) < (L : Int) := by omega
            have hLs : L ≤ 64 := (unhide hmn).2
            have K12 := hide (keys_T (unhide P).symm.left)
            rw [unhide hL9] at K12
            go_wp2_with fail
            refine (unhide K12).mono ?_
            rintro e w12 ⟨g2, cap2, rfl, hO12, hB12⟩
            have P12 := hide ((unhide P).below hB12)
            have K13 := hide (same_yes (some ⟨g, 0, none⟩) (some ⟨g2, 0, none⟩) cap9 cap2 L ((ordered m).map ofB) (by rw [List.length_map, ordered_len, unhide hL9]) (by omega) w12 ((unhide R).below hB12) (RowO.of_own hO12))
            clear hO12 hB12 K12 P R
            go_wp2_with fail
            refine (unhide K13).mono ?_
            rintro e w13 ⟨rfl, hB13⟩
            have P13 := hide ((unhide P12).below hB13)
            have K14 := hide (len_T (unhide P13).left)
            rw [unhide hL9] at K14
            have K15 := hide (known_any w13)
            clear K13 P12 hB13
            go_wp2_with fail
            refine (unhide K14).mono ?_
            rintro e w14 ⟨rfl, rfl⟩
            go_wp2_with fail
            refine (unhide K15).mono ?_
            rintro e w15 ⟨rfl, hB15⟩
            replace hB15 := hide hB15
            go_wp2_with fail
            go_ret
            exact ⟨rfl, (unhide P13).bel.trans ((unhide hB15).mono (unhide P13).left.base_le)⟩
end Go.Proofs.Ytbmcnfdciogmjaa
