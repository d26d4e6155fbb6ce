/-
  A Dir's size is how many names it tells, its links two and the Dirs among them.
-/
import Derived.Test.YtiedobpgfhmidabCountB
import Derived.Deep.RegionHeld3
import Derived.Sort.AtCall
import Derived.Laws.Cover1
import Derived.Sort.Walk0
import Derived.Deep.CutRange
import Derived.Deep.CutBlock
namespace Go.Proofs.Ytiedobpgfhmidab
open Go.RowKit Go.Maps
set_option maxRecDepth 100000 in
set_option maxHeartbeats 40000000 in
theorem count_walk (pa : Option Addr) (len cap : Nat) (w : World) (hl : AsksAt w pa len) : Calls Try.prog 4 #[.slice pa len cap] w fun e w' => e = .returned (.bool true) ∧ Below w.heap.size w w' := by
  have H0 := hide (new_Q 24 4 (by omega) (by omega) w)
  have HK := hide known_any
  have HB := hide hl.2
  have hlen := hl.1
  clear hl
  go_enter Try.func4, Try.ntmps4
  go_wp2_with fail
  refine (unhide H0).mono ?_
  rintro e w1 ⟨t, rfl, T1, B1⟩
  have HR0 : Hid (CT w w1 t 0) := ⟨⟨_, unhide T1, Qt.new _ _⟩, unhide B1⟩
  clear H0 T1 B1
  go_upto_block 0 with fail
  go_cut [] from 5 to 86 (fun wc => ∃ j : Nat, j ≤ 50 ∧ Hid (CT w wc t j))
  case first =>
    go_wp2_with fail
    go_loopw [5] (fun iv wr => ∃ j : Nat, iv = .int .i64 (j : Int) ∧ j ≤ 50 ∧ j ≤ len ∧ Hid (CT w wr t j)) (fun iv _ => 50 - (intOf iv).toNat)
    case atStart => exact ⟨0, rfl, by omega, by omega, HR0⟩
    case round =>
      obtain ⟨j, rfl, hj, hjl, HJ⟩ := hrel
      clear HR0
      by_cases hlt : j < len ∧ j < 50
      · obtain ⟨b, off, kd, dr, tt, n, s, r, a0, a1, a2, a3, a4, a5, a6, ba, bn, bc, rfl, hb, ha⟩ := unhide HB j hlt.1
        have cs := fun i => cell_same ((unhide HJ).b.block b hb) i
        have c0 := (cs _).trans ha.c0
        have c1 := (cs _).trans ha.c1
        have c2 := (cs _).trans ha.c2
        have c3 := (cs _).trans ha.c3
        have c4 := (cs _).trans ha.c4
        have c5 := (cs _).trans ha.c5
        have c6 := (cs _).trans ha.c6
        have c7 := (cs _).trans ha.c7
        have c8 := (cs _).trans ha.c8
        have c9 := (cs _).trans ha.c9
        have c10 := (cs _).trans ha.c10
        have c11 := (cs _).trans ha.c11
        have c12 := (cs _).trans ha.c12
        have c13 := (cs _).trans ha.c13
        have l1 : (j : Int) < (len : Int) := by omega
        have l2 : (j : Int) < 50 := by omega
        have l3 : j < 50 := hlt.2
        have l4 : j < len := hlt.1
        clear cs ha hb hlt HB HK
        go_wp2_with fail
        refine (tame_any kd dr tt n s r a0 a1 a2 a3 a4 a5 a6 ba bn bc _).mono ?_
        rintro e w2 ⟨⟨d, m, k, s', r', hd, hm, hk, hs, hr, rfl⟩, hB2⟩
        have HJ2 := hide ((unhide HJ).below hB2)
        clear HJ hB2
        have hX : Hid (CT w (w2.alloc (Obj.cells #[I kd, I (1 + (d : Int)), I (1 + (m : Int)), I n, .string s', .string r', I a0, I (1 + (k : Int)), I a2, I a3, I a4, I a5, I a6, .slice ba bn bc] 39)) t j) := hide ((unhide HJ2).below ((Below.refl _ w2).alloc (Nat.le_refl _) _))
        have hc := heap_alloc_new w2 (Obj.cells #[I kd, I (1 + (d : Int)), I (1 + (m : Int)), I n, .string s', .string r', I a0, I (1 + (k : Int)), I a2, I a3, I a4, I a5, I a6, .slice ba bn bc] 39)
        generalize hV : w2.alloc (Obj.cells #[I kd, I (1 + (d : Int)), I (1 + (m : Int)), I n, .string s', .string r', I a0, I (1 + (k : Int)), I a2, I a3, I a4, I a5, I a6, .slice ba bn bc] 39) = V at hX hc
        generalize hp : w2.heap.size = p at hc
        obtain ⟨q0, q1, q2, q3, q4, q5, q6, q7, q8, q9, q10, q11, q12, q13, qf⟩ := cells14 hc
        clear hc HJ2 c0 c1 c2 c3 c4 c5 c6 c7 c8 c9 c10 c11 c12 c13
        by_cases k1 : kd = 1
        · subst k1
          go_wp2_with fail
          refine (CT.make (unhide hX) l3 hd hs _ _ _ _ _ _ _).mono ?_
          rintro e w9 ⟨⟨x, y, rfl⟩, HJ9⟩
          clear hV hp q0 q1 q2 q3 q4 q5 q6 q7 q8 q9 q10 q11 q12 q13 qf
          go_wp2_with fail
          exact ⟨⟨j + 1, by go_num, by omega, by omega, HJ9⟩, by simp [intOf]; omega⟩
        by_cases k2 : kd = 2
        · subst k2
          go_wp2_with fail
          refine (CT.join (unhide hX) l3 hd hm hs).mono ?_
          rintro e w9 ⟨⟨y, rfl⟩, HJ9⟩
          clear hV hp q0 q1 q2 q3 q4 q5 q6 q7 q8 q9 q10 q11 q12 q13 qf
          go_wp2_with fail
          exact ⟨⟨j + 1, by go_num, by omega, by omega, HJ9⟩, by simp [intOf]; omega⟩
        by_cases k3 : kd = 3
        · subst k3
          go_wp2_with fail
          refine (CT.part (unhide hX) l3 hd _).mono ?_
          rintro e w9 ⟨⟨y, rfl⟩, HJ9⟩
          clear hV hp q0 q1 q2 q3 q4 q5 q6 q7 q8 q9 q10 q11 q12 q13 qf
          go_wp2_with fail
          exact ⟨⟨j + 1, by go_num, by omega, by omega, HJ9⟩, by simp [intOf]; omega⟩
        by_cases k4 : kd = 4
        · subst k4
          go_wp2_with fail
          refine (CT.move (unhide hX) l3 hd hm _ hr).mono ?_
          rintro e w9 ⟨⟨y, rfl⟩, HJ9⟩
          clear hV hp q0 q1 q2 q3 q4 q5 q6 q7 q8 q9 q10 q11 q12 q13 qf
          go_wp2_with fail
          exact ⟨⟨j + 1, by go_num, by omega, by omega, HJ9⟩, by simp [intOf]; omega⟩
        have HJ9 := hide ((unhide hX).mono (Nat.le_succ j))
        have t1 : (kd == 1) = false := by simpa using k1
        have t2 : (kd == 2) = false := by simpa using k2
        have t3 : (kd == 3) = false := by simpa using k3
        have t4 : (kd == 4) = false := by simpa using k4
        go_wp2_with fail
        exact ⟨⟨j + 1, by go_num, by omega, by omega, HJ9⟩, by simp [intOf]; omega⟩
      · by_cases l1 : j < len
        · have l2 : ¬ (j : Int) < 50 := by omega
          have l3 : (j : Int) < (len : Int) := by omega
          clear hlt
          go_wp2_with fail
          go_meet
          case rel => exact ⟨j, hj, HJ⟩
        · have l3 : ¬ (j : Int) < (len : Int) := by omega
          clear hlt
          go_wp2_with fail
          go_meet
          case rel => exact ⟨j, hj, HJ⟩
  case rest =>
    obtain ⟨j, hj, HJ⟩ := hcut
    obtain ⟨T, hQ, hF, hLV⟩ := (unhide HJ).live hj
    have HQ := hide hQ
    have HF := hide hF
    have HLV := hide hLV
    obtain ⟨L, hL⟩ : ∃ L, L = T.livesI.length := ⟨_, rfl⟩
    rw [← hL] at HLV
    have HLL := hide hL
    have hLb : L ≤ 1000 := by
      have h1 := cnt_le (T.made + 1) (fun k => (T.nd (k : Int)).isSome)
      have h2 := hF.k.made
      rw [hL, T.livesI_len, Tr.live]
      omega
    clear hQ hF hLV hL HB HJ HR0
    go_wp2_with fail
    refine (unhide HLV).mono ?_
    rintro e w2 ⟨g, cp, rfl, C2⟩
    go_wp2_with fail
    go_loopw [8] (fun iv wx => ∃ i : Nat, iv = .int .i64 (i : Int) ∧ i ≤ L ∧ Hid (CL w wx t T 110 g)) (fun iv _ => L - (intOf iv).toNat)
    case atStart => exact ⟨0, rfl, Nat.zero_le _, C2⟩
    case round =>
      obtain ⟨i, rfl, hi, C⟩ := hrel
      clear C2
      by_cases hiL : i < L
      · have z1 : (i : Int) < (L : Int) := by omega
        obtain ⟨n, hn⟩ : ∃ n, T.livesI[i]? = some n := ⟨_, List.getElem?_eq_getElem (by have := unhide HLL; omega)⟩
        have c1 := (unhide C).c i n hn
        have hs := (T.livesI_mem (unhide HF).k n).1 (List.mem_of_getElem? hn)
        obtain ⟨x, hx⟩ := Option.isSome_iff_exists.1 hs
        have HX := hide hx
        have HN := hide ((unhide HF).k.wf (by omega) hx)
        have HC1 := hide (unhide C).c
        have HNI := hide hn
        have hst : T.stat n = stV n x.kind x.mode x.uid x.gid (T.links x : Nat) (T.size x : Nat) := by simp only [Tr.stat, hx]; rfl
        have HST := hide (stat_Q (unhide C).q (by omega) (unhide HN) _ true hst (by rw [hx]; rfl))
        obtain ⟨kd, hkd⟩ : ∃ kd, kd = x.kind := ⟨_, rfl⟩
        obtain ⟨mo, hmo⟩ : ∃ v, v = x.mode := ⟨_, rfl⟩
        obtain ⟨ui, hui⟩ : ∃ v, v = x.uid := ⟨_, rfl⟩
        obtain ⟨gi, hgi⟩ : ∃ v, v = x.gid := ⟨_, rfl⟩
        obtain ⟨lk, hlk⟩ : ∃ v, v = T.links x := ⟨_, rfl⟩
        obtain ⟨sz, hsz⟩ : ∃ v, v = T.size x := ⟨_, rfl⟩
        rw [← hkd, ← hmo, ← hui, ← hgi, ← hlk, ← hsz] at HST
        have HKD := hide hkd
        have HLK := hide hlk
        have HSZ := hide hsz
        clear hn hs hx HK hst hkd hmo hui hgi hlk hsz
        go_wp2_with fail
        refine (unhide HST).mono ?_
        rintro e w3 ⟨rfl, -, X3⟩
        have C3 := hide (((unhide C).below (unhide X3)).below ((Below.refl _ w3).alloc (Nat.le_refl _) (Obj.cells #[I n, I kd, I mo, I ui, I gi, I (lk : Nat), I (sz : Nat)] 31)))
        have hc := heap_alloc_new w3 (Obj.cells #[I n, I kd, I mo, I ui, I gi, I (lk : Nat), I (sz : Nat)] 31)
        generalize hV3 : w3.alloc (Obj.cells #[I n, I kd, I mo, I ui, I gi, I (lk : Nat), I (sz : Nat)] 31) = V3 at C3 hc
        generalize hp3 : w3.heap.size = p3 at hc
        have HC3 := hide hc
        have c3 := (unhide C3).c i n (unhide HNI)
        clear X3 C hc HST c1
        go_wp2_with fail
        refine (names_Q (unhide C3).q (by omega) (unhide HN)).mono ?_
        rintro e w4 ⟨v, rfl, R4, -, X4⟩
        have C4 := hide ((unhide C3).below (unhide X4))
        have hc4 := ((unhide X4).block p3 (lt_of_heap (unhide HC3))).trans (unhide HC3)
        obtain ⟨q0, q1, q2, q3, q4, q5, q6, -⟩ := cells7 hc4
        have HC4 := hide hc4
        have c4 := (unhide C4).c i n (unhide HNI)
        have hb0 : (n == n) = true := by simp
        clear hV3 hp3 HC3 C3 X4 hc4 c3
        by_cases k1 : kd = 1
        · subst k1
          have hdir : T.dir n = some x := Tr.dir_some.2 ⟨unhide HX, (unhide HKD).symm⟩
          have hns : T.names n = x.ins.map Prod.fst := by simp only [Tr.names, hdir]
          have hr := unhide R4
          rw [hns] at hr
          obtain ⟨ad, cp2, rfl, hnl⟩ := hr.nl
          obtain ⟨M, hM⟩ : ∃ M, M = (x.ins.map Prod.fst).length := ⟨_, rfl⟩
          rw [← hM]
          have HM := hide hM
          have HNL := hide hnl
          have HDI := hide hdir
          have hMb : M ≤ 200 := by rw [hM, List.length_map]; have := ((unhide HF).k.bnd n x (unhide HX)).2.2; omega
          clear hr R4 hns hnl hM hdir
          go_wp2_with fail
          go_quiet (fail)
          go_wp2_with fail
          have C5 := hide ((unhide C4).below (below_dn (Below.refl _ w4) nq))
          have N5 := hide ((unhide HNL).below (below_dn (Below.refl _ w4) nq))
          have P5 : Hid ((w4.drewN nq).heap[p3]? = some (Obj.cells #[I n, I 1, I mo, I ui, I gi, I (lk : Nat), I (sz : Nat)] 31)) := HC4
          generalize w4.drewN nq = W5 at C5 N5 P5
          clear C4 HNL HC4 c4 q0 q1 q2 q3 q4 q5 q6
          go_loopw [12, 13] (fun dv kv wx => ∃ D k : Nat, dv = .int .i64 (D : Int) ∧ kv = .int .i64 (k : Int) ∧ k ≤ M ∧ D ≤ k ∧ Hid (D = T.dirs x.ins k) ∧ Hid (CL w wx t T 110 g) ∧ Hid (NL wx ad (x.ins.map Prod.fst)) ∧ Hid (wx.heap[p3]? = some (Obj.cells #[I n, I 1, I mo, I ui, I gi, I (lk : Nat), I (sz : Nat)] 31))) (fun _ kv _ => M - (intOf kv).toNat)
          case atStart => exact ⟨0, 0, rfl, rfl, Nat.zero_le _, Nat.le_refl _, hide (by simp [Tr.dirs]), C5, N5, P5⟩
          case round =>
            obtain ⟨D, k, rfl, rfl, hk, hD, HD, CK, NK, PK⟩ := hrel
            clear C5 N5 P5
            by_cases hkM : k < M
            · have y1 : (k : Int) < (M : Int) := by omega
              obtain ⟨⟨sk, m⟩, he⟩ : ∃ e, x.ins[k]? = some e := ⟨_, List.getElem?_eq_getElem (by have := unhide HM; rw [List.length_map] at this; omega)⟩
              obtain ⟨g2, rfl, hg2, ck⟩ := unhide NK k sk (by rw [List.getElem?_map, he]; rfl)
              have ci := (unhide CK).c i n (unhide HNI)
              have hgm : getE x.ins sk = some m := ((unhide HF).k.srt n x (unhide HX)).getE_mem.2 (List.mem_of_getElem? he)
              obtain ⟨y, hy, -⟩ := (unhide HF).k.at (unhide HX) hgm
              have hfn : T.findN n sk = some m := by simp only [Tr.findN, unhide HDI, Option.bind_some]; exact hgm
              have HFD := hide (fun (W : World) (h : CL w W t T 110 g) => find_Q h.q (by omega) (unhide HN) sk m true (by rw [hfn]; rfl) (by rw [hfn]; rfl))
              have HE := hide he
              have HY := hide hy
              have hst2 : T.stat m = stV m y.kind y.mode y.uid y.gid (T.links y : Nat) (T.size y : Nat) := by simp only [Tr.stat, hy]; rfl
              have HS2 := hide (fun (W : World) (h : CL w W t T 110 g) => stat_Q h.q (by omega) ((unhide HF).k.wf (by omega) hy) _ true hst2 (by rw [hy]; rfl))
              obtain ⟨kd2, hkd2⟩ : ∃ kd, kd = y.kind := ⟨_, rfl⟩
              obtain ⟨mo2, hmo⟩ : ∃ v, v = y.mode := ⟨_, rfl⟩
              obtain ⟨ui2, hui⟩ : ∃ v, v = y.uid := ⟨_, rfl⟩
              obtain ⟨gi2, hgi⟩ : ∃ v, v = y.gid := ⟨_, rfl⟩
              obtain ⟨lk2, hlk⟩ : ∃ v, v = T.links y := ⟨_, rfl⟩
              obtain ⟨sz2, hsz⟩ : ∃ v, v = T.size y := ⟨_, rfl⟩
              rw [← hkd2, ← hmo, ← hui, ← hgi, ← hlk, ← hsz] at HS2
              have hds : T.dirs x.ins (k + 1) = D + if kd2 = 1 then 1 else 0 := by
                rw [T.dirs_succ he, ← unhide HD]
                have : T.kindOf m = kd2 := by simp [Tr.kindOf, hy, hkd2]
                simp only [this]
              have HDS := hide hds
              have HCK : Hid (∀ W', Below wr.drew.heap.size wr.drew W' → W'.cell? ⟨g2, k, none⟩ = some (.string sk)) := fun W' hW => (cell_same (hW.block g2 hg2) k).trans ck
              have HPRE : Hid (∀ q, q + 1 = k → ∃ sp, cmpS sp sk < 0 ∧ ∀ W', Below wr.drew.heap.size wr.drew W' → W'.cell? ⟨g2, q, none⟩ = some (.string sp)) := fun q hq => by
                obtain ⟨⟨sp, mp⟩, hp⟩ : ∃ e, x.ins[q]? = some e := ⟨_, List.getElem?_eq_getElem (by have := (List.getElem?_eq_some_iff.1 he).1; omega)⟩
                obtain ⟨g3, e3, hg3, ck3⟩ := unhide NK q sp (by rw [List.getElem?_map, hp]; rfl)
                simp only [Option.some.injEq, Addr.mk.injEq, and_true] at e3
                subst e3
                exact ⟨sp, ((unhide HF).k.srt n x (unhide HX)).get (by omega) hp he, fun W' hW => (cell_same (hW.block g2 hg3) q).trans ck3⟩
              clear he hgm hy hfn hg2 hst2 hkd2 hmo hui hgi hlk hsz hds
              go_wp2_with fail
              have CKd := hide ((unhide CK).below (below_drew (Below.refl _ wr)))
              go_region_held3 (fun w' => w'.cell? ⟨g, i, none⟩ = some (I n) ∧ w'.cell? ⟨g2, k, none⟩ = some (.string sk)) (go_keep)
                (first
                  | (go_at_call 15; refine (unhide HFD _ (unhide CKd)).mono ?_; rintro e w5 ⟨rfl, -, X5⟩; have ci5 := ((unhide CKd).below (unhide X5)).c i n (unhide HNI); have ck5 := unhide HCK w5 (unhide X5)))
              have C6 := hide ((unhide CKd).below (unhide X5))
              have N6 := hide (((unhide NK).below (below_drew (Below.refl _ wr))).below (unhide X5))
              have P6 := hide (((unhide X5).block p3 (lt_of_heap (W := wr.drew) (unhide PK))).trans (unhide PK))
              go_wp2_with fail
              refine (unhide HS2 _ (unhide C6)).mono ?_
              rintro e w6 ⟨rfl, -, X6⟩
              have X7 := hide (((unhide X5).trans ((unhide X6).mono (unhide X5).size)).alloc (Nat.le_trans (unhide X5).size (unhide X6).size) (Obj.cells #[I m, I kd2, I mo2, I ui2, I gi2, I (lk2 : Nat), I (sz2 : Nat)] 31))
              have C7 := hide ((unhide CKd).below (unhide X7))
              have N7 := hide (((unhide NK).below (below_drew (Below.refl _ wr))).below (unhide X7))
              have P7 := hide (((unhide X7).block p3 (lt_of_heap (W := wr.drew) (unhide PK))).trans (unhide PK))
              have hc7 := heap_alloc_new w6 (Obj.cells #[I m, I kd2, I mo2, I ui2, I gi2, I (lk2 : Nat), I (sz2 : Nat)] 31)
              generalize hV7 : w6.alloc (Obj.cells #[I m, I kd2, I mo2, I ui2, I gi2, I (lk2 : Nat), I (sz2 : Nat)] 31) = V7 at X7 C7 N7 P7 hc7
              generalize hp7 : w6.heap.size = p7 at hc7
              obtain ⟨r0, r1, r2, r3, r4, r5, r6, -⟩ := cells7 hc7
              have ck7 := unhide HCK V7 (unhide X7)
              clear hc7 C6 N6 P6 X5 X6 CKd CK NK PK HFD HS2 ck ci
              by_cases hk0 : k = 0
              · subst hk0
                have p5 : ((0 : Int) < ((0 : Nat) : Int)) = False := by simp
                by_cases kk : kd2 = 1
                · subst kk
                  have HDD : Hid (D + 1 = T.dirs x.ins (0 + 1)) := hide (by rw [unhide HDS, if_pos rfl])
                  go_wp2_with fail
                  go_quiet (fail)
                  go_wp2_with fail
                  refine ⟨⟨D + 1, 0 + 1, by first | rfl | go_num, by first | rfl | go_num, by omega, by omega, HDD, hide ((unhide C7).below (below_dn (Below.refl _ V7) nq)), hide ((unhide N7).below (below_dn (Below.refl _ V7) nq)), P7⟩, by simp [intOf]; omega⟩
                · have HDD : Hid (D = T.dirs x.ins (0 + 1)) := hide (by rw [unhide HDS, if_neg kk]; rfl)
                  have tk : (kd2 == 1) = false := by simpa using kk
                  go_wp2_with fail
                  go_quiet (fail)
                  go_wp2_with fail
                  refine ⟨⟨D, 0 + 1, by first | rfl | go_num, by first | rfl | go_num, by omega, by omega, HDD, hide ((unhide C7).below (below_dn (Below.refl _ V7) nq)), hide ((unhide N7).below (below_dn (Below.refl _ V7) nq)), P7⟩, by simp [intOf]; omega⟩
              · obtain ⟨q, hq⟩ : ∃ q, q + 1 = k := ⟨k - 1, by omega⟩
                obtain ⟨sp, hlt, hcp⟩ := unhide HPRE q hq
                have cp7 := hcp V7 (unhide X7)
                have p0 : (0 : Int) < (k : Int) := by omega
                have p4 : (0 < k) = True := by simp; omega
                have p5 : ((0 : Int) < (k : Int)) = True := by simp; omega
                have e1 : wrap64 ((k : Int) - 1) = (q : Int) := by simp only [wrap64]; omega
                have e2 : IntKind.i64.wrap ((k : Int) - 1) = (q : Int) := by rw [IntKind.wrap_i64]; omega
                have e3 : (k : Int) - 1 = (q : Int) := by omega
                have p2 : (q : Int) < (M : Int) := by omega
                have p3' : (0 : Int) ≤ (q : Int) := by omega
                have e4 : (k : Int) + -1 = (q : Int) := by omega
                have e5 : IntKind.i64.wrap ((k : Int) + -1) = (q : Int) := by rw [IntKind.wrap_i64]; omega
                have hM9 : (M : Int) ≤ 200 := by omega
                have hq9 : (q : Int) ≤ 200 := by omega
                have hge := str_less hlt
                replace hq := hide hq
                clear hlt hcp hk0 HPRE
                by_cases kk : kd2 = 1
                · subst kk
                  have HDD : Hid (D + 1 = T.dirs x.ins (k + 1)) := hide (by rw [unhide HDS, if_pos rfl])
                  go_wp2_with fail
                  go_quiet (fail)
                  go_wp2_with fail
                  refine ⟨⟨D + 1, k + 1, by first | rfl | go_num, by first | rfl | go_num, by omega, by omega, HDD, hide ((unhide C7).below (below_dn (Below.refl _ V7) nq)), hide ((unhide N7).below (below_dn (Below.refl _ V7) nq)), P7⟩, by simp [intOf]; omega⟩
                · have HDD : Hid (D = T.dirs x.ins (k + 1)) := hide (by rw [unhide HDS, if_neg kk]; rfl)
                  have tk : (kd2 == 1) = false := by simpa using kk
                  go_wp2_with fail
                  go_quiet (fail)
                  go_wp2_with fail
                  refine ⟨⟨D, k + 1, by first | rfl | go_num, by first | rfl | go_num, by omega, by omega, HDD, hide ((unhide C7).below (below_dn (Below.refl _ V7) nq)), hide ((unhide N7).below (below_dn (Below.refl _ V7) nq)), P7⟩, by simp [intOf]; omega⟩
            · obtain rfl : k = M := by omega
              clear hkM
              obtain ⟨q0, q1, q2, q3, q4, q5, q6, -⟩ := cells7 (unhide PK)
              have ci := (unhide CK).c i n (unhide HNI)
              have hsz2 : sz = k := by
                have h1 := unhide HSZ
                have h2 := unhide HM
                rw [List.length_map] at h2
                rw [h1, h2, Tr.size, if_neg (by rw [← unhide HKD]; decide), if_neg (by rw [← unhide HKD]; decide)]
              have hlk2 : lk = 2 + D := by
                have h1 := unhide HLK
                have h2 := unhide HM
                rw [List.length_map] at h2
                have h3 := (unhide HF).alv n x (unhide HX)
                have h4 := (unhide HQ n x (unhide HX)).1
                rw [h1, Tr.links, if_pos ⟨(unhide HKD).symm, by omega⟩, unhide HD, h2, Tr.dirs, List.take_length]
              have hfn : T.findN n ⟨#[110, 111, 110, 101]⟩ = none := by
                simp only [Tr.findN, unhide HDI, Option.bind_some]
                rw [getE_none]
                intro e he
                have := (unhide HQ n x (unhide HX)).2 e he
                intro h'
                rw [h'] at this
                rcases this with h' | h' | h' <;> exact absurd h' (by decide +kernel)
              have HFN := hide (find_Q (unhide CK).q (by omega) (unhide HN) ⟨#[110, 111, 110, 101]⟩ 0 false (by rw [hfn]; rfl) (by rw [hfn]; rfl))
              subst hsz2 hlk2
              clear hfn HD HSZ HLK HM
              go_wp2_with fail
              refine (unhide HFN).mono ?_
              rintro e w6 ⟨rfl, -, X6⟩
              have C9 := hide ((unhide CK).below (unhide X6))
              go_wp2_with fail
              refine ⟨⟨i + 1, by go_num, by omega, C9⟩, by simp [intOf]; omega⟩
        · have hem : T.names n = [] := by
            have := unhide HKD
            simp only [Tr.names, Tr.dir, unhide HX, Option.bind_some]
            rw [if_neg (by rw [← this]; exact k1)]
          have hr := unhide R4
          rw [hem] at hr
          obtain ⟨ad, cp2, rfl⟩ := own_form hr
          have t1 : (kd != 1) = true := by simpa using k1
          clear hr R4 hem
          go_wp2_with fail
          go_quiet (fail)
          go_wp2_with fail
          refine ⟨⟨i + 1, by go_num, by omega, hide ((unhide C4).below (below_dn (Below.refl _ w4) _))⟩, by simp [intOf]; omega⟩
      · obtain rfl : i = L := by omega
        clear hiL
        go_wp2_with fail
        refine (unhide HK _).mono ?_
        rintro e w3 ⟨rfl, hB3⟩
        have HB3 := hide hB3
        clear hB3
        go_wp2_with fail
        go_ret
        exact ⟨rfl, (unhide C).b.trans ((unhide HB3).mono (unhide C).b.size)⟩
end Go.Proofs.Ytiedobpgfhmidab
