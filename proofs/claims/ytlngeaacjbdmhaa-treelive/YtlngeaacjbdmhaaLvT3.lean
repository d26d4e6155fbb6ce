/-
  TreeLive: the search.
-/
import Derived.Test.YtlngeaacjbdmhaaLvM
namespace Go.Proofs.Ytlngeaacjbdmhaa
open Go.RowKit Go.Maps
set_option linter.unusedVariables false

set_option maxRecDepth 1000000 in
set_option maxHeartbeats 40000000 in
theorem t3 (w : World) (t g r : Nat) (T : Tr) (c0 c1 c2 c4 c6 c7 c8 c9 c12 c13 c14 c15 c16 c17 c18 c19 c20 c21 c22 c23 c24 c25 c26 c27 c28 c29 c30 c31 c32 c33 c34 c35 c36 c37 c38 c39 c40 c41 c42 c43 c44 c45 c46 c47 c48 c49 c50 c51 c52 c53 c54 c55 c56 c57 c58 c59 c60 c61 c62 c63 c64 c65 c66 c67 c68 c69 c70 c71 c72 c73 c74 c75 c76 c77 c78 c79 c80 c81 c82 c83 c84 c85 c86 c87 c88 c89 c90 c91 c92 c93 c94 c95 c96 c97 c98 c99 c100 c101 c102 c103 c104 c105 c106 c107 c108 c109 c110 c111 c112 c113 c114 c115 c116 c117 c118 c119 c120 c121 c122 c123 c124 c125 c126 c127 c128 c129 c130 c131 c132 c133 c134 c135 c136 c137 c138 c139 c140 c141 c142 c143 c144 c145 c146 c147 c148 c149 c150 c151 c152 c153 c154 c155 c156 c157 c158 c159 c160 c161 c162 c163 c164 c165 c166 c167 c168 c169 c170 c171 c172 c173 c174 c175 c176 c177 c178 c179 c180 c181 c182 c183 c184 c185 c186 c187 c188 c189 c190 c191 c192 c193 c194 c195 c196 c197 c198 c199 c200 c201 c202 c203 c204 c205 c206 c207 c208 c209 c210 c211 c212 c213 c214 c215 c216 c217 c218 c219 c220 c221 c222 c223 c224 c225 c226 c227 c228 c229 c230 c231 c232 c233 c234 c235 c236 c237 c238 c239 c240 c241 c242 c243 c244 c245 c246 c247 : Value) (Q' : Exit → Act → World → Prop) (V3 : World) (HF : Hid (Wf 125 T)) (HS1 : Hid (LS w V3 t g r T (upi (fun _ => 0) 1 1) (.slice (some ⟨r + 1, 0, none⟩) 1 1) [1])) (J K' : Act → World → Prop) (h1 : ∀ a' w', R3 w t g r T c0 c1 c4 c6 c7 c8 c9 c209 c210 c211 c212 c213 c214 c215 c216 c217 c218 c219 c220 c221 c222 c223 c224 c225 c226 c227 c228 c229 c230 c231 c232 c233 c234 c235 c236 c237 c238 c239 c240 c241 c242 c243 c244 c245 c246 c247 a' w' → J a' w') (h2 : ∀ a' w', Met J a' w' → K' a' w') :
    Code.wp Try.prog ((Try.f3.body.bind (blkOf 3)).getD .skip) (Exit.then K' Q') ⟨#[c0, c1, c2, P0 t, c4, .pointer (some ⟨g, 0, none⟩), c6, c7, c8, c9, .pointer (some ⟨r, 0, none⟩), .slice (some ⟨r + 1, 0, none⟩) 1 1, c12, c13, c14, c15, c16, c17, c18, c19, c20, c21, c22, c23, c24, c25, c26, c27, c28, c29, c30, c31, c32, c33, c34, c35, c36, c37, c38, c39, c40, c41, c42, c43, c44, c45, c46, c47, c48, c49, c50, c51, c52, c53, c54, c55, c56, c57, c58, c59, c60, c61, c62, c63, c64, c65, c66, c67, c68, c69, c70, c71, c72, c73, c74, c75, c76, c77, c78, c79, c80, c81, c82, c83, c84, c85, c86, c87, c88, c89, c90, c91, c92, c93, c94, c95, c96, c97, c98, c99, c100, c101, c102, c103, c104, c105, c106, c107, c108, c109, c110, c111, c112, c113, c114, c115, c116, c117, c118, c119, c120, c121, c122, c123, c124, c125, c126, c127, c128, c129, c130, c131, c132, c133, c134, c135, c136, c137, c138, c139, c140, c141, c142, c143, c144, c145, c146, c147, c148, c149, c150, c151, c152, c153, c154, c155, c156, c157, c158, c159, c160, c161, c162, c163, c164, c165, c166, c167, c168, c169, c170, c171, c172, c173, c174, c175, c176, c177, c178, c179, c180, c181, c182, c183, c184, c185, c186, c187, c188, c189, c190, c191, c192, c193, c194, c195, c196, c197, c198, c199, c200, c201, c202, c203, c204, c205, c206, c207, c208, c209, c210, c211, c212, c213, c214, c215, c216, c217, c218, c219, c220, c221, c222, c223, c224, c225, c226, c227, c228, c229, c230, c231, c232, c233, c234, c235, c236, c237, c238, c239, c240, c241, c242, c243, c244, c245, c246, c247], []⟩ V3 := by
  conv => arg 2; whnf
  obtain ⟨M, hM⟩ := ghost (α := List Int) (fun V v W => ∃ Q R, Bf T V Q ∧ (∀ n : Nat, n < 200 → R n = (T.met V (n : Int) : Int)) ∧ LS w W t g r T R v Q) (fun V => 200 - V.length)
  have HM := hide hM
  clear hM
  go_wp2_with fail
  go_loopw [11] (fun v wr => ∃ V Q R, Bf T V Q ∧ (∀ n : Nat, n < 200 → R n = (T.met V (n : Int) : Int)) ∧ LS w wr t g r T R v Q) (fun v W => M v W)
  case atStart =>
    refine ⟨[], [1], _, Bf.start (unhide HF), fun n _ => ?_, unhide HS1⟩
    unfold upi Tr.met sumL
    by_cases e : n = 1
    · subst e; rfl
    · rw [if_neg e, if_neg (by omega)]; rfl
  case round =>
    clear HS1
    obtain ⟨Va, Qa, Ra, g1, g2, g3⟩ := hrel
    obtain ⟨-, V, ⟨Q, R, hBf, hR, hLS⟩, hMV⟩ := unhide HM _ _ _ ⟨Qa, Ra, g1, g2, g3⟩
    clear g1 g2 g3 Qa Ra Va
    obtain ⟨a5, cap5, hv5, hcap5⟩ := hLS.ww.form
    have HMV := hide hMV
    clear hMV
    subst hv5
    cases Q with
    | nil =>
      have HB := hide hBf
      have HR := hide hR
      have HL := hide hLS
      clear hBf hR hLS hcap5
      go_wp2_with fail
      go_meet
      case rel => exact ⟨V, R, _, HB, HR, HL⟩
    | cons d Q2 =>
      obtain ⟨b5, off5, cap6, hv6, c0, hcap6, hLS2⟩ := hLS.head
      simp only [Value.slice.injEq, List.length_cons] at hv6
      obtain ⟨rfl, -, rfl⟩ := hv6
      have hfew := hBf.few (unhide HF)
      have hmd := (unhide HF).k.made
      have hql : Q2.length ≤ 200 := by simp at hfew; omega
      have hvl : V.length ≤ 125 := by simp at hfew; omega
      have HBF := hide hBf
      have HRR := hide hR
      have HLS := hide hLS
      have HLS2 := hide hLS2
      obtain ⟨x, hx, hxk⟩ := hBf.dr d (by simp)
      have HX := hide hx
      have HXK := hide hxk
      have HWD := hide ((unhide HF).k.wf (by omega) hx)
      simp only [List.length_cons] at hcap5
      clear hBf hR hLS hLS2 hfew hx hxk hmd hcap5
      rw [List.length_cons] at HMV ⊢
      generalize hq2 : Q2.length = l2 at *
      have HQ2 := hide hq2
      clear hq2
      generalize hl1 : l2 + 1 = l1 at *
      have m1 : (1 : Int) ≤ (l1 : Int) := by omega
      have m2 : (l1 : Int) ≤ (cap5 : Int) := by omega
      have m3 : (0 : Int) < (l1 : Int) := by omega
      have m4 : 0 < l1 := by omega
      have m5 : ¬ (l1 : Int) = 0 := by omega
      have eM : l2 = l1 - 1 := by omega
      have HEM0 := hide eM
      have HL1 := hide hl1
      have l2b : l2 ≤ 200 := hql
      clear eM hl1
      go_upto_region 35 with fail
      go_cut [11] from 149 to 150 (fun s11 wd => wd = wr ∧ ∃ a6 cap7, s11 = .slice a6 l2 cap7 ∧ LS w wr t g r T R s11 Q2)
      case first =>
        have eM := unhide HEM0
        have hl1 := unhide HL1
        by_cases hc1 : cap5 = 1
        · have hh := unhide HLS2
          rw [if_pos hc1] at hh
          subst hc1
          obtain rfl : l1 = 1 := by omega
          simp only [Nat.sub_self] at eM hh
          subst eM
          have HH := hide hh
          clear hh hl1 HLS2
          go_wp2_with fail
          go_meet
          case rel => exact ⟨rfl, _, _, rfl, unhide HH⟩
        · have hh := unhide HLS2
          rw [if_neg hc1, eM] at hh
          have HH := hide hh
          have HEM := hide eM
          clear hh hl1 HLS2 eM
          go_wp2_with fail
          go_meet
          case rel => exact ⟨rfl, _, _, by rw [unhide HEM], by have := unhide HH; exact this⟩
      case rest =>
      obtain ⟨rfl, a6, cap7, rfl, L6⟩ := hcut
      have HL6 := hide L6
      clear HLS HLS2 L6 c0
      have hdir : T.dir d = some x := Tr.dir_some.2 ⟨unhide HX, unhide HXK⟩
      have hns : T.names d = x.ins.map Prod.fst := by simp only [Tr.names, hdir]
      have HDI := hide hdir
      have HNM := hide (names_Q (unhide HL6).q (by omega) (unhide HWD))
      rw [hns] at HNM
      clear hdir hns
      go_wp2_with fail
      refine (unhide HNM).mono ?_
      rintro e w4 ⟨vn, rfl, R4, -, X4⟩
      obtain ⟨ad, cp2, rfl, hnl⟩ := (unhide R4).nl
      obtain ⟨Mx, hMx⟩ : ∃ Mx, Mx = (x.ins.map Prod.fst).length := ⟨_, rfl⟩
      rw [← hMx]
      have HMx := hide hMx
      have HNL := hide hnl
      have HL4 := hide ((unhide HL6).below (unhide X4))
      have hMb : Mx ≤ 200 := by rw [hMx, List.length_map]; have := ((unhide HF).k.bnd d x (unhide HX)).2.2; omega
      clear R4 X4 hnl hMx HNM HL6
      go_wp2_with fail
      go_loopw [11, 14] (fun v iv wx => ∃ (j : Nat) (R' : Nat → Int), iv = .int .i64 (j : Int) ∧ j ≤ Mx ∧ Hid (∀ n : Nat, n < 200 → R' n = (T.metJ V x.ins j (n : Int) : Int)) ∧ Hid (LS w wx t g r T R' v (Q2 ++ T.kids (x.ins.take j))) ∧ Hid (NL wx ad (x.ins.map Prod.fst))) (fun _ iv _ => Mx - (intOf iv).toNat)
      case atStart => exact ⟨0, R, rfl, Nat.zero_le _, hide (fun n hn => by rw [metJ_zero]; exact unhide HRR n hn), by have := unhide HL4; simpa [Tr.kids, Hid] using this, HNL⟩
      case round =>
        clear HL4 HNL
        obtain ⟨i, R', rfl, hi, HR', HLi, HNi⟩ := hrel
        by_cases hiM : i < Mx
        · have y1 : (i : Int) < (Mx : Int) := by omega
          have y0 : (0 : Int) ≤ (i : Int) := by omega
          obtain ⟨⟨sk, m⟩, he⟩ : ∃ e, x.ins[i]? = some e := ⟨_, List.getElem?_eq_getElem (by have := unhide HMx; rw [List.length_map] at this; omega)⟩
          obtain ⟨g2, hg2, hgl2, ck, -⟩ := unhide HNi i sk (by rw [List.getElem?_map, he]; rfl)
          subst hg2
          have hgm : getE x.ins sk = some m := ((unhide HF).k.srt d x (unhide HX)).getE_mem.2 (List.mem_of_getElem? he)
          obtain ⟨y, hy⟩ := (unhide HF).k.ent (unhide HX) (List.mem_of_getElem? he)
          have hy' : T.nd m = some y := hy
          clear hy
          have hkm := (unhide HF).k.key m y hy'
          have hmade := (unhide HF).k.made
          obtain ⟨mn, rfl⟩ : ∃ mn : Nat, m = mn := ⟨m.toNat, by omega⟩
          have n1 : (1 : Int) ≤ (mn : Int) := hkm.1
          have n2 : (mn : Int) < 200 := by omega
          have n3 : mn < 200 := by omega
          have n4 : ¬ (mn : Int) < 1 := by omega
          have n5 : ¬ (200 : Int) ≤ (mn : Int) := by omega
          have hfn : T.findN d sk = some (mn : Int) := by simp only [Tr.findN, unhide HDI, Option.bind_some]; exact hgm
          have HFD := hide (find_Q (unhide HLi).q (by omega) (unhide HWD) sk (mn : Int) true (by rw [hfn]; rfl) (by rw [hfn]; rfl))
          have hst : T.stat (mn : Int) = stV (mn : Int) y.kind y.mode y.uid y.gid (T.links y : Nat) (T.size y : Nat) := by simp only [Tr.stat, hy']; rfl
          have HWM := hide ((unhide HF).k.wf (by omega) hy')
          have HST := hide (fun (W : World) (h : Tq w.heap.size 10 W t T 125) => stat_Q h (by omega) (unhide HWM) _ true hst (by rw [hy']; rfl))
          obtain ⟨kd, hkd⟩ : ∃ kd, kd = y.kind := ⟨_, rfl⟩
          obtain ⟨mo, hmo⟩ : ∃ v, v = y.mode := ⟨_, rfl⟩
          obtain ⟨ui, hui⟩ : ∃ v, v = y.uid := ⟨_, rfl⟩
          obtain ⟨gi, hgi⟩ : ∃ v, v = y.gid := ⟨_, rfl⟩
          obtain ⟨lk, hlk⟩ : ∃ v, v = T.links y := ⟨_, rfl⟩
          obtain ⟨sz, hsz⟩ : ∃ v, v = T.size y := ⟨_, rfl⟩
          rw [← hkd, ← hmo, ← hui, ← hgi, ← hlk, ← hsz] at HST
          have hko : T.kindOf (mn : Int) = kd := by rw [kindOf_some hy', hkd]
          have HKO := hide hko
          have HE := hide he
          have hmj := (unhide HBF).metJ_le (unhide HF) (unhide HX) i (mn : Int)
          have hRm := unhide HR' mn n3
          have b1 : R' mn ≤ 1000 := by omega
          have b0 : 0 ≤ R' mn := by omega
          have hjs := fun n => metJ_succ (T := T) V he n
          have HJS := hide hjs
          have hks := kids_succ (T := T) he
          have HKS := hide hks
          clear he hgm hy' hkm hfn hst hkd hmo hui hgi hlk hsz hko hmj hRm hjs hks hmade
          go_wp2_with fail
          refine (unhide HFD).mono ?_
          rintro e w5 ⟨rfl, -, X5⟩
          have L5 := (unhide HLi).below (unhide X5)
          have N5 := (unhide HNi).below (unhide X5)
          obtain ⟨Xw, hXw, xc, xf, LX, hXs, hXk⟩ := L5.put n3 (R' mn + 1)
          have NX : NL Xw (some ⟨g2, 0, none⟩) (x.ins.map Prod.fst) := N5.keep (by omega) (fun k cur hc => hXk k (by rintro rfl; rw [L5.rr] at hc; simp at hc))
          obtain ⟨q, hq⟩ : ∃ q, R' mn = q := ⟨_, rfl⟩
          rw [hq] at xc hXw b1 b0 LX
          have HQQ := hide hq
          have HLX := hide LX
          have HNX := hide NX
          have HST6 := hide (unhide HST Xw LX.q)
          clear hq LX NX L5 N5 HST hXs hXk HFD HLi HNi X5 ck
          go_wp2_with fail
          refine (unhide HST6).mono ?_
          rintro e w6 ⟨rfl, -, X6⟩
          have hBa := (Below.refl _ w6).alloc (Nat.le_refl _) (Obj.cells #[I (mn : Int), I kd, I mo, I ui, I gi, I (lk : Nat), I (sz : Nat)] 29)
          have L7 := ((unhide HLX).below (unhide X6)).below hBa
          have N7 := ((unhide HNX).below (unhide X6)).below hBa
          have hc := heap_alloc_new w6 (Obj.cells #[I (mn : Int), I kd, I mo, I ui, I gi, I (lk : Nat), I (sz : Nat)] 29)
          generalize hV7 : w6.alloc (Obj.cells #[I (mn : Int), I kd, I mo, I ui, I gi, I (lk : Nat), I (sz : Nat)] 29) = V7 at L7 N7 hc
          generalize hp7 : w6.heap.size = p7 at hc
          obtain ⟨z0, z1, z2, z3, z4, z5, z6, -⟩ := cells7 hc
          obtain ⟨rc, -⟩ := L7.at n3
          rw [show upi R' mn (q + 1) mn = q + 1 by simp [upi]] at rc
          have HR2 : Hid (∀ n : Nat, n < 200 → upi R' mn (q + 1) n = (T.metJ V x.ins (i + 1) (n : Int) : Int)) := fun n hn => by
            rw [unhide HJS]
            unfold upi
            by_cases e : n = mn
            · subst e
              rw [if_pos rfl, if_pos rfl, ← unhide HQQ, unhide HR' n hn]; rfl
            · rw [if_neg e, if_neg (by show ¬ (mn : Int) = (n : Int); omega), unhide HR' n hn]; rfl
          have HL7 := hide L7
          have HN7 := hide N7
          clear L7 N7 hc hBa X6 HST6 HLX HNX hXw xc xf
          by_cases k1 : kd = 1
          · subst k1
            obtain ⟨hf1, hup⟩ := (unhide HBF).first (unhide HF) (unhide HX) (unhide HE) (unhide HKO)
            have hq0 : q = 0 := by
              have h1 := unhide HR2 mn n3
              have h2 : T.metJ V x.ins (i + 1) (mn : Int) = 1 := hf1
              rw [h2] at h1
              unfold upi at h1
              rw [if_pos rfl] at h1
              omega
            have rc1 : V7.cell? ⟨r, mn, none⟩ = some (I 1) := by rw [rc, hq0]; rfl
            have HUP := hide (up_Q (unhide HL7).q (unhide HWM) d hup)
            clear hf1 hup hq0 rc
            go_wp2_with fail
            refine (unhide HUP).mono ?_
            rintro e w8 ⟨rfl, -, X8⟩
            have hBb := (Below.refl _ w8).alloc (Nat.le_refl _) (.cells #[I (mn : Int)] 3)
            have L9 := ((unhide HL7).below (unhide X8)).below hBb
            have N9 := ((unhide HN7).below (unhide X8)).below hBb
            have hkl : (T.kids (x.ins.take i)).length ≤ 200 := by
              unfold Tr.kids
              refine Nat.le_trans (List.length_filter_le _ _) ?_
              simp; omega
            obtain ⟨qv9, W10, r5, L10, ⟨x10, c10, e10⟩, hs10, hk10⟩ := L9.push (by rw [List.length_append, unhide HQ2]; omega) (heap_alloc_new w8 _)
            have N10 := N9.keep hs10 (fun k cur hc => (hk10 k _ hc (by simp)).trans hc.symm)
            have HL10 : Hid (LS w W10 t g r T (upi R' mn (q + 1)) qv9 (Q2 ++ T.kids (x.ins.take (i + 1)))) := by
              have : T.kids (x.ins.take (i + 1)) = T.kids (x.ins.take i) ++ [(mn : Int)] := by rw [unhide HKS, if_pos (unhide HKO)]
              rw [this, ← List.append_assoc]; exact L10
            have HN10 := hide N10
            clear L9 N9 L10 N10 hk10 hs10 hBb hkl X8 HUP HL7 HN7 hV7 hp7 z0 z1 z2 z3 z4 z5 z6 rc1
            obtain ⟨n10, hn10⟩ : ∃ n10, (Q2 ++ T.kids (x.ins.take i)).length + 1 = n10 := ⟨_, rfl⟩
            rw [hn10] at e10
            subst e10
            clear hn10
            go_wp2_with (at_builtin; refine wpList_append_eq rfl _ _ 34 rfl 34 rfl _ _ rfl rfl _ _ r5 ?_)
            go_roundw
            case rel => exact ⟨i + 1, _, by go_num, by omega, HR2, HL10, HN10⟩
            case measure => simp [intOf]; omega
          · have t1 : (kd == 1) = false := by simpa using k1
            have hkk : T.kids (x.ins.take (i + 1)) = T.kids (x.ins.take i) := by rw [unhide HKS, if_neg (by show ¬ T.kindOf (mn : Int) = 1; rw [unhide HKO]; exact k1)]; simp
            have hL10 := unhide HL7
            rw [← hkk] at hL10
            have HL10 := hide hL10
            clear hL10 hkk HL7
            clear k1
            go_wp2_with fail
            go_roundw
            case rel => exact ⟨i + 1, _, by go_num, by omega, HR2, HL10, HN7⟩
            case measure => simp [intOf]; omega
        · obtain rfl : i = Mx := by omega
          have hil : i = x.ins.length := by have := unhide HMx; rw [List.length_map] at this; exact this
          have htk : x.ins.take i = x.ins := by rw [hil]; exact List.take_length
          have hLe := unhide HLi
          rw [htk] at hLe
          have hRe : ∀ n : Nat, n < 200 → R' n = (T.met (V ++ [d]) (n : Int) : Int) := fun n hn => by rw [unhide HR' n hn, hil, metJ_all V (unhide HX)]
          have hBe := (unhide HBF).step (unhide HF) (unhide HX)
          have HE := hide (And.intro hBe (And.intro hRe hLe))
          have HME := hide ((unhide HM _ _ _ ⟨_, _, hBe, hRe, hLe⟩).1)
          clear hil htk hLe hRe hBe HLi HNi
          go_wp2_with fail
          go_roundw
          case rel => exact ⟨_, _, _, (unhide HE).1, (unhide HE).2.1, (unhide HE).2.2⟩
          case measure =>
            refine Nat.lt_of_le_of_lt (unhide HME) ?_
            have := unhide HMV
            rw [List.length_append]
            simp only [List.length_cons, List.length_nil]
            refine Nat.lt_of_lt_of_le ?_ (Nat.le_of_eq this)
            omega

end Go.Proofs.Ytlngeaacjbdmhaa
