/-
  ChainLooks: the look goes on.
-/
import Derived.Test.YtbmcnfdciogmjaaLkT4
namespace Go.Proofs.Ytbmcnfdciogmjaa
open Go.RowKit Go.Sort
set_option linter.unusedVariables false
attribute [local go_sem ↓] Go.wp_at_zero Go.wp_at_succ

set_option maxRecDepth 1000000 in
set_option maxHeartbeats 8000000 in
theorem t2 (w1 : World) (bt nn rb lb sl lenl capl : Nat) (key : ByteArray) (v : Int) (pl : Option Addr) (c1 c4 c5 c6 c7 c8 c10 c12 c17 c23 c24 c25 c26 c27 c28 c29 c30 c31 c32 c33 c34 c35 c36 c37 c38 c39 c40 c41 c42 c43 c44 c45 c46 c47 c48 c49 c50 c51 c52 c53 c54 c55 c56 c57 c58 c59 c60 c61 c62 c63 c64 c65 c66 c67 c68 c69 c70 c71 c72 c73 c74 c75 c76 c77 c78 c79 c80 c81 c82 c83 c84 c85 c86 c87 c88 c89 c90 c91 c92 c93 c94 c95 c96 c97 c98 c99 c100 c101 c102 c103 c104 c105 c106 c107 c108 c109 c110 c111 c112 c113 c114 c115 c116 c117 c118 c119 c120 c121 c122 c123 c124 c125 c126 c127 c128 c129 c130 c131 c132 c133 c134 c135 c136 c137 c138 c139 c140 c141 c142 c143 c144 c145 c146 c147 c148 c149 c150 c151 c152 c153 c154 c155 c156 c157 c158 c159 c160 c161 c162 c163 c164 c165 c166 c167 c168 c169 c170 c171 c172 c173 c174 c175 c176 c177 c178 c179 c180 c181 c182 c183 c184 c185 c186 c187 c188 c189 c190 c191 c192 c193 c194 c195 c196 c197 c198 c199 c200 c201 c202 c203 c204 c205 c206 c207 c208 c209 c210 c211 c212 c213 c214 c215 c216 c217 c218 c219 c220 c221 c222 c223 c224 c225 c226 c227 c228 c229 c230 c231 c232 c233 c234 c235 c236 c237 c238 c239 c240 c241 c242 c243 c244 c245 c246 c247 c248 c249 c250 c251 c252 c253 c254 c255 c256 c257 c258 c259 c260 c261 c262 c263 c264 c265 c266 c267 c268 c269 c270 c271 c272 c273 c274 c275 c276 c277 c278 c279 c280 c281 c282 c283 c284 c285 c286 c287 c288 c289 c290 : Value) (Q' : Exit → Act → World → Prop) (wc : World) (m : Pairs) (seen0 : List Int) (hh nh : Bool) (most0 : Int) (a0 : Option Addr) (c0 : Nat) (hs0 : seen0.length ≤ 1) (hmaxl : lenl ≤ 9223372036854775807) (hsl : Hid (slotOf nn key = sl)) (e1 : (nn : Int) % 4294967296 = (nn : Int)) (e2 : ¬ (nn : Int) = 0) (hl : Hid (AsksAt w1 pl lenl)) (LS0 : Hid (LS w1 bt nn rb lb key v wc m (.slice a0 seen0.length c0) seen0 hh nh false most0 0 0 64)) (J K' : Act → World → Prop) (h1 : ∀ a' w', R2 w1 bt nn rb lb sl lenl capl key v pl c1 c4 c5 c6 c7 c8 c10 c12 c17 c26 c27 c28 c29 c30 c31 c32 c33 c34 c35 c36 c37 c38 c39 c40 c41 c42 c43 c44 c45 c46 c47 c48 c49 c50 c51 c52 c53 c54 c55 c56 c57 c58 c59 c60 c61 c62 c63 c64 c65 c66 c67 c68 c69 c70 c71 c72 c73 c74 c75 c76 c77 c78 c79 c80 c81 c82 c83 c84 c85 c86 c87 c88 c89 c90 c91 c92 c93 c94 c95 c96 c97 c98 c99 c100 c101 c102 c103 c104 c105 c106 c107 c108 c109 c110 c111 c112 c113 c114 c115 c116 c117 c118 c119 c120 c121 c122 c123 c124 c125 c126 c127 c128 c129 c222 c223 c224 c225 c226 c227 c228 c229 c230 c231 c232 c233 c234 c235 c236 c237 c238 c239 c240 c241 c242 c243 c244 c245 c246 c247 c248 c249 c250 c251 c252 c253 c254 c255 c256 c257 c258 c259 c260 c261 c262 c263 c264 c265 c266 c267 c268 c269 c270 c271 c272 c273 c274 c275 c276 c277 c278 c279 c280 c281 c282 c283 c284 c285 c286 c287 c288 c289 c290 a' w' → J a' w') (h2 : ∀ a' w', Met J a' w' → K' a' w') :
    Code.wp Try.prog ((Try.f5.body.bind (blkOf 2)).getD .skip) (Exit.then K' Q') ⟨#[.int .i64 (nn : Int), c1, .string key, .slice pl lenl capl, c4, c5, c6, c7, c8, .pointer (some ⟨bt, 0, none⟩), c10, .pointer (some ⟨rb, 0, none⟩), c12, .int .u32 (sl : Int), .int .i64 most0, .pointer (some ⟨lb, 0, none⟩), .int .i64 v, c17, .bool hh, .bool nh, .slice a0 seen0.length c0, .bool false, .int .i64 0, c23, c24, c25, c26, c27, c28, c29, c30, c31, c32, c33, c34, c35, c36, c37, c38, c39, c40, c41, c42, c43, c44, c45, c46, c47, c48, c49, c50, c51, c52, c53, c54, c55, c56, c57, c58, c59, c60, c61, c62, c63, c64, c65, c66, c67, c68, c69, c70, c71, c72, c73, c74, c75, c76, c77, c78, c79, c80, c81, c82, c83, c84, c85, c86, c87, c88, c89, c90, c91, c92, c93, c94, c95, c96, c97, c98, c99, c100, c101, c102, c103, c104, c105, c106, c107, c108, c109, c110, c111, c112, c113, c114, c115, c116, c117, c118, c119, c120, c121, c122, c123, c124, c125, c126, c127, c128, c129, c130, c131, c132, c133, c134, c135, c136, c137, c138, c139, c140, c141, c142, c143, c144, c145, c146, c147, c148, c149, c150, c151, c152, c153, c154, c155, c156, c157, c158, c159, c160, c161, c162, c163, c164, c165, c166, c167, c168, c169, c170, c171, c172, c173, c174, c175, c176, c177, c178, c179, c180, c181, c182, c183, c184, c185, c186, c187, c188, c189, c190, c191, c192, c193, c194, c195, c196, c197, c198, c199, c200, c201, c202, c203, c204, c205, c206, c207, c208, c209, c210, c211, c212, c213, c214, c215, c216, c217, c218, c219, c220, c221, c222, c223, c224, c225, c226, c227, c228, c229, c230, c231, c232, c233, c234, c235, c236, c237, c238, c239, c240, c241, c242, c243, c244, c245, c246, c247, c248, c249, c250, c251, c252, c253, c254, c255, c256, c257, c258, c259, c260, c261, c262, c263, c264, c265, c266, c267, c268, c269, c270, c271, c272, c273, c274, c275, c276, c277, c278, c279, c280, c281, c282, c283, c284, c285, c286, c287, c288, c289, c290], []⟩ wc := by
  conv => arg 2; whnf
  go_wp2_with fail
  go_loopw [14, 18, 19, 20, 21, 22] (fun s14 s18 s19 s20 s21 s22 wr => ∃ (k : Nat) (m : Pairs) (seen : List Int) (al nv ov : Bool) (most : Int) (a : Option Addr) (c : Nat), k ≤ 80 ∧ s14 = .int .i64 most ∧ s18 = .bool al ∧ s19 = .bool nv ∧ s20 = .slice a seen.length c ∧ s21 = .bool ov ∧ s22 = .int .i64 (k : Int) ∧ Hid (seen.length ≤ k + 1) ∧ Hid (LS w1 bt nn rb lb key v wr m (.slice a seen.length c) seen al nv ov most k 0 (64 + k))) (fun _ _ _ _ _ s22 _ => 80 - (intOf s22).toNat)
  case atStart => exact ⟨0, m, seen0, hh, nh, false, most0, a0, c0, by omega, rfl, rfl, rfl, rfl, rfl, rfl, hide (by omega), hide ((unhide LS0).relax (Nat.le_refl _) (by omega))⟩
  case round =>
    obtain ⟨k, m, seen, al, nv, ov, most, a, c, hk, rfl, rfl, rfl, rfl, rfl, rfl, hsn, L⟩ := hrel
    clear LS0 hs0
    have b3 := (unhide L).b3
    have b4 := (unhide L).b4
    have b5 : most ≤ 146 := by omega
    clear b3
    by_cases hg : (k < lenl ∧ k < 80) ∧ ov = false
    · obtain ⟨⟨g1, g2⟩, rfl⟩ := hg
      have z1 : (k : Int) < (lenl : Int) := by omega
      have z2 : (k : Int) < 80 := by omega
      have z0 : (0 : Int) ≤ (k : Int) := by omega
      obtain ⟨bb, off, kd, kk, x, rfl, hbb, hc0, hc1, hc2, hs2⟩ := (unhide hl).2 k g1
      have q0 := (cell_same ((unhide L).bel.block bb hbb) (off + k * 3)).trans hc0
      have q1 := (cell_same ((unhide L).bel.block bb hbb) (off + k * 3 + 1)).trans hc1
      have q2 := (cell_same ((unhide L).bel.block bb hbb) (off + k * 3 + 2)).trans hc2
      have hBx := (Below.refl wr.heap.size wr).alloc (Nat.le_refl _) (.cells #[.int .i64 kd, .string kk, .int .i64 x] 43)
      have OO : Cz (wr.alloc (.cells #[.int .i64 kd, .string kk, .int .i64 x] 43)) wr.heap.size kd kk x := putAll (w := wr) _ _ rfl
      obtain ⟨y0, y1, y2⟩ := OO.cs
      have O0 := hide OO
      have L1 := hide ((unhide L).below hBx)
      have hml := (unhide L).ml
      have HS := hide hs2
      clear hbb hc0 hc1 hc2 hBx OO L hl hs2
      go_upto_block 4 with fail
      clear q0 q1 q2
      generalize wr.alloc (.cells #[.int .i64 kd, .string kk, .int .i64 x] 43) = wa at *
      generalize wr.heap.size = ob at *
      refine wp_cut (R4 w1 bt nn rb lb sl ob k c key kk v kd x most m a seen al nv _ _ _ _ _ _ _ _ _ _ _ _ _ _ _ _ _ _ _ _ _ _ _ _ _ _ _ _ _ _ _ _ _ _ _ _ _ _ _ _ _ _ _ _ _ _ _ _ _ _ _ _ _ _ _ _ _ _ _ _ _ _ _ _ _ _ _ _ _ _ _ _ _ _ _ _ _ _ _ _ _ _ _ _ _ _ _ _ _ _ _ _ _ _ _ _ _ _ _ _ _ _ _ _ _ _ _ _ _ _ _ _ _ _ _ _ _ _ _ _ _ _ _ _ _ _ _ _ _ _ _ _ _ _ _ _ _ _ _ _ _ _ _ _ _ _ _ _ _ _ _ _ _ _ _ _ _ _ _ _ _ _ _ _ _ _ _ _ _ _ _ _ _ _ _ _ _ _ _ _ _ _ _ _ _ _ _ _ _ _ _ _ _ _ _ _ _ _ _ _ _ _ _ _ _ _ _ _ _ _ _ _ _ _ _ _ _ _ _ _ _ _ _ _ _ _ _ _ _ _ _ _ _ _ _ _ _ _ _ _ _ _ _) ?_ (fun J K' h1 h2 => t4 w1 bt nn rb lb sl ob k c key kk v kd x most m a seen al nv _ _ _ _ _ _ _ _ _ _ _ _ _ _ _ _ _ _ _ _ _ _ _ _ _ _ _ _ _ _ _ _ _ _ _ _ _ _ _ _ _ _ _ _ _ _ _ _ _ _ _ _ _ _ _ _ _ _ _ _ _ _ _ _ _ _ _ _ _ _ _ _ _ _ _ _ _ _ _ _ _ _ _ _ _ _ _ _ _ _ _ _ _ _ _ _ _ _ _ _ _ _ _ _ _ _ _ _ _ _ _ _ _ _ _ _ _ _ _ _ _ _ _ _ _ _ _ _ _ _ _ _ _ _ _ _ _ _ _ _ _ _ _ _ _ _ _ _ _ _ _ _ _ _ _ _ _ _ _ _ _ _ _ _ _ _ _ _ _ _ _ _ _ _ _ _ _ _ _ _ _ _ _ _ _ _ _ _ _ _ _ _ _ _ _ _ _ _ _ _ _ _ _ _ _ _ _ _ _ _ _ _ _ _ _ _ _ _ _ _ _ _ _ _ _ _ _ _ _ _ _ _ _ _ _ _ _ _ _ _ _ _ _ _ _ _ _ _ _ _ _ _ _ _ _ _ _ _ _ _ _ _ _ _ _ _ _ _ _ _ _ _ _ _ _ _ _ _ _ _ _ _ _ wa g2 b4 b5 hsl e1 e2 O0 y0 y1 y2 L1 hml HS J K' h1 h2)
      intro _ wc hinv
      obtain ⟨u14, hinv⟩ := hinv
      obtain ⟨u21, hinv⟩ := hinv
      obtain ⟨u150, hinv⟩ := hinv
      obtain ⟨u151, hinv⟩ := hinv
      obtain ⟨u152, hinv⟩ := hinv
      obtain ⟨u153, hinv⟩ := hinv
      obtain ⟨u154, hinv⟩ := hinv
      obtain ⟨u155, hinv⟩ := hinv
      obtain ⟨u156, hinv⟩ := hinv
      obtain ⟨u157, hinv⟩ := hinv
      obtain ⟨u158, hinv⟩ := hinv
      obtain ⟨u159, hinv⟩ := hinv
      obtain ⟨u160, hinv⟩ := hinv
      obtain ⟨u161, hinv⟩ := hinv
      obtain ⟨u162, hinv⟩ := hinv
      obtain ⟨u163, hinv⟩ := hinv
      obtain ⟨u164, hinv⟩ := hinv
      obtain ⟨u165, hinv⟩ := hinv
      obtain ⟨u166, hinv⟩ := hinv
      obtain ⟨u167, hinv⟩ := hinv
      obtain ⟨u168, hinv⟩ := hinv
      obtain ⟨u169, hinv⟩ := hinv
      obtain ⟨u170, hinv⟩ := hinv
      obtain ⟨u171, hinv⟩ := hinv
      obtain ⟨u172, hinv⟩ := hinv
      obtain ⟨u173, hinv⟩ := hinv
      obtain ⟨u174, hinv⟩ := hinv
      obtain ⟨u175, hinv⟩ := hinv
      obtain ⟨u176, hinv⟩ := hinv
      obtain ⟨u177, hinv⟩ := hinv
      obtain ⟨u178, hinv⟩ := hinv
      obtain ⟨u179, hinv⟩ := hinv
      obtain ⟨u180, hinv⟩ := hinv
      obtain ⟨u181, hinv⟩ := hinv
      obtain ⟨u182, hinv⟩ := hinv
      obtain ⟨u183, hinv⟩ := hinv
      obtain ⟨u184, hinv⟩ := hinv
      obtain ⟨u185, hinv⟩ := hinv
      obtain ⟨u186, hinv⟩ := hinv
      obtain ⟨u187, hinv⟩ := hinv
      obtain ⟨u188, hinv⟩ := hinv
      obtain ⟨hcut, ha⟩ := hinv
      subst ha
      try dsimp only
      obtain ⟨m', most', ov', rfl, rfl, OX, HX⟩ := hcut
      clear L1 O0 y0 y1 y2 hml
      have hR : Rf w1.heap.size wc rb m' ∧ m'.length ≤ 64 := by
        rcases unhide HX with ⟨_, _, h⟩ | ⟨_, _, h⟩
        · obtain ⟨_, _, M, _⟩ := h.me; exact ⟨M.rf, M.mlen⟩
        · exact ⟨h.rf, h.ml⟩
      have K := hide (rget_any _ rb m' key hR.2 wc hR.1)
      clear hR
      obtain ⟨vv, hvv⟩ : ∃ z, val m' key = z := ⟨_, rfl⟩
      obtain ⟨h2, hh2⟩ : ∃ z, has m' key = z := ⟨_, rfl⟩
      rw [hvv, hh2] at K
      replace hvv := hide hvv
      replace hh2 := hide hh2
      go_wp2_with fail
      refine (unhide K).mono ?_
      rintro e wb ⟨rfl, BB⟩
      have OB := (unhide OX).kt (T := fun _ => False) (.of_below BB) (by simp)
      obtain ⟨x0, -, -⟩ := OB.cs
      clear K OX OB
      rcases unhide HX with ⟨hkd, rfl, H2⟩ | ⟨n1, n2, H2⟩
      · have HL2 := hide (H2.below BB)
        clear HX H2 BB
        go_upto_region 39 with fail
        go_cut [202] from 130 to 221 (fun s wx => s = .bool true ∧ wx = wb)
        case first =>
          rcases hkd with rfl | rfl
          · go_wp2_with fail
            go_meet
            exact ⟨rfl, rfl⟩
          · go_wp2_with fail
            go_meet
            exact ⟨rfl, rfl⟩
        case rest =>
          obtain ⟨rfl, rfl⟩ := hcut
          clear x0 hkd
          go_upto_region 40 with fail
          go_cut [18] from 130 to 221 (fun s wx => s = .bool (al && h2 && decide (vv = v)) ∧ wx = wc)
          case first =>
            cases al with
            | false =>
              go_wp2_with fail
              go_meet
              exact ⟨rfl, rfl⟩
            | true =>
              cases h2 with
              | false =>
                go_wp2_with fail
                go_meet
                exact ⟨rfl, rfl⟩
              | true =>
                by_cases hvd : vv = v
                · subst hvd
                  go_wp2_with fail
                  go_meet
                  exact ⟨by simp, rfl⟩
                · go_wp2_with fail
                  go_meet
                  exact ⟨by simp [hvd], rfl⟩
          case rest =>
            obtain ⟨rfl, rfl⟩ := hcut
            obtain ⟨al', hal'⟩ : ∃ z, (al && h2 && decide (vv = v)) = z := ⟨_, rfl⟩
            rw [hal']
            replace hal' := hide hal'
            go_upto_region 41 with fail
            go_cut [19] from 130 to 221 (fun s wx => s = .bool (nv && !h2) ∧ wx = wc)
            case first =>
              cases nv with
              | false =>
                go_wp2_with fail
                go_meet
                exact ⟨rfl, rfl⟩
              | true =>
                go_wp2_with fail
                go_meet
                exact ⟨rfl, rfl⟩
            case rest =>
              obtain ⟨rfl, rfl⟩ := hcut
              obtain ⟨nv', hnv'⟩ : ∃ z, (nv && !h2) = z := ⟨_, rfl⟩
              rw [hnv']
              replace hnv' := hide hnv'
              cases h2 with
              | false =>
                go_wp2_with fail
                refine ⟨⟨k + 1, m', seen, al', nv', false, most', a, c, by omega, rfl, rfl, rfl, rfl, rfl, rfl, hide (by have := unhide hsn; omega), hide ((unhide HL2).fin_no (by have := unhide hsn; omega) (unhide hh2) ?_ ?_)⟩, by simp [intOf]; omega⟩
                · rw [← unhide hal']; simp
                · rw [← unhide hnv']; simp
              | true =>
                have hB8 : Below w1.heap.size w1 wc := by obtain ⟨_, _, M, _⟩ := (unhide HL2).me; exact M.bel
                have hO8 : wc.ownsRow w1.heap.size 2 1 (.slice a seen.length c) seen.length (ints seen) := by obtain ⟨_, _, M, _⟩ := (unhide HL2).me; exact M.sr
                obtain ⟨v', w9, r9, o9, k9, b9, a9, c9, rfl⟩ := app_seen (seen := seen) vv hO8 (by have := unhide hsn; omega) hB8.size
                replace o9 := hide o9
                replace k9 := hide k9
                replace b9 := hide (b9 _ hB8)
                generalize hsv : Value.slice a seen.length c = sv at *
                clear hO8 hB8
                go_wp2_with (first
                  | (at_builtin; refine wpList_append_eq rfl _ _ 52 rfl 52 rfl _ _ rfl rfl _ _ r9 ?_))
                have o9 := unhide o9
                rw [← unhide hvv] at o9
                refine ⟨⟨k + 1, m', seen ++ [vv], al', nv', false, most', a9, c9, by omega, rfl, rfl, rfl, by simp, rfl, rfl, hide (by have := unhide hsn; simp; omega), hide ?_⟩, by simp [intOf]; omega⟩
                have := (unhide HL2).fin_yes (al' := al') (nv' := nv') (by have := unhide hsn; omega) (unhide hh2) (by rw [← unhide hal', unhide hvv]; simp) (by rw [← unhide hnv']; simp) (unhide k9) (unhide b9) o9
                rw [unhide hvv] at this
                simpa using this
      · have HL2 := hide (H2.below BB)
        have n1b : (kd == 1) = false := by simp [n1]
        have n2b : (kd == 2) = false := by simp [n2]
        clear HX H2 BB
        go_wp2_with fail
        exact ⟨⟨k + 1, m', seen, al, nv, ov', most', a, c, by omega, rfl, rfl, rfl, rfl, rfl, rfl, hide (by have := unhide hsn; omega), HL2⟩, by simp [intOf]; omega⟩
    · have HX' : (¬ (k : Int) < (lenl : Int)) ∨ ((k : Int) < (lenl : Int) ∧ ¬ (k : Int) < 80) ∨ ((k : Int) < (lenl : Int) ∧ (k : Int) < 80 ∧ ov = true) := by
        by_cases h1 : (k : Int) < (lenl : Int)
        · by_cases h2 : (k : Int) < 80
          · refine .inr (.inr ⟨h1, h2, ?_⟩)
            cases ov with
            | true => rfl
            | false => exact absurd ⟨⟨by omega, by omega⟩, rfl⟩ hg
          · exact .inr (.inl ⟨h1, h2⟩)
        · exact .inl h1
      have LE := hide ((unhide L).relax (k' := 80) (j' := 0) (r' := 144) hk (by omega))
      clear hg L hl
      rcases HX' with q' | ⟨q1', q2'⟩ | ⟨q1', q2', rfl⟩
      · go_wp2_with fail
        go_meet
        exact ⟨m, seen, al, nv, ov, most, a, c, rfl, rfl, rfl, rfl, rfl, LE⟩
      · go_wp2_with fail
        go_meet
        exact ⟨m, seen, al, nv, ov, most, a, c, rfl, rfl, rfl, rfl, rfl, LE⟩
      · go_wp2_with fail
        go_meet
        exact ⟨m, seen, al, nv, true, most, a, c, rfl, rfl, rfl, rfl, rfl, LE⟩
end Go.Proofs.Ytbmcnfdciogmjaa
