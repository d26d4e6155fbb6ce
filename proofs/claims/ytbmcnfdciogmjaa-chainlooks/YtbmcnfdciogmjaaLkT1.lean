/-
  ChainLooks: the calls ahead of the look.
-/
import Derived.Test.YtbmcnfdciogmjaaLkF
namespace Go.Proofs.Ytbmcnfdciogmjaa
open Go.RowKit Go.Sort
set_option linter.unusedVariables false
attribute [local go_sem ↓] Go.wp_at_zero Go.wp_at_succ

set_option maxRecDepth 1000000 in
set_option maxHeartbeats 8000000 in
theorem t0 (w1 : World) (bt nn rb lenb capb : Nat) (pb : Option Addr) (c0 c2 c3 c4 c5 c6 c7 c8 c10 c13 c14 c15 c16 c17 c18 c19 c20 c21 c22 c23 c24 c25 c26 c27 c28 c29 c30 c31 c32 c33 c34 c35 c36 c37 c38 c39 c40 c41 c42 c43 c44 c45 c46 c47 c48 c49 c50 c51 c52 c53 c54 c55 c56 c57 c58 c59 c60 c61 c62 c63 c64 c65 c66 c67 c68 c69 c70 c71 c72 c73 c74 c75 c76 c77 c78 c79 c80 c81 c82 c83 c84 c85 c86 c87 c88 c89 c90 c91 c92 c93 c94 c95 c96 c97 c98 c99 c100 c101 c102 c103 c104 c105 c106 c107 c108 c109 c110 c111 c112 c113 c114 c115 c116 c117 c118 c119 c120 c121 c122 c123 c124 c125 c126 c127 c128 c129 c130 c131 c132 c133 c134 c135 c136 c137 c138 c139 c140 c141 c142 c143 c144 c145 c146 c147 c148 c149 c150 c151 c152 c153 c154 c155 c156 c157 c158 c159 c160 c161 c162 c163 c164 c165 c166 c167 c168 c169 c170 c171 c172 c173 c174 c175 c176 c177 c178 c179 c180 c181 c182 c183 c184 c185 c186 c187 c188 c189 c190 c191 c192 c193 c194 c195 c196 c197 c198 c199 c200 c201 c202 c203 c204 c205 c206 c207 c208 c209 c210 c211 c212 c213 c214 c215 c216 c217 c218 c219 c220 c221 c222 c223 c224 c225 c226 c227 c228 c229 c230 c231 c232 c233 c234 c235 c236 c237 c238 c239 c240 c241 c242 c243 c244 c245 c246 c247 c248 c249 c250 c251 c252 c253 c254 c255 c256 c257 c258 c259 c260 c261 c262 c263 c264 c265 c266 c267 c268 c269 c270 c271 c272 c273 c274 c275 c276 c277 c278 c279 c280 c281 c282 c283 c284 c285 c286 c287 c288 c289 c290 : Value) (Q' : Exit → Act → World → Prop) (w3 : World) (hmaxb : lenb ≤ 9223372036854775807) (hb : Hid (AsksAt w1 pb lenb)) (T3 : Hid (Tbl w1.heap.size w1 w3 bt nn [])) (R4 : Hid (Rf w1.heap.size w3 rb [])) (J K' : Act → World → Prop) (h1 : ∀ a' w', R0 w1 bt nn rb lenb capb pb c0 c2 c3 c4 c5 c6 c7 c8 c10 c13 c14 c15 c16 c17 c18 c19 c20 c21 c22 c23 c24 c25 c26 c27 c28 c29 c30 c31 c32 c33 c34 c35 c36 c37 c38 c39 c40 c41 c42 c43 c44 c99 c100 c101 c102 c103 c104 c105 c106 c107 c108 c109 c110 c111 c112 c113 c114 c115 c116 c117 c118 c119 c120 c121 c122 c123 c124 c125 c126 c127 c128 c129 c130 c131 c132 c133 c134 c135 c136 c137 c138 c139 c140 c141 c142 c143 c144 c145 c146 c147 c148 c149 c150 c151 c152 c153 c154 c155 c156 c157 c158 c159 c160 c161 c162 c163 c164 c165 c166 c167 c168 c169 c170 c171 c172 c173 c174 c175 c176 c177 c178 c179 c180 c181 c182 c183 c184 c185 c186 c187 c188 c189 c190 c191 c192 c193 c194 c195 c196 c197 c198 c199 c200 c201 c202 c203 c204 c205 c206 c207 c208 c209 c210 c211 c212 c213 c214 c215 c216 c217 c218 c219 c220 c221 c222 c223 c224 c225 c226 c227 c228 c229 c230 c231 c232 c233 c234 c235 c236 c237 c238 c239 c240 c241 c242 c243 c244 c245 c246 c247 c248 c249 c250 c251 c252 c253 c254 c255 c256 c257 c258 c259 c260 c261 c262 c263 c264 c265 c266 c267 c268 c269 c270 c271 c272 c273 c274 c275 c276 c277 c278 c279 c280 c281 c282 c283 c284 c285 c286 c287 c288 c289 c290 a' w' → J a' w') (h2 : ∀ a' w', Met J a' w' → K' a' w') :
    Code.wp Try.prog ((Try.f5.body.bind (blkOf 0)).getD .skip) (Exit.then K' Q') ⟨#[c0, .slice pb lenb capb, c2, c3, c4, c5, c6, c7, c8, .pointer (some ⟨bt, 0, none⟩), c10, .pointer (some ⟨rb, 0, none⟩), .int .i64 0, c13, c14, c15, c16, c17, c18, c19, c20, c21, c22, c23, c24, c25, c26, c27, c28, c29, c30, c31, c32, c33, c34, c35, c36, c37, c38, c39, c40, c41, c42, c43, c44, c45, c46, c47, c48, c49, c50, c51, c52, c53, c54, c55, c56, c57, c58, c59, c60, c61, c62, c63, c64, c65, c66, c67, c68, c69, c70, c71, c72, c73, c74, c75, c76, c77, c78, c79, c80, c81, c82, c83, c84, c85, c86, c87, c88, c89, c90, c91, c92, c93, c94, c95, c96, c97, c98, c99, c100, c101, c102, c103, c104, c105, c106, c107, c108, c109, c110, c111, c112, c113, c114, c115, c116, c117, c118, c119, c120, c121, c122, c123, c124, c125, c126, c127, c128, c129, c130, c131, c132, c133, c134, c135, c136, c137, c138, c139, c140, c141, c142, c143, c144, c145, c146, c147, c148, c149, c150, c151, c152, c153, c154, c155, c156, c157, c158, c159, c160, c161, c162, c163, c164, c165, c166, c167, c168, c169, c170, c171, c172, c173, c174, c175, c176, c177, c178, c179, c180, c181, c182, c183, c184, c185, c186, c187, c188, c189, c190, c191, c192, c193, c194, c195, c196, c197, c198, c199, c200, c201, c202, c203, c204, c205, c206, c207, c208, c209, c210, c211, c212, c213, c214, c215, c216, c217, c218, c219, c220, c221, c222, c223, c224, c225, c226, c227, c228, c229, c230, c231, c232, c233, c234, c235, c236, c237, c238, c239, c240, c241, c242, c243, c244, c245, c246, c247, c248, c249, c250, c251, c252, c253, c254, c255, c256, c257, c258, c259, c260, c261, c262, c263, c264, c265, c266, c267, c268, c269, c270, c271, c272, c273, c274, c275, c276, c277, c278, c279, c280, c281, c282, c283, c284, c285, c286, c287, c288, c289, c290], []⟩ w3 := by
  conv => arg 2; whnf
  go_wp2_with fail
  go_loopw [12] (fun iv wr => ∃ (i : Nat) (m : Pairs), i ≤ 40 ∧ iv = .int .i64 (i : Int) ∧ Hid (Tbl w1.heap.size w1 wr bt nn m) ∧ Hid (Rf w1.heap.size wr rb m) ∧ Hid (KS m)) (fun iv _ => 40 - (intOf iv).toNat)
  case atStart => exact ⟨0, [], by omega, rfl, T3, R4, hide (by intro p hp; simp at hp)⟩
  case round =>
    obtain ⟨i, m, hi, rfl, T, R, KK⟩ := hrel
    clear T3 R4
    by_cases hg : i < lenb ∧ i < 40
    · obtain ⟨g1, g2⟩ := hg
      have z1 : (i : Int) < (lenb : Int) := by omega
      have z2 : (i : Int) < 40 := by omega
      have z0 : (0 : Int) ≤ (i : Int) := by omega
      obtain ⟨bb, off, kd, k, v, rfl, hbb, hc0, hc1, hc2, hs2⟩ := (unhide hb).2 i g1
      have c0 := (cell_same ((unhide T).bel.block bb hbb) (off + i * 3)).trans hc0
      have CC : C1 w1 bt nn rb bb (off + i * 3) k v wr m m := ⟨unhide T, unhide R, hbb, hc1, hc2, hs2⟩
      obtain ⟨y1, y2⟩ := CC.cs
      have hml := CC.tb.mlen
      by_cases k2 : kd = 2
      · subst k2
        have K := hide (a_drop CC)
        have KK2 := hide ((unhide KK).drop (key := k))
        clear hbb hc0 hc1 hc2 hs2 CC T R KK
        go_wp2_with fail
        refine (unhide K).mono ?_
        rintro e wy ⟨rfl, ⟨x1, x2⟩, HY⟩
        have K2 := hide (a_rdrop (unhide HY) hml)
        clear K y1 y2 c0
        go_wp2_with fail
        refine (unhide K2).mono ?_
        rintro e wx ⟨rfl, -, HX⟩
        clear K2 HY x1 x2 hml
        go_wp2_with fail
        exact ⟨⟨i + 1, drop m k, by omega, rfl, hide (unhide HX).tb, hide (unhide HX).rf, KK2⟩, by simp [intOf]; omega⟩
      · have HC := hide CC.drew
        obtain ⟨y3, y4⟩ := CC.drew.cs
        have KK2 := hide ((unhide KK).put (v := v) hs2)
        clear hbb hc0 hc1 hc2 hs2 CC T R KK
        go_wp2_with fail
        go_region_held3 (fun w' => w'.cell? ⟨bb, off + i * 3 + 1, none⟩ = some (.string k) ∧ w'.cell? ⟨bb, off + i * 3 + 2, none⟩ = some (.int .i64 v)) (go_keep)
          (first
            | (go_at_call 10; refine (a_put (unhide HC)).mono ?_; rintro e wy ⟨rfl, ⟨qy1, qy2⟩, HY⟩))
        have HY2 := hide (unhide HY).drew
        obtain ⟨y5, y6⟩ := (unhide HY2).cs
        clear HC HY y1 y2 y3 y4 c0
        go_wp2_with fail
        go_region_held3 (fun w' => w'.cell? ⟨bb, off + i * 3 + 1, none⟩ = some (.string k) ∧ w'.cell? ⟨bb, off + i * 3 + 2, none⟩ = some (.int .i64 v)) (go_keep)
          (first
            | (go_at_call 20; refine (a_rput (unhide HY2) hml).mono ?_; rintro e wx ⟨rfl, ⟨qx1, qx2⟩, HX⟩))
        go_wp2_with fail
        exact ⟨⟨i + 1, putM m k v, by omega, rfl, hide (unhide HX).tb, hide (unhide HX).rf, KK2⟩, by simp [intOf]; omega⟩
    · have q' : (i : Int) < (lenb : Int) → ¬ (i : Int) < 40 := fun h1 h2 => hg ⟨by omega, by omega⟩
      have HX' : (¬ (i : Int) < (lenb : Int)) ∨ ((i : Int) < (lenb : Int) ∧ ¬ (i : Int) < 40) := by
        by_cases h1 : (i : Int) < (lenb : Int)
        · exact .inr ⟨h1, q' h1⟩
        · exact .inl h1
      clear q' hg
      rcases HX' with q' | ⟨q1', q2'⟩
      · go_wp2_with fail
        go_meet
        exact ⟨m, T, R, KK⟩
      · go_wp2_with fail
        go_meet
        exact ⟨m, T, R, KK⟩
end Go.Proofs.Ytbmcnfdciogmjaa
