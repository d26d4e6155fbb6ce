/-
  ChainLooks: one call while the look goes on.
-/
import Derived.Test.YtbmcnfdciogmjaaLkF
namespace Go.Proofs.Ytbmcnfdciogmjaa
open Go.RowKit Go.Sort
set_option linter.unusedVariables false
attribute [local go_sem ↓] Go.wp_at_zero Go.wp_at_succ

set_option maxRecDepth 1000000 in
set_option maxHeartbeats 8000000 in
theorem t4 (w1 : World) (bt nn rb lb sl ob k c : Nat) (key kk : ByteArray) (v kd x most : Int) (m : Pairs) (a : Option Addr) (seen : List Int) (al nv : Bool) (c1 c2 c3 c4 c5 c6 c7 c8 c10 c12 c16 c17 c18 c19 c20 c22 c24 c25 c26 c27 c28 c29 c30 c31 c32 c33 c34 c35 c36 c37 c38 c39 c40 c41 c42 c43 c44 c45 c46 c47 c48 c49 c50 c51 c52 c53 c54 c55 c56 c57 c58 c59 c60 c61 c62 c63 c64 c65 c66 c67 c68 c69 c70 c71 c72 c73 c74 c75 c76 c77 c78 c79 c80 c81 c82 c83 c84 c85 c86 c87 c88 c89 c90 c91 c92 c93 c94 c95 c96 c97 c98 c99 c100 c101 c102 c103 c104 c105 c106 c107 c108 c109 c110 c111 c112 c113 c114 c115 c116 c117 c118 c119 c120 c121 c122 c123 c124 c125 c126 c127 c128 c129 c130 c131 c132 c133 c134 c135 c136 c137 c138 c139 c140 c141 c142 c143 c144 c145 c146 c147 c148 c150 c151 c152 c153 c154 c155 c156 c157 c158 c159 c160 c161 c162 c163 c164 c165 c166 c167 c168 c169 c170 c171 c172 c173 c174 c175 c176 c177 c178 c179 c180 c181 c182 c183 c184 c185 c186 c187 c188 c189 c190 c191 c192 c193 c194 c195 c196 c197 c198 c199 c200 c201 c202 c203 c204 c205 c206 c207 c208 c209 c210 c211 c212 c213 c214 c215 c216 c217 c218 c219 c220 c221 c222 c223 c224 c225 c226 c227 c228 c229 c230 c231 c232 c233 c234 c235 c236 c237 c238 c239 c240 c241 c242 c243 c244 c245 c246 c247 c248 c249 c250 c251 c252 c253 c254 c255 c256 c257 c258 c259 c260 c261 c262 c263 c264 c265 c266 c267 c268 c269 c270 c271 c272 c273 c274 c275 c276 c277 c278 c279 c280 c281 c282 c283 c284 c285 c286 c287 c288 c289 c290 : Value) (Q' : Exit → Act → World → Prop) (wa : World) (hk : k < 80) (b4 : 0 ≤ most) (b5 : most ≤ 146) (hsl : Hid (slotOf nn key = sl)) (e1 : (nn : Int) % 4294967296 = (nn : Int)) (e2 : ¬ (nn : Int) = 0) (O0 : Hid (Cz wa ob kd kk x)) (y0 : wa.cell? ⟨ob, 0, none⟩ = some (.int .i64 kd)) (y1 : wa.cell? ⟨ob, 1, none⟩ = some (.string kk)) (y2 : wa.cell? ⟨ob, 2, none⟩ = some (.int .i64 x)) (L1 : Hid (LS w1 bt nn rb lb key v wa m (.slice a seen.length c) seen al nv false most k 0 (64 + k))) (hml : m.length ≤ 64) (HS : Hid (kk.size ≤ 9223372036854775807)) (J K' : Act → World → Prop) (h1 : ∀ a' w', R4 w1 bt nn rb lb sl ob k c key kk v kd x most m a seen al nv c1 c2 c3 c4 c5 c6 c7 c8 c10 c12 c16 c17 c18 c19 c20 c22 c24 c25 c26 c27 c28 c29 c30 c31 c32 c33 c34 c35 c36 c37 c38 c39 c40 c41 c42 c43 c44 c45 c46 c47 c48 c49 c50 c51 c52 c53 c54 c55 c56 c57 c58 c59 c60 c61 c62 c63 c64 c65 c66 c67 c68 c69 c70 c71 c72 c73 c74 c75 c76 c77 c78 c79 c80 c81 c82 c83 c84 c85 c86 c87 c88 c89 c90 c91 c92 c93 c94 c95 c96 c97 c98 c99 c100 c101 c102 c103 c104 c105 c106 c107 c108 c109 c110 c111 c112 c113 c114 c115 c116 c117 c118 c119 c120 c121 c122 c123 c124 c125 c126 c127 c128 c129 c130 c131 c132 c133 c134 c135 c136 c137 c138 c139 c140 c141 c142 c143 c144 c145 c146 c147 c148 c189 c190 c191 c192 c193 c194 c195 c196 c197 c198 c199 c200 c201 c202 c203 c204 c205 c206 c207 c208 c209 c210 c211 c212 c213 c214 c215 c216 c217 c218 c219 c220 c221 c222 c223 c224 c225 c226 c227 c228 c229 c230 c231 c232 c233 c234 c235 c236 c237 c238 c239 c240 c241 c242 c243 c244 c245 c246 c247 c248 c249 c250 c251 c252 c253 c254 c255 c256 c257 c258 c259 c260 c261 c262 c263 c264 c265 c266 c267 c268 c269 c270 c271 c272 c273 c274 c275 c276 c277 c278 c279 c280 c281 c282 c283 c284 c285 c286 c287 c288 c289 c290 a' w' → J a' w') (h2 : ∀ a' w', Met J a' w' → K' a' w') :
    Code.wp Try.prog ((Try.f5.body.bind (blkOf 4)).getD .skip) (Exit.then K' Q') ⟨#[.int .i64 (nn : Int), c1, c2, c3, c4, c5, c6, c7, c8, .pointer (some ⟨bt, 0, none⟩), c10, .pointer (some ⟨rb, 0, none⟩), c12, .int .u32 (sl : Int), .int .i64 most, .pointer (some ⟨lb, 0, none⟩), c16, c17, c18, c19, c20, .bool false, c22, .pointer (some ⟨ob, 0, none⟩), c24, c25, c26, c27, c28, c29, c30, c31, c32, c33, c34, c35, c36, c37, c38, c39, c40, c41, c42, c43, c44, c45, c46, c47, c48, c49, c50, c51, c52, c53, c54, c55, c56, c57, c58, c59, c60, c61, c62, c63, c64, c65, c66, c67, c68, c69, c70, c71, c72, c73, c74, c75, c76, c77, c78, c79, c80, c81, c82, c83, c84, c85, c86, c87, c88, c89, c90, c91, c92, c93, c94, c95, c96, c97, c98, c99, c100, c101, c102, c103, c104, c105, c106, c107, c108, c109, c110, c111, c112, c113, c114, c115, c116, c117, c118, c119, c120, c121, c122, c123, c124, c125, c126, c127, c128, c129, c130, c131, c132, c133, c134, c135, c136, c137, c138, c139, c140, c141, c142, c143, c144, c145, c146, c147, c148, .int .i64 kd, c150, c151, c152, c153, c154, c155, c156, c157, c158, c159, c160, c161, c162, c163, c164, c165, c166, c167, c168, c169, c170, c171, c172, c173, c174, c175, c176, c177, c178, c179, c180, c181, c182, c183, c184, c185, c186, c187, c188, c189, c190, c191, c192, c193, c194, c195, c196, c197, c198, c199, c200, c201, c202, c203, c204, c205, c206, c207, c208, c209, c210, c211, c212, c213, c214, c215, c216, c217, c218, c219, c220, c221, c222, c223, c224, c225, c226, c227, c228, c229, c230, c231, c232, c233, c234, c235, c236, c237, c238, c239, c240, c241, c242, c243, c244, c245, c246, c247, c248, c249, c250, c251, c252, c253, c254, c255, c256, c257, c258, c259, c260, c261, c262, c263, c264, c265, c266, c267, c268, c269, c270, c271, c272, c273, c274, c275, c276, c277, c278, c279, c280, c281, c282, c283, c284, c285, c286, c287, c288, c289, c290], []⟩ wa := by
  conv => arg 2; whnf
  by_cases k1 : kd = 1
  · subst k1
    rcases (unhide L1).wh with ⟨_, PP, st, M, pp, hr⟩ | ⟨e, _⟩
    · have K := hide (l_put M (unhide O0) (unhide HS))
      have pu := hide (unhide L1).pu
      replace pp := hide pp
      clear M hr L1
      go_wp2_with fail
      refine (unhide K).mono ?_
      rintro e wy ⟨rfl, OY, MY⟩
      obtain ⟨x0, x1, x2⟩ := (unhide OY).cs
      have K2 := hide (b_put (unhide pp) (unhide pu) MY (unhide OY) hml)
      clear K y0 y1 y2 O0 MY OY pu pp
      go_wp2_with fail
      refine (unhide K2).mono ?_
      rintro e wx ⟨rfl, OX, LX⟩
      obtain ⟨t0, t1, t2⟩ := (unhide OX).cs
      have KR := hide (rhash_any kk (unhide HS) wx)
      have e3 : (hash kk).tmod (nn : Int) = (slotOf nn kk : Int) := slot_tmod kk nn
      have hmn : mostN nn key m kk most = if putE m kk = 0 ∧ slotOf nn kk = sl then most + 1 else most := by rw [← unhide hsl]; rfl
      rw [hmn] at LX
      clear x0 x1 x2 K2 hmn
      by_cases pe : putE m kk = 0
      · by_cases se : slotOf nn kk = sl
        · rw [if_pos ⟨pe, se⟩] at LX
          rw [se] at e3
          rw [pe]
          clear pe se
          generalize hash kk = H2 at *
          go_wp2_with fail
          refine (unhide KR).mono ?_
          rintro e w8 ⟨rfl, rfl⟩
          go_wp2_with fail
          go_meet
          exact ⟨_, _, _, rfl, rfl, OX, .inl ⟨.inl rfl, rfl, unhide LX⟩⟩
        · rw [if_neg (fun h => se h.2)] at LX
          rw [pe]
          have se2 : ¬ (slotOf nn kk : Int) = (sl : Int) := by omega
          clear pe se
          generalize (slotOf nn kk : Int) = s2 at *
          generalize hash kk = H2 at *
          go_wp2_with fail
          refine (unhide KR).mono ?_
          rintro e w8 ⟨rfl, rfl⟩
          go_wp2_with fail
          go_meet
          exact ⟨_, _, _, rfl, rfl, OX, .inl ⟨.inl rfl, rfl, unhide LX⟩⟩
      · rw [if_neg (fun h => pe h.1)] at LX
        clear KR e3
        generalize putE m kk = p2 at *
        go_wp2_with fail
        go_meet
        exact ⟨_, _, _, rfl, rfl, OX, .inl ⟨.inl rfl, rfl, unhide LX⟩⟩
    · cases e
  · by_cases k2 : kd = 2
    · subst k2
      rcases (unhide L1).wh with ⟨_, PP, st, M, pp, hr⟩ | ⟨e, _⟩
      · have K := hide (l_drop M (unhide O0) (unhide HS))
        have hnod := hide M.mnod
        have pu := hide (unhide L1).pu
        replace pp := hide pp
        clear M hr L1
        go_wp2_with fail
        refine (unhide K).mono ?_
        rintro e wy ⟨rfl, OY, MY⟩
        obtain ⟨x0, x1, x2⟩ := (unhide OY).cs
        have K2 := hide (b_drop (unhide pp) (unhide pu) (unhide hnod) MY (unhide OY) hml)
        clear K y0 y1 y2 O0 MY OY pu pp hnod
        go_wp2_with fail
        refine (unhide K2).mono ?_
        rintro e wx ⟨rfl, OX, LX⟩
        clear x0 x1 x2 K2
        go_wp2_with fail
        go_meet
        exact ⟨_, _, _, rfl, rfl, OX, .inl ⟨.inr rfl, rfl, unhide LX⟩⟩
      · cases e
    · have K := hide (b_step (unhide L1) (by omega))
      clear L1
      go_wp2_with fail
      refine (unhide K).mono ?_
      rintro e wx ⟨ov', rfl, hkt, LX⟩
      have OX := hide ((unhide O0).kt (unhide hkt) (by decide))
      clear K hkt O0 y0 y1 y2
      go_wp2_with fail
      go_meet
      exact ⟨_, _, _, rfl, rfl, OX, .inr ⟨k1, k2, (unhide LX).relax (Nat.le_refl _) (by omega)⟩⟩
end Go.Proofs.Ytbmcnfdciogmjaa
