/-
  TreeLive: the calls.
-/
import Derived.Test.YtlngeaacjbdmhaaLvM
namespace Go.Proofs.Ytlngeaacjbdmhaa
open Go.RowKit Go.Maps
set_option linter.unusedVariables false

set_option maxRecDepth 1000000 in
set_option maxHeartbeats 40000000 in
theorem t0 (w : World) (t g len cap : Nat) (pa : Option Addr) (c1 c2 c4 c7 c8 c9 c10 c11 c12 c13 c14 c15 c16 c17 c18 c19 c20 c21 c22 c23 c24 c25 c26 c27 c28 c29 c30 c31 c32 c33 c34 c35 c36 c37 c38 c39 c40 c41 c42 c43 c44 c45 c46 c47 c48 c49 c50 c51 c52 c53 c54 c55 c56 c57 c58 c59 c60 c61 c62 c63 c64 c65 c66 c67 c68 c69 c70 c71 c72 c73 c74 c75 c76 c77 c78 c79 c80 c81 c82 c83 c84 c85 c86 c87 c88 c89 c90 c91 c92 c93 c94 c95 c96 c97 c98 c99 c100 c101 c102 c103 c104 c105 c106 c107 c108 c109 c110 c111 c112 c113 c114 c115 c116 c117 c118 c119 c120 c121 c122 c123 c124 c125 c126 c127 c128 c129 c130 c131 c132 c133 c134 c135 c136 c137 c138 c139 c140 c141 c142 c143 c144 c145 c146 c147 c148 c149 c150 c151 c152 c153 c154 c155 c156 c157 c158 c159 c160 c161 c162 c163 c164 c165 c166 c167 c168 c169 c170 c171 c172 c173 c174 c175 c176 c177 c178 c179 c180 c181 c182 c183 c184 c185 c186 c187 c188 c189 c190 c191 c192 c193 c194 c195 c196 c197 c198 c199 c200 c201 c202 c203 c204 c205 c206 c207 c208 c209 c210 c211 c212 c213 c214 c215 c216 c217 c218 c219 c220 c221 c222 c223 c224 c225 c226 c227 c228 c229 c230 c231 c232 c233 c234 c235 c236 c237 c238 c239 c240 c241 c242 c243 c244 c245 c246 c247 : Value) (Q' : Exit → Act → World → Prop) (V0 : World) (HB : Hid (∀ i, i < len → ∃ b off kd dr t7 n s r a0 a1 a2 a3 a4 a5 a6 ba bn bc, pa = some ⟨b, off, none⟩ ∧ b < w.heap.size ∧ AskAt w b (off + i * 14) kd dr t7 n s r a0 a1 a2 a3 a4 a5 a6 ba bn bc)) (hlen : len ≤ 9223372036854775807) (HR0 : Hid (LT w V0 t g 1 (Tr.new 20 10))) (J K' : Act → World → Prop) (h1 : ∀ a' w', R0 w t g len cap pa c1 c4 c141 c142 c143 c144 c145 c146 c147 c148 c149 c150 c151 c152 c153 c154 c155 c156 c157 c158 c159 c160 c161 c162 c163 c164 c165 c166 c167 c168 c169 c170 c171 c172 c173 c174 c175 c176 c177 c178 c179 c180 c181 c182 c183 c184 c185 c186 c187 c188 c189 c190 c191 c192 c193 c194 c195 c196 c197 c198 c199 c200 c201 c202 c203 c204 c205 c206 c207 c208 c209 c210 c211 c212 c213 c214 c215 c216 c217 c218 c219 c220 c221 c222 c223 c224 c225 c226 c227 c228 c229 c230 c231 c232 c233 c234 c235 c236 c237 c238 c239 c240 c241 c242 c243 c244 c245 c246 c247 a' w' → J a' w') (h2 : ∀ a' w', Met J a' w' → K' a' w') :
    Code.wp Try.prog ((Try.f3.body.bind (blkOf 0)).getD .skip) (Exit.then K' Q') ⟨#[.slice pa len cap, c1, c2, P0 t, c4, .pointer (some ⟨g, 0, none⟩), .int .i64 0, c7, c8, c9, c10, c11, c12, c13, c14, c15, c16, c17, c18, c19, c20, c21, c22, c23, c24, c25, c26, c27, c28, c29, c30, c31, c32, c33, c34, c35, c36, c37, c38, c39, c40, c41, c42, c43, c44, c45, c46, c47, c48, c49, c50, c51, c52, c53, c54, c55, c56, c57, c58, c59, c60, c61, c62, c63, c64, c65, c66, c67, c68, c69, c70, c71, c72, c73, c74, c75, c76, c77, c78, c79, c80, c81, c82, c83, c84, c85, c86, c87, c88, c89, c90, c91, c92, c93, c94, c95, c96, c97, c98, c99, c100, c101, c102, c103, c104, c105, c106, c107, c108, c109, c110, c111, c112, c113, c114, c115, c116, c117, c118, c119, c120, c121, c122, c123, c124, c125, c126, c127, c128, c129, c130, c131, c132, c133, c134, c135, c136, c137, c138, c139, c140, c141, c142, c143, c144, c145, c146, c147, c148, c149, c150, c151, c152, c153, c154, c155, c156, c157, c158, c159, c160, c161, c162, c163, c164, c165, c166, c167, c168, c169, c170, c171, c172, c173, c174, c175, c176, c177, c178, c179, c180, c181, c182, c183, c184, c185, c186, c187, c188, c189, c190, c191, c192, c193, c194, c195, c196, c197, c198, c199, c200, c201, c202, c203, c204, c205, c206, c207, c208, c209, c210, c211, c212, c213, c214, c215, c216, c217, c218, c219, c220, c221, c222, c223, c224, c225, c226, c227, c228, c229, c230, c231, c232, c233, c234, c235, c236, c237, c238, c239, c240, c241, c242, c243, c244, c245, c246, c247], []⟩ V0 := by
  conv => arg 2; whnf
  go_wp2_with fail
  go_loopw [6] (fun iv wr => ∃ (j : Nat) (T : Tr), iv = .int .i64 (j : Int) ∧ j ≤ 60 ∧ j ≤ len ∧ Hid (LT w wr t g (1 + 2 * j) T)) (fun iv _ => 60 - (intOf iv).toNat)
  case atStart => exact ⟨0, _, rfl, by omega, by omega, HR0⟩
  case round =>
    obtain ⟨j, T, rfl, hj, hjl, HJ⟩ := hrel
    clear HR0
    by_cases hlt : j < len ∧ j < 60
    · obtain ⟨b, off, kd, dr, tt, n, s, r, a0, a1, a2, a3, a4, a5, a6, ba, bn, bc, rfl, hb, ha⟩ := unhide HB j hlt.1
      have cs := fun i => cell_same ((unhide HJ).b.block b hb) i
      have c0 := (cs _).trans ha.c0
      have c1 := (cs _).trans ha.c1
      have c2 := (cs _).trans ha.c2
      have c3 := (cs _).trans ha.c3
      have c4 := (cs _).trans ha.c4
      have c5 := (cs _).trans ha.c5
      have c6 := (cs _).trans ha.c6
      have c7 := (cs _).trans ha.c7
      have c8 := (cs _).trans ha.c8
      have c9 := (cs _).trans ha.c9
      have c10 := (cs _).trans ha.c10
      have c11 := (cs _).trans ha.c11
      have c12 := (cs _).trans ha.c12
      have c13 := (cs _).trans ha.c13
      have l1 : (j : Int) < (len : Int) := by omega
      have l2 : (j : Int) < 60 := by omega
      have l3 : j < 60 := hlt.2
      have l4 : j < len := hlt.1
      clear cs ha hb hlt HB
      go_wp2_with fail
      refine (tame_any kd dr tt n s r a0 a1 a2 a3 a4 a5 a6 ba bn bc _).mono ?_
      rintro e w2 ⟨⟨d0, m0, k, s', r', hd0, hm0, hk, hs, hr, rfl⟩, hB2⟩
      obtain ⟨d, hdd⟩ : ∃ d : Nat, d = d0 + 1 := ⟨_, rfl⟩
      obtain ⟨m, hmm⟩ : ∃ m : Nat, m = m0 + 1 := ⟨_, rfl⟩
      have hd : d ≤ 6 := by omega
      have hm : m ≤ 6 := by omega
      rw [show (1 + (d0 : Int)) = (d : Int) by omega, show (1 + (m0 : Int)) = (m : Int) by omega]
      have d1 : (d : Int) < 200 := by omega
      have d2 : (0 : Int) ≤ (d : Int) := by omega
      clear hdd hmm hd0 hm0
      have HJ2 := hide ((unhide HJ).below hB2)
      clear HJ hB2 hs hr
      have hX : Hid (LT w (w2.alloc (Obj.cells #[I kd, I (d : Int), I (m : Int), I n, .string s', .string r', I a0, I (1 + (k : Int)), I a2, I a3, I a4, I a5, I a6, .slice ba bn bc] 32)) t g (1 + 2 * j) T) := hide ((unhide HJ2).below ((Below.refl _ w2).alloc (Nat.le_refl _) _))
      have hc := heap_alloc_new w2 (Obj.cells #[I kd, I (d : Int), I (m : Int), I n, .string s', .string r', I a0, I (1 + (k : Int)), I a2, I a3, I a4, I a5, I a6, .slice ba bn bc] 32)
      generalize hV : w2.alloc (Obj.cells #[I kd, I (d : Int), I (m : Int), I n, .string s', .string r', I a0, I (1 + (k : Int)), I a2, I a3, I a4, I a5, I a6, .slice ba bn bc] 32) = V at hX hc
      generalize hp : w2.heap.size = p at hc
      have HC := hide hc
      obtain ⟨L, hL⟩ : ∃ L, T.live = L := ⟨_, rfl⟩
      have HL := hide hL
      have hLb : (L : Int) ≤ 1000 := by have := live_le (unhide hX).q.f; omega
      clear hc HJ2 c0 c1 c2 c3 c4 c5 c6 c7 c8 c9 c10 c11 c12 c13 hL
      go_wp2_with fail
      refine (LT.live (unhide hX) (by omega) (unhide HC)).mono ?_
      rintro e w3 ⟨av, cp, rfl, HX3, hc3⟩
      rw [unhide HL]
      obtain ⟨q0, q1, q2, q3, q4, q5, q6, q7, q8, q9, q10, q11, q12, q13, qf⟩ := cells14 hc3
      have HC3 := hide hc3
      clear hc3 hX HC hV hp
      go_upto_block 2 with fail
      go_cut [9] from 52 to 122 (fun s9 wd => ∃ (er : Int) (T' : Tr), s9 = I er ∧ (er = 0 ∨ T' = T) ∧ Hid (LT w wd t g (1 + 2 * j + 2) T'))
      case first =>
        by_cases k1 : kd = 1
        · subst k1
          go_wp2_with fail
          refine (LT.make (unhide HX3) (by omega) hd s' _ _ _ _ _ _ _ (unhide HC3)).mono ?_
          rintro e w9 ⟨x, er, T', rfl, hor, HJ9, -⟩
          clear q0 q1 q2 q3 q4 q5 q6 q7 q8 q9 q10 q11 q12 q13 qf
          go_wp2_with fail
          go_meet
          case rel => exact ⟨er, T', rfl, hor, HJ9⟩
        by_cases k2 : kd = 2
        · subst k2
          go_wp2_with fail
          refine (LT.join (unhide HX3) (by omega) hd hm s' (unhide HC3)).mono ?_
          rintro e w9 ⟨er, T', rfl, hor, HJ9, -⟩
          clear q0 q1 q2 q3 q4 q5 q6 q7 q8 q9 q10 q11 q12 q13 qf
          go_wp2_with fail
          go_meet
          case rel => exact ⟨er, T', rfl, hor, HJ9⟩
        by_cases k3 : kd = 3
        · subst k3
          go_wp2_with fail
          refine (LT.part (unhide HX3) (by omega) hd s' (unhide HC3)).mono ?_
          rintro e w9 ⟨er, T', rfl, hor, HJ9, -⟩
          clear q0 q1 q2 q3 q4 q5 q6 q7 q8 q9 q10 q11 q12 q13 qf
          go_wp2_with fail
          go_meet
          case rel => exact ⟨er, T', rfl, hor, HJ9⟩
        by_cases k4 : kd = 4
        · subst k4
          go_wp2_with fail
          refine (LT.move (unhide HX3) (by omega) hd hm s' r' (unhide HC3)).mono ?_
          rintro e w9 ⟨er, T', rfl, hor, HJ9, -⟩
          clear q0 q1 q2 q3 q4 q5 q6 q7 q8 q9 q10 q11 q12 q13 qf
          go_wp2_with fail
          go_meet
          case rel => exact ⟨er, T', rfl, hor, HJ9⟩
        have hhd : (T.hd (d : Int) : Int) ≤ 1000 := by
          cases e : T.nd (d : Int) with
          | none => rw [Tr.hd_none e]; decide
          | some x => rw [Tr.hd_some e]; have := ((unhide HX3).q.f.k.bnd _ x e).2.1; omega
        by_cases k5 : kd = 5
        · subst k5
          go_wp2_with fail
          refine (LT.hold (unhide HX3) (by omega) hd (unhide HC3)).mono ?_
          rintro e w9 ⟨rfl, HH, hc9⟩
          obtain ⟨-, u1, -⟩ := cells14 hc9
          obtain ⟨er, her⟩ : ∃ er, T.holdE (d : Int) = er := ⟨_, rfl⟩
          rw [her]
          by_cases e0 : er = 0
          · subst e0
            obtain ⟨X, hX, x1, x2, hXL⟩ := (unhide HH).put (k := d) (by omega) (x := (T.hd (d : Int) : Int) + 1) (fun q => by
              rw [hd_hold her]
              by_cases e : q = d
              · subst e; rw [if_pos rfl, if_pos rfl]; omega
              · rw [if_neg (by omega), if_neg e])
            have HXL := hide hXL
            clear hXL HH hc9 her q0 q1 q2 q3 q4 q5 q6 q7 q8 q9 q10 q11 q12 q13 qf
            generalize T.hd (d : Int) = c at *
            go_wp2_with fail
            go_meet
            case rel => exact ⟨0, _, rfl, .inl rfl, HXL⟩
          · have e1 : (er == 0) = false := by simp [e0]
            have hno := hold_no (T := T) (n := (d : Int)) (by rw [her]; exact e0)
            have HN := hide ((unhide HH).same (by rw [hno]; exact fun _ => rfl))
            rw [hno] at HN
            clear HH hc9 her hno e0 q0 q1 q2 q3 q4 q5 q6 q7 q8 q9 q10 q11 q12 q13 qf
            go_wp2_with fail
            go_meet
            case rel => exact ⟨er, _, rfl, .inr rfl, HN⟩
        by_cases k6 : kd = 6
        · subst k6
          go_wp2_with fail
          refine (LT.loose (unhide HX3) (by omega) hd (unhide HC3)).mono ?_
          rintro e w9 ⟨rfl, HH, hc9⟩
          obtain ⟨-, u1, -⟩ := cells14 hc9
          obtain ⟨er, her⟩ : ∃ er, T.looseE (d : Int) = er := ⟨_, rfl⟩
          rw [her]
          by_cases e0 : er = 0
          · subst e0
            have hpos := (hd_loose her 0).2
            obtain ⟨X, hX, x1, x2, hXL⟩ := (unhide HH).put (k := d) (by omega) (x := (T.hd (d : Int) : Int) - 1) (fun q => by
              rw [(hd_loose her (q : Int)).1]
              by_cases e : q = d
              · subst e; rw [if_pos rfl, if_pos rfl]; omega
              · rw [if_neg (by omega), if_neg e])
            have HXL := hide hXL
            have hpos2 : (0 : Int) ≤ (T.hd (d : Int) : Int) := by omega
            clear hXL HH hc9 her hpos q0 q1 q2 q3 q4 q5 q6 q7 q8 q9 q10 q11 q12 q13 qf
            generalize T.hd (d : Int) = c at *
            go_wp2_with fail
            go_meet
            case rel => exact ⟨0, _, rfl, .inl rfl, HXL⟩
          · have e1 : (er == 0) = false := by simp [e0]
            have hno := loose_no (T := T) (n := (d : Int)) (by rw [her]; exact e0)
            have HN := hide ((unhide HH).same (by rw [hno]; exact fun _ => rfl))
            rw [hno] at HN
            clear HH hc9 her hno e0 q0 q1 q2 q3 q4 q5 q6 q7 q8 q9 q10 q11 q12 q13 qf
            go_wp2_with fail
            go_meet
            case rel => exact ⟨er, _, rfl, .inr rfl, HN⟩
        have t1 : (kd == 1) = false := by simpa using k1
        have t2 : (kd == 2) = false := by simpa using k2
        have t3 : (kd == 3) = false := by simpa using k3
        have t4 : (kd == 4) = false := by simpa using k4
        have t5 : (kd == 5) = false := by simpa using k5
        have t6 : (kd == 6) = false := by simpa using k6
        go_wp2_with fail
        go_meet
        case rel => exact ⟨0, T, rfl, .inl rfl, (unhide HX3).mono (by omega)⟩
      case rest =>
        obtain ⟨er, T', rfl, hor, HJ4⟩ := hcut
        obtain ⟨W4, hW4⟩ : ∃ W4, W4 = wc := ⟨_, rfl⟩
        rw [← hW4] at HJ4 ⊢
        clear hW4 HX3 HC3 q0 q1 q2 q3 q4 q5 q6 q7 q8 q9 q10 q11 q12 q13 qf
        obtain ⟨L2, hL2⟩ : ∃ L2, T'.live = L2 := ⟨_, rfl⟩
        have HL2 := hide hL2
        have hLb2 : (L2 : Int) ≤ 1000 := by have := live_le (unhide HJ4).q.f; omega
        have hLb3 : (0 : Int) ≤ (L2 : Int) := by omega
        have hgl := lt_of_heap (unhide HJ4).h.choose_spec.1
        obtain ⟨o4, ho4⟩ : ∃ o, W4.heap[g]? = some o := ⟨_, (unhide HJ4).h.choose_spec.1⟩
        have HO4 := hide ho4
        by_cases e0 : er = 0
        · subst e0
          clear hor hL2 hgl ho4
          go_wp2_with fail
          refine (LT.left (unhide HJ4) (by omega) (unhide HO4)).mono ?_
          rintro e w5 ⟨rfl, HJ5, ho5⟩
          rw [unhide HL2]
          have HO5 := hide ho5
          clear ho5
          go_wp2_with fail
          refine (LT.live (unhide HJ5) (by omega) (unhide HO5)).mono ?_
          rintro e w6 ⟨av6, cp6, rfl, HJ6, -⟩
          rw [unhide HL2]
          go_wp2_with fail
          exact ⟨⟨j + 1, T', by go_num, by omega, by omega, (unhide HJ6).mono (by omega)⟩, by simp [intOf]; omega⟩
        · have hTT : T' = T := by rcases hor with h | h; exact absurd h e0; exact h
          subst hTT
          have e1 : (er == 0) = false := by simp [e0]
          have e2 : (er != 0) = true := by simp [e0]
          have hLL : L = L2 := by rw [← unhide HL, hL2]
          subst hLL
          clear hor hL2 hgl ho4 e0
          go_wp2_with fail
          refine (LT.live (unhide HJ4) (by omega) (unhide HO4)).mono ?_
          rintro e w4 ⟨av4, cp4, rfl, HJ4', ho4'⟩
          rw [unhide HL2]
          have HO4' := hide ho4'
          clear ho4'
          go_wp2_with fail
          refine (LT.left (unhide HJ4') (by omega) (unhide HO4')).mono ?_
          rintro e w5 ⟨rfl, HJ5, ho5⟩
          rw [unhide HL2]
          have HO5 := hide ho5
          clear ho5
          go_wp2_with fail
          refine (LT.live (unhide HJ5) (by omega) (unhide HO5)).mono ?_
          rintro e w6 ⟨av6, cp6, rfl, HJ6, -⟩
          rw [unhide HL2]
          go_wp2_with fail
          exact ⟨⟨j + 1, T', by go_num, by omega, by omega, (unhide HJ6).mono (by omega)⟩, by simp [intOf]; omega⟩
    · by_cases l1 : j < len
      · have l2 : ¬ (j : Int) < 60 := by omega
        have l3 : (j : Int) < (len : Int) := by omega
        clear hlt
        go_wp2_with fail
        go_meet
        case rel => exact ⟨j, T, hj, HJ⟩
      · have l3 : ¬ (j : Int) < (len : Int) := by omega
        clear hlt
        go_wp2_with fail
        go_meet
        case rel => exact ⟨j, T, hj, HJ⟩

end Go.Proofs.Ytlngeaacjbdmhaa
