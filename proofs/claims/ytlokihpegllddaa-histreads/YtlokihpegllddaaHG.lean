/-
  The contract of the document's own Ops.
-/
import Derived.Test.YtlokihpegllddaaHF
namespace Go.Proofs.Ytlokihpegllddaa.Cl
open Go.RowKit Go.Shelf
attribute [local go_sem ↓] Go.wp_at_zero Go.wp_at_succ

set_option maxRecDepth 100000 in
set_option maxHeartbeats 4000000 in
theorem rops_any (es : List Em) (a : Option Addr) (n cap : Nat) (hn : n = es.length) (hs : n ≤ 1000) (w : World) (hE : Es w w.heap.size a es) :
    Calls Try.prog 12 #[.slice a n cap] w fun e w' => ∃ xs v, e = .returned (.tuple #[v, I (opsOf (es.map (·.e))).2.1, I (opsOf (es.map (·.e))).2.2]) ∧ Ow 49 w' w.heap.size v xs ∧ xs.map (·.o) = (opsOf (es.map (·.e))).1 ∧ Below w.heap.size w w' := by
  obtain ⟨V0, hV0, hVs0, gV0, hBV0⟩ := alloc1 w (.cells #[I 0, I 0, I 0, I 0, I 0, I 0, I 0, I 0] 52)
  have HO : Hid (Op8 49 w st0 [] (.slice none 0 0) V0) := hide ⟨hBV0, gV0, Ow.nil _ _ _, rfl⟩
  have HE := hide hE
  have HN := hide hn
  clear hE hn hVs0 gV0 hBV0
  go_enter Try.func12, Try.ntmps12
  go_wp2_with fail
  clear hV0
  go_loopw [5, 7] (fun v i wr => ∃ (k : Nat) (s : St) (xs : List Om) (va : Option Addr) (vn vc : Nat), k ≤ n ∧ v = .slice va vn vc ∧ i = .int .i64 k ∧ goE ((es.take k).map (·.e)) 0 st0 = .inl s ∧ Op8 49 w s xs (.slice va vn vc) wr) (fun _ i _ => n - (intOf i).toNat)
  case atStart => exact ⟨0, st0, [], none, 0, 0, Nat.zero_le _, rfl, rfl, rfl, unhide HO⟩
  case round =>
    obtain ⟨k, s, xs, va, vn, vc, hk, rfl, rfl, hg, O⟩ := hrel
    clear HO
    by_cases hkn : k < n
    · have j1 : (k : Int) < (n : Int) := by omega
      have j0 : (0 : Int) ≤ (k : Int) := by omega
      obtain ⟨x, hx⟩ : ∃ x, es[k]? = some x := ⟨_, List.getElem?_eq_getElem (by have := unhide HN; omega)⟩
      have hinv := take_inv (by have := unhide HN; omega) hg
      have hxl := O.len
      have hgo := take_step hx hg
      have hst := take_stop hx hg
      obtain ⟨g, off, e1, e2, e3, e4⟩ := (unhide HE).below O.be rfl k x hx
      subst e1
      have hrow : ∀ (j : Nat) (v : Value), (#[I x.e.kind, I x.e.thread, I x.e.c.op, S x.e.c.path, S x.e.c.dst, I x.e.c.fd, I x.e.c.fl, I x.e.c.mo, I x.e.c.n, I x.e.c.m, .slice x.d.a x.d.n x.d.c, I x.e.r.why, I x.e.r.n, .slice x.rd.a x.rd.n x.rd.c, .slice x.rn.a x.rn.n x.rn.c, I x.e.r.node, I x.e.r.kind, I x.e.r.mode, I x.e.r.uid, I x.e.r.gid, I x.e.r.links, I x.e.r.size] : Array Value)[j]? = some v → wr.cell? ⟨g, off + k * 22 + j, none⟩ = some v := e3
      obtain ⟨V, hV, hVs, gV, hBV⟩ := alloc1 wr (.cells Z22 35)
      obtain ⟨cs, hcs⟩ : ∃ cs : List Value, cs = (#[I x.e.kind, I x.e.thread, I x.e.c.op, S x.e.c.path, S x.e.c.dst, I x.e.c.fd, I x.e.c.fl, I x.e.c.mo, I x.e.c.n, I x.e.c.m, .slice x.d.a x.d.n x.d.c, I x.e.r.why, I x.e.r.n, .slice x.rd.a x.rd.n x.rd.c, .slice x.rn.a x.rn.n x.rn.c, I x.e.r.node, I x.e.r.kind, I x.e.r.mode, I x.e.r.uid, I x.e.r.gid, I x.e.r.links, I x.e.r.size] : Array Value).toList := ⟨_, rfl⟩
      have hcl : cs.length = 22 := by rw [hcs]; rfl
      have hrg : wr.rangeAt g (off + k * 22) cs := fun j v hj => hrow j v (by rw [hcs] at hj; simpa using hj)
      have hone : cs.toArray.all (·.oneCell') = true := by rw [hcs]; simp [Value.oneCell']
      have hsz : Z22.size = cs.toArray.size := by show 22 = _; rw [List.size_toArray, hcl]
      have hin : (Try.prog.info? 35).map (·.size) = some cs.length := by rw [hcl]; kernel_rfl
      have hin2 : (Try.prog.info? 35).map (·.size) = some cs.toArray.size := by rw [List.size_toArray, hcl]; kernel_rfl
      obtain ⟨X22, hX22⟩ : ∃ X, V.setRow wr.heap.size cs.toArray = X := ⟨_, rfl⟩
      have gX : X22.heap[wr.heap.size]? = some (.cells #[I x.e.kind, I x.e.thread, I x.e.c.op, S x.e.c.path, S x.e.c.dst, I x.e.c.fd, I x.e.c.fl, I x.e.c.mo, I x.e.c.n, I x.e.c.m, .slice x.d.a x.d.n x.d.c, I x.e.r.why, I x.e.r.n, .slice x.rd.a x.rd.n x.rd.c, .slice x.rn.a x.rn.n x.rn.c, I x.e.r.node, I x.e.r.kind, I x.e.r.mode, I x.e.r.uid, I x.e.r.gid, I x.e.r.links, I x.e.r.size] 35) := by
        rw [← hX22, setRow_heap V _ _ cs.toArray _ _ gV, hcs]
      have grX : Gr wr.heap.size V X22 := ⟨by rw [← hX22]; rfl, by rw [← hX22]; rfl, by rw [← hX22]; rfl, by rw [← hX22]; simp, fun q _ hq => by rw [← hX22]; exact setRow_other V _ q _ (fun e => hq (by simp [e]))⟩
      clear hcs
      obtain ⟨ld0, ld1, ld2, ld3, ld4, ld5, ld6, ld7, ld8, ld9, ld10, ld11, ld12, ld13, ld14, ld15, ld16, ld17, ld18, ld19, ld20, ld21⟩ := cells22 gX
      have OX : Op8 49 w s xs (.slice va vn vc) X22 := O.on (hBV.trans (grX.below (Nat.le_refl _) (by omega)))
      have eg4 : Eg X22 w.heap.size x := e4.kt (Kt.of_below (hBV.trans (grX.below (Nat.le_refl _) (by omega))) O.be.size)
      have HGX := hide gX
      have HOX := hide OX
      have HG4 := hide eg4
      have HGO := hide hgo
      have HG0 := hide hg
      have HST := hide hst
      have HINV := hide hinv
      have HX := hide hx
      have HXL := hide hxl
      clear hrow e3 e4 eg4 gX grX OX hgo hst hinv hx hxl hg hVs hBV e2 HE O
      go_upto_region 7 with (first | (refine wpList_load_mid rfl 35 (.tmp 18) rfl g (off + k * 22) (by rfl) cs _ hrg Try.underlying35 rfl hin ?_) | (refine wpList_store_row rfl 35 (.tmp 8) (.tmp 19) rfl wr.heap.size cs.toArray (by rfl) (by rfl) 35 Z22 gV hin2 hsz hone ?_; rw [hX22]))
      clear hV hcl hrg hone hsz hin hin2 hX22 gV
      by_cases c3 : x.e.kind = 3
      · have c3' : (x.e.kind == 3) = true := by simp [c3]
        have hs2 : stepE s k x.e = some s := by simp [stepE, c3]
        have hg2 := unhide HGO
        rw [hs2] at hg2
        clear c3
        go_wp2_with fail
        exact ⟨⟨k + 1, s, xs, va, vn, vc, by omega, rfl, by go_num, hg2, unhide HOX⟩, by simp [intOf]; omega⟩
      · have c3' : (x.e.kind == 3) = false := by simp [c3]
        have hbx := hide (unhide HOX).be
        by_cases c12 : ¬ x.e.kind = 1 ∧ ¬ x.e.kind = 2
        · have d1 : (x.e.kind != 1) = true := by simp [c12.1]
          have d2 : (x.e.kind != 2) = true := by simp [c12.2]
          have hs2 : stepE s k x.e = none := by
            unfold stepE
            rw [if_neg c3]
            split
            · rfl
            · rw [if_neg (fun h => c12.1 h.1), if_neg (fun h => c12.2 h.1)]
          have hop := hide (unhide HST hs2)
          clear c3 c12 hs2
          go_wp2_with fail
          refine bodyPost_ret (results_tmp3 rfl _ _ _) rfl ?_
          exact ⟨[], _, by rw [unhide hop]; rfl, Ow.nil _ _ _, by rw [unhide hop]; rfl, unhide hbx⟩
        · have HD12 : Hid (x.e.kind = 1 ∨ x.e.kind = 2) := hide (by omega)
          have hk12 : ∃ o1 o2 : Bool, (x.e.kind != 1) = o1 ∧ (x.e.kind != 2) = o2 ∧ (o1 && o2) = false := ⟨_, _, rfl, rfl, by rcases unhide HD12 with h | h <;> simp [h]⟩
          obtain ⟨o1, o2, d1, d2, d3⟩ := hk12
          by_cases ct : x.e.thread < 0 ∨ 8 ≤ x.e.thread
          · have hs2 : stepE s k x.e = none := by simp [stepE, c3, ct]
            have hop := hide (unhide HST hs2)
            clear c3 c12
            by_cases ct1 : x.e.thread < 0
            · clear ct hs2
              rcases unhide HD12 with h | h
              · have d1 : (x.e.kind != 1) = false := by simp [h]
                clear d3
                go_wp2_with fail
                refine bodyPost_ret (results_tmp3 rfl _ _ _) rfl ?_
                exact ⟨[], _, by rw [unhide hop]; rfl, Ow.nil _ _ _, by rw [unhide hop]; rfl, unhide hbx⟩
              · have d1 : (x.e.kind != 1) = true := by simp [h]
                have d2 : (x.e.kind != 2) = false := by simp [h]
                clear d3
                go_wp2_with fail
                refine bodyPost_ret (results_tmp3 rfl _ _ _) rfl ?_
                exact ⟨[], _, by rw [unhide hop]; rfl, Ow.nil _ _ _, by rw [unhide hop]; rfl, unhide hbx⟩
            · have ct2 : 8 ≤ x.e.thread := by omega
              clear ct hs2
              rcases unhide HD12 with h | h
              · have d1 : (x.e.kind != 1) = false := by simp [h]
                clear d3
                go_wp2_with fail
                refine bodyPost_ret (results_tmp3 rfl _ _ _) rfl ?_
                exact ⟨[], _, by rw [unhide hop]; rfl, Ow.nil _ _ _, by rw [unhide hop]; rfl, unhide hbx⟩
              · have d1 : (x.e.kind != 1) = true := by simp [h]
                have d2 : (x.e.kind != 2) = false := by simp [h]
                clear d3
                go_wp2_with fail
                refine bodyPost_ret (results_tmp3 rfl _ _ _) rfl ?_
                exact ⟨[], _, by rw [unhide hop]; rfl, Ow.nil _ _ _, by rw [unhide hop]; rfl, unhide hbx⟩
          · clear d1 d2 d3 o1 o2
            obtain ⟨t, ht⟩ : ∃ t : Nat, x.e.thread = (t : Int) := ⟨x.e.thread.toNat, by omega⟩
            have t8 : t < 8 := by omega
            have ti0 : (0 : Int) ≤ (t : Int) := by omega
            have ti1 : ¬ (t : Int) < 0 := by omega
            have ti2 : ¬ 8 ≤ (t : Int) := by omega
            have ti3 : (t : Int) < 8 := by omega
            rw [ht] at ld1
            have hs0 : stepE s k x.e = if x.e.kind = 1 ∧ s.busy.getD t 0 = 0 then some (s.add k x.e t) else if x.e.kind = 2 ∧ s.busy.getD t 0 ≠ 0 then some (s.set k x.e t) else none := by
              unfold stepE
              rw [if_neg c3, if_neg ct, ht, Int.toNat_natCast]
            have hbl := (unhide HINV).bl
            obtain ⟨b, hb⟩ : ∃ b, s.busy.getD t 0 = b := ⟨_, rfl⟩
            have hbz := (unhide HOX).bz
            have bc : X22.cell? ⟨w.heap.size, t, none⟩ = some (I (b : Int)) := by rw [cell_of hbz, bz_get (by rw [hbl]; exact t8), hb]
            have bf : X22.frozen? ⟨w.heap.size, t, none⟩ = false := frozen_of hbz t
            rw [hb] at hs0
            have HS0 := hide hs0
            have HB := hide hb
            clear c3 c12 ct hs0 hb hbz hbl
            rcases unhide HD12 with c1 | c2
            · have d1 : (x.e.kind != 1) = false := by simp [c1]
              have c1' : (x.e.kind == 1) = true := by simp [c1]
              by_cases cb : b = 0
              · have cb' : ((b : Int) == 0) = true := by simp [cb]
                have hs2 := unhide HS0
                rw [if_pos ⟨c1, cb⟩] at hs2
                have hg2 := unhide HGO
                rw [hs2] at hg2
                have HG2 := hide hg2
                have hxl : xs.length ≤ 1000 := (by have h1 := unhide HXL; have h2 := (Inv.go Inv.start (unhide HG0)).2.1; have h3 : cnt 1 ((es.take k).map (·.e)) ≤ ((es.take k).map (·.e)).length := List.countP_le_length; rw [List.length_map, List.length_take] at h3; have h4 : st0.ops.length = 0 := rfl; omega)
                have O1 := unhide HOX
                obtain ⟨v2, W2, hrun0, t2, kt2, bb2⟩ := Ow.new49 O1.ow O1.be.size (⟨⟨(t : Int), x.e.c, rr0, (k : Int), -1⟩, x.d, sl0, sl0⟩ : Om) ⟨(unhide HG4).1, Dq.nil _ _, Nq.nil _ _⟩ (by omega)
                obtain ⟨a2, c2, rfl, -, -, -⟩ := t2.form
                have hn2 : (xs ++ [(⟨⟨(t : Int), x.e.c, rr0, (k : Int), -1⟩, x.d, sl0, sl0⟩ : Om)]).length = xs.length + 1 := by simp
                rw [hn2] at hrun0
                have hrun : (Builtin.append_ #[42, 42] 42 #[.slice va vn vc, .slice (some ⟨X22.heap.size, 0, none⟩) 1 1]).run Try.prog (X22.alloc (.cells #[I (t : Int), I x.e.c.op, S x.e.c.path, S x.e.c.dst, I x.e.c.fd, I x.e.c.fl, I x.e.c.mo, I x.e.c.n, I x.e.c.m, .slice x.d.a x.d.n x.d.c, I 0, I 0, .slice none 0 0, .slice none 0 0, I 0, I 0, I 0, I 0, I 0, I 0, I 0, I (k : Int), I (-1)] 49)) = .ok (.slice a2 (xs.length + 1) c2) W2 := hrun0
                have hb2 := O1.keepb (by decide) bb2
                have y1 : W2.cell? ⟨wr.heap.size, 1, none⟩ = some (I (t : Int)) := by
                  have e1 : W2.heap[wr.heap.size]? = X22.heap[wr.heap.size]? := bb2 _ (lt_of_heap (unhide HGX)) (by
                    intro e
                    obtain ⟨-, -, cs, e2⟩ := O1.ow.own e
                    have e3 := unhide HGX
                    rw [e2] at e3
                    simp at e3)
                  rw [World.cell?_of_block e1]
                  exact ld1
                have y2 : W2.cell? ⟨w.heap.size, t, none⟩ = some (I (b : Int)) := by rw [cell_of hb2, bz_get (by rw [(unhide HINV).bl]; exact t8), unhide HB]
                have y3 := frozen_of hb2 t
                obtain ⟨X, hX⟩ : ∃ X, W2.setCell ⟨w.heap.size, t, none⟩ (I ((xs.length : Int) + 1)) = X := ⟨_, rfl⟩
                have O3 := hide (O1.add (by decide) _ t2 kt2 bb2 k x.e t rfl (show W2.setCell ⟨w.heap.size, t, none⟩ (I ((xs.length + 1 : Nat) : Int)) = X from hX)).1
                rw [hn2] at O3
                clear c1 cb hs2 hg2 O1 hrun0 t2 kt2 bb2 hn2 hb2
                go_wp2_with (at_builtin; refine wpList_app rfl _ _ 42 42 rfl 42 rfl _ _ (by rfl) (by rfl) _ _ hrun ?_; clear hrun)
                exact ⟨⟨k + 1, _, _, _, _, _, by omega, rfl, by go_num, unhide HG2, unhide O3⟩, by simp [intOf]; omega⟩
              · have cb' : ((b : Int) == 0) = false := by simp; omega
                have hs2 := unhide HS0
                rw [if_neg (fun h => cb h.2), if_neg (fun h => by have := h.1; omega)] at hs2
                have hop := hide (unhide HST hs2)
                clear c1 cb hs2
                go_wp2_with fail
                refine bodyPost_ret (results_tmp3 rfl _ _ _) rfl ?_
                exact ⟨[], _, by rw [unhide hop]; rfl, Ow.nil _ _ _, by rw [unhide hop]; rfl, unhide hbx⟩
            · have d1 : (x.e.kind != 1) = true := by simp [c2]
              have d2 : (x.e.kind != 2) = false := by simp [c2]
              have c1' : (x.e.kind == 1) = false := by simp [c2]
              by_cases cb : b = 0
              · have cb' : ((b : Int) == 0) = true := by simp [cb]
                have hs2 := unhide HS0
                rw [if_neg (fun h => by have := h.1; omega), if_neg (fun h => h.2 cb)] at hs2
                have hop := hide (unhide HST hs2)
                clear c2 cb hs2
                go_wp2_with fail
                refine bodyPost_ret (results_tmp3 rfl _ _ _) rfl ?_
                exact ⟨[], _, by rw [unhide hop]; rfl, Ow.nil _ _ _, by rw [unhide hop]; rfl, unhide hbx⟩
              · have cb' : ((b : Int) == 0) = false := by simp; omega
                have hs2 := unhide HS0
                rw [if_neg (fun h => by have := h.1; omega), if_pos ⟨c2, cb⟩] at hs2
                have hg2 := unhide HGO
                rw [hs2] at hg2
                have HG2 := hide hg2
                obtain ⟨i, hi⟩ : ∃ i, b = i + 1 := ⟨b - 1, by omega⟩
                have hil : i < xs.length := by have h1 := (unhide HINV).be t; have h2 := unhide HB; have h3 := unhide HXL; omega
                obtain ⟨xo, hxo⟩ : ∃ xo, xs[i]? = some xo := ⟨_, List.getElem?_eq_getElem hil⟩
                obtain ⟨gx, cap2, cur, hv, f2, f3, f4, f5, f6, f7⟩ := (unhide HOX).ow.form2 (by omega)
                simp only [Value.slice.injEq] at hv
                obtain ⟨rfl, rfl, rfl⟩ := hv
                have b1 : (b : Int) - 1 = (i : Int) := by omega
                have b2 : (i : Int) < (xs.length : Int) := by omega
                have b3 : (0 : Int) ≤ (i : Int) := by omega
                have b4 : b ≤ 1000 := (by have h1 := unhide HXL; have h2 := (Inv.go Inv.start (unhide HG0)).2.1; have h3 : cnt 1 ((es.take k).map (·.e)) ≤ ((es.take k).map (·.e)).length := List.countP_le_length; rw [List.length_map, List.length_take] at h3; have h4 : st0.ops.length = 0 := rfl; omega)
                have hcs2 : i * 23 + 22 < cur.size := by rw [f6]; omega
                have O1 := unhide HOX
                obtain ⟨X1, X2, X3, X4, X5, X6, X7, X8, X9, X10, X11, X12, ⟨se1, se2, se3, se4, se5, se6, se7, se8, se9, se10, se11, se12⟩, ⟨q0, q1, q2, q3, q4, q5, q6, q7, q8, q9, q10, q11⟩, ⟨sf0, sf1, sf2, sf3, sf4, sf5, sf6, sf7, sf8, sf9, sf10, sf11⟩, ⟨cur2, m1, m2, m3⟩, grX⟩ := storeRow f3 hcs2 (I x.e.r.why) (I x.e.r.n) (.slice x.rd.a x.rd.n x.rd.c) (.slice x.rn.a x.rn.n x.rn.c) (I x.e.r.node) (I x.e.r.kind) (I x.e.r.mode) (I x.e.r.uid) (I x.e.r.gid) (I x.e.r.links) (I x.e.r.size) (I (k : Int))
                obtain ⟨u0, q0⟩ := q0; obtain ⟨u1, q1⟩ := q1; obtain ⟨u2, q2⟩ := q2; obtain ⟨u3, q3⟩ := q3; obtain ⟨u4, q4⟩ := q4; obtain ⟨u5, q5⟩ := q5; obtain ⟨u6, q6⟩ := q6; obtain ⟨u7, q7⟩ := q7; obtain ⟨u8, q8⟩ := q8; obtain ⟨u9, q9⟩ := q9; obtain ⟨u10, q10⟩ := q10; obtain ⟨u11, q11⟩ := q11
                have hne : w.heap.size ≠ gx := by rintro rfl; have e1 := O1.bz; rw [f3] at e1; simp at e1
                have hne2 : wr.heap.size ≠ gx := by rintro rfl; have e1 := unhide HGX; rw [f3] at e1; simp at e1
                have hb2 := grX.keep O1.bz hne
                have y1 : X12.cell? ⟨wr.heap.size, 1, none⟩ = some (I (t : Int)) := by
                  rw [cell_of (grX.keep (unhide HGX) hne2)]
                  show some (I x.e.thread) = _
                  rw [ht]
                have y2 : X12.cell? ⟨w.heap.size, t, none⟩ = some (I (b : Int)) := by rw [cell_of hb2, bz_get (by rw [(unhide HINV).bl]; exact t8), unhide HB]
                have y3 := frozen_of hb2 t
                have r0 := Ow.ret (by decide) (by decide) O1.ow f3 O1.be.size hxo x.e.r (k : Int) x.rd x.rn m1 m2 m3 grX (unhide HG4).2.1 (unhide HG4).2.2
                obtain ⟨X, hX⟩ : ∃ X, X12.setCell ⟨w.heap.size, t, none⟩ (I 0) = X := ⟨_, rfl⟩
                have O3 := hide (Op8.ret (by decide) (O1.be.trans r0.2.be) hb2 r0.1 k x.e t (by rw [unhide HB, hi]; exact ret_map hxo O1.xo _ _ _ _) hX)
                clear c2 hs2 hg2 hi hil hxo f2 f3 f4 f5 f6 f7 cb hcs2 O1 m1 m2 m3 grX hne hne2 hb2 r0
                go_wp2_with fail
                exact ⟨⟨k + 1, _, _, _, _, _, by omega, rfl, by go_num, unhide HG2, unhide O3⟩, by simp [intOf]; omega⟩
    · obtain rfl : k = n := by omega
      have hop := hide (take_all (by have := unhide HN; omega) hg)
      have HOO := hide O
      have kk : ¬ (k : Int) < (k : Int) := by omega
      clear hg O
      go_wp2_with fail
      refine bodyPost_ret (results_tmp3 rfl _ _ _) rfl ?_
      exact ⟨xs, _, by rw [unhide hop]; rfl, (unhide HOO).ow, by rw [unhide hop]; exact (unhide HOO).xo, (unhide HOO).be⟩
end Go.Proofs.Ytlokihpegllddaa.Cl
