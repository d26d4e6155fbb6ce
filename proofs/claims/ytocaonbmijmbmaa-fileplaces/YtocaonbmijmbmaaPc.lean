/-
  FilePlaces' walk: each descriptor keeps its own place and flags.
-/
import Derived.Test.YtocaonbmijmbmaaPcA
import Derived.Deep.CutRange
import Derived.Deep.CutBlock
import Derived.Deep.RegionLaw
namespace Go.Proofs.Ytocaonbmijmbmaa
open Go.RowKit Go.Shelf
attribute [local go_sem ↓] Go.wp_at_zero Go.wp_at_succ

theorem step_append_eq {P : Program} {w : World} {ops : Array Oper} {o : Oper} {a : Act} {K : Act → World → Prop} {Q : Exit → Act → World → Prop} {E : Prop} (hgd : o.guard = none) (s x : Operand) (t : TypeId)
    (ho : o.op = .call { callee := .builtin .append, args := #[s, x], argTypes := #[t, t] }) (ty : TypeId) (hty : o.type = ty) (vs vx : Value) (hs : a.eval s = vs) (hx : a.eval x = vx) (v' : Value) (w' : World)
    (hrun : (Builtin.append_ #[t, t] ty #[vs, vx]).run P w = .ok v' w') (h : K (a.put o.dst v') w') :
    if Region.wanted o (yielded ops a.tmps) = true then Oper.wp P o a w K Q else E := by
  have hw : Region.wanted o (yielded ops a.tmps) = true := by simp [Region.wanted, hgd]
  rw [if_pos hw]
  unfold Oper.wp execOp
  simp only [ho, resolve, invoke, builtin, Sem.run_bind, Sem.run_pure, Result.andThen_ok, List.map_toArray, List.map_cons, List.map_nil, hs, hx, hty, hrun]
  exact h
theorem minP : IntKind.i64.min = -9223372036854775808 := by decide
theorem kl_bdP {p : Int} (h : (kl p).wf = true) : -9223372036854775808 ≤ p ∧ p ≤ 9223372036854775807 := by
  simp [Lit.wf, minP] at h; exact h

theorem below_undrew {B : Nat} {W W' : World} (h : Below B W.drew W') : Below B W W' := ⟨h.os, h.tape, h.output, h.size, h.block⟩
section
variable {B b : Nat} {w W : World} {es hs : List Op} {hv : Value}
theorem open_H (h : HW B b w W es hv hs) (p m k f : Int) {A E : Int} (hA : openA es 64 p = A) (hE : roomE es 64 p = E) {c : Nat} {o1 o2 o3 : Nat} {v1 v2 v3 : Value} (hc : c < B) (c1 : W.cell? ⟨c, o1, none⟩ = some v1) (c2 : W.cell? ⟨c, o2, none⟩ = some v2) (c3 : W.cell? ⟨c, o3, none⟩ = some v3) :
    Calls Try.prog 8 #[.pointer (some ⟨b, 0, none⟩), I p, .agg #[I m, I k], I f] W fun e w' => e = .returned (.tuple #[I A, I E]) ∧ (w'.cell? ⟨c, o1, none⟩ = some v1 ∧ w'.cell? ⟨c, o2, none⟩ = some v2 ∧ w'.cell? ⟨c, o3, none⟩ = some v3) ∧ Hid (HW B b w w' (openL es 64 p m k f) hv hs) := by
  subst hA hE
  refine (openc_any b 64 es p m k f W h.tb).mono ?_
  rintro e w' ⟨e1, h1, h2⟩
  have hb := h2.block c (by have := h.sz; omega) (by have := h.lo; omega)
  exact ⟨e1, ⟨(World.cell?_of_block hb).trans c1, (World.cell?_of_block hb).trans c2, (World.cell?_of_block hb).trans c3⟩, h.call h1 h2 (h.wf.open h.tb.c64)⟩
theorem seek_H (h : HW B b w W es hv es) {i : Nat} {o : Op} (hi : es[i]? = some o) {s : Int} (hs0 : 0 ≤ s) {p d : Int} (hp : o.p = p) (hd : o.d = d) {c o1 : Nat} {v1 : Value} (hc : c < B) (c1 : W.cell? ⟨c, o1, none⟩ = some v1) {g o2 o3 : Nat} {v2 v3 : Value} (hg : g ≠ b) (c2 : W.cell? ⟨g, o2, none⟩ = some v2) (c3 : W.cell? ⟨g, o3, none⟩ = some v3) (hgl : g < W.heap.size) :
    Calls Try.prog 10 #[.pointer (some ⟨b, 0, none⟩), I p, I d, I s] W fun e w' => e = .returned (I 0) ∧ (w'.cell? ⟨g, o2, none⟩ = some v2 ∧ w'.cell? ⟨g, o3, none⟩ = some v3 ∧ w'.cell? ⟨c, o1, none⟩ = some v1) ∧ Hid (HW B b w w' (es.set i { o with s := s }) hv es) := by
  subst hp hd
  obtain ⟨f1, f2, f3⟩ := fdI_at h.wf hi
  have hE : seekE es o.p o.d s = 0 := by unfold seekE; rw [if_pos f2, if_neg (by omega)]
  have hL : seekL es o.p o.d s = es.set i { o with s := s } := by unfold seekL; rw [if_pos f2, if_neg (by omega), f1, f3]
  refine (seek_any b 64 es o.p o.d s W h.tb).mono ?_
  rintro e w' ⟨e1, h1, h2⟩
  rw [hE] at e1
  rw [hL] at h1
  have hb := h2.block c (by have := h.sz; omega) (by have := h.lo; omega)
  have hb2 := h2.block g hgl hg
  refine ⟨e1, ⟨(World.cell?_of_block hb2).trans c2, (World.cell?_of_block hb2).trans c3, (World.cell?_of_block hb).trans c1⟩, h.call h1 h2 ?_⟩
  exact h.wf.set hi rfl rfl
theorem get_H (h : HW B b w W es hv es) {i : Nat} {o : Op} (hi : es[i]? = some o) {p d m k f s : Int} (hp : o.p = p) (hd : o.d = d) (hm : o.m = m) (hk : o.n = k) (hf : o.f = f) (hs : o.s = s) {g o2 o3 : Nat} {v2 v3 : Value} (c2 : W.cell? ⟨g, o2, none⟩ = some v2) (c3 : W.cell? ⟨g, o3, none⟩ = some v3) (hgl : g < W.heap.size) :
    Calls Try.prog 11 #[.pointer (some ⟨b, 0, none⟩), I p, I d] W fun e w' => e = .returned (.tuple #[.agg #[I m, I k, I f, I s], I 0]) ∧ (w'.cell? ⟨g, o2, none⟩ = some v2 ∧ w'.cell? ⟨g, o3, none⟩ = some v3) ∧ Hid (Below W.heap.size W w') := by
  subst hp hd hm hk hf hs
  obtain ⟨f1, f2, f3⟩ := fdI_at h.wf hi
  refine (get_any b 64 es o.p o.d W h.tb).mono ?_
  rintro e w' ⟨e1, h1⟩
  rw [f2, f3] at e1
  have hb2 := h1.block g hgl
  exact ⟨e1, ⟨(World.cell?_of_block hb2).trans c2, (World.cell?_of_block hb2).trans c3⟩, h1⟩
theorem get_HA (h : HW B b w W es hv es) (q : Nat) (hq : W.heap.size = q) {i : Nat} {o : Op} (hi : es[i]? = some o) {p d m k f s : Int} (hp : o.p = p) (hd : o.d = d) (hm : o.m = m) (hk : o.n = k) (hf : o.f = f) (hs : o.s = s) {g o2 o3 : Nat} {v2 v3 : Value} (c2 : W.cell? ⟨g, o2, none⟩ = some v2) (c3 : W.cell? ⟨g, o3, none⟩ = some v3) (hgl : g < W.heap.size) :
    Calls Try.prog 11 #[.pointer (some ⟨b, 0, none⟩), I p, I d] (W.alloc (.cells #[I 0, I 0, I 0, I 0] 34)) fun e w' => e = .returned (.tuple #[.agg #[I m, I k, I f, I s], I 0]) ∧ (w'.cell? ⟨g, o2, none⟩ = some v2 ∧ w'.cell? ⟨g, o3, none⟩ = some v3) ∧
      ∃ X1 X2 X3 X4 : World, (w'.setCell ⟨q, 0, none⟩ (I m) = X1 ∧ X1.setCell ⟨q, 1, none⟩ (I k) = X2 ∧ X2.setCell ⟨q, 2, none⟩ (I f) = X3 ∧ X3.setCell ⟨q, 3, none⟩ (I s) = X4) ∧ (w'.cell? ⟨q, 0, none⟩ = some (I 0) ∧ X1.cell? ⟨q, 1, none⟩ = some (I 0) ∧ X2.cell? ⟨q, 2, none⟩ = some (I 0) ∧ X3.cell? ⟨q, 3, none⟩ = some (I 0)) ∧
      (w'.frozen? ⟨q, 0, none⟩ = false ∧ X1.frozen? ⟨q, 1, none⟩ = false ∧ X2.frozen? ⟨q, 2, none⟩ = false ∧ X3.frozen? ⟨q, 3, none⟩ = false) ∧ (X4.cell? ⟨g, o2, none⟩ = some v2 ∧ X4.cell? ⟨g, o3, none⟩ = some v3) ∧ Hid (X4.heap[q]? = some (.cells #[I m, I k, I f, I s] 34) ∧ Below W.heap.size W X4) := by
  subst hq
  have hB0 : Below W.heap.size W (W.alloc (.cells #[I 0, I 0, I 0, I 0] 34)) := (Below.refl _ W).alloc (Nat.le_refl _) _
  refine (get_H (h.below hB0) hi hp hd hm hk hf hs ((World.cell?_of_block (hB0.block g hgl)).trans c2) ((World.cell?_of_block (hB0.block g hgl)).trans c3) (by simp; omega)).mono ?_
  rintro e w' ⟨e1, e2, hB⟩
  have hy := ((unhide hB).block W.heap.size (by simp)).trans (putAll (w := W) (.cells #[I 0, I 0, I 0, I 0] 34) _ rfl)
  obtain ⟨X1, X2, X3, X4, x, c, f, hX, hfr, _⟩ := store4 hy (I m) (I k) (I f) (I s)
  have hBX : Below W.heap.size W X4 := hB0.trans (((unhide hB).mono (by simp)).trans (hfr.below (Nat.le_refl _) (by have := (unhide hB).size; simp at this; omega)))
  exact ⟨e1, e2, X1, X2, X3, X4, x, c, f, ⟨(World.cell?_of_block (hBX.block g hgl)).trans c2, (World.cell?_of_block (hBX.block g hgl)).trans c3⟩, hX, hBX⟩
end

set_option maxRecDepth 100000 in
set_option maxHeartbeats 4000000 in
theorem places_walk (pa : Option Addr) (len cap : Nat) (w : World) (ha : AsksAt w pa len) :
    Calls Try.prog 6 #[.slice pa len cap] w fun e w' => e = .returned (.bool true) ∧ Below w.heap.size w w' := by
  have hlen : (len : Int) ≤ 9223372036854775807 := by have := ha.1; omega
  have HA := hide ha
  have HK := hide (fun W => known_true W)
  clear ha
  go_enter Try.func6, Try.ntmps6
  go_wp2_with fail
  refine (new_good 64 (by omega) (by omega) w).mono ?_
  rintro e w1 ⟨rfl, hT1, hB1⟩
  have HS : Hid (HW w.heap.size w.heap.size w w1 [] (.slice none 0 0) []) := ⟨hT1, ⟨rfl, .inl ⟨rfl, rfl⟩⟩, Wf.nil, hB1, Nat.le_refl _⟩
  clear hT1 hB1
  go_upto_block 0 with fail
  generalize hh : w.heap.size = h at *
  go_cut [5] from 6 to 122 (fun s5 wc => ∃ es, es.length ≤ 60 ∧ HW h h w wc es s5 es)
  case first =>
    go_wp2_with fail
    go_loopw [5, 6] (fun v i wr => ∃ (k : Nat) (es : List Op), i = I k ∧ k ≤ 60 ∧ k ≤ len ∧ es.length ≤ k ∧ HW h h w wr es v es) (fun _ i _ => 60 - (intOf i).toNat)
    case atStart => exact ⟨0, _, rfl, by omega, by omega, Nat.le_refl _, unhide HS⟩
    case round =>
      clear HS
      obtain ⟨k, es, rfl, hk, hkl, hel, S⟩ := hrel
      obtain ⟨a5, cap5, rfl⟩ := S.form
      by_cases hc : k < len ∧ k < 60
      · obtain ⟨b, off, kd, p, d, f, s, m, nd, rfl, hb, A⟩ := (unhide HA).2 k hc.1
        rw [hh] at hb
        have j1 : (k : Int) < (len : Int) := by omega
        have j2 : (k : Int) < 60 := by omega
        have j0 : (0 : Int) ≤ (k : Int) := by omega
        have A1 := A.below hb S.be
        have c1 := A1.c1
        have wp := A1.w1
        have hpb := kl_bdP wp
        have HA1 := hide A
        have HS := hide S
        clear A A1 S hc wp
        go_upto_if 41 with fail
        go_cut [7] from 42 to 44 (fun v wc => wc = wr ∧ ∃ q : Nat, v = I q)
        case first =>
          by_cases hp0 : p < 0
          · have l1 : -9223372036854775808 ≤ p := hpb.1
            go_wp2_with fail
            go_meet
            case rel => exact ⟨rfl, (-(p + 1)).toNat, by rw [Int.toNat_of_nonneg (by omega)]⟩
          · go_wp2_with fail
            go_meet
            case rel => exact ⟨rfl, p.toNat, by rw [Int.toNat_of_nonneg (by omega)]⟩
        case rest =>
        obtain ⟨rfl, q, rfl⟩ := hcut
        have hm : ((q : Nat) : Int).tmod 4 = ((q % 4 : Nat) : Int) := by rw [Int.tmod_eq_emod_of_nonneg (by omega)]; omega
        generalize q % 4 = x at *
        clear hpb c1
        have A1 := (unhide HA1).below hb (unhide HS).be
        have c3 := A1.c3
        have c5 := A1.c5
        have c6 := A1.c6
        clear A1
        obtain ⟨aa, haa⟩ : ∃ aa, openA es 64 (x : Int) = aa := ⟨_, rfl⟩
        obtain ⟨er, her⟩ : ∃ er, roomE es 64 (x : Int) = er := ⟨_, rfl⟩
        have HAA := hide haa
        have HER := hide her
        clear haa her
        go_upto_region 12 with fail
        go_cut [8, 9] from 47 to 62 (fun s1 s2 wd => s1 = I aa ∧ s2 = I er ∧ HW h h w wd (openL es 64 (x : Int) m nd f) (.slice a5 es.length cap5) es)
        case first =>
          go_region_held3 (fun w' => w'.cell? ⟨b, off + k * 7 + 3, none⟩ = some (I f) ∧ w'.cell? ⟨b, off + k * 7 + 5, none⟩ = some (I m) ∧ w'.cell? ⟨b, off + k * 7 + 6, none⟩ = some (I nd)) (go_keep)
            ((go_at_call 8; refine (open_H (unhide HS).drew (x : Int) m nd f (unhide HAA) (unhide HER) hb c3 c5 c6).mono ?_; rintro e w3 ⟨rfl, ⟨e3, e5, e6⟩, HM⟩))
          all_goals
            go_wp2_with fail
            go_meet
            case rel => exact ⟨rfl, rfl, unhide HM⟩
        case rest =>
        obtain ⟨rfl, rfl, M⟩ := hcut
        obtain ⟨W, hW⟩ : ∃ W, W = wc := ⟨_, rfl⟩
        rw [← hW] at M ⊢
        clear hW c3 c5 c6 HS
        have HM := hide M
        clear M
        go_upto_if 64 with fail
        go_cut [5] from 65 to 81 (fun s5 wd => ∃ es', es'.length ≤ k + 1 ∧ HW h h w wd es' s5 es')
        case first =>
          by_cases e0 : er = 0
          · subst e0
            have hL : openL es 64 (x : Int) m nd f = es ++ [⟨(x : Int), aa, m, nd, f, 0⟩] := by
              have haa := unhide HAA
              unfold openA at haa
              rw [if_pos (unhide HER)] at haa
              unfold openL
              rw [if_pos (unhide HER), haa]
            rw [hL] at HM
            have hBa : Below W.heap.size W (W.alloc (.cells #[I (x : Int), I aa, I m, I nd, I f, I 0] 60)).drew := below_d ((Below.refl _ W).alloc (Nat.le_refl _) _)
            obtain ⟨hv', W5, r5, H5⟩ := ((unhide HM).below hBa).push (by omega) ⟨(x : Int), aa, m, nd, f, 0⟩ (a := W.heap.size) (putAll (w := W) (.cells #[I (x : Int), I aa, I m, I nd, I f, I 0] 60) W.heap.size rfl)
            obtain ⟨a5', cap5', hv5⟩ := H5.form
            rw [hv5] at r5 H5
            clear hv5 hv'
            have A1 := (unhide HA1).below hb (unhide HM).be
            have c3 := A1.c3
            have c5 := A1.c5
            have c6 := A1.c6
            have HE := hide H5
            have HL5 : Hid ((es ++ [(⟨(x : Int), aa, m, nd, f, 0⟩ : Op)]).length ≤ k + 1) := by show _ ≤ _; simp; omega
            clear A1 H5 hL hBa
            generalize (es ++ [(⟨(x : Int), aa, m, nd, f, 0⟩ : Op)]) = es2 at *
            generalize hn2 : es2.length = n2 at *
            have HN2 := hide hn2
            clear hn2
            go_wp2_with fail
            go_region_law (refine step_append_eq (by rfl) _ _ 58 (by rfl) 58 (by rfl) _ _ (by rfl) (by rfl) _ _ r5 ?_)
            all_goals
              go_wp2_with fail
              go_meet
              case rel => exact ⟨es2, by rw [unhide HN2]; exact unhide HL5, unhide HE⟩
          · have e1 : (er == 0) = false := by simp [e0]
            have hL : openL es 64 (x : Int) m nd f = es := by unfold openL; rw [if_neg (by rw [unhide HER]; exact e0)]
            rw [hL] at HM
            clear hL e0
            go_wp2_with fail
            go_meet
            case rel => exact ⟨_, by omega, unhide HM⟩
        case rest =>
        obtain ⟨es', hel', S'⟩ := hcut
        obtain ⟨a6, cap6, hv6⟩ := S'.form
        subst hv6
        obtain ⟨T, hT⟩ : ∃ T, T = wc := ⟨_, rfl⟩
        rw [← hT] at S' ⊢
        clear hT HM HAA HER
        have A2 := (unhide HA1).below hb S'.be
        have c4 := A2.c4
        clear A2
        by_cases hn0 : es'.length = 0
        · have HS' := hide S'
          have HN0 := hide hn0
          rw [hn0]
          clear S' hn0
          go_wp2_with fail
          go_roundw
          case rel => exact ⟨k + 1, es', by go_num, by omega, by omega, by omega, by have := unhide HS'; rw [unhide HN0] at this; exact this⟩
          case measure => simp [intOf]; omega
        · have hr : k % es'.length < es'.length := Nat.mod_lt _ (by omega)
          have hmod : (k : Int).tmod (es'.length : Int) = ((k % es'.length : Nat) : Int) := by rw [Int.tmod_eq_emod_of_nonneg (by omega)]; rfl
          generalize k % es'.length = r at *
          obtain ⟨o, ho⟩ : ∃ o, es'[r]? = some o := ⟨_, List.getElem?_eq_getElem hr⟩
          obtain ⟨g, cap7, e7, hgl, ⟨g0, g1, -, -, -, g5⟩, gf⟩ := S'.at ho
          simp only [Value.slice.injEq] at e7
          obtain ⟨rfl, -, rfl⟩ := e7
          have hgb : g ≠ h := by
            rintro rfl
            obtain ⟨r', hr', -⟩ := S'.tb.hb
            have hgo := S'.own
            obtain ⟨g', cap', cur, e1, _, hg', _⟩ := own_open hgo (by omega)
            simp only [Value.slice.injEq, Option.some.injEq, Addr.mk.injEq] at e1
            obtain ⟨⟨rfl, -, -⟩, -, -⟩ := e1
            rw [hg'] at hr'
            simp at hr'
          have HO := hide ho
          have HS' := hide S'
          generalize hn : es'.length = n at *
          have HN := hide hn
          have n0 : ¬ (n : Int) = 0 := by omega
          have n1 : (0 : Int) < (n : Int) := by omega
          have n2 : 0 < n := by omega
          have r1 : (r : Int) < (n : Int) := by omega
          have r0 : (0 : Int) ≤ (r : Int) := by omega
          have gf5 := gf (r * 6 + 5)
          clear ho S' hn hn0 gf
          by_cases s0 : 0 ≤ s
          · go_upto_region 18 with fail
            have g0d : T.drew.cell? ⟨g, r * 6, none⟩ = some (I o.p) := g0
            have g1d : T.drew.cell? ⟨g, r * 6 + 1, none⟩ = some (I o.d) := g1
            have c4d : T.drew.cell? ⟨b, off + k * 7 + 4, none⟩ = some (I s) := c4
            obtain ⟨pp, hpp⟩ : ∃ pp, o.p = pp := ⟨_, rfl⟩
            obtain ⟨dd, hdd⟩ : ∃ dd, o.d = dd := ⟨_, rfl⟩
            rw [hpp] at g0 g0d
            rw [hdd] at g1 g1d
            have HPP := hide hpp
            have HDD := hide hdd
            clear hpp hdd
            go_cut [112] from 95 to 111 (fun s' wd => s' = .bool false ∧ HW h h w wd (es'.set r { o with s := s }) (.slice (some ⟨g, 0, none⟩) n cap6) es')
            case first =>
              go_region_held3 (fun w' => w'.cell? ⟨g, r * 6, none⟩ = some (I pp) ∧ w'.cell? ⟨g, r * 6 + 1, none⟩ = some (I dd) ∧ w'.cell? ⟨b, off + k * 7 + 4, none⟩ = some (I s)) (go_keep)
                ((go_at_call 10; refine (seek_H (unhide HS').drew (unhide HO) s0 (unhide HPP) (unhide HDD) hb c4d hgb g0d g1d hgl).mono ?_; rintro e w3 ⟨rfl, ⟨e3, e5, e6⟩, HM⟩))
              all_goals
                go_wp2_with fail
                go_meet
                case rel => exact ⟨rfl, unhide HM⟩
            case rest =>
              obtain ⟨rfl, M⟩ := hcut
              obtain ⟨Y, hY⟩ : ∃ Y, Y = wc := ⟨_, rfl⟩
              rw [← hY] at M ⊢
              clear hY
              obtain ⟨g', cap7, e7, hgl', ⟨-, -, -, -, -, y5⟩, yf⟩ := M.at (unhide HO)
              simp only [Value.slice.injEq, Option.some.injEq, Addr.mk.injEq] at e7
              obtain ⟨⟨rfl, -, -⟩, -, -⟩ := e7
              have A3 := (unhide HA1).below hb M.be
              have y4 := A3.c4
              have yf5 := yf (r * 6 + 5)
              have hE : HW h h w (Y.setCell ⟨g, r * 6 + 5, none⟩ (I s)) (es'.set r { o with s := s }) (.slice (some ⟨g, 0, none⟩) n cap6) (es'.set r { o with s := s }) := by
                have hM : HW h h w Y (es'.set r { o with s := s }) (.slice (some ⟨g, 0, none⟩) es'.length cap6) es' := by rw [unhide HN]; exact M
                have := hM.pos (unhide HO) s
                rw [unhide HN] at this
                exact this
              have HE := hide hE
              have HLL : Hid ((es'.set r { o with s := s }).length ≤ k + 1) := by show _ ≤ _; rw [List.length_set, unhide HN]; omega
              clear hE A3 M yf g0 g1 g5 g0d g1d c4d c4 gf5
              generalize es'.set r { o with s := s } = es3 at *
              go_wp2_with fail
              go_roundw
              case rel => exact ⟨k + 1, es3, by go_num, by omega, by omega, unhide HLL, unhide HE⟩
              case measure => simp [intOf]; omega
          · go_wp2_with fail
            go_roundw
            case rel => exact ⟨k + 1, es', by go_num, by omega, by omega, by rw [unhide HN]; omega, unhide HS'⟩
            case measure => simp [intOf]; omega
      · have HS := hide S
        clear S
        by_cases hkl2 : k < len
        · obtain rfl : k = 60 := by omega
          have j1 : (60 : Int) < (len : Int) := by omega
          clear hc
          go_wp2_with fail
          go_meet
          case rel => exact ⟨_, hel, unhide HS⟩
        · obtain rfl : k = len := by omega
          clear hc
          go_wp2_with fail
          go_meet
          case rel => exact ⟨_, by omega, unhide HS⟩
  case rest =>
  obtain ⟨es, hel, S⟩ := hcut
  obtain ⟨a5, cap5, rfl⟩ := S.form
  clear HS HA
  obtain ⟨n, hn⟩ : ∃ n, es.length = n := ⟨_, rfl⟩
  rw [hn] at S ⊢
  have HN := hide hn
  have HS := hide S
  have hn60 : n ≤ 60 := by rw [← hn]; exact hel
  clear S hn hel
  go_wp2_with fail
  go_loopw [11, 12] (fun v i wr => ∃ j : Nat, i = I j ∧ j ≤ n ∧ v = I ((es.take j).countP (isMt 1)) ∧ HW h h w wr es (.slice a5 n cap5) es) (fun _ i _ => n - (intOf i).toNat)
  case atStart => exact ⟨0, rfl, Nat.zero_le _, by simp, unhide HS⟩
  case round =>
    clear HS
    obtain ⟨j, rfl, hj, rfl, S⟩ := hrel
    by_cases hjn : j < n
    · have j1 : (j : Int) < (n : Int) := by omega
      have j0 : (0 : Int) ≤ (j : Int) := by omega
      obtain ⟨o, ho⟩ : ∃ o, es[j]? = some o := ⟨_, List.getElem?_eq_getElem (by rw [unhide HN]; exact hjn)⟩
      obtain ⟨g, cap7, e7, hgl, ⟨g0, g1, g2, g3, g4, g5⟩, -⟩ := S.at ho
      simp only [Value.slice.injEq] at e7
      obtain ⟨rfl, -, -⟩ := e7
      have hs := take_cnt (P := isMt 1) ho
      have hle := cnt_le es (isMt 1) j
      have hmt : isMt 1 o = (o.m == 1) := rfl
      rw [hmt] at hs
      have HPD := hide (And.intro (rfl : o.p = o.p) (rfl : o.d = o.d))
      obtain ⟨pp, hpp⟩ : ∃ pp, o.p = pp := ⟨_, rfl⟩
      obtain ⟨dd, hdd⟩ : ∃ dd, o.d = dd := ⟨_, rfl⟩
      obtain ⟨mm, hmm⟩ : ∃ mm, o.m = mm := ⟨_, rfl⟩
      obtain ⟨nn, hnn⟩ : ∃ nn, o.n = nn := ⟨_, rfl⟩
      obtain ⟨ff, hff⟩ : ∃ ff, o.f = ff := ⟨_, rfl⟩
      obtain ⟨ss, hss⟩ : ∃ ss, o.s = ss := ⟨_, rfl⟩
      rw [hpp] at g0
      rw [hdd] at g1
      rw [hmm] at g2 hs
      rw [hnn] at g3
      rw [hff] at g4
      rw [hss] at g5
      have HOO := hide (And.intro hpp (And.intro hdd (And.intro hmm (And.intro hnn (And.intro hff hss)))))
      generalize hq : (es.take j).countP (isMt 1) = q at *
      have HSC := hide hs
      have HO := hide ho
      have HS := hide S
      clear hs hmt hpp hdd hmm hnn hff hss HPD ho S hq
      have g0d : wr.drew.cell? ⟨g, j * 6, none⟩ = some (I pp) := g0
      have g1d : wr.drew.cell? ⟨g, j * 6 + 1, none⟩ = some (I dd) := g1
      go_upto_region 25 with fail
      go_cut [13, 14] from 129 to 143 (fun s1 s2 wd => ∃ y : Nat, s1 = .pointer (some ⟨y, 0, none⟩) ∧ s2 = I 0 ∧ wd.heap[y]? = some (.cells #[I mm, I nn, I ff, I ss] 34) ∧ Below wr.heap.size wr wd)
      case first =>
        go_region_held3 (fun w' => w'.cell? ⟨g, j * 6, none⟩ = some (I pp) ∧ w'.cell? ⟨g, j * 6 + 1, none⟩ = some (I dd)) (go_keep)
          (first
            | (go_at_call 11; refine (get_HA (W := wr.drew) (unhide HS).drew wr.heap.size rfl (unhide HO) (unhide HOO).1 (unhide HOO).2.1 (unhide HOO).2.2.1 (unhide HOO).2.2.2.1 (unhide HOO).2.2.2.2.1 (unhide HOO).2.2.2.2.2 g0d g1d hgl).mono ?_; rintro e w' ⟨rfl, ⟨z1, z2⟩, X1, X2, X3, X4, ⟨x1, x2, x3, x4⟩, ⟨t1, t2, t3, t4⟩, ⟨f1, f2, f3, f4⟩, ⟨z9, z0⟩, HB7⟩)
            | (go_at_call 11; refine (get_H (W := wr.drew) (unhide HS).drew (unhide HO) (unhide HOO).1 (unhide HOO).2.1 (unhide HOO).2.2.1 (unhide HOO).2.2.2.1 (unhide HOO).2.2.2.2.1 (unhide HOO).2.2.2.2.2 g0d g1d hgl).mono ?_; rintro e w' ⟨rfl, ⟨z1, z2⟩, HB7⟩))
        all_goals
          go_wp2_with fail
          go_meet
          case rel => first
            | exact ⟨_, rfl, rfl, putAll _ _ rfl, (below_undrew (unhide HB7)).alloc (below_undrew (unhide HB7)).size _⟩
            | exact ⟨_, rfl, rfl, (unhide HB7).1, below_undrew (unhide HB7).2⟩
      case rest =>
        obtain ⟨y, rfl, rfl, hy, hB⟩ := hcut
        obtain ⟨T, hT⟩ : ∃ T, T = wc := ⟨_, rfl⟩
        rw [← hT] at hy hB ⊢
        clear hT
        have hgT := hB.block g hgl
        have k2 := (World.cell?_of_block (a := ⟨g, j * 6 + 2, none⟩) hgT).trans g2
        have k3 := (World.cell?_of_block (a := ⟨g, j * 6 + 3, none⟩) hgT).trans g3
        have k4 := (World.cell?_of_block (a := ⟨g, j * 6 + 4, none⟩) hgT).trans g4
        have k5 := (World.cell?_of_block (a := ⟨g, j * 6 + 5, none⟩) hgT).trans g5
        obtain ⟨y0, y1, y2, y3⟩ := cells4 hy
        have HST := hide ((unhide HS).below hB)
        clear hy hB hgT g0 g1 g2 g3 g4 g5 g0d g1d HS
        go_wp2_with fail
        go_quiet (fail)
        have HSN := hide ((unhide HST).below (below_dn (Below.refl _ _) nq))
        have k2n : (T.drewN nq).cell? ⟨g, j * 6 + 2, none⟩ = some (I mm) := k2
        clear HST
        generalize T.drewN nq = T2 at *
        clear k2 k3 k4 k5 y0 y1 y2 y3
        cases hm1 : (mm == 1)
        · have hsc := unhide HSC
          rw [hm1] at hsc
          have HQ := hide hsc
          clear hsc
          go_wp2_with fail
          go_roundw
          case rel => exact ⟨j + 1, by go_num, by omega, by rw [unhide HQ]; simp, unhide HSN⟩
          case measure => simp [intOf]; omega
        · have hsc := unhide HSC
          rw [hm1] at hsc
          have HQ := hide hsc
          clear hsc
          go_wp2_with fail
          go_roundw
          case rel => exact ⟨j + 1, by go_num, by omega, by rw [unhide HQ]; simp, unhide HSN⟩
          case measure => simp [intOf]; omega
    · obtain rfl : j = n := by omega
      have et : es.take j = es := by rw [← unhide HN]; exact List.take_length
      rw [et]
      have HT := hide S.tb
      have HB := hide S.be
      have hsz := S.sz
      obtain ⟨c1, hc1⟩ : ∃ c, es.countP (isMt 1) = c := ⟨_, rfl⟩
      rw [hc1]
      have HC1 := hide hc1
      clear S et hc1
      go_wp2_with fail
      refine (count_any h 64 j es wr (unhide HT) (unhide HN)).mono ?_
      rintro e v1 ⟨rfl, hv1⟩
      rw [hv1]
      clear hv1 v1
      go_wp2_with fail
      refine (in_k (m := 1) (unhide HT) (unhide HC1)).mono ?_
      rintro e v2 ⟨rfl, hB2⟩
      have HB2 := hide ((unhide HB).trans (hB2.mono hsz))
      have hsz2 : h ≤ v2.heap.size := Nat.le_trans hsz hB2.size
      clear hB2
      go_wp2_with fail
      refine (unhide HK v2).mono ?_
      rintro e v3 ⟨rfl, hB3⟩
      have HF := hide ((unhide HB2).trans (hB3.mono hsz2))
      clear hB3
      go_wp2_with fail
      go_ret
      exact ⟨rfl, by rw [hh]; exact unhide HF⟩
end Go.Proofs.Ytocaonbmijmbmaa
