/-
  The document's own tree: out.
-/
import Derived.Test.YtlngeaacjbdmhaaGreatQp18
import Derived.Deep.RegionHeld3
import Derived.WalkKit
import Derived.Test.YtlngeaacjbdmhaaGreatRows
import Derived.WalkSpells
import Derived.Deep.DrawnRows
import Derived.Deep.QuietTactic
import Derived.BigQuiet
import Derived.Deep.OwnRows
import Derived.Laws.CopyOwn
import Derived.ArgAppend
import Derived.Test.YtlngeaacjbdmhaaGreatQp06
import Derived.Shelf.Abstract
import Derived.Shelf.RegionOpen
import Derived.OwnWalkIn
import Derived.TacticsInMore
import Derived.LoopNIn
import Derived.LoopIn
namespace Go.Proofs.YtlngeaacjbdmhaaGreat.Rf
open Go.RowKit Go.Maps
attribute [local go_sem ↓] Go.wp_at_zero Go.wp_at_succ
section
variable {lo N : Nat} {W W' : World} {r : Nat} {T : Tr} {p : Nat} {Lv : Value} {nb : Int → Nat} {ev : Int → Value} {uv : Int → Int} {B : Nat}
set_option maxRecDepth 100000 in
set_option maxHeartbeats 4000000 in
theorem out_any (h : DtI lo N W r T p Lv nb ev uv) (hw : Wk B T) (hB : B ≤ 890) (dir n : Int) (s : ByteArray) (x y : Nd) (hx : T.nd dir = some x) (hy : T.nd n = some y) (hne : dir ≠ n) (hn1 : n ≠ 1) (hs : getE x.ins s = some n) (hnm : 1 ≤ y.names) (hp : T.pool.fs.length ≤ 1000000) (hd : (kl dir).wf = true) :
    Calls Tryz.prog 132 #[P0 r, I dir, .string s] W fun e w' => e = .returned (.tuple #[]) ∧ Outd lo N W w' r T p Lv nb uv dir s n y := by
  have HA := hide (at_any h hw (by omega) dir hd (P0 (nb dir)) (by rw [atV, hx]))
  obtain ⟨hb, hr⟩ := h.hn dir x hx
  have hl := (hw.bnd dir x hx).2.2
  have hsr := hw.srt dir x hx
  have hat := (hsr.at_pos s).2 n hs
  obtain ⟨k, hk⟩ : ∃ k, k = pos x.ins s := ⟨_, rfl⟩
  rw [← hk] at hat
  have hkl := (List.getElem?_eq_some_iff.1 hat).1
  have HFi := hide (find_any hb hr hsr (by omega) s (k : Int) (idx_at hsr hat).1)
  obtain ⟨-, -, -, -, -, -, -, -, c8, -, -, -, -, -⟩ := dcells hb
  obtain ⟨g, cap, cur, hev, hgb, hgg, hcap, hcm, -, hce⟩ := own_open hr (by omega)
  rw [hev] at hr c8
  obtain ⟨-, q1⟩ := rows_at x.ins k s n hat
  have c1 := hce _ _ q1
  have hlt := lt_of_heap hb
  have hcm2 : cap ≤ 9223372036854775807 := by unfold maxLen at hcm; omega
  obtain ⟨p2, hp2⟩ : ∃ p2 : Addr, (if cap = k + 1 then some (⟨g, 0, none⟩ : Addr) else some ⟨g, (k + 1) * 2, none⟩) = some p2 := by
    by_cases hc : cap = k + 1
    · exact ⟨⟨g, 0, none⟩, by simp [hc]⟩
    · exact ⟨⟨g, (k + 1) * 2, none⟩, by simp [hc]⟩
  obtain ⟨v1, v2, W1, W2, r1, r2, own3, bl2, bl1⟩ := erase_run W g cap x.ins.length k x.ins hr rfl hkl (by omega) p2 (by
    intro hlt
    by_cases hc : cap = k + 1
    · omega
    · simp [hc] at hp2; exact hp2.symm)
  have hdel : x.ins.take k ++ x.ins.drop (k + 1) = delE x.ins s := by rw [hk]; rfl
  rw [hdel] at own3
  have yb := (bl2.block (nb dir) hlt).trans hb
  have hb3 := heap_set yb 8 v2
  have hFY : Fr [nb dir] W (W2.setCell ⟨nb dir, 8, none⟩ v2) := (Fr.of_below bl2).set (a := ⟨nb dir, 8, none⟩) (by simp) _
  have hlo := h.bd.2.1
  obtain ⟨Y, hY⟩ : ∃ Y, W2.setCell ⟨nb dir, 8, none⟩ v2 = Y := ⟨_, rfl⟩
  rw [hY] at hb3 hFY
  obtain ⟨X, hX, HC, t10, tf10, t1, t9, tf9, E1, E2⟩ := out_end (s := s) (V := Y) (v2 := v2) h hw hB hx hy hne hn1 hs hnm hp hFY (by rw [hb3]; simp [dnC, nm1]) (own_base (own3.keep fun j cu e => by
    rw [← hY]
    exact Below.heap_setCell _ _ _ _ (by
      rintro rfl
      rw [yb] at e
      simp at e)) hlo)
  have d1 : W1.cell? ⟨nb dir, 8, none⟩ = some (.slice (some ⟨g, 0, none⟩) x.ins.length cap) := (World.cell?_of_block (a := ⟨nb dir, 8, none⟩) (bl1.block _ hlt)).trans c8
  have z0 : W2.cell? ⟨nb dir, 8, none⟩ = some (.slice (some ⟨g, 0, none⟩) x.ins.length cap) := (World.cell?_of_block (a := ⟨nb dir, 8, none⟩) (bl2.block _ hlt)).trans c8
  have zf : W2.frozen? ⟨nb dir, 8, none⟩ = false := frozen_of yb 8
  have dx : (W.alloc (.cells #[] 218)).cell? ⟨nb dir, 8, none⟩ = some (.slice (some ⟨g, 0, none⟩) x.ins.length cap) := (World.cell?_alloc_past _ _ _ hlt).trans c8
  obtain ⟨a2, cp2, hv2⟩ := own_form own3
  subst hv2
  have tb : (y.names : Int) ≤ 900 := by have := (hw.bnd n y hy).1; omega
  have tb2 : (1 : Int) ≤ (y.names : Int) := by omega
  have hle : x.ins.length ≤ 900 := by omega
  clear h hw hx hy own3 hb3 hFY hb hr hev hgg hce q1 yb bl1 bl2 hdel hs hat hsr hlo hp hnm hk hcm hl
  generalize nb dir = b at *
  generalize nb n = c at *
  generalize (y.names : Int) = q at *
  generalize (delE x.ins s).length = m2 at *
  generalize x.ins.length = ml at *
  have j0 : (0 : Int) ≤ (k : Int) := by omega
  have j1 : (k : Int) < (ml : Int) := by omega
  have j2 : ((k : Int) < 0) = False := by simp
  have j4 : k ≤ cap := by omega
  go_enter Tryz.func132, Tryz.ntmps132
  go_wp2_with fail
  refine (unhide HA).mono ?_
  rintro e w1 ⟨rfl, hw1⟩
  rw [hw1]
  clear hw1
  go_wp2_with fail
  refine (unhide HFi).mono ?_
  rintro e w2 ⟨rfl, hw1⟩
  rw [hw1]
  clear hw1
  go_wp2_with fail
  generalize hK1 : k + 1 = K1 at *
  have HK1 := hide hK1
  have e1 : (k : Int) + 1 = (K1 : Int) := by omega
  have e2 : IntKind.i64.wrap ((k : Int) + 1) = (K1 : Int) := by rw [e1, IntKind.wrap_i64]; omega
  have e3 : IntKind.i64.wrap (K1 : Int) = (K1 : Int) := by rw [IntKind.wrap_i64]; omega
  have n0 : (k : Int) ≤ (cap : Int) := by omega
  have n2 : (0 : Int) ≤ (K1 : Int) := by omega
  have n3 : (K1 : Int) ≤ (ml : Int) := by omega
  have n4 : (ml : Int) ≤ (cap : Int) := by omega
  clear hK1 c1
  by_cases hlc2 : cap = K1
  · rw [if_pos hlc2] at hp2
    simp only [Option.some.injEq] at hp2
    subst hp2
    obtain rfl : ml = K1 := by omega
    subst hlc2
    simp only [Nat.sub_self] at r2
    go_region_law (first
        | (refine step_app_eq (by rfl) _ _ 137 (by rfl) 137 (by rfl) _ _ (by simp [Act.eval, Act.put]) (by simp [Act.eval, Act.put]) _ _ r1 ?_)
        | (refine step_app_eq (by rfl) _ _ 137 (by rfl) 137 (by rfl) _ _ (by simp [Act.eval, Act.put]) (by simp [Act.eval, Act.put]) _ _ r2 ?_))
    all_goals
      go_wp2_with fail
      refine (unhide HC).mono ?_
      rintro e w3 ⟨rfl, hw3⟩
      rw [hw3]
      clear hw3
      by_cases hkd : y.kind = 1
      · rw [hkd] at t1
        go_wp2_with fail
        refine (unhide E2 hkd).mono ?_
        rintro e w4 ⟨rfl, hO⟩
        go_wp2_with fail
        go_end0
        exact ⟨rfl, hO⟩
      · have hkb : (y.kind == 1) = false := by simpa using hkd
        go_wp2_with fail
        refine (unhide E1 hkd).mono ?_
        rintro e w4 ⟨rfl, hO⟩
        go_wp2_with fail
        go_end0
        exact ⟨rfl, hO⟩
  · rw [if_neg hlc2] at hp2
    simp only [Option.some.injEq] at hp2
    subst hp2
    have hlc3 : ¬ K1 = cap := fun e => hlc2 e.symm
    go_region_law (first
        | (refine step_app_eq (by rfl) _ _ 137 (by rfl) 137 (by rfl) _ _ (by simp [Act.eval, Act.put]) (by simp [Act.eval, Act.put]) _ _ r1 ?_)
        | (refine step_app_eq (by rfl) _ _ 137 (by rfl) 137 (by rfl) _ _ (by simp [Act.eval, Act.put]) (by simp [Act.eval, Act.put]) _ _ r2 ?_))
    all_goals
      go_wp2_with fail
      refine (unhide HC).mono ?_
      rintro e w3 ⟨rfl, hw3⟩
      rw [hw3]
      clear hw3
      by_cases hkd : y.kind = 1
      · rw [hkd] at t1
        go_wp2_with fail
        refine (unhide E2 hkd).mono ?_
        rintro e w4 ⟨rfl, hO⟩
        go_wp2_with fail
        go_end0
        exact ⟨rfl, hO⟩
      · have hkb : (y.kind == 1) = false := by simpa using hkd
        go_wp2_with fail
        refine (unhide E1 hkd).mono ?_
        rintro e w4 ⟨rfl, hO⟩
        go_wp2_with fail
        go_end0
        exact ⟨rfl, hO⟩
end
end Go.Proofs.YtlngeaacjbdmhaaGreat.Rf

namespace Go.Proofs.YtlngeaacjbdmhaaGreat.Rf
open Go.RowKit Go.Maps
attribute [local go_sem ↓] Go.wp_at_zero Go.wp_at_succ
section
variable {lo N : Nat} {W W' : World} {r : Nat} {T : Tr} {p : Nat} {Lv : Value} {nb : Int → Nat} {ev : Int → Value} {uv : Int → Int} {B : Nat}
def upV (T : Tr) (uv : Int → Int) (n : Int) : Int := match T.dir n with | some _ => uv n | none => 0
set_option maxHeartbeats 1000000 in
theorem dUp_any (h : DtI lo N W r T p Lv nb ev uv) (hw : Wk B T) (hB : B ≤ 900) (n : Int) (hn : (kl n).wf = true) :
    Calls Tryz.prog 90 #[P0 r, I n] W fun e w' => e = .returned (I (upV T uv n)) ∧ w' = W := by
  cases hx : T.dir n with
  | none =>
    have e : upV T uv n = 0 := by simp [upV, hx]
    rw [e]
    have HA := hide (dir_any h hw hB n hn (.pointer none) (by rw [dirV, hx]))
    clear h hw hx e
    go_enter Tryz.func90, Tryz.ntmps90
    go_wp2_with fail
    refine (unhide HA).mono ?_
    rintro e w1 ⟨rfl, rfl⟩
    go_wp2_with fail
    go_ret
    exact ⟨rfl, rfl⟩
  | some x =>
    have e : upV T uv n = uv n := by simp [upV, hx]
    rw [e]
    have HA := hide (dir_any h hw hB n hn (P0 (nb n)) (by rw [dirV, hx]))
    obtain ⟨-, -, -, -, -, -, -, -, -, c9, -⟩ := dcells (h.hn n x (Tr.dir_some.1 hx).1).1
    generalize nb n = b at *
    generalize uv n = u at *
    clear h hw hx e
    go_enter Tryz.func90, Tryz.ntmps90
    go_wp2_with fail
    refine (unhide HA).mono ?_
    rintro e w1 ⟨rfl, rfl⟩
    go_wp2_with fail
    go_ret
    exact ⟨rfl, rfl⟩
set_option maxHeartbeats 1000000 in
theorem dText_any (h : DtI lo N W r T p Lv nb ev uv) (hw : Wk B T) (hB : B ≤ 900) (n : Int) (hn : (kl n).wf = true) :
    Calls Tryz.prog 91 #[P0 r, I n] W fun e w' => e = .returned (.string (T.textOf n)) ∧ w' = W := by
  cases hx : T.nd n with
  | none =>
    have e : T.textOf n = ⟨#[]⟩ := by simp [Tr.textOf, hx]
    rw [e]
    have HA := hide (at_any h hw hB n hn (.pointer none) (by rw [atV, hx]))
    clear h hw hx e
    go_enter Tryz.func91, Tryz.ntmps91
    go_wp2_with fail
    refine (unhide HA).mono ?_
    rintro e w1 ⟨rfl, rfl⟩
    go_wp2_with fail
    go_ret
    exact ⟨rfl, rfl⟩
  | some x =>
    have e : T.textOf n = x.text := by simp [Tr.textOf, hx]
    rw [e]
    have HA := hide (at_any h hw hB n hn (P0 (nb n)) (by rw [atV, hx]))
    obtain ⟨-, -, -, -, -, -, -, c7, -⟩ := dcells (h.hn n x hx).1
    generalize nb n = b at *
    clear h hw hx e
    go_enter Tryz.func91, Tryz.ntmps91
    go_wp2_with fail
    refine (unhide HA).mono ?_
    rintro e w1 ⟨rfl, rfl⟩
    go_wp2_with fail
    go_ret
    exact ⟨rfl, rfl⟩
end
end Go.Proofs.YtlngeaacjbdmhaaGreat.Rf

namespace Go.Proofs.YtlngeaacjbdmhaaGreat.Rf
open Go.RowKit Go.Maps
attribute [local go_sem ↓] Go.wp_at_zero Go.wp_at_succ
theorem inf3 : (Tryz.prog.info? 3).map (fun i => (i.zero, i.size, i.bytes)) = some (some (.int .i64 0), 1, 8) := by kernel_rfl
def lvs (T : Tr) (j : Nat) : List Int := ((List.range j).filter fun i : Nat => (T.nd ((i : Int) + 1)).isSome).map fun i : Nat => (i : Int) + 1
theorem lvs_yes {T : Tr} {k : Nat} (h : (T.nd ((k : Int) + 1)).isSome = true) : lvs T (k + 1) = lvs T k ++ [(k : Int) + 1] := by
  rw [lvs, lvs, List.range_succ, List.filter_append, List.map_append]
  simp [h]
theorem lvs_no {T : Tr} {k : Nat} (h : (T.nd ((k : Int) + 1)).isSome = false) : lvs T (k + 1) = lvs T k := by
  rw [lvs, lvs, List.range_succ, List.filter_append, List.map_append]
  simp [h]
theorem lvs_len (T : Tr) (k : Nat) : (lvs T k).length ≤ k := by
  have := List.length_filter_le (fun i => (T.nd (((i : Nat) : Int) + 1)).isSome) (List.range k)
  simp [lvs] at this ⊢
  omega
theorem lvs_cnt {B : Nat} {T : Tr} (hw : Wk B T) : ∀ k, (lvs T k).length = cnt (k + 1) fun i => (T.nd (i : Int)).isSome
  | 0 => by
    have : T.nd ((0 : Nat) : Int) = none := by
      cases h : T.nd ((0 : Nat) : Int) with
      | none => rfl
      | some x => have := hw.key _ x h; omega
    rw [cnt_succ, this]
    simp [lvs, cnt]
  | k + 1 => by
    rw [cnt_succ, ← lvs_cnt hw k]
    cases h : (T.nd ((k : Int) + 1)).isSome with
    | true => rw [lvs_yes h]; simp [h]
    | false => rw [lvs_no h]; simp [h]
theorem lvs_live {B : Nat} {T : Tr} (hw : Wk B T) : (lvs T T.made).length = T.live := lvs_cnt hw T.made
section
variable {lo N : Nat} {W W' : World} {r : Nat} {T : Tr} {p : Nat} {Lv : Value} {nb : Int → Nat} {ev : Int → Value} {uv : Int → Int} {B : Nat}
set_option maxRecDepth 100000 in
set_option maxHeartbeats 1000000 in
theorem dLive_any (h : DtI lo N W r T p Lv nb ev uv) (hm : T.made ≤ 900) :
    Calls Tryz.prog 85 #[P0 r] W fun e w' => ∃ v, e = .returned v ∧ w'.ownsRow W.heap.size 3 1 v (lvs T T.made).length ((lvs T T.made).map I) ∧ Below W.heap.size W w' := by
  obtain ⟨i0, hi, hz0, hz1, hz2⟩ := info_parts inf3
  obtain ⟨-, -, c2, -⟩ := h.cells
  have hlt := lt_of_heap h.ht
  obtain ⟨M, hM⟩ : ∃ M, M = T.made := ⟨_, rfl⟩
  have hc : ∃ a cap, Lv = .slice a M cap ∧ ∀ k, k < M → ∃ g, a = some ⟨g, 0, none⟩ ∧ g < W.heap.size ∧ W.cell? ⟨g, k, none⟩ = some (ptrV T nb k) := by
    obtain ⟨a, cap, hLv⟩ := own_form h.hL
    refine ⟨a, cap, by rw [hLv, hM], fun k hk => ?_⟩
    obtain ⟨g, cap', cur, e1, -, hg, -, -, -, hcell⟩ := own_open h.hL (by omega)
    rw [hLv] at e1
    simp only [Value.slice.injEq] at e1
    exact ⟨g, e1.1, lt_of_heap hg, hcell k _ (dptrs_get T nb (by omega))⟩
  obtain ⟨a, cap, rfl, hc⟩ := hc
  rw [← hM] at hm ⊢
  have HC := hide hc
  clear h hM hc
  go_enter Tryz.func85, Tryz.ntmps85
  go_wp2_with fail
  go_loopw [3, 4] (fun vo v wr => ∃ k : Nat, v = I k ∧ k ≤ M ∧ wr.ownsRow W.heap.size 3 1 vo (lvs T k).length ((lvs T k).map I) ∧ Below W.heap.size W wr) (fun _ v _ => M - (intOf v).toNat)
  case atStart => exact ⟨0, rfl, by omega, by simp [lvs]; exact World.ownsRow_nil _ _ _ _, Below.refl _ _⟩
  case round =>
    obtain ⟨k, rfl, hk, own, hbr⟩ := hrel
    have b2 : wr.cell? ⟨r, 2, none⟩ = some (.slice a M cap) := (World.cell?_of_block (a := ⟨r, 2, none⟩) (hbr.block r hlt)).trans c2
    have hs4 := hbr.size
    by_cases hkn : k < M
    · obtain ⟨g, rfl, hgl, hcl⟩ := unhide HC k hkn
      have bc : wr.cell? ⟨g, k, none⟩ = some (ptrV T nb k) := (World.cell?_of_block (a := ⟨g, k, none⟩) (hbr.block g hgl)).trans hcl
      have j1 : (k : Int) < (M : Int) := by omega
      have j0 : (0 : Int) ≤ (k : Int) := by omega
      have j9 : (k : Int) ≤ 900 := by omega
      have hil := lvs_len T k
      cases hP : (T.nd ((k : Int) + 1)).isSome with
      | true =>
        have own5 := own_keep (W' := wr.alloc (.cells #[I ((k : Int) + 1)] 3)) own (fun k cur hc => Below.heap_alloc wr _ _ (lt_of_heap hc))
        obtain ⟨v', W5, hrun, own6, hgr, -, -⟩ := run_append_own_at (P := Tryz.prog) (wr.alloc (.cells #[I ((k : Int) + 1)] 3)) W.heap.size 72 72 3 i0 (I 0) 1 8 Tryz.underlying72 hi hz0 hz1 hz2 rfl (by decide) _ _ _ own5 ⟨wr.heap.size, 0, none⟩ 1 1 [I ((k : Int) + 1)] rfl (cell_one_new wr _ _) (by intro u hu; simp at hu; subst hu; rfl) (by unfold maxLen; omega) (by omega) (by simp; omega)
        have hb5 := below_grown (hbr.alloc hbr.size _) own5 hgr (by simp; omega)
        have HREL := hide (⟨k + 1, by go_num, by omega, by rw [lvs_yes hP, List.length_append, List.map_append]; simpa using own6, hb5⟩ : ∃ k' : Nat, I ((k : Int) + 1) = I (k' : Int) ∧ k' ≤ M ∧ W5.ownsRow W.heap.size 3 1 v' (lvs T k').length ((lvs T k').map I) ∧ Below W.heap.size W W5)
        obtain ⟨q', cp, rfl⟩ := own_form own6
        rw [ptrV, if_pos hP] at bc
        clear own own5 own6 hgr hb5 hil hcl
        go_wp2_with (at_builtin; refine wpList_append_eq rfl _ _ 72 rfl 72 rfl _ _ rfl rfl _ _ hrun ?_)
        go_roundw
        case rel => exact unhide HREL
        case measure => simp [intOf]; omega
      | false =>
        have HREL := hide (⟨k + 1, by go_num, by omega, by rw [lvs_no hP]; exact own, hbr⟩ : ∃ k' : Nat, I ((k : Int) + 1) = I (k' : Int) ∧ k' ≤ M ∧ wr.ownsRow W.heap.size 3 1 _ (lvs T k').length ((lvs T k').map I) ∧ Below W.heap.size W wr)
        rw [ptrV, if_neg (by simp [hP])] at bc
        clear own hil hcl
        go_wp2_with fail
        go_roundw
        case rel => exact unhide HREL
        case measure => simp [intOf]; omega
    · obtain rfl : k = M := by omega
      have HO := hide own
      have HB := hide hbr
      clear own hbr
      go_wp2_with fail
      go_ret
      exact ⟨_, rfl, unhide HO, unhide HB⟩
set_option maxHeartbeats 1000000 in
theorem dLeft_any (h : DtI lo N W r T p Lv nb ev uv) (hw : Wk B T) (hB : B ≤ 900) (hM : T.most ≤ 100000) :
    Calls Tryz.prog 87 #[P0 r] W fun e w' => e = .returned (I T.left) ∧ Below W.heap.size W w' := by
  obtain ⟨c0, -⟩ := h.cells
  have hlt := lt_of_heap h.ht
  have hmd := hw.made
  have HL : Hid (Calls Tryz.prog 85 #[P0 r] W.drew fun e w' => ∃ a cap, e = .returned (.slice a (lvs T T.made).length cap) ∧ w'.cell? ⟨r, 0, none⟩ = some (I (T.most : Int)) ∧ Hid (Below W.heap.size W w')) := by
    refine hide ((dLive_any (h.below (W' := W.drew) (below_drew (Below.refl _ W))) (by omega)).mono ?_)
    rintro e w1 ⟨v, rfl, own, hb⟩
    obtain ⟨a, cap, rfl⟩ := own_form own
    have hb2 : Below W.heap.size W w1 := (below_drew (Below.refl _ W)).trans hb
    exact ⟨a, cap, rfl, (World.cell?_of_block (a := ⟨r, 0, none⟩) (hb2.block r hlt)).trans c0, hide hb2⟩
  have hll := lvs_live hw
  have hln := lvs_len T T.made
  rw [Tr.left, ← hll]
  generalize (lvs T T.made).length = L at *
  generalize T.most = Mo at *
  have k1 : (L : Int) ≤ 900 := by omega
  have k2 : (Mo : Int) ≤ 100000 := by omega
  have k3 : IntKind.i64.wrap ((Mo : Int) - (L : Int)) = (Mo : Int) - (L : Int) := by rw [IntKind.wrap_i64]; omega
  clear h hw hll
  go_enter Tryz.func87, Tryz.ntmps87
  go_wp2_with fail
  go_region_held3 (fun w' => w'.cell? ⟨r, 0, none⟩ = some (I (Mo : Int))) (go_keep) ((go_at_call 85; refine (unhide HL).mono ?_; rintro e w2 ⟨a, cap, rfl, q0, HB⟩))
  go_wp2_with fail
  go_ret
  exact ⟨rfl, unhide HB⟩
end
end Go.Proofs.YtlngeaacjbdmhaaGreat.Rf

namespace Go.Proofs.YtlngeaacjbdmhaaGreat.Nm
def split : List UInt8 → List (List UInt8)
  | [] => [[]]
  | c :: r => if c = 47 then [] :: split r else match split r with
    | [] => [[c]]
    | h :: t => (c :: h) :: t
def parts (l : List UInt8) : List (List UInt8) := (split l).filter fun p => !p.isEmpty
def piece (l : List UInt8) : List (List UInt8) := if l = [] then [] else [l]
def before (l : List UInt8) : List UInt8 := l.takeWhile fun c => c != 47
def behind (l : List UInt8) : List UInt8 := (l.dropWhile fun c => c != 47).drop 1
theorem split_ne (l : List UInt8) : split l ≠ [] := by
  cases l with
  | nil => simp [split]
  | cons c r =>
    unfold split
    split
    · simp
    · split <;> simp
theorem split_app (a b : List UInt8) : split (a ++ 47 :: b) = split a ++ split b := by
  induction a with
  | nil => simp [split]
  | cons c r ih =>
    simp only [List.cons_append, split]
    split
    · rw [ih]; simp
    · rw [ih]
      cases h : split r with
      | nil => exact absurd h (split_ne r)
      | cons x t => simp
theorem parts_app (a b : List UInt8) : parts (a ++ 47 :: b) = parts a ++ parts b := by
  unfold parts; rw [split_app, List.filter_append]
theorem split_plain {l : List UInt8} (h : (47 : UInt8) ∉ l) : split l = [l] := by
  induction l with
  | nil => rfl
  | cons c r ih =>
    simp only [List.mem_cons, not_or] at h
    simp [split, ih h.2, Ne.symm h.1]
theorem parts_plain {l : List UInt8} (h : (47 : UInt8) ∉ l) : parts l = piece l := by
  unfold parts piece
  rw [split_plain h]
  cases l <;> simp
theorem parts_nil : parts [] = [] := rfl
theorem not_before (l : List UInt8) : (47 : UInt8) ∉ before l := by
  induction l with
  | nil => simp [before]
  | cons c r ih =>
    by_cases hc : c = 47
    · subst hc; simp [before]
    · have e1 : before (c :: r) = c :: before r := by simp [before, hc]
      rw [e1, List.mem_cons, not_or]
      exact ⟨Ne.symm hc, ih⟩
theorem split_at (l : List UInt8) : ((47 : UInt8) ∉ l ∧ before l = l ∧ behind l = []) ∨ l = before l ++ 47 :: behind l := by
  induction l with
  | nil => exact .inl ⟨by simp, rfl, rfl⟩
  | cons c r ih =>
    by_cases hc : c = 47
    · subst hc; exact .inr (by simp [before, behind])
    · have e1 : before (c :: r) = c :: before r := by simp [before, hc]
      have e2 : behind (c :: r) = behind r := by simp [behind, hc]
      rw [e1, e2]
      rcases ih with ⟨h1, h2, h3⟩ | h
      · exact .inl ⟨by simp only [List.mem_cons, not_or]; exact ⟨Ne.symm hc, h1⟩, by rw [h2], h3⟩
      · exact .inr (by rw [List.cons_append, ← h])
theorem parts_cut (l : List UInt8) : parts l = piece (before l) ++ parts (behind l) := by
  rcases split_at l with ⟨h1, h2, h3⟩ | h
  · rw [h2, h3, parts_plain h1]; simp [parts_nil]
  · conv => lhs; rw [h, parts_app, parts_plain (not_before l)]
theorem behind_lt {l : List UInt8} (h : l ≠ []) : (behind l).length < l.length := by
  rcases split_at l with ⟨_, _, h3⟩ | h1
  · rw [h3]; cases l with
    | nil => exact absurd rfl h
    | cons c r => simp
  · conv => rhs; rw [h1]
    simp; omega
theorem behind_le (l : List UInt8) : (behind l).length ≤ l.length := by
  by_cases h : l = []
  · subst h; exact Nat.le_refl _
  · exact Nat.le_of_lt (behind_lt h)
def joinS : List (List UInt8) → List UInt8
  | [] => []
  | p :: r => p ++ (match r with | [] => [] | _ :: _ => 47 :: joinS r)
def pw (root slash : Bool) (ps : List (List UInt8)) : List UInt8 :=
  (if root then [47] else []) ++ joinS ps ++ (if slash && !ps.isEmpty then [47] else [])
def err (l : List UInt8) : Int :=
  if l = [] then 32 else if 4096 < l.length then 45 else if (0 : UInt8) ∈ l then 39 else if (parts l).any (fun p => decide (255 < p.length)) then 45 else 0
def rt (l : List UInt8) : Bool := decide (err l = 0) && ([47] : List UInt8).isPrefixOf l
def sl (l : List UInt8) : Bool := decide (err l = 0) && ([47] : List UInt8).isSuffixOf l
def ps (l : List UInt8) : List (List UInt8) := if err l = 0 then parts l else []
theorem err_of {l : List UInt8} (h1 : l ≠ []) (h2 : l.length ≤ 4096) (h3 : (0 : UInt8) ∉ l) (h4 : ∀ p ∈ parts l, p.length ≤ 255) : err l = 0 := by
  unfold err
  rw [if_neg h1, if_neg (by omega), if_neg h3, if_neg]
  simp only [List.any_eq_true, decide_eq_true_eq, not_exists, not_and]
  intro p hp
  have := h4 p hp
  omega
theorem prefix_cons (c : UInt8) (r : List UInt8) : ([47] : List UInt8).isPrefixOf (c :: r) = (c == 47) := by
  by_cases h : c = 47
  · subst h; rfl
  · have h2 : ((47 : UInt8) == c) = false := by simpa using Ne.symm h
    have h3 : (c == 47) = false := by simpa using h
    rw [h3]; simp [List.isPrefixOf, h2]
theorem suffix_app (a : List UInt8) (c : UInt8) : ([47] : List UInt8).isSuffixOf (a ++ [c]) = (c == 47) := by
  simp only [List.isSuffixOf, List.reverse_append, List.reverse_cons, List.reverse_nil, List.nil_append, List.singleton_append]
  exact prefix_cons c _
theorem suffix_cat (a : List UInt8) {b : List UInt8} (h : b ≠ []) : ([47] : List UInt8).isSuffixOf (a ++ b) = ([47] : List UInt8).isSuffixOf b := by
  obtain ⟨c, x, rfl⟩ : ∃ c x, b = c ++ [x] := ⟨_, _, (List.dropLast_concat_getLast h).symm⟩
  rw [← List.append_assoc, suffix_app, suffix_app]
def wt : List (List UInt8) → Nat
  | [] => 0
  | p :: r => p.length + 1 + wt r
theorem wt_app (a b : List (List UInt8)) : wt (a ++ b) = wt a + wt b := by
  induction a with
  | nil => simp [wt]
  | cons p r ih => simp [wt, ih]; omega
theorem wt_piece (l : List UInt8) : wt (piece l) ≤ l.length + 1 := by unfold piece; split <;> simp [wt]
def ende (l : List UInt8) : Nat := if l = [] ∨ ([47] : List UInt8).isSuffixOf l = true then 0 else 1
theorem wt_parts (n : Nat) : ∀ l : List UInt8, l.length ≤ n → wt (parts l) ≤ l.length + ende l := by
  induction n with
  | zero =>
    intro l h
    have : l = [] := List.length_eq_zero_iff.1 (by omega)
    subst this
    simp [parts_nil, wt]
  | succ n ih =>
    intro l h
    by_cases h0 : l = []
    · subst h0; simp [parts_nil, wt]
    rw [parts_cut, wt_app]
    rcases split_at l with ⟨h1, h2, h3⟩ | h1
    · rw [h2, h3, parts_nil]
      have hw := wt_piece l
      have he : ende l = 1 := by
        unfold ende
        rw [if_neg]
        rintro (h4 | h4)
        · exact h0 h4
        · obtain ⟨a, x, rfl⟩ : ∃ a x, l = a ++ [x] := ⟨_, _, (List.dropLast_concat_getLast h0).symm⟩
          rw [suffix_app] at h4
          simp at h4 h1
          exact h1.2 h4.symm
      rw [he]; simp [wt]; omega
    · have hl := behind_lt h0
      have i1 := ih (behind l) (by omega)
      have hw := wt_piece (before l)
      have e1 : l.length = (before l).length + 1 + (behind l).length := by
        conv => lhs; rw [h1]
        simp; omega
      have e2 : ende l = ende (behind l) := by
        unfold ende
        by_cases hb : behind l = []
        · have h5 : ([47] : List UInt8).isSuffixOf l = true := by
            rw [hb] at h1
            have h6 := suffix_app (before l) 47
            rw [← h1] at h6
            exact h6
          rw [if_pos (.inr h5), if_pos (.inl hb)]
        · have : ([47] : List UInt8).isSuffixOf l = ([47] : List UInt8).isSuffixOf (behind l) := by
            conv => lhs; rw [h1]
            rw [suffix_cat _ (by simp)]
            have := suffix_cat [47] hb
            simpa using this
          simp only [h0, hb, this, false_or]
      omega
end Go.Proofs.YtlngeaacjbdmhaaGreat.Nm

namespace Go.Proofs.YtlngeaacjbdmhaaGreat.Nm
open Go.RowKit
theorem hide {p : Prop} (h : p) : Hid p := h
theorem unhide {p : Prop} (h : Hid p) : p := h
theorem putAll {w : World} (o : Obj) (h : Nat) (hh : h = w.heap.size) : (w.alloc o).heap[h]? = some o := by
  subst hh; exact heap_alloc_new w o
theorem lt_of_heap {W : World} {k : Nat} {o : Obj} (e : W.heap[k]? = some o) : k < W.heap.size := (Array.getElem?_eq_some_iff.1 e).1
theorem below_dn {B : Nat} {u w : World} (h : Below B u w) (m : Nat) : Below B u (w.drewN m) := ⟨h.os, h.tape, h.output, h.size, h.block⟩
theorem below_drew {B : Nat} {u w : World} (h : Below B u w) : Below B u w.drew := ⟨h.os, h.tape, h.output, h.size, h.block⟩
theorem cell_of {W : World} {b : Nat} {cs : Array Value} {t : TypeId} {f : Nat × Nat} (h : W.heap[b]? = some (.cells cs t f)) (i : Nat) : W.cell? ⟨b, i, none⟩ = cs[i]? := by
  simp [World.cell?, h]
theorem frozen_of {W : World} {b : Nat} {cs : Array Value} {t : TypeId} (h : W.heap[b]? = some (.cells cs t)) (i : Nat) : W.frozen? ⟨b, i, none⟩ = false := by
  simp [World.frozen?, h]
theorem heap_set {W : World} {b : Nat} {cs : Array Value} {t : TypeId} {f : Nat × Nat} (h : W.heap[b]? = some (.cells cs t f)) (i : Nat) (v : Value) :
    (W.setCell ⟨b, i, none⟩ v).heap[b]? = some (.cells (cs.setIfInBounds i v) t f) := by
  obtain ⟨hl, he⟩ := Array.getElem?_eq_some_iff.1 h
  simp [World.setCell, Array.getElem?_modify, h]
theorem own_ne {W : World} {base : Nat} {e : TypeId} {s n k : Nat} {v : Value} {xs : List Value} {o : Obj} (h : W.ownsRow base e s v n xs) (ho : W.heap[k]? = some o) (hne : ∀ cur, o ≠ .cells cur e (0, 0)) : some k ≠ v.ownBlock := by
  obtain ⟨-, ⟨rfl, hz⟩ | ⟨g, cap, cur, rfl, hgb, hgg, hcap, hcm, hcs, htk⟩⟩ := h
  · simp [Value.ownBlock]
  · simp only [Value.ownBlock, ne_eq, Option.some.injEq]
    rintro rfl
    rw [hgg] at ho
    exact hne cur (Option.some.inj ho).symm
theorem own_keep {W W' : World} {base : Nat} {e : TypeId} {s n : Nat} {v : Value} {xs : List Value} (h : W.ownsRow base e s v n xs) (hb : ∀ (k : Nat) (cur : Array Value), W.heap[k]? = some (Obj.cells cur e (0, 0)) → W'.heap[k]? = W.heap[k]?) : W'.ownsRow base e s v n xs := by
  obtain ⟨h0, h1⟩ := h
  refine ⟨h0, ?_⟩
  rcases h1 with h1 | ⟨g, cap, cur, h1, h2, h3, h4⟩
  · exact .inl h1
  · exact .inr ⟨g, cap, cur, h1, h2, (hb g cur h3).trans h3, h4⟩
theorem own_form {W : World} {base : Nat} {e : TypeId} {s n : Nat} {v : Value} {xs : List Value} (h : W.ownsRow base e s v n xs) : ∃ a cap, v = .slice a n cap := by
  obtain ⟨-, ⟨rfl, hz⟩ | ⟨g, cap, cur, rfl, _⟩⟩ := h
  · exact ⟨none, 0, by rw [hz]⟩
  · exact ⟨_, _, rfl⟩
theorem own_open {W : World} {base : Nat} {e : TypeId} {s n : Nat} {v : Value} {xs : List Value} (h : W.ownsRow base e s v n xs) (hn : n ≠ 0) :
    ∃ g cap cur, v = .slice (some ⟨g, 0, none⟩) n cap ∧ base ≤ g ∧ W.heap[g]? = some (.cells cur e) ∧ n ≤ cap ∧ cap ≤ maxLen ∧ cur.size = cap * s ∧ ∀ (j : Nat) (u : Value), xs[j]? = some u → W.cell? ⟨g, j, none⟩ = some u := by
  obtain ⟨hl, ⟨rfl, hz⟩ | ⟨g, cap, cur, rfl, hgb, hgg, hcap, hcm, hcs, htk⟩⟩ := h
  · exact absurd hz hn
  · refine ⟨g, cap, cur, rfl, hgb, hgg, hcap, hcm, hcs, fun j u hj => ?_⟩
    have hj2 := (List.getElem?_eq_some_iff.1 hj).1
    rw [cell_of hgg, ← hj, ← htk, List.getElem?_take_of_lt (by omega)]
    simp
theorem own_base {W : World} {base base' : Nat} {e : TypeId} {s n : Nat} {v : Value} {xs : List Value} (h : W.ownsRow base' e s v n xs) (hb : base ≤ base') : W.ownsRow base e s v n xs := by
  obtain ⟨h0, h1 | ⟨g, cap, cur, h1, h2, h3⟩⟩ := h
  · exact ⟨h0, .inl h1⟩
  · exact ⟨h0, .inr ⟨g, cap, cur, h1, Nat.le_trans hb h2, h3⟩⟩
theorem own_addr {W : World} {base : Nat} {e : TypeId} {s n m cap : Nat} {a : Option Addr} {xs : List Value} (h : W.ownsRow base e s (.slice a m cap) n xs) : ∃ g, (a = none ∧ m = 0 ∧ cap = 0) ∨ a = some ⟨g, 0, none⟩ := by
  obtain ⟨-, ⟨e1, hz⟩ | ⟨g, cap', cur, e1, _⟩⟩ := h
  · simp only [Value.slice.injEq] at e1; obtain ⟨rfl, rfl, rfl⟩ := e1; exact ⟨0, .inl ⟨rfl, rfl, rfl⟩⟩
  · simp only [Value.slice.injEq] at e1; obtain ⟨rfl, rfl, rfl⟩ := e1; exact ⟨g, .inr rfl⟩
theorem below_grown {base : Nat} {w W W' : World} {e : TypeId} {s n : Nat} {v : Value} {xs : List Value} (hB : Below base w W) (h : W.ownsRow base e s v n xs) (g : W.grownBy W' v.ownBlock) (hb : base ≤ W.heap.size) : Below base w W' := by
  refine ⟨g.os.trans hB.os, g.tape.trans hB.tape, g.output.trans hB.output, ?_, ?_⟩
  · have := g.size; have := hB.size; omega
  · intro k hk
    have h1 : some k ≠ v.ownBlock := by
      intro e
      obtain ⟨-, ⟨rfl, _⟩ | ⟨g', cap, cur, rfl, hgb, _⟩⟩ := h
      · simp [Value.ownBlock] at e
      · simp [Value.ownBlock] at e; omega
    rw [g.block k (by omega) h1]
    exact hB.block k hk
theorem info9 : (Tryz.prog.info? 9).map (fun i => (i.zero, i.size, i.bytes)) = some (some (.string ByteArray.empty), 1, 16) := by kernel_rfl
theorem info5 : (Tryz.prog.info? 5).map (fun i => (i.zero, i.size, i.bytes)) = some (some (.int .u8 0), 1, 1) := by kernel_rfl
abbrev bs (l : List UInt8) : ByteArray := ⟨l.toArray⟩
abbrev S (l : List UInt8) : Value := .string (bs l)
abbrev strs (l : List (List UInt8)) : List Value := l.map S
def RowO (W : World) (pa : Option Addr) (kl : List (List UInt8)) : Prop := ∀ (k : Nat) (s : List UInt8), kl[k]? = some s → ∃ b off, pa = some ⟨b, off, none⟩ ∧ b < W.heap.size ∧ W.cell? ⟨b, off + k, none⟩ = some (.string (bs s))
theorem RowO.below {W W' : World} {pa : Option Addr} {kl : List (List UInt8)} (h : RowO W pa kl) (g : Below W.heap.size W W') : RowO W' pa kl := fun k s hk => by
  obtain ⟨b, off, h1, h2, h3⟩ := h k s hk
  exact ⟨b, off, h1, Nat.lt_of_lt_of_le h2 g.size, (World.cell?_of_block (g.block b h2)).trans h3⟩
end Go.Proofs.YtlngeaacjbdmhaaGreat.Nm

namespace Go.Proofs.YtlngeaacjbdmhaaGreat.Nm
open Go.RowKit Go.Shelf
section
variable {n l : Nat} {P : Program} {ops : Array Oper} {Q : Exit → Act → World → Prop} {md : Region.Mode}
def noDefer (o : Oper) : Bool := match o.op with | .defer _ => false | _ => true
theorem noDefer_spec {o : Oper} (h : noDefer o = true) : ∀ c, o.op ≠ .defer c := by
  intro c hc
  simp [noDefer, hc] at h
theorem uponIn_round {o : Oper} {a : Act} {K : Act → World → Prop} {r : Result Next} (h : o.uponIn Fence.wide n P a K Q r) : o.uponIn (Fence.wide.inRound l) n P a K Q r := by
  cases r with
  | ok x w' => cases x <;> exact h
  | halt x w' => cases x <;> exact h
theorem wpOpIn_round {i : Nat} {K : Act → World → Prop} {a : Act} {w : World} (hd : ops.all noDefer = true) (h : wpOpIn Fence.wide n P ops Q i K a w) : wpOpIn (Fence.wide.inRound l) n P ops Q i K a w := by
  unfold wpOpIn at *
  cases ho : ops[i]? with
  | none => simpa [ho] using h
  | some o =>
    simp only [ho] at h ⊢
    have hn : ∀ c, o.op ≠ .defer c := noDefer_spec (by
      obtain ⟨hl, he⟩ := Array.getElem?_eq_some_iff.1 ho
      rw [Array.all_eq_true] at hd
      rw [← he]; exact hd i hl)
    split
    · rename_i hw
      simp only [hw, if_true] at h
      refine ⟨fun _ _ => trivial, ?_⟩
      have h2 := h.2
      rw [show (Fence.wide.inRound l).round = some l from rfl, Oper.semAt_some _ _ _ hn]
      rw [show Fence.wide.round = none from rfl, Oper.semAt_none] at h2
      exact uponIn_round h2
    · rename_i hw
      simp only [hw] at h
      exact h
theorem wpAnyIn_round (hd : ops.all noDefer = true) : ∀ (fuel : Nat) (listed : Array Bool) (a : Act) (w : World), wpAnyIn Fence.wide n P md ops Q fuel listed a w → wpAnyIn (Fence.wide.inRound l) n P md ops Q fuel listed a w
  | 0, _, _, _, h => h
  | fuel + 1, _, _, _, h => ⟨h.1, fun i hi => wpOpIn_mono (fun a w hh => wpAnyIn_round hd fuel _ a w hh) (wpOpIn_round hd (h.2 i hi))⟩
theorem wpIn_region_round {id : Nat} {a : Act} {w : World} (hm : P.follows .mixedOrders = true) (hd : ops.all noDefer = true)
    (h : wpAnyIn Fence.wide n P .any ops Q ops.size (Array.replicate ops.size false) a w.drew) : (Code.region id ops true).wpIn (Fence.wide.inRound l) n P Q a w :=
  wpIn_region_any hm (wpAnyIn_round hd _ _ _ _ h)
theorem stepIn_append_eq {w : World} {o : Oper} {a : Act} {K : Act → World → Prop} {E : Prop} (hgd : o.guard = none) (s x : Operand) (t : TypeId)
    (ho : o.op = .call { callee := .builtin .append, args := #[s, x], argTypes := #[t, t] }) (ty : TypeId) (hty : o.type = ty) (vs vx : Value) (hs : a.eval s = vs) (hx : a.eval x = vx) (v' : Value) (w' : World)
    (hrun : (Builtin.append_ #[t, t] ty #[vs, vx]).run P w = .ok v' w') (h : K (a.put o.dst v') w') :
    if Region.wanted o (yielded ops a.tmps) = true then Oper.wpIn Fence.wide n P o a w K Q else E := by
  have hw : Region.wanted o (yielded ops a.tmps) = true := by simp [Region.wanted, hgd]
  rw [if_pos hw]
  refine ⟨fun _ _ => trivial, ?_⟩
  rw [show Fence.wide.round = none from rfl, Oper.semAt_none]
  unfold execOp
  simp only [ho, resolve, invoke, builtin, Sem.run_bind, Sem.run_pure, Result.andThen_ok, List.map_toArray, List.map_cons, List.map_nil, hs, hx, hty, hrun]
  exact h
end
theorem grown_keep {W W5 : World} {base : Nat} {e : TypeId} {s n k : Nat} {v : Value} {xs : List Value} {o o' : Obj} (own : W.ownsRow base e s v n xs) (hg : (W.alloc o').grownBy W5 v.ownBlock) (h : W.heap[k]? = some o) (hne : ∀ cur, o ≠ .cells cur e (0, 0)) : W5.heap[k]? = some o := by
  have h3 := hg.block k (by simp; exact Nat.lt_succ_of_lt (lt_of_heap h)) (own_ne own h hne)
  rw [Below.heap_alloc _ _ _ (lt_of_heap h)] at h3
  exact h3.trans h
theorem put_other {W : World} {r r' : Loop} {L k : Nat} {o : Obj} (hl : W.heap[L]? = some (.loop r)) (h : W.heap[k]? = some o) (hne : ∀ r, o ≠ .loop r) : (W.putObj L (.loop r')).heap[k]? = some o :=
  (World.putObj_heap_other (by rintro rfl; rw [hl] at h; exact hne _ (Option.some.inj h).symm)).trans h
theorem own_put {W : World} {r r' : Loop} {L base : Nat} {e : TypeId} {s n : Nat} {v : Value} {xs : List Value} (h : W.ownsRow base e s v n xs) (hl : W.heap[L]? = some (.loop r)) : (W.putObj L (.loop r')).ownsRow base e s v n xs :=
  own_keep h fun k cur hc => (put_other hl hc (by simp)).trans hc.symm
theorem setup (w : World) (r : Loop) : ((w.alloc (.deferred (some []))).alloc (.loop r)).heap[w.heap.size + 1]? = some (.loop r) ∧ ((w.alloc (.deferred (some []))).alloc (.loop r)).heap[w.heap.size]? = some (.deferred (some [])) ∧ Below w.heap.size w ((w.alloc (.deferred (some []))).alloc (.loop r)) :=
  ⟨putAll _ _ (by simp), (Below.heap_alloc _ _ _ (by simp)).trans (putAll _ _ rfl), ((Below.refl _ _).alloc (Nat.le_refl _) _).alloc (by simp) _⟩
theorem two0 (w : World) (o1 o2 : Obj) : ∃ V : World, ((w.alloc o1).alloc o2) = V ∧ V.heap.size = w.heap.size + 2 ∧ V.heap[w.heap.size]? = some o1 ∧ V.heap[w.heap.size + 1]? = some o2 ∧ Below w.heap.size w V := by
  refine ⟨_, rfl, by simp, ?_, ?_, ?_⟩
  · rw [Below.heap_alloc _ _ _ (by simp)]; exact putAll _ _ rfl
  · exact putAll _ _ (by simp)
  · exact ((Below.refl w.heap.size w).alloc (Nat.le_refl _) o1).alloc (by simp) o2
theorem four0 (w : World) (o1 o2 o3 o4 : Obj) : ∃ V : World, (((w.alloc o1).alloc o2).alloc o3).alloc o4 = V ∧ V.heap.size = w.heap.size + 4 ∧ V.heap[w.heap.size]? = some o1 ∧ V.heap[w.heap.size + 1]? = some o2 ∧ V.heap[w.heap.size + 2]? = some o3 ∧ V.heap[w.heap.size + 3]? = some o4 ∧ Below w.heap.size w V := by
  obtain ⟨V, hV, hs, g0, g1, hB⟩ := two0 w o1 o2
  obtain ⟨V2, hV2, hs2, g2, g3, hB2⟩ := two0 V o3 o4
  rw [hV, hV2]
  rw [hs] at g2 g3 hs2
  exact ⟨V2, rfl, hs2, (hB2.block _ (by omega)).trans g0, (hB2.block _ (by omega)).trans g1, g2, g3, hB.trans (hB2.mono (by omega))⟩
theorem three0 (w : World) (o1 o2 o3 : Obj) : ∃ V : World, ((w.alloc o1).alloc o2).alloc o3 = V ∧ V.heap.size = w.heap.size + 3 ∧ V.heap[w.heap.size]? = some o1 ∧ V.heap[w.heap.size + 1]? = some o2 ∧ V.heap[w.heap.size + 2]? = some o3 ∧ Below w.heap.size w V := by
  obtain ⟨V, hV, hs, g0, g1, hB⟩ := two0 w o1 o2
  rw [hV]
  refine ⟨_, rfl, by simp [hs], (Below.heap_alloc _ _ _ (by omega)).trans g0, (Below.heap_alloc _ _ _ (by omega)).trans g1, putAll _ _ hs.symm, hB.alloc (by omega) o3⟩
end Go.Proofs.YtlngeaacjbdmhaaGreat.Nm
