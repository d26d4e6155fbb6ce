/-
  The contract of Read: the parts of a text in a new row, or why it is refused.
-/
import Derived.Test.YtlngeaacjbdmhaaGreatQr19
namespace Go.Proofs.YtlngeaacjbdmhaaGreat.Nm
open Go.RowKit Go.Shelf
attribute [local go_sem] Oper.semAt_some
set_option maxHeartbeats 1000000 in
theorem parts_any (l : List UInt8) (w : World) : Calls Tryz.prog 231 #[S l] w fun e w' => e = .returned (.func (.func 289) #[] #[.pointer (some ⟨w.heap.size, 0, none⟩)]) ∧ w' = w.alloc (.cells #[S l] 9) := by
  have hmf : ∀ (fn : Go.Fn) (first cap : Array Value) (w : World), (Instr.makeFunc fn first cap).run Tryz.prog w = .ok (.func fn first cap) w := fun _ _ _ _ => rfl
  go_enter Tryz.func231, Tryz.ntmps231
  go_wp2
  go_ret
  exact ⟨rfl, rfl⟩
theorem ref_err {l : List UInt8} (h : ref1 l ≠ 0) : err l = ref1 l := by
  unfold err; unfold ref1 at h ⊢
  split
  · rfl
  · split
    · rfl
    · split
      · rfl
      · simp_all
theorem ref_ok {l : List UInt8} (h : ref1 l = 0) : l ≠ [] ∧ l.length ≤ 4096 ∧ (0 : UInt8) ∉ l := by
  unfold ref1 at h
  split at h
  · omega
  · split at h
    · omega
    · split at h
      · omega
      · exact ⟨‹_›, by omega, ‹_›⟩
set_option maxRecDepth 100000 in
set_option maxHeartbeats 1000000 in
theorem read_no (l : List UInt8) (w : World) (h : ref1 l ≠ 0) :
    CallsIn Fence.wide 4 Tryz.prog 157 #[S l] w fun e w' => e = .returned (.tuple #[.agg #[.bool false, .bool false, .slice none 0 0], .int .i64 (ref1 l)]) ∧ Below w.heap.size w w' := by
  have hro : Fence.wide.round = none := rfl
  have H := hide (refusal_any l)
  have hne : ¬ ref1 l = 0 := h
  generalize ref1 l = x at *
  refine callsIn_of_wp_marks Tryz.func157 rfl trivial ?_ hro
  simp only [Tryz.ntmps157, List.size_toArray, List.length_cons, List.length_nil, Nat.reduceAdd, Nat.reduceSub, Array.replicate_succ, Array.replicate_zero, List.push_toArray, List.append_toArray, List.nil_append, List.cons_append]
  gi_wp2_with fail
  refine ⟨trivial, (callsIn_wide.2 (unhide H _)).mono ?_⟩
  rintro e w' ⟨rfl, rfl⟩
  gi_wp2_with fail
  obtain ⟨V, hV, hsz, g0, g1, hB⟩ := two0 w (.cells #[.bool false, .bool false, .slice none 0 0] 234) (.cells #[.int .i64 x] 24)
  rw [hV]
  have z0 : V.cell? ⟨w.heap.size, 0, none⟩ = some (.bool false) := by rw [cell_of g0]; rfl
  have z1 : V.cell? ⟨w.heap.size, 1, none⟩ = some (.bool false) := by rw [cell_of g0]; rfl
  have z2 : V.cell? ⟨w.heap.size, 2, none⟩ = some (.slice none 0 0) := by rw [cell_of g0]; rfl
  have z3 : V.cell? ⟨w.heap.size + 1, 0, none⟩ = some (.int .i64 x) := by rw [cell_of g1]; rfl
  exact ⟨.tuple #[.agg #[.bool false, .bool false, .slice none 0 0], .int .i64 x], by simp [results, Tryz.results157, go_sem, z0, z1, z2, z3], rfl, hB⟩
structure RJ (w W : World) (r : Loop) (h : Nat) (l : List UInt8) (p s : Bool) (rest : List UInt8) : Prop where
  lp : W.heap[h + 5]? = some (.loop r)
  dd : W.heap[h + 4]? = some (.deferred (some []))
  be : Below h w W
  k0 : W.heap[h]? = some (.cells #[.bool false, .bool false, .slice none 0 0] 234)
  k1 : W.heap[h + 1]? = some (.cells #[.int .i64 0] 24)
  ow : ∃ v dn, W.heap[h + 2]? = some (.cells #[.bool p, .bool s, v] 234) ∧ parts l = dn ++ parts rest ∧ (∀ q ∈ dn, q.length ≤ 255) ∧ W.ownsRow h 9 1 v dn.length (strs dn)
structure RE (w W : World) (h : Nat) (l : List UInt8) : Prop where
  lp : ∃ rd : Loop, rd.state = .done ∧ rd.pending = some .ret ∧ W.heap[h + 5]? = some (.loop rd)
  dd : W.heap[h + 4]? = some (.deferred (some []))
  be : Below h w W
  k0 : W.heap[h]? = some (.cells #[.bool false, .bool false, .slice none 0 0] 234)
  k1 : W.heap[h + 1]? = some (.cells #[.int .i64 45] 24)
  er : ∃ q ∈ parts l, 255 < q.length
theorem below_put {w W : World} {h k : Nat} {o : Obj} (hb : Below h w W) (hk : h ≤ k) : Below h w (W.putObj k o) :=
  ⟨hb.os, hb.tape, hb.output, by rw [World.putObj_size]; exact hb.size, fun j hj => (World.putObj_heap_other (by omega)).trans (hb.block j hj)⟩
theorem RJ.put {w W : World} {r : Loop} {h : Nat} {l : List UInt8} {p s : Bool} {rest : List UInt8} (J : RJ w W r h l p s rest) (r' : Loop) : RJ w (W.putObj (h + 5) (.loop r')) r' h l p s rest := by
  obtain ⟨v, dn, o1, o2, o3, o4⟩ := J.ow
  exact ⟨World.putObj_heap_same (lt_of_heap J.lp), put_other J.lp J.dd (by simp), below_put J.be (by omega), put_other J.lp J.k0 (by simp), put_other J.lp J.k1 (by simp), v, dn, put_other J.lp o1 (by simp), o2, o3, own_put o4 J.lp⟩
theorem RJ.drewN {w W : World} {r : Loop} {h : Nat} {l : List UInt8} {p s : Bool} {rest : List UInt8} (J : RJ w W r h l p s rest) (n : Nat) : RJ w (W.drewN n) r h l p s rest := by
  obtain ⟨v, dn, o1, o2, o3, o4⟩ := J.ow
  exact ⟨J.lp, J.dd, below_dn J.be n, J.k0, J.k1, v, dn, o1, o2, o3, own_keep o4 fun _ _ _ => rfl⟩
theorem RJ.skip {w W : World} {r : Loop} {h : Nat} {l : List UInt8} {p s : Bool} {rest : List UInt8} (J : RJ w W r h l p s rest) (hb : before rest = []) : RJ w W r h l p s (behind rest) := by
  obtain ⟨v, dn, o1, o2, o3, o4⟩ := J.ow
  exact ⟨J.lp, J.dd, J.be, J.k0, J.k1, v, dn, o1, by rw [o2, parts_cut rest, hb]; simp [piece], o3, o4⟩
theorem parts_le (l : List UInt8) : (parts l).length ≤ l.length + 1 := by
  have h := wt_parts _ l (Nat.le_refl _)
  have h2 : ∀ q : List (List UInt8), q.length ≤ wt q := by
    intro q
    induction q with
    | nil => simp
    | cons p r ih => simp [wt]; omega
  have h3 : ende l ≤ 1 := by unfold ende; split <;> omega
  have := h2 (parts l)
  omega
theorem cell_one_new (W : World) (v : Value) (t : TypeId) (j : Nat) (u : Value) (h : [v][j]? = some u) : (W.alloc (.cells #[v] t)).cell? ((⟨W.heap.size, 0, none⟩ : Addr).add j) = some u := by
  match j, h with
  | 0, h => simp at h; subst h; rw [show (⟨W.heap.size, 0, none⟩ : Addr).add 0 = ⟨W.heap.size, 0, none⟩ from rfl, cell_of (putAll _ _ rfl)]; rfl
theorem RJ.more {w W : World} {r : Loop} {h : Nat} {l : List UInt8} {p s : Bool} {rest q : List UInt8} (J : RJ w W r h l p s rest) (hq : parts rest = q :: parts (behind rest)) (hql : q.length ≤ 255) (hl : l.length ≤ 4096) :
    ∃ v, W.cell? ⟨h + 2, 2, none⟩ = some v ∧ ∀ X : World, Below W.heap.size W X → X.cell? ⟨h + 2, 2, none⟩ = some v ∧ (X.alloc (.cells #[S q] 9)).cell? ⟨h + 2, 2, none⟩ = some v ∧
      ∃ a m c W6, (Builtin.append_ #[55, 55] 55 #[v, .slice (some ⟨X.heap.size, 0, none⟩) 1 1]).run Tryz.prog (X.alloc (.cells #[S q] 9)) = .ok (.slice a m c) W6 ∧ W6.cell? ⟨h + 2, 2, none⟩ = some v ∧ W6.frozen? ⟨h + 2, 2, none⟩ = false ∧
        (W6.setCell ⟨h + 2, 2, none⟩ (.slice a m c)).heap[h + 5]? = some (.loop r) ∧ RJ w (W6.setCell ⟨h + 2, 2, none⟩ (.slice a m c)) r h l p s (behind rest) := by
  obtain ⟨v, dn, o1, o2, o3, o4⟩ := J.ow
  obtain ⟨i0, hi, hz0, hz1, hz2⟩ := info_parts info9
  have hdn : dn.length ≤ 4097 := by
    have h1 := congrArg List.length o2
    have h2 := parts_le l
    simp at h1; omega
  have hlw := lt_of_heap J.lp
  refine ⟨v, by rw [cell_of o1]; rfl, fun X hB => ?_⟩
  have kx : ∀ {k : Nat} {o : Obj}, W.heap[k]? = some o → X.heap[k]? = some o := fun h1 => (hB.block _ (lt_of_heap h1)).trans h1
  have hxs := hB.size
  have ownX : X.ownsRow h 9 1 v dn.length (strs dn) := own_keep o4 fun k cur hc => hB.block _ (lt_of_heap hc)
  have own5 := own_keep (W' := X.alloc (.cells #[S q] 9)) ownX (fun k cur hc => Below.heap_alloc X _ _ (lt_of_heap hc))
  obtain ⟨v', W6, hrun, own6, hgr, -, -⟩ := run_append_own_at (P := Tryz.prog) (X.alloc (.cells #[S q] 9)) h 55 55 9 i0 (.string ByteArray.empty) 1 16 Tryz.underlying55 hi hz0 hz1 hz2 rfl (by decide) v _ _ own5 ⟨X.heap.size, 0, none⟩ 1 1 [S q] rfl (cell_one_new X _ _) (by intro u hu; simp at hu; subst hu; rfl) (by unfold maxLen; omega) (by omega) (by simp; omega)
  obtain ⟨a, c, rfl⟩ := own_form own6
  have k6 : ∀ {k : Nat} {o : Obj}, W.heap[k]? = some o → (∀ cur, o ≠ .cells cur 9 (0, 0)) → W6.heap[k]? = some o := fun h1 h2 => grown_keep ownX hgr (kx h1) h2
  have b6 := k6 o1 (by simp)
  have k7 : ∀ {k : Nat} {o : Obj}, W.heap[k]? = some o → (∀ cur, o ≠ .cells cur 9 (0, 0)) → k ≠ h + 2 → (W6.setCell ⟨h + 2, 2, none⟩ (.slice a (dn.length + 1) c)).heap[k]? = some o := fun h1 h2 h3 => (Below.heap_setCell _ _ _ _ h3).trans (k6 h1 h2)
  have be6 : Below h w W6 := below_grown ((J.be.trans (hB.mono (by omega))).alloc (by omega) _) own5 hgr (by simp; omega)
  refine ⟨by rw [cell_of (kx o1)]; rfl, by rw [cell_of ((Below.heap_alloc X _ _ (lt_of_heap (kx o1))).trans (kx o1))]; rfl, a, _, c, W6, hrun, by rw [cell_of b6]; rfl, frozen_of b6 2, k7 J.lp (by simp) (by omega), ?_⟩
  refine ⟨k7 J.lp (by simp) (by omega), k7 J.dd (by simp) (by omega), be6.setCell (p := ⟨h + 2, 2, none⟩) (by simp) _, k7 J.k0 (by simp) (by omega), k7 J.k1 (by simp) (by omega), .slice a (dn.length + 1) c, dn ++ [q], ?_, by rw [o2, hq]; simp, ?_, ?_⟩
  · rw [heap_set b6]; simp
  · intro x hx
    rcases List.mem_append.1 hx with hx | hx
    · exact o3 x hx
    · simp at hx; subst hx; exact hql
  · have e1 : (dn ++ [q]).length = dn.length + 1 := by simp
    have e2 : strs (dn ++ [q]) = strs dn ++ [S q] := by simp [strs]
    rw [e1, e2]
    refine own_keep own6 fun k cur hc => Below.heap_setCell _ _ _ _ ?_
    rintro rfl
    rw [b6] at hc
    simp at hc
theorem RJ.drew {w W : World} {r : Loop} {h : Nat} {l : List UInt8} {p s : Bool} {rest : List UInt8} (J : RJ w W r h l p s rest) : RJ w W.drew r h l p s rest := by
  obtain ⟨v, dn, o1, o2, o3, o4⟩ := J.ow
  exact ⟨J.lp, J.dd, below_drew J.be, J.k0, J.k1, v, dn, o1, o2, o3, own_keep o4 fun _ _ _ => rfl⟩
end Go.Proofs.YtlngeaacjbdmhaaGreat.Nm

namespace Go.Proofs.YtlngeaacjbdmhaaGreat.Nm
open Go.RowKit Go.Shelf
attribute [local go_sem] Oper.semAt_some
set_option maxRecDepth 100000 in
set_option maxHeartbeats 1000000 in
theorem read_yes (l : List UInt8) (w : World) (href : ref1 l = 0) :
    CallsIn Fence.wide 4 Tryz.prog 157 #[S l] w fun e w' => ∃ v, e = .returned (.tuple #[.agg #[.bool (rt l), .bool (sl l), v], .int .i64 (err l)]) ∧ w'.ownsRow w.heap.size 9 1 v (ps l).length (strs (ps l)) ∧ Below w.heap.size w w' := by
  have hro : Fence.wide.round = none := rfl
  have H := hide (refusal_any l)
  obtain ⟨hl0, hl1, hl2⟩ := ref_ok href
  rw [href] at H
  obtain ⟨i0, hi, hz0, hz1, hz2⟩ := info_parts info9
  have hs9 : (bs l).size ≤ 9223372036854775807 := by simp [ByteArray.size]; omega
  refine callsIn_of_wp_marks Tryz.func157 rfl trivial ?_ hro
  simp only [Tryz.ntmps157, List.size_toArray, List.length_cons, List.length_nil, Nat.reduceAdd, Nat.reduceSub, Array.replicate_succ, Array.replicate_zero, List.push_toArray, List.append_toArray, List.nil_append, List.cons_append]
  gi_wp2_with fail
  refine ⟨trivial, (callsIn_wide.2 (unhide H _)).mono ?_⟩
  rintro e w' ⟨rfl, rfl⟩
  gi_wp2_with fail
  refine ⟨trivial, (callsIn_wide.2 (Tryz.strings_HasPrefix _ _ _)).mono ?_⟩
  rintro e w' ⟨rfl, rfl⟩
  gi_wp2_with fail
  refine ⟨trivial, (callsIn_wide.2 (Tryz.strings_HasSuffix _ _ _ hs9)).mono ?_⟩
  rintro e w' ⟨rfl, rfl⟩
  generalize hpp : Lib.hasPrefix _ _ = pp
  generalize hss : Lib.hasSuffix _ _ = ss
  replace hpp := hide hpp
  replace hss := hide hss
  clear href H
  gi_wp2_with fail
  refine ⟨trivial, (callsIn_wide.2 (parts_any _ _)).mono ?_⟩
  rintro e w' ⟨rfl, rfl⟩
  gi_wp2_with fail
  obtain ⟨V, hV, hsz, g0, g1, g2, g3, hB⟩ := four0 w (.cells #[.bool false, .bool false, .slice none 0 0] 234) (.cells #[.int .i64 0] 24) (.cells #[.bool pp, .bool ss, .slice none 0 0] 234) (.cells #[S l] 9)
  rw [hV]
  clear hV
  generalize hh : w.heap.size = h at *
  have HH : Hid (w.heap.size = h) := hh
  simp only [Nat.add_assoc, Nat.reduceAdd]
  refine wpIn_range_ret hro (by omega) (gf := 289) (lb := #[.pointer (some ⟨h + 3, 0, none⟩)]) rfl trivial (enters_of Tryz.func289 (by kernel_rfl) rfl) ?_
  intro r hF hst hpe htm hps has hbo
  obtain ⟨L1, D1, hB2⟩ := setup V r
  rw [hsz] at L1 D1 ⊢
  have x1 := (hB2.block _ (by omega)).trans g3
  generalize ((V.alloc (.deferred (some []))).alloc (.loop r)) = W1 at L1 D1 hB2 x1 ⊢
  have J0 : RJ w W1 r h l pp ss l := ⟨L1, D1, hB.trans (hB2.mono (by omega)), (hB2.block _ (by omega)).trans g0, (hB2.block _ (by omega)).trans g1, .slice none 0 0, [], (hB2.block _ (by omega)).trans g2, rfl, by simp, World.ownsRow_nil _ _ _ _⟩
  clear L1 D1 hB2 g0 g1 g2 g3 hB
  refine (iter_go (h + 5) (h + 3) l W1 (fun rest W => RJ w W r h l pp ss rest) (fun W => RE w W h l) (by omega) J0 (by rw [cell_of x1]; rfl) (fun _ _ n J => J.drewN n) (fun _ _ J hb => J.skip hb) ?_).mono ?_
  · intro rest W2 J hrl hbn
    refine yield_ret hF hst hpe htm hps has hbo rfl J.lp ?_
    clear htm hps has hbo hst hpe J0 x1
    intro rb
    gi_wp2
    refine ⟨J.lp, ?_⟩
    have J4 := J.put rb
    have HP := hide (fun (W : World) (J : RJ w W rb h l pp ss (behind rest)) => J.put r)
    generalize W2.putObj (h + 5) (.loop rb) = W4 at *
    clear J
    obtain ⟨v, dn, o1, o2, o3, o4⟩ := J4.ow
    generalize hbf : before rest = q at *
    have hq : parts rest = q :: parts (behind rest) := by rw [parts_cut, hbf]; simp [piece, hbn]
    have z0 : W4.cell? ⟨h, 0, none⟩ = some (.bool false) := by rw [cell_of J4.k0]; rfl
    have z1 : W4.cell? ⟨h, 1, none⟩ = some (.bool false) := by rw [cell_of J4.k0]; rfl
    have z2 : W4.cell? ⟨h, 2, none⟩ = some (.slice none 0 0) := by rw [cell_of J4.k0]; rfl
    have zf0 : W4.frozen? ⟨h, 0, none⟩ = false := frozen_of J4.k0 0
    have zf1 : W4.frozen? ⟨h, 1, none⟩ = false := frozen_of J4.k0 1
    have zf2 : W4.frozen? ⟨h, 2, none⟩ = false := frozen_of J4.k0 2
    have y0 : W4.cell? ⟨h + 1, 0, none⟩ = some (.int .i64 0) := by rw [cell_of J4.k1]; rfl
    have yf : W4.frozen? ⟨h + 1, 0, none⟩ = false := frozen_of J4.k1 0
    by_cases hlong : 255 < q.length
    · have hl3 : (255 : Int) < (q.length : Int) := by omega
      have lp4 := J4.lp
      have HJ := hide J4
      have HQ := hide (⟨q, by rw [o2, hq]; simp, hlong⟩ : ∃ q ∈ parts l, 255 < q.length)
      clear J4 o1 o4 o2 o3 hq hlong hbf hbn hl0 hl1 hl2 hi hz0 hz1 hz2 hs9
      obtain ⟨X, hX⟩ : ∃ X, (((W4.setCell ⟨h, 0, none⟩ (.bool false)).setCell ⟨h, 1, none⟩ (.bool false)).setCell ⟨h, 2, none⟩ (.slice none 0 0)).setCell ⟨h + 1, 0, none⟩ (.int .i64 45) = X := ⟨_, rfl⟩
      refine wpIn_mono (Q := fun e _ w1 => e = .ret ∧ w1 = X) ?_ ?_
      · rw [← hX]
        clear hX lp4 HJ HQ HP hF hh hsz HH
        gi_wp2_with fail
      · rintro e a w1 ⟨rfl, rfl⟩
        have J4 := unhide HJ
        have kp : ∀ {k : Nat} {o : Obj}, W4.heap[k]? = some o → k ≠ h → k ≠ h + 1 → w1.heap[k]? = some o := fun h1 h2 h3 => by
          rw [← hX, Below.heap_setCell _ _ _ _ h3, Below.heap_setCell _ _ _ _ h2, Below.heap_setCell _ _ _ _ h2, Below.heap_setCell _ _ _ _ h2]; exact h1
        have q0 : w1.heap[h]? = some (.cells #[.bool false, .bool false, .slice none 0 0] 234) := by
          rw [← hX, Below.heap_setCell _ _ _ _ (by simp), heap_set (heap_set (heap_set J4.k0 0 _) 1 _) 2 _]; simp
        have q1 : w1.heap[h + 1]? = some (.cells #[.int .i64 45] 24) := by
          rw [← hX, heap_set (((Below.heap_setCell _ _ _ _ (by simp)).trans ((Below.heap_setCell _ _ _ _ (by simp)).trans ((Below.heap_setCell _ _ _ _ (by simp)).trans J4.k1)))) 0 _]; simp
        have lp := kp J4.lp (by omega) (by omega)
        have be : Below h w w1 := by
          rw [← hX]
          exact (((J4.be.setCell (p := ⟨h, 0, none⟩) (by simp) _).setCell (p := ⟨h, 1, none⟩) (by simp) _).setCell (p := ⟨h, 2, none⟩) (by simp) _).setCell (p := ⟨h + 1, 0, none⟩) (by simp) _
        exact ⟨lp, .inr ⟨rfl, .inr ⟨trivial, ⟨_, rfl, rfl, World.putObj_heap_same (lt_of_heap lp)⟩, put_other lp (kp J4.dd (by omega) (by omega)) (by simp), below_put be (by omega), put_other lp q0 (by simp), put_other lp q1 (by simp), unhide HQ⟩⟩⟩
    · have hl3 : ¬ (255 : Int) < (q.length : Int) := by omega
      obtain ⟨v, c0, MORE⟩ := J4.drew.more hq (by omega) hl1
      replace MORE := hide MORE
      obtain ⟨R, hR⟩ : ∃ R : World → Prop, R = fun w1 => w1.heap[h + 5]? = some (.loop rb) ∧ RJ w w1 rb h l pp ss (behind rest) := ⟨_, rfl⟩
      have HR : Hid (∀ w1 : World, w1.heap[h + 5]? = some (.loop rb) ∧ RJ w w1 rb h l pp ss (behind rest) → R w1) := hide (fun w1 h1 => by rw [hR]; exact h1)
      replace hR := hide hR
      have hqs : (bs q).size ≤ 281474976710656 := by simp [ByteArray.size]; omega
      refine wpIn_mono (Q := fun e _ w1 => e = .normal ∧ R w1) ?_ ?_
      · clear HP hF hh hsz HH J4 o1 o4 o2 o3 hq hlong hbf hbn hl0 hl1 hl2 hi hz0 hz1 hz2 hs9 z0 z1 z2 zf0 zf1 zf2 y0 yf
        gi_wp2_with fail
        refine wpIn_region_round (by kernel_rfl) (by kernel_rfl) ?_
        generalize W4.drew = X at *
        refine wpAnyIn_take (i := 0) (v := ?_) rfl rfl (by kernel_rfl) (by kernel_rfl) (by kernel_rfl) (fun _ _ _ h => h) ⟨Or.inl ⟨by rfl, ?hy⟩, fun _ => rfl⟩ ?_
        case hy => intro w; go_simp; all_goals with_reducible rfl
        refine wpAnyIn_take (i := 2) (v := ?_) rfl rfl (by kernel_rfl) (by kernel_rfl) (by kernel_rfl) (fun _ _ _ h => h) ⟨Or.inl ⟨by rfl, ?hy⟩, fun _ => rfl⟩ ?_
        case hy => intro w; go_simp; all_goals with_reducible rfl
        refine wpAnyIn_ready (rs := [1, 3]) (by kernel_rfl) (by simp) ?_
        refine AllReadyIn.cons rfl (fun K hK => ?_) ?_
        · go_simp
          refine hK _ _ ?_
          clear hK K
          refine wpAnyIn_ready (rs := [3]) (by kernel_rfl) (by simp) ?_
          refine AllReadyIn.cons rfl (fun K hK => ?_) ?_
          · go_simp
            refine ⟨trivial, (callsIn_wide.2 (clone_any _ _ hqs)).mono ?_⟩
            rintro e X2 ⟨rfl, hB⟩
            obtain ⟨cx, cy, sa, sm, sc, W6, hrun, d0, df, FIN⟩ := unhide MORE X2 hB
            replace FIN := hide (unhide HR _ FIN)
            clear hB
            refine hK _ _ ?_
            clear hK K
            refine wpAnyIn_ready (rs := [4]) (by kernel_rfl) (by simp) ?_
            refine AllReadyIn.cons rfl (fun K hK => ?_) ?_
            · go_simp
              refine hK _ _ ?_
              clear hK K
              refine wpAnyIn_ready (rs := [5]) (by kernel_rfl) (by simp) ?_
              refine AllReadyIn.cons rfl (fun K hK => ?_) ?_
              · refine stepIn_append_eq (by rfl) _ _ 55 (by rfl) 55 (by rfl) _ _ (by rfl) (by rfl) _ _ hrun ?_
                refine hK _ _ ?_
                clear hK K
                refine wpAnyIn_ready (rs := [6]) (by kernel_rfl) (by simp) ?_
                refine AllReadyIn.cons rfl (fun K hK => ?_) ?_
                · go_simp
                  refine hK _ _ ?_
                  clear hK K
                  refine wpAnyIn_ready (rs := [7]) (by kernel_rfl) (by simp) ?_
                  refine AllReadyIn.cons rfl (fun K hK => ?_) ?_
                  · go_simp
                    refine hK _ _ ?_
                    clear hK K
                    refine wpAnyIn_done (by kernel_rfl) ?_ _
                    gi_wp2_with fail
                    exact FIN
                  exact AllReadyIn.nil
                exact AllReadyIn.nil
              exact AllReadyIn.nil
            exact AllReadyIn.nil
          exact AllReadyIn.nil
        refine AllReadyIn.cons rfl (fun K hK => ?_) ?_
        · go_simp
          refine ⟨trivial, (callsIn_wide.2 (clone_any _ _ hqs)).mono ?_⟩
          rintro e X2 ⟨rfl, hB⟩
          obtain ⟨cx, cy, sa, sm, sc, W6, hrun, d0, df, FIN⟩ := unhide MORE X2 hB
          replace FIN := hide (unhide HR _ FIN)
          clear hB
          refine hK _ _ ?_
          clear hK K
          refine wpAnyIn_ready (rs := [1, 4]) (by kernel_rfl) (by simp) ?_
          refine AllReadyIn.cons rfl (fun K hK => ?_) ?_
          · go_simp
            refine hK _ _ ?_
            clear hK K
            refine wpAnyIn_ready (rs := [4]) (by kernel_rfl) (by simp) ?_
            refine AllReadyIn.cons rfl (fun K hK => ?_) ?_
            · go_simp
              refine hK _ _ ?_
              clear hK K
              refine wpAnyIn_ready (rs := [5]) (by kernel_rfl) (by simp) ?_
              refine AllReadyIn.cons rfl (fun K hK => ?_) ?_
              · refine stepIn_append_eq (by rfl) _ _ 55 (by rfl) 55 (by rfl) _ _ (by rfl) (by rfl) _ _ hrun ?_
                refine hK _ _ ?_
                clear hK K
                refine wpAnyIn_ready (rs := [6]) (by kernel_rfl) (by simp) ?_
                refine AllReadyIn.cons rfl (fun K hK => ?_) ?_
                · go_simp
                  refine hK _ _ ?_
                  clear hK K
                  refine wpAnyIn_ready (rs := [7]) (by kernel_rfl) (by simp) ?_
                  refine AllReadyIn.cons rfl (fun K hK => ?_) ?_
                  · go_simp
                    refine hK _ _ ?_
                    clear hK K
                    refine wpAnyIn_done (by kernel_rfl) ?_ _
                    gi_wp2_with fail
                    exact FIN
                  exact AllReadyIn.nil
                exact AllReadyIn.nil
              exact AllReadyIn.nil
            exact AllReadyIn.nil
          refine AllReadyIn.cons rfl (fun K hK => ?_) ?_
          · go_simp
            refine hK _ _ ?_
            clear hK K
            refine wpAnyIn_ready (rs := [1]) (by kernel_rfl) (by simp) ?_
            refine AllReadyIn.cons rfl (fun K hK => ?_) ?_
            · go_simp
              refine hK _ _ ?_
              clear hK K
              refine wpAnyIn_ready (rs := [5]) (by kernel_rfl) (by simp) ?_
              refine AllReadyIn.cons rfl (fun K hK => ?_) ?_
              · refine stepIn_append_eq (by rfl) _ _ 55 (by rfl) 55 (by rfl) _ _ (by rfl) (by rfl) _ _ hrun ?_
                refine hK _ _ ?_
                clear hK K
                refine wpAnyIn_ready (rs := [6]) (by kernel_rfl) (by simp) ?_
                refine AllReadyIn.cons rfl (fun K hK => ?_) ?_
                · go_simp
                  refine hK _ _ ?_
                  clear hK K
                  refine wpAnyIn_ready (rs := [7]) (by kernel_rfl) (by simp) ?_
                  refine AllReadyIn.cons rfl (fun K hK => ?_) ?_
                  · go_simp
                    refine hK _ _ ?_
                    clear hK K
                    refine wpAnyIn_done (by kernel_rfl) ?_ _
                    gi_wp2_with fail
                    exact FIN
                  exact AllReadyIn.nil
                exact AllReadyIn.nil
              exact AllReadyIn.nil
            exact AllReadyIn.nil
          exact AllReadyIn.nil
        exact AllReadyIn.nil
      · rintro e a w1 ⟨rfl, hr1⟩
        rw [unhide hR] at hr1
        exact ⟨hr1.1, .inl ⟨rfl, .inl ⟨trivial, unhide HP _ hr1.2⟩⟩⟩
  · rintro e W2 ⟨rfl, J | J⟩
    · refine ⟨⟨_, rfl⟩, .inl ⟨J.lp, ?_⟩⟩
      have J6 := J.put { r with state := .exhausted }
      generalize W2.putObj (h + 5) (.loop { r with state := .exhausted }) = W3 at *
      obtain ⟨v, dn, o1, o2, o3, o4⟩ := J6.ow
      rw [parts_nil, List.append_nil] at o2
      have z0 : W3.cell? ⟨h, 0, none⟩ = some (.bool false) := by rw [cell_of J6.k0]; rfl
      have z1 : W3.cell? ⟨h, 1, none⟩ = some (.bool false) := by rw [cell_of J6.k0]; rfl
      have z2 : W3.cell? ⟨h, 2, none⟩ = some (.slice none 0 0) := by rw [cell_of J6.k0]; rfl
      have zf0 : W3.frozen? ⟨h, 0, none⟩ = false := frozen_of J6.k0 0
      have zf1 : W3.frozen? ⟨h, 1, none⟩ = false := frozen_of J6.k0 1
      have zf2 : W3.frozen? ⟨h, 2, none⟩ = false := frozen_of J6.k0 2
      have y0 : W3.cell? ⟨h + 1, 0, none⟩ = some (.int .i64 0) := by rw [cell_of J6.k1]; rfl
      have yf : W3.frozen? ⟨h + 1, 0, none⟩ = false := frozen_of J6.k1 0
      have x0 : W3.cell? ⟨h + 2, 0, none⟩ = some (.bool pp) := by rw [cell_of o1]; rfl
      have x1 : W3.cell? ⟨h + 2, 1, none⟩ = some (.bool ss) := by rw [cell_of o1]; rfl
      have x2 : W3.cell? ⟨h + 2, 2, none⟩ = some v := by rw [cell_of o1]; rfl
      have hok : err l = 0 := err_of hl0 hl1 hl2 (by rw [o2]; exact o3)
      have hrt : rt l = pp := by rw [← unhide hpp]; simp [rt, hok, Lib.hasPrefix]
      have hsl : sl l = ss := by rw [← unhide hss]; simp [sl, hok, Lib.hasSuffix]
      have hps : ps l = dn := by simp [ps, hok, o2]
      have HN := hide (show _ ∧ _ ∧ _ ∧ _ from ⟨hok, hrt, hsl, hps⟩)
      have HJ := hide J6
      have HO := hide o4
      have HO1 := hide o1
      obtain ⟨va, vc, rfl⟩ := own_form o4
      clear J J6 o1 o2 o3 o4 hrt hsl hps hok J0 htm has hbo hst hpe hpp hss hl0 hl1 hl2 hi hz0 hz1 hz2 hs9 hF
      gi_wp2_with fail
      obtain ⟨X, hX⟩ : ∃ X, (((W3.setCell ⟨h, 0, none⟩ (.bool pp)).setCell ⟨h, 1, none⟩ (.bool ss)).setCell ⟨h, 2, none⟩ (.slice va dn.length vc)).setCell ⟨h + 1, 0, none⟩ (.int .i64 0) = X := ⟨_, rfl⟩
      rw [hX]
      have J6 := unhide HJ
      have kp : ∀ {k : Nat} {o : Obj}, W3.heap[k]? = some o → k ≠ h → k ≠ h + 1 → X.heap[k]? = some o := fun h1 h2 h3 => by
        rw [← hX, Below.heap_setCell _ _ _ _ h3, Below.heap_setCell _ _ _ _ h2, Below.heap_setCell _ _ _ _ h2, Below.heap_setCell _ _ _ _ h2]; exact h1
      have q0 : X.heap[h]? = some (.cells #[.bool pp, .bool ss, .slice va dn.length vc] 234) := by
        rw [← hX, Below.heap_setCell _ _ _ _ (by simp), heap_set (heap_set (heap_set J6.k0 0 _) 1 _) 2 _]; simp
      have q1 : X.heap[h + 1]? = some (.cells #[.int .i64 0] 24) := by
        rw [← hX, heap_set (((Below.heap_setCell _ _ _ _ (by simp)).trans ((Below.heap_setCell _ _ _ _ (by simp)).trans ((Below.heap_setCell _ _ _ _ (by simp)).trans J6.k1)))) 0 _]; simp
      have be : Below h w X := by
        rw [← hX]
        exact (((J6.be.setCell (p := ⟨h, 0, none⟩) (by simp) _).setCell (p := ⟨h, 1, none⟩) (by simp) _).setCell (p := ⟨h, 2, none⟩) (by simp) _).setCell (p := ⟨h + 1, 0, none⟩) (by simp) _
      have own7 : X.ownsRow h 9 1 (.slice va dn.length vc) dn.length (strs dn) := own_keep (unhide HO) fun k cur hc => (kp hc (by rintro rfl; rw [J6.k0] at hc; simp at hc) (by rintro rfl; rw [J6.k1] at hc; simp at hc)).trans hc.symm
      have dd5 := kp J6.dd (by omega) (by omega)
      refine ⟨by simp, .inl ⟨_, _, rfl, run_takeDeferred dd5, ?_⟩⟩
      have b7 := below_put (k := h + 4) (o := .deferred none) be (by omega)
      have p0 : (X.putObj (h + 4) (.deferred none)).heap[h]? = _ := (World.putObj_heap_other (by omega)).trans q0
      have p1 : (X.putObj (h + 4) (.deferred none)).heap[h + 1]? = _ := (World.putObj_heap_other (by omega)).trans q1
      have own8 : (X.putObj (h + 4) (.deferred none)).ownsRow h 9 1 (.slice va dn.length vc) dn.length (strs dn) := own_keep own7 fun k cur hc => World.putObj_heap_other (by rintro rfl; rw [dd5] at hc; simp at hc)
      have c0 : (X.putObj (h + 4) (.deferred none)).cell? ⟨h, 0, none⟩ = some (.bool pp) := by rw [cell_of p0]; rfl
      have c1 : (X.putObj (h + 4) (.deferred none)).cell? ⟨h, 1, none⟩ = some (.bool ss) := by rw [cell_of p0]; rfl
      have c2 : (X.putObj (h + 4) (.deferred none)).cell? ⟨h, 2, none⟩ = some (.slice va dn.length vc) := by rw [cell_of p0]; rfl
      have c3 : (X.putObj (h + 4) (.deferred none)).cell? ⟨h + 1, 0, none⟩ = some (.int .i64 0) := by rw [cell_of p1]; rfl
      obtain ⟨n0, n1, n2, n3⟩ := unhide HN
      rw [unhide HH, n0, n1, n2, n3]
      exact ⟨.tuple #[.agg #[.bool pp, .bool ss, .slice va dn.length vc], .int .i64 0], by simp [results, Tryz.results157, go_sem, c0, c1, c2, c3], _, rfl, own8, b7⟩
    · obtain ⟨rd, hd1, hd2, lp⟩ := J.lp
      refine ⟨⟨_, rfl⟩, .inr ⟨rd, hd1, hd2, lp, ?_⟩⟩
      have k0 := put_other (r' := { rd with state := .exhausted }) lp J.k0 (by simp)
      have k1 := put_other (r' := { rd with state := .exhausted }) lp J.k1 (by simp)
      have dd := put_other (r' := { rd with state := .exhausted }) lp J.dd (by simp)
      have be := below_put (k := h + 5) (o := .loop { rd with state := .exhausted }) J.be (by omega)
      have HE := hide J.er
      generalize W2.putObj (h + 5) (.loop { rd with state := .exhausted }) = W3 at *
      have HF := hide (show _ ∧ _ ∧ _ ∧ _ from ⟨k0, k1, dd, be⟩)
      clear J J0 k0 k1 dd be htm hps has hbo hst hpe lp hd1 hd2
      gi_wp2_with fail
      obtain ⟨k0, k1, dd, be⟩ := unhide HF
      refine ⟨by simp, .inl ⟨_, _, rfl, run_takeDeferred dd, ?_⟩⟩
      have q0 : (W3.putObj (h + 4) (.deferred none)).heap[h]? = _ := (World.putObj_heap_other (by omega)).trans k0
      have q1 : (W3.putObj (h + 4) (.deferred none)).heap[h + 1]? = _ := (World.putObj_heap_other (by omega)).trans k1
      have b7 := below_put (k := h + 4) (o := .deferred none) be (by omega)
      have c0 : (W3.putObj (h + 4) (.deferred none)).cell? ⟨h, 0, none⟩ = some (.bool false) := by rw [cell_of q0]; rfl
      have c1 : (W3.putObj (h + 4) (.deferred none)).cell? ⟨h, 1, none⟩ = some (.bool false) := by rw [cell_of q0]; rfl
      have c2 : (W3.putObj (h + 4) (.deferred none)).cell? ⟨h, 2, none⟩ = some (.slice none 0 0) := by rw [cell_of q0]; rfl
      have c3 : (W3.putObj (h + 4) (.deferred none)).cell? ⟨h + 1, 0, none⟩ = some (.int .i64 45) := by rw [cell_of q1]; rfl
      have he : err l = 45 := by
        obtain ⟨q, hq1, hq2⟩ := unhide HE
        unfold err
        rw [if_neg hl0, if_neg (by omega), if_neg hl2, if_pos]
        rw [List.any_eq_true]
        exact ⟨q, hq1, by simpa using hq2⟩
      have e1 : rt l = false := by simp [rt, he]
      have e2 : sl l = false := by simp [sl, he]
      have e3 : ps l = [] := by simp [ps, he]
      rw [unhide HH, e1, e2, e3, he]
      exact ⟨.tuple #[.agg #[.bool false, .bool false, .slice none 0 0], .int .i64 45], by simp [results, Tryz.results157, go_sem, c0, c1, c2, c3], .slice none 0 0, rfl, World.ownsRow_nil _ _ _ _, b7⟩
theorem read_any (l : List UInt8) (w : World) :
    Calls Tryz.prog 157 #[S l] w fun e w' => ∃ v, e = .returned (.tuple #[.agg #[.bool (rt l), .bool (sl l), v], .int .i64 (err l)]) ∧ w'.ownsRow w.heap.size 9 1 v (ps l).length (strs (ps l)) ∧ Below w.heap.size w w' := by
  by_cases h : ref1 l = 0
  · exact callsIn_wide.1 (read_yes l w h)
  · refine (callsIn_wide.1 (read_no l w h)).mono ?_
    rintro e w' ⟨rfl, hB⟩
    have he := ref_err h
    have h1 : err l ≠ 0 := by rw [he]; exact h
    have e1 : rt l = false := by simp [rt, h1]
    have e2 : sl l = false := by simp [sl, h1]
    have e3 : ps l = [] := by simp [ps, h1]
    rw [e1, e2, e3, he]
    exact ⟨_, rfl, World.ownsRow_nil _ _ _ _, hB⟩
end Go.Proofs.YtlngeaacjbdmhaaGreat.Nm

namespace Go.Proofs.YtlngeaacjbdmhaaGreat.Nm
open Go.RowKit
attribute [local go_sem ↓] Go.wp_at_zero Go.wp_at_succ
set_option maxHeartbeats 1000000 in
theorem rdots_any (l : List UInt8) (w : World) : Calls Tryz.prog 214 #[S l] w fun e w' => e = .returned (.bool (dots l)) ∧ w' = w := by
  go_enter Tryz.func214, Tryz.ntmps214
  go_wp2
  all_goals (go_ret; refine ⟨?_, rfl⟩; simp_all [dots])
theorem take_mem {l : List UInt8} {k : Nat} (h : k < l.length) (c : UInt8) : c ∈ l.take (k + 1) ↔ c ∈ l.take k ∨ c = l[k] := by
  rw [List.take_add_one, List.getElem?_eq_getElem h, List.mem_append]
  simp
theorem byte_is {c d : UInt8} (n : Nat) (hn : d.toNat = n) (h : c = d) : c.toNat = n ∧ (c.toNat : Int) = (n : Int) := by subst h; subst hn; exact ⟨rfl, rfl⟩
theorem byte_not {c d : UInt8} (n : Nat) (hn : d.toNat = n) (h : ¬ c = d) : ¬ c.toNat = n ∧ ¬ (c.toNat : Int) = (n : Int) := by
  subst hn
  have h1 : ¬ c.toNat = d.toNat := fun e => h (UInt8.toNat_inj.1 e)
  exact ⟨h1, by omega⟩
theorem is0 {c : UInt8} (h : c = 0) : c.toNat = 0 ∧ (c.toNat : Int) = 0 := byte_is 0 rfl h
theorem is47 {c : UInt8} (h : c = 47) : c.toNat = 47 ∧ (c.toNat : Int) = 47 := byte_is 47 rfl h
theorem not0 {c : UInt8} (h : ¬ c = 0) : ¬ c.toNat = 0 ∧ ¬ (c.toNat : Int) = 0 := byte_not 0 rfl h
theorem not47 {c : UInt8} (h : ¬ c = 47) : ¬ c.toNat = 47 ∧ ¬ (c.toNat : Int) = 47 := byte_not 47 rfl h
set_option maxRecDepth 100000 in
set_option maxHeartbeats 1000000 in
theorem rright_any (l : List UInt8) (hl : l.length ≤ 100000) (w : World) : Calls Tryz.prog 126 #[S l] w fun e w' => e = .returned (.bool (right l)) ∧ w' = w := by
  go_enter Tryz.func126, Tryz.ntmps126
  go_wp2_with fail
  go_loopw [3] (fun i wr => ∃ k : Nat, k ≤ l.length ∧ i = .int .i64 k ∧ (0 : UInt8) ∉ l.take k ∧ (47 : UInt8) ∉ l.take k ∧ wr = w) (fun i _ => l.length - (intOf i).toNat)
  case atStart => exact ⟨0, by omega, rfl, by simp, by simp, rfl⟩
  case round =>
    obtain ⟨k, hk, rfl, n0, n1, rfl⟩ := hrel
    by_cases hlt : k < l.length
    · have j0 : (0 : Int) ≤ (k : Int) := by omega
      have j1 : (k : Int) < (l.length : Int) := by omega
      have r0 : l[k] ∈ l := List.getElem_mem hlt
      have hkb : k < (bs l).size := hlt
      have t0 := take_mem hlt 0
      have t1 := take_mem hlt 47
      by_cases c0 : l[k] = 0
      · have hr : right l = false := by simp [right, show (0 : UInt8) ∈ l by rw [← c0]; exact r0]
        replace hr := hide hr
        obtain ⟨d1, d2⟩ := is0 (show (bs l)[k] = 0 from c0)
        clear t0 t1 n0 n1 r0
        go_wp2_with fail
        all_goals (go_ret; exact ⟨by rw [unhide hr]; rfl, rfl⟩)
      · obtain ⟨d1, d2⟩ := not0 (show ¬ (bs l)[k] = 0 from c0)
        by_cases c1 : l[k] = 47
        · have hr : right l = false := by simp [right, show (47 : UInt8) ∈ l by rw [← c1]; exact r0]
          replace hr := hide hr
          obtain ⟨d3, d4⟩ := is47 (show (bs l)[k] = 47 from c1)
          clear t0 t1 n0 n1 r0
          go_wp2_with fail
          all_goals (go_ret; exact ⟨by rw [unhide hr]; rfl, rfl⟩)
        · obtain ⟨d3, d4⟩ := not47 (show ¬ (bs l)[k] = 47 from c1)
          have m0 : Hid ((0 : UInt8) ∉ l.take (k + 1)) := hide (by rw [t0]; rintro (h | h); exact n0 h; exact c0 h.symm)
          have m1 : Hid ((47 : UInt8) ∉ l.take (k + 1)) := hide (by rw [t1]; rintro (h | h); exact n1 h; exact c1 h.symm)
          clear t0 t1 n0 n1 r0
          have d5 : (((bs l)[k].toNat : Int) == 0) = false := by simpa using d2
          have d6 : (((bs l)[k].toNat : Int) == 47) = false := by simpa using d4
          go_wp2_with fail
          exact ⟨⟨k + 1, by omega, rfl, unhide m0, unhide m1, trivial⟩, by simp [intOf]; omega⟩
    · obtain rfl : k = l.length := by omega
      rw [List.take_length] at n0 n1
      have j1 : ¬ ((l.length : Nat) : Int) < (l.length : Int) := by omega
      have hr : right l = (decide (1 ≤ (l.length : Int)) && decide ((l.length : Int) ≤ 255) && !dots l) := by
        unfold right
        cases l with
        | nil => simp
        | cons c r =>
          simp only [List.isEmpty_cons, Bool.false_or, n0, n1, decide_false, Bool.not_false, Bool.and_true, Bool.not_or, List.length_cons]
          congr 1
          have e1 : (1 : Int) ≤ ((r.length + 1 : Nat) : Int) := by omega
          simp only [e1, decide_true, Bool.true_and]
          by_cases h : r.length + 1 ≤ 255
          · have h2 : ((r.length + 1 : Nat) : Int) ≤ 255 := by omega
            have h3 : ¬ 255 < r.length + 1 := by omega
            simp only [h2, h3, decide_true, decide_false, Bool.not_false]
          · have h2 : ¬ ((r.length + 1 : Nat) : Int) ≤ 255 := by omega
            have h3 : 255 < r.length + 1 := by omega
            simp only [h2, h3, decide_true, decide_false, Bool.not_true]
      replace hr := hide hr
      clear n0 n1
      go_wp2_with (go_at_call 214; refine (rdots_any _ _).mono ?_; rintro e w' ⟨rfl, rfl⟩)
      all_goals (go_ret; refine ⟨?_, rfl⟩; rw [unhide hr]; simp_all; try (intros; omega))
end Go.Proofs.YtlngeaacjbdmhaaGreat.Nm
