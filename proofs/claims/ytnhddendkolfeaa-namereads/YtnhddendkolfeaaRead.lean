/-
  The contract of Read: the parts of a text in a new row, or why it is refused.
-/
import Derived.Test.YtnhddendkolfeaaIter
namespace Go.Proofs.Ytnhddendkolfeaa
open Go.RowKit Go.Shelf
attribute [local go_sem] Oper.semAt_some

set_option maxHeartbeats 1000000 in
theorem parts_any (l : List UInt8) (w : World) : Calls Try.prog 26 #[S l] w fun e w' => e = .returned (.func (.func 35) #[] #[.pointer (some ⟨w.heap.size, 0, none⟩)]) ∧ w' = w.alloc (.cells #[S l] 9) := by
  have hmf : ∀ (fn : Fn) (first cap : Array Value) (w : World), (Instr.makeFunc fn first cap).run Try.prog w = .ok (.func fn first cap) w := fun _ _ _ _ => rfl
  go_enter Try.func26, Try.ntmps26
  go_wp2
  go_ret
  exact ⟨rfl, rfl⟩
theorem ref_err {l : List UInt8} (h : ref1 l ≠ 0) : err l = ref1 l := by
  unfold err; unfold ref1 at h ⊢
  split
  · rfl
  · split
    · rfl
    · split
      · rfl
      · simp_all
theorem ref_ok {l : List UInt8} (h : ref1 l = 0) : l ≠ [] ∧ l.length ≤ 4096 ∧ (0 : UInt8) ∉ l := by
  unfold ref1 at h
  split at h
  · omega
  · split at h
    · omega
    · split at h
      · omega
      · exact ⟨‹_›, by omega, ‹_›⟩
set_option maxRecDepth 100000 in
set_option maxHeartbeats 1000000 in
theorem read_no (l : List UInt8) (w : World) (h : ref1 l ≠ 0) :
    CallsIn Fence.wide 4 Try.prog 9 #[S l] w fun e w' => e = .returned (.tuple #[.agg #[.bool false, .bool false, .slice none 0 0], .int .i64 (ref1 l)]) ∧ Below w.heap.size w w' := by
  have hro : Fence.wide.round = none := rfl
  have H := hide (refusal_any l)
  have hne : ¬ ref1 l = 0 := h
  generalize ref1 l = x at *
  refine callsIn_of_wp_marks Try.func9 rfl trivial ?_ hro
  simp only [Try.ntmps9, List.size_toArray, List.length_cons, List.length_nil, Nat.reduceAdd, Nat.reduceSub, Array.replicate_succ, Array.replicate_zero, List.push_toArray, List.append_toArray, List.nil_append, List.cons_append]
  gi_wp2_with fail
  refine ⟨trivial, (callsIn_wide.2 (unhide H _)).mono ?_⟩
  rintro e w' ⟨rfl, rfl⟩
  gi_wp2_with fail
  obtain ⟨V, hV, hsz, g0, g1, hB⟩ := two0 w (.cells #[.bool false, .bool false, .slice none 0 0] 24) (.cells #[.int .i64 x] 25)
  rw [hV]
  have z0 : V.cell? ⟨w.heap.size, 0, none⟩ = some (.bool false) := by rw [cell_of g0]; rfl
  have z1 : V.cell? ⟨w.heap.size, 1, none⟩ = some (.bool false) := by rw [cell_of g0]; rfl
  have z2 : V.cell? ⟨w.heap.size, 2, none⟩ = some (.slice none 0 0) := by rw [cell_of g0]; rfl
  have z3 : V.cell? ⟨w.heap.size + 1, 0, none⟩ = some (.int .i64 x) := by rw [cell_of g1]; rfl
  exact ⟨.tuple #[.agg #[.bool false, .bool false, .slice none 0 0], .int .i64 x], by simp [results, Try.results9, go_sem, z0, z1, z2, z3], rfl, hB⟩

/-- What lies while Read goes over the parts; what lies when one is too long. -/
structure RJ (w W : World) (r : Loop) (h : Nat) (l : List UInt8) (p s : Bool) (rest : List UInt8) : Prop where
  lp : W.heap[h + 5]? = some (.loop r)
  dd : W.heap[h + 4]? = some (.deferred (some []))
  be : Below h w W
  k0 : W.heap[h]? = some (.cells #[.bool false, .bool false, .slice none 0 0] 24)
  k1 : W.heap[h + 1]? = some (.cells #[.int .i64 0] 25)
  ow : ∃ v dn, W.heap[h + 2]? = some (.cells #[.bool p, .bool s, v] 24) ∧ parts l = dn ++ parts rest ∧ (∀ q ∈ dn, q.length ≤ 255) ∧ W.ownsRow h 9 1 v dn.length (strs dn)
structure RE (w W : World) (h : Nat) (l : List UInt8) : Prop where
  lp : ∃ rd : Loop, rd.state = .done ∧ rd.pending = some .ret ∧ W.heap[h + 5]? = some (.loop rd)
  dd : W.heap[h + 4]? = some (.deferred (some []))
  be : Below h w W
  k0 : W.heap[h]? = some (.cells #[.bool false, .bool false, .slice none 0 0] 24)
  k1 : W.heap[h + 1]? = some (.cells #[.int .i64 45] 25)
  er : ∃ q ∈ parts l, 255 < q.length
theorem below_put {w W : World} {h k : Nat} {o : Obj} (hb : Below h w W) (hk : h ≤ k) : Below h w (W.putObj k o) :=
  ⟨hb.os, hb.tape, hb.output, by rw [World.putObj_size]; exact hb.size, fun j hj => (World.putObj_heap_other (by omega)).trans (hb.block j hj)⟩
theorem RJ.put {w W : World} {r : Loop} {h : Nat} {l : List UInt8} {p s : Bool} {rest : List UInt8} (J : RJ w W r h l p s rest) (r' : Loop) : RJ w (W.putObj (h + 5) (.loop r')) r' h l p s rest := by
  obtain ⟨v, dn, o1, o2, o3, o4⟩ := J.ow
  exact ⟨World.putObj_heap_same (lt_of_heap J.lp), put_other J.lp J.dd (by simp), below_put J.be (by omega), put_other J.lp J.k0 (by simp), put_other J.lp J.k1 (by simp), v, dn, put_other J.lp o1 (by simp), o2, o3, own_put o4 J.lp⟩
theorem RJ.drewN {w W : World} {r : Loop} {h : Nat} {l : List UInt8} {p s : Bool} {rest : List UInt8} (J : RJ w W r h l p s rest) (n : Nat) : RJ w (W.drewN n) r h l p s rest := by
  obtain ⟨v, dn, o1, o2, o3, o4⟩ := J.ow
  exact ⟨J.lp, J.dd, below_dn J.be n, J.k0, J.k1, v, dn, o1, o2, o3, own_keep o4 fun _ _ _ => rfl⟩
theorem RJ.skip {w W : World} {r : Loop} {h : Nat} {l : List UInt8} {p s : Bool} {rest : List UInt8} (J : RJ w W r h l p s rest) (hb : before rest = []) : RJ w W r h l p s (behind rest) := by
  obtain ⟨v, dn, o1, o2, o3, o4⟩ := J.ow
  exact ⟨J.lp, J.dd, J.be, J.k0, J.k1, v, dn, o1, by rw [o2, parts_cut rest, hb]; simp [piece], o3, o4⟩

theorem parts_le (l : List UInt8) : (parts l).length ≤ l.length + 1 := by
  have h := wt_parts _ l (Nat.le_refl _)
  have h2 : ∀ q : List (List UInt8), q.length ≤ wt q := by
    intro q
    induction q with
    | nil => simp
    | cons p r ih => simp [wt]; omega
  have h3 : ende l ≤ 1 := by unfold ende; split <;> omega
  have := h2 (parts l)
  omega
theorem cell_one_new (W : World) (v : Value) (t : TypeId) (j : Nat) (u : Value) (h : [v][j]? = some u) : (W.alloc (.cells #[v] t)).cell? ((⟨W.heap.size, 0, none⟩ : Addr).add j) = some u := by
  match j, h with
  | 0, h => simp at h; subst h; rw [show (⟨W.heap.size, 0, none⟩ : Addr).add 0 = ⟨W.heap.size, 0, none⟩ from rfl, cell_of (putAll _ _ rfl)]; rfl
/-- One part more. -/
theorem RJ.more {w W : World} {r : Loop} {h : Nat} {l : List UInt8} {p s : Bool} {rest q : List UInt8} (J : RJ w W r h l p s rest) (hq : parts rest = q :: parts (behind rest)) (hql : q.length ≤ 255) (hl : l.length ≤ 4096) :
    ∃ v, W.cell? ⟨h + 2, 2, none⟩ = some v ∧ ∀ X : World, Below W.heap.size W X → X.cell? ⟨h + 2, 2, none⟩ = some v ∧ (X.alloc (.cells #[S q] 9)).cell? ⟨h + 2, 2, none⟩ = some v ∧
      ∃ a m c W6, (Builtin.append_ #[22, 22] 22 #[v, .slice (some ⟨X.heap.size, 0, none⟩) 1 1]).run Try.prog (X.alloc (.cells #[S q] 9)) = .ok (.slice a m c) W6 ∧ W6.cell? ⟨h + 2, 2, none⟩ = some v ∧ W6.frozen? ⟨h + 2, 2, none⟩ = false ∧
        (W6.setCell ⟨h + 2, 2, none⟩ (.slice a m c)).heap[h + 5]? = some (.loop r) ∧ RJ w (W6.setCell ⟨h + 2, 2, none⟩ (.slice a m c)) r h l p s (behind rest) := by
  obtain ⟨v, dn, o1, o2, o3, o4⟩ := J.ow
  obtain ⟨i0, hi, hz0, hz1, hz2⟩ := info_parts info9
  have hdn : dn.length ≤ 4097 := by
    have h1 := congrArg List.length o2
    have h2 := parts_le l
    simp at h1; omega
  have hlw := lt_of_heap J.lp
  refine ⟨v, by rw [cell_of o1]; rfl, fun X hB => ?_⟩
  have kx : ∀ {k : Nat} {o : Obj}, W.heap[k]? = some o → X.heap[k]? = some o := fun h1 => (hB.block _ (lt_of_heap h1)).trans h1
  have hxs := hB.size
  have ownX : X.ownsRow h 9 1 v dn.length (strs dn) := own_keep o4 fun k cur hc => hB.block _ (lt_of_heap hc)
  have own5 := own_keep (W' := X.alloc (.cells #[S q] 9)) ownX (fun k cur hc => Below.heap_alloc X _ _ (lt_of_heap hc))
  obtain ⟨v', W6, hrun, own6, hgr, -, -⟩ := run_append_own_at (P := Try.prog) (X.alloc (.cells #[S q] 9)) h 22 22 9 i0 (.string ByteArray.empty) 1 16 Try.underlying22 hi hz0 hz1 hz2 rfl (by decide) v _ _ own5 ⟨X.heap.size, 0, none⟩ 1 1 [S q] rfl (cell_one_new X _ _) (by intro u hu; simp at hu; subst hu; rfl) (by unfold maxLen; omega) (by omega) (by simp; omega)
  obtain ⟨a, c, rfl⟩ := own_form own6
  have k6 : ∀ {k : Nat} {o : Obj}, W.heap[k]? = some o → (∀ cur, o ≠ .cells cur 9 (0, 0)) → W6.heap[k]? = some o := fun h1 h2 => grown_keep ownX hgr (kx h1) h2
  have b6 := k6 o1 (by simp)
  have k7 : ∀ {k : Nat} {o : Obj}, W.heap[k]? = some o → (∀ cur, o ≠ .cells cur 9 (0, 0)) → k ≠ h + 2 → (W6.setCell ⟨h + 2, 2, none⟩ (.slice a (dn.length + 1) c)).heap[k]? = some o := fun h1 h2 h3 => (Below.heap_setCell _ _ _ _ h3).trans (k6 h1 h2)
  have be6 : Below h w W6 := below_grown ((J.be.trans (hB.mono (by omega))).alloc (by omega) _) own5 hgr (by simp; omega)
  refine ⟨by rw [cell_of (kx o1)]; rfl, by rw [cell_of ((Below.heap_alloc X _ _ (lt_of_heap (kx o1))).trans (kx o1))]; rfl, a, _, c, W6, hrun, by rw [cell_of b6]; rfl, frozen_of b6 2, k7 J.lp (by simp) (by omega), ?_⟩
  refine ⟨k7 J.lp (by simp) (by omega), k7 J.dd (by simp) (by omega), be6.setCell (p := ⟨h + 2, 2, none⟩) (by simp) _, k7 J.k0 (by simp) (by omega), k7 J.k1 (by simp) (by omega), .slice a (dn.length + 1) c, dn ++ [q], ?_, by rw [o2, hq]; simp, ?_, ?_⟩
  · rw [heap_set b6]; simp
  · intro x hx
    rcases List.mem_append.1 hx with hx | hx
    · exact o3 x hx
    · simp at hx; subst hx; exact hql
  · have e1 : (dn ++ [q]).length = dn.length + 1 := by simp
    have e2 : strs (dn ++ [q]) = strs dn ++ [S q] := by simp [strs]
    rw [e1, e2]
    refine own_keep own6 fun k cur hc => Below.heap_setCell _ _ _ _ ?_
    rintro rfl
    rw [b6] at hc
    simp at hc
theorem RJ.drew {w W : World} {r : Loop} {h : Nat} {l : List UInt8} {p s : Bool} {rest : List UInt8} (J : RJ w W r h l p s rest) : RJ w W.drew r h l p s rest := by
  obtain ⟨v, dn, o1, o2, o3, o4⟩ := J.ow
  exact ⟨J.lp, J.dd, below_drew J.be, J.k0, J.k1, v, dn, o1, o2, o3, own_keep o4 fun _ _ _ => rfl⟩
end Go.Proofs.Ytnhddendkolfeaa
