/-
  The contracts of List and Above: the numbers of the mounts, new memory.
-/
import Derived.Test.YthmpplcaomgdoaaMLook
namespace Go.Proofs.Ythmpplcaomgdoaa.Mt
open Go.RowKit Go.Shelf
attribute [local go_sem] Oper.semAt_some

theorem info3 : (Try.prog.info? 3).map (fun i => (i.zero, i.size, i.bytes)) = some (some (.int .i64 0), 1, 8) := by kernel_rfl
abbrev ints (l : List Int) : List Value := l.map I
/-- What Above answers, and List. -/
def abv (es : Ents) (m : Int) : List Int := (es.filter (isM m)).map (·.n)
def lst (es : Ents) : List Int := 0 :: es.map (·.n)
theorem abv_yes {es : Ents} {i : Nat} {p : Ld} {m : Int} (h : es[i]? = some p) (hp : p.am = m) : abv (es.take (i + 1)) m = abv (es.take i) m ++ [p.n] := by
  rw [List.take_add_one, h]; simp [abv, isM, hp]
theorem abv_no {es : Ents} {i : Nat} {p : Ld} {m : Int} (h : es[i]? = some p) (hp : ¬ p.am = m) : abv (es.take (i + 1)) m = abv (es.take i) m := by
  rw [List.take_add_one, h]; simp [abv, isM, hp]
theorem abv_len (es : Ents) (m : Int) (i : Nat) : (abv (es.take i) m).length ≤ es.length := by
  have := List.length_filter_le (isM m) (es.take i)
  simp [abv] at this ⊢
  omega
theorem lst_yes {es : Ents} {i : Nat} {p : Ld} (h : es[i]? = some p) : lst (es.take (i + 1)) = lst (es.take i) ++ [p.n] := by
  rw [List.take_add_one, h]; simp [lst]
theorem wpListIn_append_eq {F : Fence} {n : Nat} {P : Program} {w : World} {ops : Array Oper} {rest : List Oper} {o : Oper} {a : Act} {Q : Exit → Act → World → Prop} (hgd : o.guard = none) (s x : Operand) (t : TypeId)
    (ho : o.op = .call { callee := .builtin .append, args := #[s, x], argTypes := #[t, t] }) (ty : TypeId) (hty : o.type = ty) (vs vx : Value) (hs : a.eval s = vs) (hx : a.eval x = vx) (v' : Value) (w' : World)
    (hrun : (Builtin.append_ #[t, t] ty #[vs, vx]).run P w = .ok v' w') (h : wpListIn F n P ops Q rest (a.put o.dst v') w') : wpListIn F n P ops Q (o :: rest) a w := by
  refine wpListIn_plain hgd fun K hK' => ?_
  unfold Oper.wpIn
  refine ⟨?_, ?_⟩
  · simp [Oper.about, ho, resolve, Target.leads, Sem.run_pure]
  · rw [Oper.semAt_plain F _ _ (by rw [ho]; intro c hc'; cases hc')]
    simp [execOp, ho, resolve, invoke, builtin, hs, hx, hty, hrun, Result.andThen]
    exact hK' _ _ h
theorem lst_len (es : Ents) (i : Nat) : (lst (es.take i)).length ≤ es.length + 1 := by
  simp [lst]; omega
structure AJ (w W : World) (r : Loop) (h b : Nat) (es : Ents) (m : Int) (i : Nat) : Prop where
  f : Fl w W r h (h + 4) (h + 3) (h + 2) b
  k0 : W.heap[h]? = some (.cells #[I m] 3)
  ow : ∃ v, W.heap[h + 1]? = some (.cells #[v] 35) ∧ W.ownsRow h 3 1 v (abv (es.take i) m).length (ints (abv (es.take i) m)) ∧ v.ownBlock ≠ some h
theorem AJ.alloc {w W : World} {r : Loop} {h b : Nat} {es : Ents} {m : Int} {i : Nat} (J : AJ w W r h b es m i) (o : Obj) (hh : h ≤ W.heap.size) : AJ w (W.alloc o) r h b es m i :=
  have kp : ∀ {k : Nat} {o' : Obj}, W.heap[k]? = some o' → (W.alloc o).heap[k]? = some o' := fun h1 => (Below.heap_alloc _ _ _ (lt_of_heap h1)).trans h1
  ⟨⟨kp J.f.l, kp J.f.dd, kp J.f.xx, J.f.be.alloc hh o⟩, kp J.k0, let ⟨v, h1, h2, h3⟩ := J.ow; ⟨v, kp h1, own_keep h2 (fun _ _ hc => Below.heap_alloc _ _ _ (lt_of_heap hc)), h3⟩⟩
theorem AJ.put {w W : World} {r : Loop} {h b : Nat} {es : Ents} {m : Int} {i : Nat} (J : AJ w W r h b es m i) (r' : Loop) : AJ w (W.putObj (h + 4) (.loop r')) r' h b es m i :=
  ⟨J.f.put r' (by omega), put_other J.f.l J.k0 (by simp), let ⟨v, h1, h2, h3⟩ := J.ow; ⟨v, put_other J.f.l h1 (by simp), own_put h2 J.f.l, h3⟩⟩
set_option maxRecDepth 100000 in
set_option maxHeartbeats 1000000 in
theorem above_in (base b : Nat) (rt md m : Int) (es : Ents) (w : World) (hG : Ls base w b rt md es) (hes : es.length ≤ 1000) :
    CallsIn Fence.wide 5 Try.prog 15 #[.pointer (some ⟨b, 0, none⟩), I m] w fun e w' => ∃ v, e = .returned v ∧ w'.ownsRow w.heap.size 3 1 v (abv es m).length (ints (abv es m)) ∧ Below w.heap.size w w' := by
  have hro : Fence.wide.round = none := rfl
  have HG := hide hG
  have hbl := hG.lt
  obtain ⟨i0, hi, hz0, hz1, hz2⟩ := info_parts info3
  clear hG
  refine callsIn_of_wp_marks Try.func15 rfl trivial ?_ hro
  simp only [Try.ntmps15, List.size_toArray, List.length_cons, List.length_nil, Nat.reduceAdd, Nat.reduceSub, Array.replicate_succ, Array.replicate_zero, List.push_toArray, List.append_toArray, List.nil_append, List.cons_append]
  gi_wp2_with fail
  refine ⟨trivial, (callsIn_wide.2 (rising_any b _)).mono ?_⟩
  rintro e w' ⟨rfl, rfl⟩
  gi_wp2_with fail
  obtain ⟨V, hV, hsz, g0, g1, g2, hB⟩ := three0 w (.cells #[I m] 3) (.cells #[.slice none 0 0] 35) (.cells #[.pointer (some ⟨b, 0, none⟩)] 22)
  rw [hV]
  clear hV
  generalize hh : w.heap.size = h at *
  have HH : Hid (w.heap.size = h) := hh
  refine wpIn_range_own hro (by omega) (gf := 42) (lb := #[.pointer (some ⟨h + 2, 0, none⟩)]) rfl trivial (enters_of Try.func42 (by kernel_rfl) rfl) ?_
  intro r hF hst hpe htm hps has hbo
  obtain ⟨L1, D1, hB2⟩ := setup V r
  rw [hsz] at L1 D1 ⊢
  generalize ((V.alloc (.deferred (some []))).alloc (.loop r)) = W1 at L1 D1 hB2 ⊢
  have J0 : AJ w W1 r h b es m 0 := ⟨⟨L1, D1, (hB2.block _ (by omega)).trans g2, hB.trans (hB2.mono (by omega))⟩, (hB2.block _ (by omega)).trans g0, ⟨_, (hB2.block _ (by omega)).trans g1, World.ownsRow_nil _ _ _ _, by simp [Value.ownBlock]⟩⟩
  clear L1 D1 hB2 g0 g1 g2 hB
  refine (iter_go (h + 4) (h + 2) W1 (fun i W => AJ w W r h b es m i) (fun W => False) (unhide HG) (by omega) J0 (fun i W' J => ⟨by rw [hh]; exact J.f.be, by rw [cell_of J.f.xx]; rfl⟩) ?_ (fun i W' o J => J.alloc o (by have := lt_of_heap J.f.l; omega))).mono ?_
  · intro i W2 p J hi0
    have him := (List.getElem?_eq_some_iff.1 hi0).1
    have hYY : YieldAt Fence.wide (4 - 1) Try.prog (h + 4) #[lv p] W2 (fun e W2 => e = .returned (.bool true) ∧ AJ w W2 r h b es m (i + 1)) := by
      refine yield_own hF hst hpe htm hps has hbo rfl J.f.l ?_
      clear htm hps has hbo hst hpe J0
      intro rb
      unfold lv
      gi_wp2
      have J' := J.alloc (.cells #[I p.n, I p.top, I p.am, I p.an] 59) (by have := lt_of_heap J.f.l; omega)
      refine ⟨J'.f.l, ?_⟩
      have hm : (W2.alloc (.cells #[I p.n, I p.top, I p.am, I p.an] 59)).heap[W2.heap.size]? = some (.cells #[I p.n, I p.top, I p.am, I p.an] 59) := putAll _ _ rfl
      have J4 := J'.put rb
      have km := put_other (r' := rb) J'.f.l hm (by simp)
      have hmh : h + 4 < W2.heap.size := lt_of_heap J.f.l
      generalize (W2.alloc (.cells #[I p.n, I p.top, I p.am, I p.an] 59)).putObj (h + 4) (.loop rb) = W4 at *
      generalize W2.heap.size = y at *
      obtain ⟨m0, m1, m2, m3⟩ := cells4 km
      have i0' : W4.cell? ⟨h, 0, none⟩ = some (I m) := by rw [cell_of J4.k0]; rfl
      obtain ⟨v, kv, own, hnb⟩ := J4.ow
      have e0 : W4.cell? ⟨h + 1, 0, none⟩ = some v := by rw [cell_of kv]; rfl
      by_cases hc : p.am = m
      · have hil := abv_len es m i
        have own5 := own_keep (W' := W4.alloc (.cells #[I p.n] 3)) own (fun k cur hc => Below.heap_alloc W4 _ _ (lt_of_heap hc))
        have hs4 : h ≤ W4.heap.size := by have := lt_of_heap kv; omega
        obtain ⟨v', W5, hrun, own6, hgr, -, hat⟩ := run_append_own_at (P := Try.prog) (W4.alloc (.cells #[I p.n] 3)) h 35 35 3 i0 (I 0) 1 8 Try.underlying35 hi hz0 hz1 hz2 rfl (by decide) v _ _ own5 ⟨W4.heap.size, 0, none⟩ 1 1 [I p.n] rfl (cell_one_new W4 _ _) (by intro u hu; simp at hu; subst hu; rfl) (by unfold maxLen; omega) (by omega) (by simp; omega)
        obtain ⟨F5, H5, k5, own7⟩ := box_more J4.f kv own hgr own6 (by omega) (by decide) (by decide) (by decide)
        have ef5 : W5.frozen? ⟨h + 1, 0, none⟩ = false := frozen_of H5 0
        have ec5 : W5.cell? ⟨h + 1, 0, none⟩ = some v := by rw [cell_of H5]; rfl
        have m0' := cell_alloc m0 (.cells #[I p.n] 3)
        have e0' := cell_alloc e0 (.cells #[I p.n] 3)
        have k05 := (Below.heap_setCell W5 ⟨h + 1, 0, none⟩ v' h (by simp)).trans ((hgr.block h (by simp; have := lt_of_heap J4.k0; omega) (Ne.symm hnb)).trans ((Below.heap_alloc W4 (.cells #[I p.n] 3) h (lt_of_heap J4.k0)).trans J4.k0))
        have hnb' : v'.ownBlock ≠ some h := by
          rcases hat with e | e
          · rw [e]; exact hnb
          · rw [e]; simp; have := lt_of_heap J4.k0; omega
        have J5 : AJ w (W5.setCell ⟨h + 1, 0, none⟩ v') rb h b es m (i + 1) := by
          refine ⟨F5, k05, ⟨v', k5, ?_, hnb'⟩⟩
          rw [abv_yes hi0 hc, List.length_append]
          simpa [ints] using own7
        have FIN := hide (J5.put r)
        have HL := hide J5.f.l
        obtain ⟨q', cp, rfl⟩ := own_form own6
        generalize (abv (es.take i) m).length + 1 = n' at *
        clear J J' J4 hm km own own5 kv HG hi0 own6 hgr F5 H5 k5 own7 J5 hil hs4 hat k05 hnb hnb'
        gi_wp2_with (gi_at_builtin; refine wpListIn_append_eq rfl _ _ 35 rfl 35 rfl _ _ rfl rfl _ _ hrun ?_)
        exact ⟨unhide HL, unhide FIN⟩
      · have FIN := hide (show AJ w (W4.putObj (h + 4) (.loop r)) r h b es m (i + 1) from ⟨J4.f.put r (by omega), put_other J4.f.l J4.k0 (by simp), ⟨v, put_other J4.f.l kv (by simp), by rw [abv_no hi0 hc]; exact own_put own J4.f.l, hnb⟩⟩)
        have HL := hide J4.f.l
        clear J J' J4 hm km own kv HG hi0
        gi_wp2_with fail
        exact ⟨unhide HL, unhide FIN⟩
    obtain ⟨fn, tmps, assign, body, h1, h2⟩ := hYY
    exact ⟨fn, tmps, assign, body, h1, h2.mono fun e W hh => .inl hh⟩
  · rintro e W2 ⟨rfl, J | J⟩
    · refine ⟨⟨_, rfl⟩, J.f.l, ?_⟩
      have J6 := J.put { r with state := .exhausted }
      generalize W2.putObj (h + 4) (.loop { r with state := .exhausted }) = W3 at *
      obtain ⟨v, kv, own, -⟩ := J6.ow
      rw [List.take_length] at own
      have e1 : W3.cell? ⟨h + 1, 0, none⟩ = some v := by rw [cell_of kv]; rfl
      have HJ := hide J6
      have HO := hide own
      clear J J0 J6 htm hps has hbo hst hpe kv own HG
      gi_wp2_with fail
      refine ⟨by simp, .inl ⟨_, _, rfl, run_takeDeferred (unhide HJ).f.dd, ?_⟩⟩
      have hb := (unhide HJ).f.be
      have be7 : Below h w (W3.putObj (h + 3) (.deferred none)) := ⟨hb.os, hb.tape, hb.output, by rw [World.putObj_size]; exact hb.size, fun k hk => (World.putObj_heap_other (by omega)).trans (hb.block k hk)⟩
      have own7 : (W3.putObj (h + 3) (.deferred none)).ownsRow h 3 1 v _ _ := own_keep (unhide HO) fun k cur hc => World.putObj_heap_other (by
        rintro rfl
        rw [(unhide HJ).f.dd] at hc
        simp at hc)
      rw [unhide HH]
      refine ⟨v, by simp [results, Try.results15, go_sem], v, rfl, own7, be7⟩
    · exact J.elim
theorem above_any (base b : Nat) (rt md m : Int) (es : Ents) (w : World) (hG : Ls base w b rt md es) (hes : es.length ≤ 1000) :
    Calls Try.prog 15 #[.pointer (some ⟨b, 0, none⟩), I m] w fun e w' => ∃ v, e = .returned v ∧ w'.ownsRow w.heap.size 3 1 v (abv es m).length (ints (abv es m)) ∧ Below w.heap.size w w' :=
  callsIn_wide.1 (above_in base b rt md m es w hG hes)
structure LJ (w W : World) (r : Loop) (h b : Nat) (es : Ents) (i : Nat) : Prop where
  f : Fl w W r h (h + 4) (h + 3) (h + 2) b
  ow : ∃ v, W.heap[h + 1]? = some (.cells #[v] 35) ∧ W.ownsRow h 3 1 v (lst (es.take i)).length (ints (lst (es.take i)))
theorem LJ.alloc {w W : World} {r : Loop} {h b : Nat} {es : Ents} {i : Nat} (J : LJ w W r h b es i) (o : Obj) (hh : h ≤ W.heap.size) : LJ w (W.alloc o) r h b es i :=
  have kp : ∀ {k : Nat} {o' : Obj}, W.heap[k]? = some o' → (W.alloc o).heap[k]? = some o' := fun h1 => (Below.heap_alloc _ _ _ (lt_of_heap h1)).trans h1
  ⟨⟨kp J.f.l, kp J.f.dd, kp J.f.xx, J.f.be.alloc hh o⟩, let ⟨v, h1, h2⟩ := J.ow; ⟨v, kp h1, own_keep h2 (fun _ _ hc => Below.heap_alloc _ _ _ (lt_of_heap hc))⟩⟩
theorem LJ.put {w W : World} {r : Loop} {h b : Nat} {es : Ents} {i : Nat} (J : LJ w W r h b es i) (r' : Loop) : LJ w (W.putObj (h + 4) (.loop r')) r' h b es i :=
  ⟨J.f.put r' (by omega), let ⟨v, h1, h2⟩ := J.ow; ⟨v, put_other J.f.l h1 (by simp), own_put h2 J.f.l⟩⟩
set_option maxRecDepth 100000 in
set_option maxHeartbeats 1000000 in
theorem list_in (base b : Nat) (rt md : Int) (es : Ents) (w : World) (hG : Ls base w b rt md es) (hes : es.length ≤ 1000) :
    CallsIn Fence.wide 5 Try.prog 25 #[.pointer (some ⟨b, 0, none⟩)] w fun e w' => ∃ v, e = .returned v ∧ w'.ownsRow w.heap.size 3 1 v (lst es).length (ints (lst es)) ∧ Below w.heap.size w w' := by
  have hro : Fence.wide.round = none := rfl
  have HG := hide hG
  have hbl := hG.lt
  obtain ⟨i0, hi, hz0, hz1, hz2⟩ := info_parts info3
  clear hG
  refine callsIn_of_wp_marks Try.func25 rfl trivial ?_ hro
  simp only [Try.ntmps25, List.size_toArray, List.length_cons, List.length_nil, Nat.reduceAdd, Nat.reduceSub, Array.replicate_succ, Array.replicate_zero, List.push_toArray, List.append_toArray, List.nil_append, List.cons_append]
  gi_wp2_with fail
  refine ⟨trivial, (callsIn_wide.2 (rising_any b _)).mono ?_⟩
  rintro e w' ⟨rfl, rfl⟩
  gi_wp2_with fail
  obtain ⟨V, hV, hsz, g0, g1, g2, hB⟩ := three0 w (.cells #[I 0] 3) (.cells #[.slice (some ⟨w.heap.size, 0, none⟩) 1 1] 35) (.cells #[.pointer (some ⟨b, 0, none⟩)] 22)
  rw [hV]
  clear hV
  generalize hh : w.heap.size = h at *
  have HH : Hid (w.heap.size = h) := hh
  refine wpIn_range_own hro (by omega) (gf := 42) (lb := #[.pointer (some ⟨h + 2, 0, none⟩)]) rfl trivial (enters_of Try.func42 (by kernel_rfl) rfl) ?_
  intro r hF hst hpe htm hps has hbo
  obtain ⟨L1, D1, hB2⟩ := setup V r
  rw [hsz] at L1 D1 ⊢
  generalize ((V.alloc (.deferred (some []))).alloc (.loop r)) = W1 at L1 D1 hB2 ⊢
  have J0 : LJ w W1 r h b es 0 := ⟨⟨L1, D1, (hB2.block _ (by omega)).trans g2, hB.trans (hB2.mono (by omega))⟩, ⟨_, (hB2.block _ (by omega)).trans g1, ⟨rfl, .inr ⟨h, 1, _, rfl, Nat.le_refl _, (hB2.block _ (by omega)).trans g0, Nat.le_refl _, by decide, rfl, rfl⟩⟩⟩⟩
  clear L1 D1 hB2 g0 g1 g2 hB
  refine (iter_go (h + 4) (h + 2) W1 (fun i W => LJ w W r h b es i) (fun W => False) (unhide HG) (by omega) J0 (fun i W' J => ⟨by rw [hh]; exact J.f.be, by rw [cell_of J.f.xx]; rfl⟩) ?_ (fun i W' o J => J.alloc o (by have := lt_of_heap J.f.l; omega))).mono ?_
  · intro i W2 p J hi0
    have him := (List.getElem?_eq_some_iff.1 hi0).1
    have hYY : YieldAt Fence.wide (4 - 1) Try.prog (h + 4) #[lv p] W2 (fun e W2 => e = .returned (.bool true) ∧ LJ w W2 r h b es (i + 1)) := by
      refine yield_own hF hst hpe htm hps has hbo rfl J.f.l ?_
      clear htm hps has hbo hst hpe J0
      intro rb
      unfold lv
      gi_wp2
      have J' := J.alloc (.cells #[I p.n, I p.top, I p.am, I p.an] 59) (by have := lt_of_heap J.f.l; omega)
      refine ⟨J'.f.l, ?_⟩
      have hm : (W2.alloc (.cells #[I p.n, I p.top, I p.am, I p.an] 59)).heap[W2.heap.size]? = some (.cells #[I p.n, I p.top, I p.am, I p.an] 59) := putAll _ _ rfl
      have J4 := J'.put rb
      have km := put_other (r' := rb) J'.f.l hm (by simp)
      have hmh : h + 4 < W2.heap.size := lt_of_heap J.f.l
      generalize (W2.alloc (.cells #[I p.n, I p.top, I p.am, I p.an] 59)).putObj (h + 4) (.loop rb) = W4 at *
      generalize W2.heap.size = y at *
      obtain ⟨m0, m1, m2, m3⟩ := cells4 km
      obtain ⟨v, kv, own⟩ := J4.ow
      have e0 : W4.cell? ⟨h + 1, 0, none⟩ = some v := by rw [cell_of kv]; rfl
      have hil := lst_len es i
      have own5 := own_keep (W' := W4.alloc (.cells #[I p.n] 3)) own (fun k cur hc => Below.heap_alloc W4 _ _ (lt_of_heap hc))
      have hs4 : h ≤ W4.heap.size := by have := lt_of_heap kv; omega
      obtain ⟨v', W5, hrun, own6, hgr, -, hat⟩ := run_append_own_at (P := Try.prog) (W4.alloc (.cells #[I p.n] 3)) h 35 35 3 i0 (I 0) 1 8 Try.underlying35 hi hz0 hz1 hz2 rfl (by decide) v _ _ own5 ⟨W4.heap.size, 0, none⟩ 1 1 [I p.n] rfl (cell_one_new W4 _ _) (by intro u hu; simp at hu; subst hu; rfl) (by unfold maxLen; omega) (by omega) (by simp; omega)
      obtain ⟨F5, H5, k5, own7⟩ := box_more J4.f kv own hgr own6 (by omega) (by decide) (by decide) (by decide)
      have ef5 : W5.frozen? ⟨h + 1, 0, none⟩ = false := frozen_of H5 0
      have ec5 : W5.cell? ⟨h + 1, 0, none⟩ = some v := by rw [cell_of H5]; rfl
      have m0' := cell_alloc m0 (.cells #[I p.n] 3)
      have e0' := cell_alloc e0 (.cells #[I p.n] 3)
      have J5 : LJ w (W5.setCell ⟨h + 1, 0, none⟩ v') rb h b es (i + 1) := by
        refine ⟨F5, ⟨v', k5, ?_⟩⟩
        rw [lst_yes hi0, List.length_append]
        simpa [ints] using own7
      have FIN := hide (J5.put r)
      have HL := hide J5.f.l
      obtain ⟨q', cp, rfl⟩ := own_form own6
      generalize (lst (es.take i)).length + 1 = n' at *
      clear J J' J4 hm km own own5 kv HG hi0 own6 hgr F5 H5 k5 own7 J5 hil hs4 hat
      gi_wp2_with (gi_at_builtin; refine wpListIn_append_eq rfl _ _ 35 rfl 35 rfl _ _ rfl rfl _ _ hrun ?_)
      exact ⟨unhide HL, unhide FIN⟩
    obtain ⟨fn, tmps, assign, body, h1, h2⟩ := hYY
    exact ⟨fn, tmps, assign, body, h1, h2.mono fun e W hh => .inl hh⟩
  · rintro e W2 ⟨rfl, J | J⟩
    · refine ⟨⟨_, rfl⟩, J.f.l, ?_⟩
      have J6 := J.put { r with state := .exhausted }
      generalize W2.putObj (h + 4) (.loop { r with state := .exhausted }) = W3 at *
      obtain ⟨v, kv, own⟩ := J6.ow
      rw [List.take_length] at own
      have e1 : W3.cell? ⟨h + 1, 0, none⟩ = some v := by rw [cell_of kv]; rfl
      have HJ := hide J6
      have HO := hide own
      clear J J0 J6 htm hps has hbo hst hpe kv own HG
      gi_wp2_with fail
      refine ⟨by simp, .inl ⟨_, _, rfl, run_takeDeferred (unhide HJ).f.dd, ?_⟩⟩
      have hb := (unhide HJ).f.be
      have be7 : Below h w (W3.putObj (h + 3) (.deferred none)) := ⟨hb.os, hb.tape, hb.output, by rw [World.putObj_size]; exact hb.size, fun k hk => (World.putObj_heap_other (by omega)).trans (hb.block k hk)⟩
      have own7 : (W3.putObj (h + 3) (.deferred none)).ownsRow h 3 1 v _ _ := own_keep (unhide HO) fun k cur hc => World.putObj_heap_other (by
        rintro rfl
        rw [(unhide HJ).f.dd] at hc
        simp at hc)
      rw [unhide HH]
      refine ⟨v, by simp [results, Try.results25, go_sem], v, rfl, own7, be7⟩
    · exact J.elim
theorem list_any (base b : Nat) (rt md : Int) (es : Ents) (w : World) (hG : Ls base w b rt md es) (hes : es.length ≤ 1000) :
    Calls Try.prog 25 #[.pointer (some ⟨b, 0, none⟩)] w fun e w' => ∃ v, e = .returned v ∧ w'.ownsRow w.heap.size 3 1 v (lst es).length (ints (lst es)) ∧ Below w.heap.size w w' :=
  callsIn_wide.1 (list_in base b rt md es w hG hes)
end Go.Proofs.Ythmpplcaomgdoaa.Mt
