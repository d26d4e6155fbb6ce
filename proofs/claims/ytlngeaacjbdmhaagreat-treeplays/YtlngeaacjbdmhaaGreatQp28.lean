/-
  The contract of first: the first of the mounts of which it is so, and whether there is one.
-/
import Derived.Test.YtlngeaacjbdmhaaGreatQp27
import Derived.Deep.RegionLaw
import Derived.Lib.SliceRun
namespace Go.Proofs.YtlngeaacjbdmhaaGreat.Mt
open Go.RowKit Go.Shelf
attribute [local go_sem] Oper.semAt_some
def fst (es : Ents) (P : Ld → Bool) : Ld := (es.find? P).getD ⟨0, 0, 0, 0⟩
def any (es : Ents) (P : Ld → Bool) : Bool := (es.find? P).isSome
theorem find_take {es : Ents} {P : Ld → Bool} {i : Nat} {p : Ld} (h : es[i]? = some p) (hN : ∀ q ∈ es.take i, P q = false) (hp : P p = true) : es.find? P = some p := by
  have hl := (List.getElem?_eq_some_iff.1 h).1
  have he := (List.getElem?_eq_some_iff.1 h).2
  have h1 : es.take i ++ es.drop i = es := List.take_append_drop i es
  have h2 : es.drop i = p :: es.drop (i + 1) := by rw [← he]; exact List.drop_eq_getElem_cons hl
  rw [← h1, List.find?_append, h2, List.find?_eq_none.2 (by intro q hq; rw [hN q hq]; simp), List.find?_cons, hp]
  rfl
theorem store4 {W : World} {b : Nat} {t : TypeId} {a0 a1 a2 a3 : Value} (h : W.heap[b]? = some (.cells #[a0, a1, a2, a3] t)) (v0 v1 v2 v3 : Value) :
    ∃ X1 X2 X3 X4 : World, (W.setCell ⟨b, 0, none⟩ v0 = X1 ∧ X1.setCell ⟨b, 1, none⟩ v1 = X2 ∧ X2.setCell ⟨b, 2, none⟩ v2 = X3 ∧ X3.setCell ⟨b, 3, none⟩ v3 = X4) ∧
      (W.cell? ⟨b, 0, none⟩ = some a0 ∧ X1.cell? ⟨b, 1, none⟩ = some a1 ∧ X2.cell? ⟨b, 2, none⟩ = some a2 ∧ X3.cell? ⟨b, 3, none⟩ = some a3) ∧
      (W.frozen? ⟨b, 0, none⟩ = false ∧ X1.frozen? ⟨b, 1, none⟩ = false ∧ X2.frozen? ⟨b, 2, none⟩ = false ∧ X3.frozen? ⟨b, 3, none⟩ = false) ∧
      X4.heap[b]? = some (.cells #[v0, v1, v2, v3] t) ∧ Fr [b] W X4 ∧ X4.heap.size = W.heap.size := by
  have h1 := heap_set h 0 v0
  have h2 := heap_set h1 1 v1
  have h3 := heap_set h2 2 v2
  have h4 := heap_set h3 3 v3
  refine ⟨_, _, _, _, ⟨rfl, rfl, rfl, rfl⟩, ⟨?_, ?_, ?_, ?_⟩, ⟨frozen_of h _, frozen_of h1 _, frozen_of h2 _, frozen_of h3 _⟩, h4, ?_, ?_⟩
  · rw [cell_of h]; rfl
  · rw [cell_of h1]; rfl
  · rw [cell_of h2]; rfl
  · rw [cell_of h3]; rfl
  · exact ((((Fr.refl [b] W).set (a := ⟨b, 0, none⟩) (by simp) v0).set (a := ⟨b, 1, none⟩) (by simp) v1).set (a := ⟨b, 2, none⟩) (by simp) v2).set (a := ⟨b, 3, none⟩) (by simp) v3
  · simp [World.setCell]
theorem cells4 {W : World} {b : Nat} {t : TypeId} {a0 a1 a2 a3 : Value} (h : W.heap[b]? = some (.cells #[a0, a1, a2, a3] t)) :
    W.cell? ⟨b, 0, none⟩ = some a0 ∧ W.cell? ⟨b, 1, none⟩ = some a1 ∧ W.cell? ⟨b, 2, none⟩ = some a2 ∧ W.cell? ⟨b, 3, none⟩ = some a3 := by
  refine ⟨?_, ?_, ?_, ?_⟩ <;> rw [cell_of h] <;> rfl
structure FJ (w W : World) (r : Loop) (h b : Nat) (es : Ents) (fv : Value) (P : Ld → Bool) (i : Nat) : Prop where
  f : Fl w W r h (h + 5) (h + 4) (h + 3) b
  k0 : W.heap[h]? = some (.cells #[fv] 231)
  k1 : W.heap[h + 1]? = some (.cells #[I 0, I 0, I 0, I 0] 182)
  k2 : W.heap[h + 2]? = some (.cells #[.bool false] 4)
  no : ∀ p ∈ es.take i, P p = false
theorem FJ.alloc {w W : World} {r : Loop} {h b : Nat} {es : Ents} {fv : Value} {P : Ld → Bool} {i : Nat} (J : FJ w W r h b es fv P i) (o : Obj) (hh : h ≤ W.heap.size) : FJ w (W.alloc o) r h b es fv P i :=
  have kp : ∀ {k : Nat} {o' : Obj}, W.heap[k]? = some o' → (W.alloc o).heap[k]? = some o' := fun h1 => (Below.heap_alloc _ _ _ (lt_of_heap h1)).trans h1
  ⟨⟨kp J.f.l, kp J.f.dd, kp J.f.xx, J.f.be.alloc hh o⟩, kp J.k0, kp J.k1, kp J.k2, J.no⟩
structure Fs (w W : World) (h b : Nat) (p : Ld) : Prop where
  f : ∃ rd : Loop, rd.state = .done ∧ rd.pending = some .ret ∧ Fl w W rd h (h + 5) (h + 4) (h + 3) b
  k1 : W.heap[h + 1]? = some (.cells #[I p.n, I p.top, I p.am, I p.an] 182)
  k2 : W.heap[h + 2]? = some (.cells #[.bool true] 4)
set_option maxRecDepth 100000 in
set_option maxHeartbeats 1000000 in
theorem first_in (base b : Nat) (rt md : Int) (es : Ents) (F x : Nat) (P : Ld → Bool) (w : World) (hG : Ls base w b rt md es) (hes : es.length ≤ 1000)
    (hE : ∀ args w, (callFunc F args).run Tryz.prog w = .ok (.enter F args) w)
    (hF : ∀ p W, Below w.heap.size w W → Calls Tryz.prog F #[lv p, .pointer (some ⟨x, 0, none⟩)] W fun e W' => e = .returned (.bool (P p)) ∧ Below W.heap.size W W') :
    CallsIn Fence.wide 5 Tryz.prog 151 #[.pointer (some ⟨b, 0, none⟩), .func (.func F) #[] #[.pointer (some ⟨x, 0, none⟩)]] w fun e w' => e = .returned (.tuple #[lv (fst es P), .bool (any es P)]) ∧ Below w.heap.size w w' := by
  have hro : Fence.wide.round = none := rfl
  have HG := hide hG
  have hbl := hG.lt
  have HE := hide hE
  have HF := hide hF
  clear hG hF hE
  refine callsIn_of_wp_marks Tryz.func151 rfl trivial ?_ hro
  simp only [Tryz.ntmps151, List.size_toArray, List.length_cons, List.length_nil, Nat.reduceAdd, Nat.reduceSub, Array.replicate_succ, Array.replicate_zero, List.push_toArray, List.append_toArray, List.nil_append, List.cons_append]
  gi_wp2_with fail
  refine ⟨trivial, (callsIn_wide.2 (rising_any b _)).mono ?_⟩
  rintro e w' ⟨rfl, rfl⟩
  gi_wp2_with fail
  obtain ⟨fv, hfv⟩ : ∃ fv : Value, fv = .func (.func F) #[] #[.pointer (some ⟨x, 0, none⟩)] := ⟨_, rfl⟩
  simp only [← hfv]
  have HV := hide hfv
  clear hfv
  obtain ⟨V, hV, hsz, g0, g1, g2, g3, hB⟩ := four0 w (.cells #[fv] 231) (.cells #[I 0, I 0, I 0, I 0] 182) (.cells #[.bool false] 4) (.cells #[.pointer (some ⟨b, 0, none⟩)] 43)
  rw [hV]
  clear hV
  generalize hh : w.heap.size = h at *
  have HH : Hid (w.heap.size = h) := hh
  refine wpIn_range_ret hro (by omega) (gf := 252) (lb := #[.pointer (some ⟨h + 3, 0, none⟩)]) rfl trivial (enters_of Tryz.func252 (by kernel_rfl) rfl) ?_
  intro r hF hst hpe htm hps has hbo
  obtain ⟨L1, D1, hB2⟩ := setup V r
  rw [hsz] at L1 D1 ⊢
  generalize ((V.alloc (.deferred (some []))).alloc (.loop r)) = W1 at L1 D1 hB2 ⊢
  have J0 : FJ w W1 r h b es fv P 0 := ⟨⟨L1, D1, (hB2.block _ (by omega)).trans g3, hB.trans (hB2.mono (by omega))⟩, (hB2.block _ (by omega)).trans g0, (hB2.block _ (by omega)).trans g1, (hB2.block _ (by omega)).trans g2, by simp⟩
  clear L1 D1 hB2 g0 g1 g2 g3 hB
  refine (iter_go (h + 5) (h + 3) W1 (fun i W => FJ w W r h b es fv P i) (fun W => ∃ p, es.find? P = some p ∧ Fs w W h b p) (unhide HG) (by omega) J0 (fun i W' J => ⟨by rw [hh]; exact J.f.be, by rw [cell_of J.f.xx]; rfl⟩) ?_ (fun i W' o J => J.alloc o (by have := lt_of_heap J.f.l; omega))).mono ?_
  · intro i W2 p J hi
    refine yield_ret hF hst hpe htm hps has hbo rfl J.f.l ?_
    clear htm hps has hbo hst hpe J0
    intro rb
    unfold lv
    gi_wp2
    have J' := J.alloc (.cells #[I p.n, I p.top, I p.am, I p.an] 182) (by have := lt_of_heap J.f.l; omega)
    refine ⟨J'.f.l, ?_⟩
    have hm : (W2.alloc (.cells #[I p.n, I p.top, I p.am, I p.an] 182)).heap[W2.heap.size]? = some (.cells #[I p.n, I p.top, I p.am, I p.an] 182) := putAll _ _ rfl
    have F4 := J'.f.put rb (by omega)
    have k0 := put_other (r' := rb) J'.f.l J'.k0 (by simp)
    have k1 := put_other (r' := rb) J'.f.l J'.k1 (by simp)
    have k2 := put_other (r' := rb) J'.f.l J'.k2 (by simp)
    have km := put_other (r' := rb) J'.f.l hm (by simp)
    have hmh : h + 5 < W2.heap.size := lt_of_heap J.f.l
    generalize (W2.alloc (.cells #[I p.n, I p.top, I p.am, I p.an] 182)).putObj (h + 5) (.loop rb) = W4 at *
    generalize W2.heap.size = y at *
    have i0 : W4.cell? ⟨h, 0, none⟩ = some (.func (.func F) #[] #[.pointer (some ⟨x, 0, none⟩)]) := by rw [cell_of k0, unhide HV]; rfl
    have m0 : W4.cell? ⟨y, 0, none⟩ = some (I p.n) := by rw [cell_of km]; rfl
    have m1 : W4.cell? ⟨y, 1, none⟩ = some (I p.top) := by rw [cell_of km]; rfl
    have m2 : W4.cell? ⟨y, 2, none⟩ = some (I p.am) := by rw [cell_of km]; rfl
    have m3 : W4.cell? ⟨y, 3, none⟩ = some (I p.an) := by rw [cell_of km]; rfl
    have hE := unhide HE
    gi_wp2_with fail
    refine ⟨trivial, CallsIn.inRound _ ((callsIn_wide.2 (unhide HF p W4 F4.be)).mono ?_)⟩
    rintro e W5 ⟨rfl, hB5⟩
    have kp : ∀ {k : Nat} {o : Obj}, W4.heap[k]? = some o → W5.heap[k]? = some o := fun h1 => (hB5.block _ (lt_of_heap h1)).trans h1
    have F5 : Fl w W5 rb h (h + 5) (h + 4) (h + 3) b := ⟨kp F4.l, kp F4.dd, kp F4.xx, F4.be.trans (hB5.mono (by have := lt_of_heap F4.l; omega))⟩
    replace k0 := kp k0
    replace k1 := kp k1
    replace k2 := kp k2
    replace km := kp km
    clear hB5 kp F4 i0 m0 m1 m2 m3 J' hE hm HG HE HF
    have m0 : W5.cell? ⟨y, 0, none⟩ = some (I p.n) := by rw [cell_of km]; rfl
    have m1 : W5.cell? ⟨y, 1, none⟩ = some (I p.top) := by rw [cell_of km]; rfl
    have m2 : W5.cell? ⟨y, 2, none⟩ = some (I p.am) := by rw [cell_of km]; rfl
    have m3 : W5.cell? ⟨y, 3, none⟩ = some (I p.an) := by rw [cell_of km]; rfl
    cases hP : P p with
    | true =>
      have hfind := find_take hi J.no hP
      obtain ⟨X1, X2, X3, W6, ⟨x1, x2, x3, x4⟩, ⟨c0, c1, c2, c3⟩, ⟨f0, f1, f2, f3⟩, q1, hfr, hsx⟩ := store4 k1 (I p.n) (I p.top) (I p.am) (I p.an)
      have kp : ∀ {k : Nat} {o : Obj}, W5.heap[k]? = some o → k ≠ h + 1 → W6.heap[k]? = some o := fun h1 h2 => (hfr.blk _ (lt_of_heap h1) (by simpa using h2)).trans h1
      have F6 : Fl w W6 rb h (h + 5) (h + 4) (h + 3) b := ⟨kp F5.l (by omega), kp F5.dd (by omega), kp F5.xx (by omega), F5.be.trans (hfr.base (by have := lt_of_heap F5.l; omega) (by simp))⟩
      have q2 := kp k2 (by omega)
      have g0 : W6.cell? ⟨h + 2, 0, none⟩ = some (.bool false) := by rw [cell_of q2]; rfl
      have gf : W6.frozen? ⟨h + 2, 0, none⟩ = false := frozen_of q2 0
      have Hf := hide hfind
      have HF6 := hide F6
      have Hk1 := hide q1
      have Hk2 := hide q2
      clear J F5 F6 k0 k1 k2 q1 q2 km hfind hi hP hfr hsx kp
      gi_wp2_with fail
      have F7 : Fl w (W6.setCell ⟨h + 2, 0, none⟩ (.bool true)) rb h (h + 5) (h + 4) (h + 3) b := ⟨(Below.heap_setCell _ _ _ _ (by simp)).trans (unhide HF6).l, (Below.heap_setCell _ _ _ _ (by simp)).trans (unhide HF6).dd, (Below.heap_setCell _ _ _ _ (by simp)).trans (unhide HF6).xx, (unhide HF6).be.setCell (p := ⟨h + 2, 0, none⟩) (by simp) _⟩
      refine ⟨F7.l, p, unhide Hf, ⟨_, rfl, rfl, F7.put _ (by omega)⟩, put_other F7.l ((Below.heap_setCell _ _ _ _ (by simp)).trans (unhide Hk1)) (by simp), put_other F7.l ?_ (by simp)⟩
      rw [heap_set (unhide Hk2)]; simp
    | false =>
      have HN := hide (show FJ w (W5.putObj (h + 5) (.loop r)) r h b es fv P (i + 1) from ⟨F5.put r (by omega), put_other F5.l k0 (by simp), put_other F5.l k1 (by simp), put_other F5.l k2 (by simp), by
        intro q hq
        rw [List.take_add_one, hi] at hq
        rcases List.mem_append.1 hq with hq | hq
        · exact J.no q hq
        · simp at hq; subst hq; exact hP⟩)
      have HL := hide F5.l
      clear J F5 k0 k1 k2 km hi hP
      gi_wp2_with fail
      exact ⟨unhide HL, unhide HN⟩
  · rintro e W2 ⟨rfl, J | ⟨p, hp, J⟩⟩
    · refine ⟨⟨_, rfl⟩, .inl ⟨J.f.l, ?_⟩⟩
      have F6 := J.f.put { r with state := .exhausted } (by omega)
      have k1 := put_other (r' := { r with state := .exhausted }) J.f.l J.k1 (by simp)
      have k2 := put_other (r' := { r with state := .exhausted }) J.f.l J.k2 (by simp)
      have hno : es.find? P = none := List.find?_eq_none.2 (by have := J.no; rw [List.take_length] at this; intro q hq; rw [this q hq]; simp)
      generalize W2.putObj (h + 5) (.loop { r with state := .exhausted }) = W3 at *
      obtain ⟨X1, X2, X3, W6, ⟨x1, x2, x3, x4⟩, ⟨c0, c1, c2, c3⟩, ⟨f0, f1, f2, f3⟩, q1, hfr, hsx⟩ := store4 k1 (I 0) (I 0) (I 0) (I 0)
      have kp : ∀ {k : Nat} {o : Obj}, W3.heap[k]? = some o → k ≠ h + 1 → W6.heap[k]? = some o := fun h1 h2 => (hfr.blk _ (lt_of_heap h1) (by simpa using h2)).trans h1
      have q2 := kp k2 (by omega)
      have g0 : W6.cell? ⟨h + 2, 0, none⟩ = some (.bool false) := by rw [cell_of q2]; rfl
      have gf : W6.frozen? ⟨h + 2, 0, none⟩ = false := frozen_of q2 0
      have dd := hide (kp F6.dd (by omega))
      have be := hide (F6.be.trans (hfr.base (by have := lt_of_heap F6.l; omega) (by simp)))
      have HN := hide hno
      have Hk1 := hide q1
      have Hk2 := hide q2
      clear J J0 F6 k1 k2 htm hps has hbo hst hpe hno q1 q2 hfr hsx kp HG HE HF
      gi_wp2_with fail
      have dd5 : (W6.setCell ⟨h + 2, 0, none⟩ (.bool false)).heap[h + 4]? = some (.deferred (some [])) := (Below.heap_setCell _ _ _ _ (by simp)).trans (unhide dd)
      refine ⟨by simp, .inl ⟨_, _, rfl, run_takeDeferred dd5, ?_⟩⟩
      have hb := (unhide be).setCell (p := ⟨h + 2, 0, none⟩) (by simp) (.bool false)
      have be7 : Below h w ((W6.setCell ⟨h + 2, 0, none⟩ (.bool false)).putObj (h + 4) (.deferred none)) := ⟨hb.os, hb.tape, hb.output, by rw [World.putObj_size]; exact hb.size, fun k hk => (World.putObj_heap_other (by omega)).trans (hb.block k hk)⟩
      have q7 : ((W6.setCell ⟨h + 2, 0, none⟩ (.bool false)).putObj (h + 4) (.deferred none)).heap[h + 1]? = some (.cells #[I 0, I 0, I 0, I 0] 182) := by
        rw [World.putObj_heap_other (by omega), Below.heap_setCell _ _ _ _ (by simp)]; exact unhide Hk1
      have q8 : ((W6.setCell ⟨h + 2, 0, none⟩ (.bool false)).putObj (h + 4) (.deferred none)).heap[h + 2]? = some (.cells #[.bool false] 4) := by
        rw [World.putObj_heap_other (by omega), heap_set (unhide Hk2)]; simp
      generalize (W6.setCell ⟨h + 2, 0, none⟩ (.bool false)).putObj (h + 4) (.deferred none) = W7 at *
      obtain ⟨z0, z1, z2, z3⟩ := cells4 q7
      have z8 : W7.cell? ⟨h + 2, 0, none⟩ = some (.bool false) := by rw [cell_of q8]; rfl
      rw [unhide HH]
      refine ⟨.tuple #[.agg #[I 0, I 0, I 0, I 0], .bool false], by simp [results, Tryz.results151, go_sem, z0, z1, z2, z3, z8], ?_, be7⟩
      rw [fst, any, unhide HN]; rfl
    · obtain ⟨rd, hd1, hd2, F5⟩ := J.f
      refine ⟨⟨_, rfl⟩, .inr ⟨rd, hd1, hd2, F5.l, ?_⟩⟩
      have F6 := F5.put { rd with state := .exhausted } (by omega)
      have k6 := put_other (r' := { rd with state := .exhausted }) F5.l J.k1 (by simp)
      have k7 := put_other (r' := { rd with state := .exhausted }) F5.l J.k2 (by simp)
      generalize W2.putObj (h + 5) (.loop { rd with state := .exhausted }) = W3 at *
      have HF6 := hide F6
      have HK := hide k6
      have HK2 := hide k7
      have Hp := hide hp
      clear J J0 F6 k6 k7 htm hps has hbo hst hpe F5 hp HG HE HF
      gi_wp2_with fail
      refine ⟨by simp, .inl ⟨_, _, rfl, run_takeDeferred (unhide HF6).dd, ?_⟩⟩
      have hb := (unhide HF6).be
      have be7 : Below h w (W3.putObj (h + 4) (.deferred none)) := ⟨hb.os, hb.tape, hb.output, by rw [World.putObj_size]; exact hb.size, fun k hk => (World.putObj_heap_other (by omega)).trans (hb.block k hk)⟩
      have q7 : (W3.putObj (h + 4) (.deferred none)).heap[h + 1]? = _ := (World.putObj_heap_other (by omega)).trans (unhide HK)
      have q8 : (W3.putObj (h + 4) (.deferred none)).heap[h + 2]? = _ := (World.putObj_heap_other (by omega)).trans (unhide HK2)
      generalize W3.putObj (h + 4) (.deferred none) = W7 at *
      obtain ⟨z0, z1, z2, z3⟩ := cells4 q7
      have z8 : W7.cell? ⟨h + 2, 0, none⟩ = some (.bool true) := by rw [cell_of q8]; rfl
      rw [unhide HH]
      refine ⟨.tuple #[.agg #[I p.n, I p.top, I p.am, I p.an], .bool true], by simp [results, Tryz.results151, go_sem, z0, z1, z2, z3, z8], ?_, be7⟩
      rw [fst, any, unhide Hp]; rfl
theorem first_any (base b : Nat) (rt md : Int) (es : Ents) (F x : Nat) (P : Ld → Bool) (w : World) (hG : Ls base w b rt md es) (hes : es.length ≤ 1000)
    (hE : ∀ args w, (callFunc F args).run Tryz.prog w = .ok (.enter F args) w)
    (hF : ∀ p W, Below w.heap.size w W → Calls Tryz.prog F #[lv p, .pointer (some ⟨x, 0, none⟩)] W fun e W' => e = .returned (.bool (P p)) ∧ Below W.heap.size W W') :
    Calls Tryz.prog 151 #[.pointer (some ⟨b, 0, none⟩), .func (.func F) #[] #[.pointer (some ⟨x, 0, none⟩)]] w fun e w' => e = .returned (.tuple #[lv (fst es P), .bool (any es P)]) ∧ Below w.heap.size w w' :=
  callsIn_wide.1 (first_in base b rt md es F x P w hG hes hE hF)
end Go.Proofs.YtlngeaacjbdmhaaGreat.Mt

namespace Go.Proofs.YtlngeaacjbdmhaaGreat.Mt
open Go.RowKit
attribute [local go_sem ↓] Go.wp_at_zero Go.wp_at_succ
def isN (m : Int) : Ld → Bool := fun p => decide (p.n = m)
def isM (m : Int) : Ld → Bool := fun p => decide (p.am = m)
def isAt (m n : Int) : Ld → Bool := fun p => decide (p.am = m ∧ p.an = n)
theorem Ls.alloc {base : Nat} {W : World} {b : Nat} {rt md : Int} {es : Ents} (h : Ls base W b rt md es) (o : Obj) : Ls base (W.alloc o) b rt md es := h.below (below_alloc _ _)
theorem numbered_any (base b : Nat) (rt md m : Int) (es : Ents) (w : World) (hG : Ls base w b rt md es) (hes : es.length ≤ 1000) :
    Calls Tryz.prog 150 #[.pointer (some ⟨b, 0, none⟩), I m] w fun e w' => e = .returned (.tuple #[lv (fst es (isN m)), .bool (any es (isN m))]) ∧ Below w.heap.size w w' := by
  obtain ⟨V, hV, hs, hx, hz, hb⟩ := two0 w (.cells #[I m] 3) (.cells #[I 0, I 0, I 0, I 0] 182)
  have HF := hide (first_any base b rt md es 226 w.heap.size (isN m) V (hG.below hb) hes (enters_of Tryz.func226 (by kernel_rfl) rfl)
    (fun p W hB => num1_any p _ m W (by rw [World.cell?_of_block (hB.block w.heap.size (by omega)), cell_of hx]; rfl)))
  generalize fst es (isN m) = x at *
  generalize any es (isN m) = y at *
  have HB := hide hb
  clear hb hG
  go_enter Tryz.func150, Tryz.ntmps150
  go_wp2_with fail
  refine (unhide HF).mono ?_
  rintro e w1 ⟨rfl, hB⟩
  have hz1 := (hB.block _ (by omega)).trans hz
  obtain ⟨X1, X2, X3, W6, ⟨x1, x2, x3, x4⟩, ⟨c0, c1, c2, c3⟩, ⟨f0, f1, f2, f3⟩, q1, hfr, hsx⟩ := store4 hz1 (I x.n) (I x.top) (I x.am) (I x.an)
  have hB1 := hide ((unhide HB).trans ((hB.mono (by omega)).trans (hfr.base (B := w.heap.size) (by have := hB.size; omega) (by simp))))
  obtain ⟨z0, z1, z2, z3⟩ := cells4 q1
  clear hB HF HB q1 hfr hsx hz hz1 hV hs hx
  unfold lv
  go_wp2_with fail
  refine bodyPost_ret (v := .tuple #[.agg #[I x.n, I x.top, I x.am, I x.an], .bool y]) (by simp [results, Tryz.results150, go_sem, z0, z1, z2, z3]) rfl ?_
  exact ⟨rfl, unhide hB1⟩
theorem lyingAt_any (base b : Nat) (rt md m n : Int) (es : Ents) (w : World) (hG : Ls base w b rt md es) (hes : es.length ≤ 1000) :
    Calls Tryz.prog 110 #[.pointer (some ⟨b, 0, none⟩), pv m n] w fun e w' => e = .returned (.tuple #[lv (fst es (isAt m n)), .bool (any es (isAt m n))]) ∧ Below w.heap.size w w' := by
  obtain ⟨V, hV, hs, hx, hz, hb⟩ := two0 w (.cells #[I m, I n] 50) (.cells #[I 0, I 0, I 0, I 0] 182)
  have HF := hide (first_any base b rt md es 164 w.heap.size (isAt m n) V (hG.below hb) hes (enters_of Tryz.func164 (by kernel_rfl) rfl)
    (fun p W hB => lie1_any p _ m n W (by rw [World.cell?_of_block (hB.block w.heap.size (by omega)), cell_of hx]; rfl) (by rw [World.cell?_of_block (hB.block w.heap.size (by omega)), cell_of hx]; rfl)))
  generalize fst es (isAt m n) = x at *
  generalize any es (isAt m n) = y at *
  have HB := hide hb
  clear hb hG
  unfold pv
  go_enter Tryz.func110, Tryz.ntmps110
  go_wp2_with fail
  refine (unhide HF).mono ?_
  rintro e w1 ⟨rfl, hB⟩
  have hz1 := (hB.block _ (by omega)).trans hz
  obtain ⟨X1, X2, X3, W6, ⟨x1, x2, x3, x4⟩, ⟨c0, c1, c2, c3⟩, ⟨f0, f1, f2, f3⟩, q1, hfr, hsx⟩ := store4 hz1 (I x.n) (I x.top) (I x.am) (I x.an)
  have hB1 := hide ((unhide HB).trans ((hB.mono (by omega)).trans (hfr.base (B := w.heap.size) (by have := hB.size; omega) (by simp))))
  obtain ⟨z0, z1, z2, z3⟩ := cells4 q1
  clear hB HF HB q1 hfr hsx hz hz1 hV hs hx
  unfold lv
  go_wp2_with fail
  refine bodyPost_ret (v := .tuple #[.agg #[I x.n, I x.top, I x.am, I x.an], .bool y]) (by simp [results, Tryz.results110, go_sem, z0, z1, z2, z3]) rfl ?_
  exact ⟨rfl, unhide hB1⟩
def rootTop (rt : Int) (es : Ents) (m : Int) : Int := if m = 0 then rt else (fst es (isN m)).top
def rootIs (es : Ents) (m : Int) : Bool := if m = 0 then true else any es (isN m)
theorem root_any (base b : Nat) (rt md m : Int) (es : Ents) (w : World) (hG : Ls base w b rt md es) (hes : es.length ≤ 1000) :
    Calls Tryz.prog 105 #[.pointer (some ⟨b, 0, none⟩), I m] w fun e w' => e = .returned (.tuple #[I (rootTop rt es m), .bool (rootIs es m)]) ∧ Below w.heap.size w w' := by
  obtain ⟨a, cap, h0, _, _, _, _⟩ := hG.cells
  have HF := hide (numbered_any base b rt md m es w hG hes)
  clear hG
  by_cases hm : m = 0
  · rw [rootTop, rootIs, if_pos hm, if_pos hm]
    subst hm
    clear HF
    go_enter Tryz.func105, Tryz.ntmps105
    go_wp2_with fail
    go_ret2
    exact ⟨rfl, Below.refl _ _⟩
  · rw [rootTop, rootIs, if_neg hm, if_neg hm]
    generalize fst es (isN m) = x at *
    generalize any es (isN m) = y at *
    go_enter Tryz.func105, Tryz.ntmps105
    go_wp2_with fail
    refine (unhide HF).mono ?_
    rintro e w1 ⟨rfl, hB⟩
    have hB1 := hide hB
    clear hB HF h0
    unfold lv
    go_wp2_with fail
    go_ret2
    exact ⟨rfl, (unhide hB1).alloc (unhide hB1).size _⟩
def upIs (es : Ents) (m n : Int) : Bool := any es (isN m) && decide ((fst es (isN m)).top = n)
def upM (es : Ents) (m n : Int) : Int := if upIs es m n then (fst es (isN m)).am else m
def upN (es : Ents) (m n : Int) : Int := if upIs es m n then (fst es (isN m)).an else n
theorem store2 {W : World} {b : Nat} {t : TypeId} {a0 a1 : Value} (h : W.heap[b]? = some (.cells #[a0, a1] t)) (v0 v1 : Value) :
    ∃ X1 X2 : World, (W.setCell ⟨b, 0, none⟩ v0 = X1 ∧ X1.setCell ⟨b, 1, none⟩ v1 = X2) ∧ (W.cell? ⟨b, 0, none⟩ = some a0 ∧ X1.cell? ⟨b, 1, none⟩ = some a1) ∧
      (W.frozen? ⟨b, 0, none⟩ = false ∧ X1.frozen? ⟨b, 1, none⟩ = false) ∧ X2.heap[b]? = some (.cells #[v0, v1] t) ∧ Fr [b] W X2 ∧ X2.heap.size = W.heap.size := by
  have h1 := heap_set h 0 v0
  have h2 := heap_set h1 1 v1
  refine ⟨_, _, ⟨rfl, rfl⟩, ⟨?_, ?_⟩, ⟨frozen_of h _, frozen_of h1 _⟩, h2, ?_, ?_⟩
  · rw [cell_of h]; rfl
  · rw [cell_of h1]; rfl
  · exact ((Fr.refl [b] W).set (a := ⟨b, 0, none⟩) (by simp) v0).set (a := ⟨b, 1, none⟩) (by simp) v1
  · simp [World.setCell]
theorem cells2 {W : World} {b : Nat} {t : TypeId} {a0 a1 : Value} (h : W.heap[b]? = some (.cells #[a0, a1] t)) :
    W.cell? ⟨b, 0, none⟩ = some a0 ∧ W.cell? ⟨b, 1, none⟩ = some a1 := by
  refine ⟨?_, ?_⟩ <;> rw [cell_of h] <;> rfl
theorem up_any (base b : Nat) (rt md m n : Int) (es : Ents) (w : World) (hG : Ls base w b rt md es) (hes : es.length ≤ 1000) :
    Calls Tryz.prog 272 #[.pointer (some ⟨b, 0, none⟩), pv m n] w fun e w' => e = .returned (.tuple #[pv (upM es m n) (upN es m n), .bool (upIs es m n)]) ∧ Below w.heap.size w w' := by
  obtain ⟨V, hV, hs, hx, hz, hb⟩ := two0 w (.cells #[I m, I n] 50) (.cells #[I 0, I 0] 50)
  have HF := hide (numbered_any base b rt md m es V (hG.below hb) hes)
  rw [upM, upN, upIs]
  generalize fst es (isN m) = x at *
  generalize any es (isN m) = y at *
  clear hG
  have HB := hide hb
  clear hb
  obtain ⟨v0, v1⟩ := cells2 hx
  unfold pv
  go_enter Tryz.func272, Tryz.ntmps272
  go_wp2_with fail
  refine (unhide HF).mono ?_
  rintro e w1 ⟨rfl, hB⟩
  have hz1 := (Below.heap_alloc w1 (.cells #[I x.n, I x.top, I x.am, I x.an] 182) _ (by have := hB.size; omega)).trans ((hB.block _ (by omega)).trans hz)
  have hx1 := (Below.heap_alloc w1 (.cells #[I x.n, I x.top, I x.am, I x.an] 182) _ (by have := hB.size; omega)).trans ((hB.block _ (by omega)).trans hx)
  have hm1 : (w1.alloc (.cells #[I x.n, I x.top, I x.am, I x.an] 182)).heap[w1.heap.size]? = some (.cells #[I x.n, I x.top, I x.am, I x.an] 182) := putAll _ _ rfl
  have hB2 : Below w.heap.size w (w1.alloc (.cells #[I x.n, I x.top, I x.am, I x.an] 182)) := ((unhide HB).trans (hB.mono (by omega))).alloc (by have := hB.size; omega) _
  obtain ⟨W2, hW2⟩ : ∃ W2, w1.alloc (.cells #[I x.n, I x.top, I x.am, I x.an] 182) = W2 := ⟨_, rfl⟩
  rw [hW2] at hz1 hx1 hm1 hB2
  obtain ⟨p0, p1⟩ := cells2 hx1
  obtain ⟨l0, l1, l2, l3⟩ := cells4 hm1
  clear hV hs hx hz HB HF v0 v1
  have HB2 := hide hB2
  have Hz := hide hz1
  clear hB hB2 hz1 hx1 hm1
  unfold lv
  by_cases hc : y = true ∧ x.top = n
  · obtain ⟨rfl, rfl⟩ := hc
    obtain ⟨X1, X2, ⟨x1, x2⟩, ⟨c0, c1⟩, ⟨f0, f1⟩, q1, hfr, hsx⟩ := store2 (unhide Hz) (I x.am) (I x.an)
    obtain ⟨z0, z1⟩ := cells2 q1
    have HE := hide ((unhide HB2).trans (hfr.base (B := w.heap.size) (by exact (unhide HB2).size) (by simp)))
    clear hfr hsx q1 HB2 Hz
    go_wp2_with fail
    refine bodyPost_ret (v := .tuple #[.agg #[I x.am, I x.an], .bool true]) (by simp [results, Tryz.results272, go_sem, z0, z1]) rfl ?_
    refine ⟨?_, unhide HE⟩
    simp
  · have hc' : (y && decide (x.top = n)) = false := by
      cases y <;> simp_all
    obtain ⟨X1, X2, ⟨x1, x2⟩, ⟨c0, c1⟩, ⟨f0, f1⟩, q1, hfr, hsx⟩ := store2 (unhide Hz) (I m) (I n)
    obtain ⟨z0, z1⟩ := cells2 q1
    have HE := hide ((unhide HB2).trans (hfr.base (B := w.heap.size) (by exact (unhide HB2).size) (by simp)))
    have HC := hide hc'
    clear hfr hsx q1 HB2 Hz hc'
    cases y with
    | false =>
      clear hc
      go_wp2_with fail
      refine bodyPost_ret (v := .tuple #[.agg #[I m, I n], .bool false]) (by simp [results, Tryz.results272, go_sem, z0, z1]) rfl ?_
      refine ⟨?_, unhide HE⟩
      rfl
    | true =>
      have hc2 : ¬ x.top = n := fun h => hc ⟨rfl, h⟩
      clear hc
      go_wp2_with fail
      all_goals
        refine bodyPost_ret (v := .tuple #[.agg #[I m, I n], .bool false]) (by simp [results, Tryz.results272, go_sem, z0, z1]) rfl ?_
        exact ⟨rfl, unhide HE⟩
end Go.Proofs.YtlngeaacjbdmhaaGreat.Mt

namespace Go.Proofs.YtlngeaacjbdmhaaGreat.Mt
open Go.RowKit Go.Shelf
attribute [local go_sem] Oper.semAt_some
theorem info3 : (Tryz.prog.info? 3).map (fun i => (i.zero, i.size, i.bytes)) = some (some (.int .i64 0), 1, 8) := by kernel_rfl
abbrev ints (l : List Int) : List Value := l.map I
def abv (es : Ents) (m : Int) : List Int := (es.filter (isM m)).map (·.n)
def lst (es : Ents) : List Int := 0 :: es.map (·.n)
theorem abv_yes {es : Ents} {i : Nat} {p : Ld} {m : Int} (h : es[i]? = some p) (hp : p.am = m) : abv (es.take (i + 1)) m = abv (es.take i) m ++ [p.n] := by
  rw [List.take_add_one, h]; simp [abv, isM, hp]
theorem abv_no {es : Ents} {i : Nat} {p : Ld} {m : Int} (h : es[i]? = some p) (hp : ¬ p.am = m) : abv (es.take (i + 1)) m = abv (es.take i) m := by
  rw [List.take_add_one, h]; simp [abv, isM, hp]
theorem abv_len (es : Ents) (m : Int) (i : Nat) : (abv (es.take i) m).length ≤ es.length := by
  have := List.length_filter_le (isM m) (es.take i)
  simp [abv] at this ⊢
  omega
theorem wpListIn_append_eq {F : Fence} {n : Nat} {P : Program} {w : World} {ops : Array Oper} {rest : List Oper} {o : Oper} {a : Act} {Q : Exit → Act → World → Prop} (hgd : o.guard = none) (s x : Operand) (t : TypeId)
    (ho : o.op = .call { callee := .builtin .append, args := #[s, x], argTypes := #[t, t] }) (ty : TypeId) (hty : o.type = ty) (vs vx : Value) (hs : a.eval s = vs) (hx : a.eval x = vx) (v' : Value) (w' : World)
    (hrun : (Builtin.append_ #[t, t] ty #[vs, vx]).run P w = .ok v' w') (h : wpListIn F n P ops Q rest (a.put o.dst v') w') : wpListIn F n P ops Q (o :: rest) a w := by
  refine wpListIn_plain hgd fun K hK' => ?_
  unfold Oper.wpIn
  refine ⟨?_, ?_⟩
  · simp [Oper.about, ho, resolve, Target.leads, Sem.run_pure]
  · rw [Oper.semAt_plain F _ _ (by rw [ho]; intro c hc'; cases hc')]
    simp [execOp, ho, resolve, invoke, builtin, hs, hx, hty, hrun, Result.andThen]
    exact hK' _ _ h
structure AJ (w W : World) (r : Loop) (h b : Nat) (es : Ents) (m : Int) (i : Nat) : Prop where
  f : Fl w W r h (h + 4) (h + 3) (h + 2) b
  k0 : W.heap[h]? = some (.cells #[I m] 3)
  ow : ∃ v, W.heap[h + 1]? = some (.cells #[v] 72) ∧ W.ownsRow h 3 1 v (abv (es.take i) m).length (ints (abv (es.take i) m)) ∧ v.ownBlock ≠ some h
theorem AJ.alloc {w W : World} {r : Loop} {h b : Nat} {es : Ents} {m : Int} {i : Nat} (J : AJ w W r h b es m i) (o : Obj) (hh : h ≤ W.heap.size) : AJ w (W.alloc o) r h b es m i :=
  have kp : ∀ {k : Nat} {o' : Obj}, W.heap[k]? = some o' → (W.alloc o).heap[k]? = some o' := fun h1 => (Below.heap_alloc _ _ _ (lt_of_heap h1)).trans h1
  ⟨⟨kp J.f.l, kp J.f.dd, kp J.f.xx, J.f.be.alloc hh o⟩, kp J.k0, let ⟨v, h1, h2, h3⟩ := J.ow; ⟨v, kp h1, own_keep h2 (fun _ _ hc => Below.heap_alloc _ _ _ (lt_of_heap hc)), h3⟩⟩
theorem AJ.put {w W : World} {r : Loop} {h b : Nat} {es : Ents} {m : Int} {i : Nat} (J : AJ w W r h b es m i) (r' : Loop) : AJ w (W.putObj (h + 4) (.loop r')) r' h b es m i :=
  ⟨J.f.put r' (by omega), put_other J.f.l J.k0 (by simp), let ⟨v, h1, h2, h3⟩ := J.ow; ⟨v, put_other J.f.l h1 (by simp), own_put h2 J.f.l, h3⟩⟩
set_option maxRecDepth 100000 in
set_option maxHeartbeats 1000000 in
theorem above_in (base b : Nat) (rt md m : Int) (es : Ents) (w : World) (hG : Ls base w b rt md es) (hes : es.length ≤ 1000) :
    CallsIn Fence.wide 5 Tryz.prog 273 #[.pointer (some ⟨b, 0, none⟩), I m] w fun e w' => ∃ v, e = .returned v ∧ w'.ownsRow w.heap.size 3 1 v (abv es m).length (ints (abv es m)) ∧ Below w.heap.size w w' := by
  have hro : Fence.wide.round = none := rfl
  have HG := hide hG
  have hbl := hG.lt
  obtain ⟨i0, hi, hz0, hz1, hz2⟩ := info_parts info3
  clear hG
  refine callsIn_of_wp_marks Tryz.func273 rfl trivial ?_ hro
  simp only [Tryz.ntmps273, List.size_toArray, List.length_cons, List.length_nil, Nat.reduceAdd, Nat.reduceSub, Array.replicate_succ, Array.replicate_zero, List.push_toArray, List.append_toArray, List.nil_append, List.cons_append]
  gi_wp2_with fail
  refine ⟨trivial, (callsIn_wide.2 (rising_any b _)).mono ?_⟩
  rintro e w' ⟨rfl, rfl⟩
  gi_wp2_with fail
  obtain ⟨V, hV, hsz, g0, g1, g2, hB⟩ := three0 w (.cells #[I m] 3) (.cells #[.slice none 0 0] 72) (.cells #[.pointer (some ⟨b, 0, none⟩)] 43)
  rw [hV]
  clear hV
  generalize hh : w.heap.size = h at *
  have HH : Hid (w.heap.size = h) := hh
  refine wpIn_range_own hro (by omega) (gf := 252) (lb := #[.pointer (some ⟨h + 2, 0, none⟩)]) rfl trivial (enters_of Tryz.func252 (by kernel_rfl) rfl) ?_
  intro r hF hst hpe htm hps has hbo
  obtain ⟨L1, D1, hB2⟩ := setup V r
  rw [hsz] at L1 D1 ⊢
  generalize ((V.alloc (.deferred (some []))).alloc (.loop r)) = W1 at L1 D1 hB2 ⊢
  have J0 : AJ w W1 r h b es m 0 := ⟨⟨L1, D1, (hB2.block _ (by omega)).trans g2, hB.trans (hB2.mono (by omega))⟩, (hB2.block _ (by omega)).trans g0, ⟨_, (hB2.block _ (by omega)).trans g1, World.ownsRow_nil _ _ _ _, by simp [Value.ownBlock]⟩⟩
  clear L1 D1 hB2 g0 g1 g2 hB
  refine (iter_go (h + 4) (h + 2) W1 (fun i W => AJ w W r h b es m i) (fun W => False) (unhide HG) (by omega) J0 (fun i W' J => ⟨by rw [hh]; exact J.f.be, by rw [cell_of J.f.xx]; rfl⟩) ?_ (fun i W' o J => J.alloc o (by have := lt_of_heap J.f.l; omega))).mono ?_
  · intro i W2 p J hi0
    have him := (List.getElem?_eq_some_iff.1 hi0).1
    have hYY : YieldAt Fence.wide (4 - 1) Tryz.prog (h + 4) #[lv p] W2 (fun e W2 => e = .returned (.bool true) ∧ AJ w W2 r h b es m (i + 1)) := by
      refine yield_own hF hst hpe htm hps has hbo rfl J.f.l ?_
      clear htm hps has hbo hst hpe J0
      intro rb
      unfold lv
      gi_wp2
      have J' := J.alloc (.cells #[I p.n, I p.top, I p.am, I p.an] 182) (by have := lt_of_heap J.f.l; omega)
      refine ⟨J'.f.l, ?_⟩
      have hm : (W2.alloc (.cells #[I p.n, I p.top, I p.am, I p.an] 182)).heap[W2.heap.size]? = some (.cells #[I p.n, I p.top, I p.am, I p.an] 182) := putAll _ _ rfl
      have J4 := J'.put rb
      have km := put_other (r' := rb) J'.f.l hm (by simp)
      have hmh : h + 4 < W2.heap.size := lt_of_heap J.f.l
      generalize (W2.alloc (.cells #[I p.n, I p.top, I p.am, I p.an] 182)).putObj (h + 4) (.loop rb) = W4 at *
      generalize W2.heap.size = y at *
      obtain ⟨m0, m1, m2, m3⟩ := cells4 km
      have i0' : W4.cell? ⟨h, 0, none⟩ = some (I m) := by rw [cell_of J4.k0]; rfl
      obtain ⟨v, kv, own, hnb⟩ := J4.ow
      have e0 : W4.cell? ⟨h + 1, 0, none⟩ = some v := by rw [cell_of kv]; rfl
      by_cases hc : p.am = m
      · have hil := abv_len es m i
        have own5 := own_keep (W' := W4.alloc (.cells #[I p.n] 3)) own (fun k cur hc => Below.heap_alloc W4 _ _ (lt_of_heap hc))
        have hs4 : h ≤ W4.heap.size := by have := lt_of_heap kv; omega
        obtain ⟨v', W5, hrun, own6, hgr, -, hat⟩ := run_append_own_at (P := Tryz.prog) (W4.alloc (.cells #[I p.n] 3)) h 72 72 3 i0 (I 0) 1 8 Tryz.underlying72 hi hz0 hz1 hz2 rfl (by decide) v _ _ own5 ⟨W4.heap.size, 0, none⟩ 1 1 [I p.n] rfl (cell_one_new W4 _ _) (by intro u hu; simp at hu; subst hu; rfl) (by unfold maxLen; omega) (by omega) (by simp; omega)
        obtain ⟨F5, H5, k5, own7⟩ := box_more J4.f kv own hgr own6 (by omega) (by decide) (by decide) (by decide)
        have ef5 : W5.frozen? ⟨h + 1, 0, none⟩ = false := frozen_of H5 0
        have ec5 : W5.cell? ⟨h + 1, 0, none⟩ = some v := by rw [cell_of H5]; rfl
        have m0' := cell_alloc m0 (.cells #[I p.n] 3)
        have e0' := cell_alloc e0 (.cells #[I p.n] 3)
        have k05 := (Below.heap_setCell W5 ⟨h + 1, 0, none⟩ v' h (by simp)).trans ((hgr.block h (by simp; have := lt_of_heap J4.k0; omega) (Ne.symm hnb)).trans ((Below.heap_alloc W4 (.cells #[I p.n] 3) h (lt_of_heap J4.k0)).trans J4.k0))
        have hnb' : v'.ownBlock ≠ some h := by
          rcases hat with e | e
          · rw [e]; exact hnb
          · rw [e]; simp; have := lt_of_heap J4.k0; omega
        have J5 : AJ w (W5.setCell ⟨h + 1, 0, none⟩ v') rb h b es m (i + 1) := by
          refine ⟨F5, k05, ⟨v', k5, ?_, hnb'⟩⟩
          rw [abv_yes hi0 hc, List.length_append]
          simpa [ints] using own7
        have FIN := hide (J5.put r)
        have HL := hide J5.f.l
        obtain ⟨q', cp, rfl⟩ := own_form own6
        generalize (abv (es.take i) m).length + 1 = n' at *
        clear J J' J4 hm km own own5 kv HG hi0 own6 hgr F5 H5 k5 own7 J5 hil hs4 hat k05 hnb hnb'
        gi_wp2_with (gi_at_builtin; refine wpListIn_append_eq rfl _ _ 72 rfl 72 rfl _ _ rfl rfl _ _ hrun ?_)
        exact ⟨unhide HL, unhide FIN⟩
      · have FIN := hide (show AJ w (W4.putObj (h + 4) (.loop r)) r h b es m (i + 1) from ⟨J4.f.put r (by omega), put_other J4.f.l J4.k0 (by simp), ⟨v, put_other J4.f.l kv (by simp), by rw [abv_no hi0 hc]; exact own_put own J4.f.l, hnb⟩⟩)
        have HL := hide J4.f.l
        clear J J' J4 hm km own kv HG hi0
        gi_wp2_with fail
        exact ⟨unhide HL, unhide FIN⟩
    obtain ⟨fn, tmps, assign, body, h1, h2⟩ := hYY
    exact ⟨fn, tmps, assign, body, h1, h2.mono fun e W hh => .inl hh⟩
  · rintro e W2 ⟨rfl, J | J⟩
    · refine ⟨⟨_, rfl⟩, J.f.l, ?_⟩
      have J6 := J.put { r with state := .exhausted }
      generalize W2.putObj (h + 4) (.loop { r with state := .exhausted }) = W3 at *
      obtain ⟨v, kv, own, -⟩ := J6.ow
      rw [List.take_length] at own
      have e1 : W3.cell? ⟨h + 1, 0, none⟩ = some v := by rw [cell_of kv]; rfl
      have HJ := hide J6
      have HO := hide own
      clear J J0 J6 htm hps has hbo hst hpe kv own HG
      gi_wp2_with fail
      refine ⟨by simp, .inl ⟨_, _, rfl, run_takeDeferred (unhide HJ).f.dd, ?_⟩⟩
      have hb := (unhide HJ).f.be
      have be7 : Below h w (W3.putObj (h + 3) (.deferred none)) := ⟨hb.os, hb.tape, hb.output, by rw [World.putObj_size]; exact hb.size, fun k hk => (World.putObj_heap_other (by omega)).trans (hb.block k hk)⟩
      have own7 : (W3.putObj (h + 3) (.deferred none)).ownsRow h 3 1 v _ _ := own_keep (unhide HO) fun k cur hc => World.putObj_heap_other (by
        rintro rfl
        rw [(unhide HJ).f.dd] at hc
        simp at hc)
      rw [unhide HH]
      refine ⟨v, by simp [results, Tryz.results273, go_sem], v, rfl, own7, be7⟩
    · exact J.elim
theorem above_any (base b : Nat) (rt md m : Int) (es : Ents) (w : World) (hG : Ls base w b rt md es) (hes : es.length ≤ 1000) :
    Calls Tryz.prog 273 #[.pointer (some ⟨b, 0, none⟩), I m] w fun e w' => ∃ v, e = .returned v ∧ w'.ownsRow w.heap.size 3 1 v (abv es m).length (ints (abv es m)) ∧ Below w.heap.size w w' :=
  callsIn_wide.1 (above_in base b rt md m es w hG hes)
structure LJ (w W : World) (r : Loop) (h b : Nat) (es : Ents) (i : Nat) : Prop where
  f : Fl w W r h (h + 4) (h + 3) (h + 2) b
  ow : ∃ v, W.heap[h + 1]? = some (.cells #[v] 72) ∧ W.ownsRow h 3 1 v (lst (es.take i)).length (ints (lst (es.take i)))
theorem LJ.alloc {w W : World} {r : Loop} {h b : Nat} {es : Ents} {i : Nat} (J : LJ w W r h b es i) (o : Obj) (hh : h ≤ W.heap.size) : LJ w (W.alloc o) r h b es i :=
  have kp : ∀ {k : Nat} {o' : Obj}, W.heap[k]? = some o' → (W.alloc o).heap[k]? = some o' := fun h1 => (Below.heap_alloc _ _ _ (lt_of_heap h1)).trans h1
  ⟨⟨kp J.f.l, kp J.f.dd, kp J.f.xx, J.f.be.alloc hh o⟩, let ⟨v, h1, h2⟩ := J.ow; ⟨v, kp h1, own_keep h2 (fun _ _ hc => Below.heap_alloc _ _ _ (lt_of_heap hc))⟩⟩
theorem LJ.put {w W : World} {r : Loop} {h b : Nat} {es : Ents} {i : Nat} (J : LJ w W r h b es i) (r' : Loop) : LJ w (W.putObj (h + 4) (.loop r')) r' h b es i :=
  ⟨J.f.put r' (by omega), let ⟨v, h1, h2⟩ := J.ow; ⟨v, put_other J.f.l h1 (by simp), own_put h2 J.f.l⟩⟩
end Go.Proofs.YtlngeaacjbdmhaaGreat.Mt

namespace Go.Proofs.YtlngeaacjbdmhaaGreat.Mt
open Go.RowKit
attribute [local go_sem ↓] Go.wp_at_zero Go.wp_at_succ
theorem wpList_append_eq {P : Program} {w : World} {ops : Array Oper} {rest : List Oper} {o : Oper} {a : Act} {Q : Exit → Act → World → Prop} (hgd : o.guard = none) (s x : Operand) (t : TypeId)
    (ho : o.op = .call { callee := .builtin .append, args := #[s, x], argTypes := #[t, t] }) (ty : TypeId) (hty : o.type = ty) (vs vx : Value) (hs : a.eval s = vs) (hx : a.eval x = vx) (v' : Value) (w' : World)
    (hrun : (Builtin.append_ #[t, t] ty #[vs, vx]).run P w = .ok v' w') (h : wpList P ops Q rest (a.put o.dst v') w') : wpList P ops Q (o :: rest) a w := by
  refine wpList_plain hgd fun K hK => ?_
  unfold Oper.wp execOp
  simp only [ho, resolve, invoke, builtin, Sem.run_bind, Sem.run_pure, Result.andThen_ok, List.map_toArray, List.map_cons, List.map_nil, hs, hx, hty, hrun]
  exact hK _ _ h
def bindE (es : Ents) (am an : Int) : Int := if rootIs es am = false then 1 else if any es (isAt am an) = true then 15 else if 8 ≤ 1 + (es.length : Int) then 13 else 0
end Go.Proofs.YtlngeaacjbdmhaaGreat.Mt

namespace Go.Proofs.YtlngeaacjbdmhaaGreat.Mt
open Go.RowKit
attribute [local go_sem ↓] Go.wp_at_zero Go.wp_at_succ
end Go.Proofs.YtlngeaacjbdmhaaGreat.Mt

namespace Go.Proofs.YtlngeaacjbdmhaaGreat.Mt
open Go.RowKit
attribute [local go_sem ↓] Go.wp_at_zero Go.wp_at_succ
def kept (es : Ents) (P : Ld → Bool) (j : Nat) : Ents := (es.take j).filter fun p => !P p
structure DJ (base g n cap : Nat) (es : Ents) (P : Ld → Bool) (w W : World) (j : Nat) (ej : Ents) : Prop where
  len : ej.length = n
  own : W.ownsRow base 182 4 (.slice (some ⟨g, 0, none⟩) n cap) n (rowsOf row ej)
  lo : ∀ k, k < (kept es P j).length → ej[k]? = (kept es P j)[k]?
  hi : ∀ k, j ≤ k → ej[k]? = es[k]?
  fr : Fr [g] w W
theorem heap_setCells {b : Nat} {t : TypeId} : ∀ (vs : List Value) (o : Nat) (W : World) (cs : Array Value), W.heap[b]? = some (.cells cs t) → o + vs.length ≤ cs.size →
    ∃ cs' : Array Value, (W.setCells b o vs).heap[b]? = some (.cells cs' t) ∧ cs'.toList = cs.toList.take o ++ vs ++ cs.toList.drop (o + vs.length)
  | [], o, W, cs, h, _ => ⟨cs, h, by simp⟩
  | v :: r, o, W, cs, h, hl => by
    simp only [List.length_cons] at hl
    obtain ⟨cs', h1, h2⟩ := heap_setCells r (o + 1) (W.setCell ⟨b, o, none⟩ v) (cs.setIfInBounds o v) (heap_set h o v) (by simp; omega)
    refine ⟨cs', h1, ?_⟩
    have hlt : o < cs.toList.length := by simp; omega
    have e : (cs.setIfInBounds o v).toList = cs.toList.take o ++ v :: cs.toList.drop (o + 1) := by
      rw [Array.toList_setIfInBounds, List.set_eq_take_append_cons_drop, if_pos hlt]
    have hto : (cs.toList.take o).length = o := by rw [List.length_take]; omega
    rw [h2, e, List.take_append, List.drop_append, hto]
    have hdn : (cs.toList.take o).drop (o + 1 + r.length) = [] := List.drop_eq_nil_of_le (by omega)
    rw [List.take_of_length_le (l := cs.toList.take o) (by omega), hdn]
    rw [show o + 1 - o = 1 by omega, show o + 1 + r.length - o = r.length + 1 by omega, show o + (v :: r).length = o + 1 + r.length by simp; omega]
    simp
end Go.Proofs.YtlngeaacjbdmhaaGreat.Mt

namespace Go.Proofs.YtlngeaacjbdmhaaGreat.Mt
open Go.RowKit
attribute [local go_sem ↓] Go.wp_at_zero Go.wp_at_succ
def Rise (es : Ents) : Prop := es.Pairwise fun p q => p.n < q.n
def unb (es : Ents) (m : Int) : Ents := es.filter fun p => !isN m p
theorem any_iff {es : Ents} {P : Ld → Bool} : any es P = true ↔ ∃ p ∈ es, P p = true := by
  rw [any, List.find?_isSome]
theorem any_false {es : Ents} {P : Ld → Bool} : any es P = false ↔ ∀ p ∈ es, P p = false := by
  rw [← Bool.not_eq_true, any_iff]
  simp
def unbE (es : Ents) (m : Int) : Int := if any es (isN m) = false then 1 else if any es (isM m) = true then 15 else 0
end Go.Proofs.YtlngeaacjbdmhaaGreat.Mt
