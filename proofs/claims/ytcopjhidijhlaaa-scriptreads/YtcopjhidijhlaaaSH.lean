/-
  The contract of Decode.
-/
import Derived.Test.YtcopjhidijhlaaaSG
namespace Go.Proofs.Ytcopjhidijhlaaa.Cl
open Go.RowKit
attribute [local go_sem] Oper.semAt_some

/-- Whoever turns no row of items and no row that holds bytes. -/
theorem Ir.keepC {W W' : World} {B : Nat} {v : Value} {ps : List Ip} (h : Ir W B v ps) (hs : W.heap.size ≤ W'.heap.size) (hk : ∀ (k : Nat) (cs : Array Value) (t : TypeId) (f : Nat × Nat), W.heap[k]? = some (Obj.cells cs t f) → (t = 29 ∨ ∃ (j : Nat) (c : UInt8), cs[j]? = some (Value.int .u8 c.toNat)) → W'.heap[k]? = W.heap[k]?) : Ir W' B v ps := by
  obtain ⟨⟨h1, h2⟩, h3⟩ := h
  refine ⟨⟨h1, ?_⟩, fun p hp => ⟨?_, (h3 p hp).2⟩⟩
  · obtain h2 | ⟨b, cap, cur, e1, e2, e3, e4⟩ := h2
    · exact .inl h2
    · exact .inr ⟨b, cap, cur, e1, e2, (hk b _ _ _ e3 (.inl rfl)).trans e3, e4⟩
  · obtain ⟨a, cap, e1, e2, e3⟩ := (h3 p hp).1
    refine ⟨a, cap, e1, fun k c hc => ?_, e3⟩
    obtain ⟨b, off, f1, f2, f3⟩ := e2 k c hc
    refine ⟨b, off, f1, by omega, ?_⟩
    obtain ⟨cs, t, f, f4⟩ : ∃ cs t f, W.heap[b]? = some (.cells cs t f) := by
      unfold World.cell? at f3
      cases hq : W.heap[b]? with
      | none => simp [hq] at f3
      | some o => cases o <;> simp [hq] at f3
                  exact ⟨_, _, _, rfl⟩
    have f5 := f3
    rw [cell_of f4] at f5
    exact (World.cell?_of_block (hk b _ _ _ f4 (.inr ⟨_, _, f5⟩))).trans f3
theorem Ir.sl3 {W : World} {B : Nat} {v : Value} {ps : List Ip} (h : Ir W B v ps) : ∃ a n c, v = .slice a n c := by
  obtain ⟨a, c, e⟩ := h.sl
  exact ⟨a, _, c, e⟩
/-- What lies while Decode goes over the items. -/
structure Dk (w W : World) (r : Loop) (h : Nat) (b : List UInt8) (a : Option Addr) (n cap : Nat) (ps : List Ip) : Prop where
  be : Below h w W
  bx : ∃ v, W.heap[h]? = some (.cells #[v] 30) ∧ Ir W h v ps
  xx : W.heap[h + 1]? = some (.cells #[.slice a n cap] 22)
  dd : W.heap[h + 2]? = some (.deferred (some []))
  ll : W.heap[h + 3]? = some (.loop r)
section
variable {w W W' : World} {r r' : Loop} {h n cap : Nat} {b : List UInt8} {a : Option Addr} {ps : List Ip}
theorem Dk.below (J : Dk w W r h b a n cap ps) (g : Below W.heap.size W W') : Dk w W' r h b a n cap ps := by
  obtain ⟨v, h1, h2⟩ := J.bx
  have hl := lt_of_heap J.ll
  exact ⟨J.be.trans (g.mono (by omega)), ⟨v, (g.block _ (lt_of_heap h1)).trans h1, h2.below g⟩, (g.block _ (lt_of_heap J.xx)).trans J.xx, (g.block _ (lt_of_heap J.dd)).trans J.dd, (g.block _ hl).trans J.ll⟩
theorem Dk.put (J : Dk w W r h b a n cap ps) (r' : Loop) : Dk w (W.putObj (h + 3) (.loop r')) r' h b a n cap ps := by
  obtain ⟨v, h1, h2⟩ := J.bx
  refine ⟨below_put J.be (by omega) _, ⟨v, (World.putObj_heap_other (by omega)).trans h1, h2.keepC (by simp) fun k cs t f e _ => ?_⟩, (World.putObj_heap_other (by omega)).trans J.xx, (World.putObj_heap_other (by omega)).trans J.dd, World.putObj_heap_same (lt_of_heap J.ll)⟩
  refine World.putObj_heap_other ?_
  rintro rfl
  rw [J.ll] at e
  cases e
/-- An item is appended, and the row stored. -/
theorem Dk.add {v v' : Value} {qs : List Ip} (J : Dk w W r h b a n cap ps) (h1 : W.heap[h]? = some (.cells #[v] 30)) (own : Ir W h v ps) (K : Ki h v W W') (own' : Ir W' h v' qs) :
    W'.cell? ⟨h, 0, none⟩ = some v ∧ W'.frozen? ⟨h, 0, none⟩ = false ∧ Dk w (W'.setCell ⟨h, 0, none⟩ v') r h b a n cap qs ∧ (W'.setCell ⟨h, 0, none⟩ v').cell? ⟨h, 0, none⟩ = some v' := by
  have hne : ∀ {k : Nat} {o : Obj}, W.heap[k]? = some o → (∀ cs, o ≠ .cells cs 29) → W'.heap[k]? = some o := fun {k o} e ho => (K.oth k (lt_of_heap e) (fun e2 => by
    obtain ⟨-, -, cs, e3⟩ := own.own e2
    rw [e3] at e
    exact ho cs (Option.some.inj e).symm)).trans e
  have k0 := hne h1 (by simp)
  have hl := lt_of_heap k0
  have k1 := heap_set k0 0 v'
  refine ⟨by rw [cell_of k0]; rfl, frozen_of k0 0, ⟨(J.be.trans K.be).setCell (p := ⟨h, 0, none⟩) (Nat.le_refl _) _, ⟨v', by simpa using k1, own'.keepC (by simp) fun k cs t f e hh => ?_⟩, (Below.heap_setCell _ _ _ _ (by simp)).trans (hne J.xx (by simp)), (Below.heap_setCell _ _ _ _ (by simp)).trans (hne J.dd (by simp)), (Below.heap_setCell _ _ _ _ (by simp)).trans (hne J.ll (by simp))⟩, by rw [cell_of k1]; rfl⟩
  refine Below.heap_setCell _ _ _ _ ?_
  rintro rfl
  rw [k0] at e
  simp at e
  obtain ⟨e1, e2, -⟩ := e
  rcases hh with hh | ⟨j, c, hh⟩
  · rw [← e2] at hh
    cases hh
  · rw [← e1] at hh
    obtain ⟨a', n', c', e4⟩ := own.sl3
    rw [e4] at hh
    cases j <;> simp at hh
end
theorem Dt.putO {W : World} {B L : Nat} {d : Value} {l : List UInt8} {r r' : Loop} (h : Dt W B d l) (hL : W.heap[L]? = some (.loop r)) : Dt (W.putObj L (.loop r')) B d l := by
  obtain ⟨a, cap, h1, h2, h3, h4, h5⟩ := h
  have key : ∀ k, d.ownBlock = some k → (W.putObj L (.loop r')).heap[k]? = W.heap[k]? := fun k e => by
    obtain ⟨-, cs', f', h7⟩ := h5 k e
    refine World.putObj_heap_other ?_
    rintro rfl
    rw [h7] at hL
    cases hL
  refine ⟨a, cap, h1, fun k c hk => ?_, h3, h4, fun k e => ⟨(h5 k e).1, ?_⟩⟩
  · obtain ⟨b', off, e1, e2, e3⟩ := h2 k c hk
    refine ⟨b', off, e1, e2, (World.cell?_of_block (key b' ?_)).trans e3⟩
    rw [h1, e1]
    rfl
  · rw [key k e]
    exact (h5 k e).2
theorem Ir.apt {W : World} {B : Nat} {v : Value} {ps : List Ip} (h : Ir W B v ps) {B' : Nat} {x : It} {d : Value} (hd : Dt W B' d x.c.data) : Apt v (x, d) := by
  intro _ k e e2
  obtain ⟨-, -, -, -, -, -, h5⟩ := hd
  obtain ⟨-, cs, f, h6⟩ := h5 k e
  obtain ⟨-, -, cs2, h7⟩ := h.own e2
  rw [h6] at h7
  simp at h7
def DJ (w : World) (r : Loop) (h : Nat) (b : List UInt8) (a : Option Addr) (n cap p : Nat) (W : World) : Prop := ∃ ps, Dk w W r h b a n cap ps ∧ ps.length < 1024 ∧ decs 1024 b = ps.map (·.1) ++ decs (1024 - ps.length) (b.drop p)
def DZ (w : World) (h : Nat) (b : List UInt8) (a : Option Addr) (n cap : Nat) (W : World) : Prop := ∃ ps rd, rd.state = .done ∧ rd.pending = some (.exit 0) ∧ Dk w W rd h b a n cap ps ∧ decs 1024 b = ps.map (·.1)
theorem decs_step (k : Nat) (b : List UInt8) (p : Nat) (hp : p < b.length) : decs (k + 1) (b.drop p) = (fone (b.drop p)).1 :: decs k (b.drop (p + (fone (b.drop p)).2)) := by
  obtain ⟨c, r, hcr⟩ : ∃ c r, b.drop p = c :: r := by
    cases h : b.drop p with
    | nil => have := congrArg List.length h; rw [List.length_drop, List.length_nil] at this; omega
    | cons c r => exact ⟨c, r, rfl⟩
  rw [← List.drop_drop, hcr]
  rfl
set_option maxRecDepth 100000 in
set_option maxHeartbeats 4000000 in
theorem sdecode_in (b : List UInt8) (a : Option Addr) (n cap : Nat) (hn : n = b.length) (hc : n ≤ cap) (hm : cap ≤ maxLen) (w : World) (hb : By w w.heap.size a b) :
    CallsIn Fence.wide 5 Try.prog 11 #[.slice a n cap] w fun e w' => ∃ v ps, e = .returned v ∧ ps.map (·.1) = decs 1024 b ∧ Ir w' w.heap.size v ps ∧ Below w.heap.size w w' := by
  have hro : Fence.wide.round = none := rfl
  have HN := hide hn
  clear hn
  refine callsIn_of_wp_marks Try.func11 rfl trivial ?_ hro
  simp only [Try.ntmps11, List.size_toArray, List.length_cons, List.length_nil, Nat.reduceAdd, Nat.reduceSub, Array.replicate_succ, Array.replicate_zero, List.push_toArray, List.append_toArray, List.nil_append, List.cons_append]
  gi_wp2_with fail
  refine ⟨trivial, (callsIn_wide.2 (sitems_any a n cap _)).mono ?_⟩
  rintro e w' ⟨rfl, rfl⟩
  obtain ⟨V, hV, hsz, g0, g1, hB⟩ := alloc2 w (.cells #[.slice none 0 0] 30) (.cells #[.slice a n cap] 22)
  rw [hV]
  have e1 : (w.alloc (.cells #[.slice none 0 0] 30)).heap.size = w.heap.size + 1 := by simp
  rw [e1]
  clear hV e1
  have HBY := hide hb
  clear hb
  generalize hh : w.heap.size = h at *
  gi_wp2_with fail
  refine wpIn_range_brk (id := 0) hro (by omega) (gf := 32) (lb := #[Pt (h + 1) 0]) rfl trivial (enters_of Try.func32 (by kernel_rfl) rfl) ?_
  intro r hF hst hpe htm hps has hbo
  obtain ⟨L1, D1, hB2, hs2⟩ := setup V r
  rw [hsz] at L1 D1 hs2 ⊢
  generalize ((V.alloc (.deferred (some []))).alloc (.loop r)) = W1 at L1 D1 hB2 hs2 ⊢
  have J0 : Dk w W1 r h b a n cap [] := ⟨hB.trans (hB2.mono (by omega)), ⟨_, (hB2.block _ (by omega)).trans g0, Ir.nil _ _⟩, (hB2.block _ (by omega)).trans g1, D1, L1⟩
  clear L1 D1 hB2 g0 g1 hB hs2
  refine (items_iter (h + 3) (h + 1) n cap b a (unhide HN) hc hm W1 (DJ w r h b a n cap) (DZ w h b a n cap) ⟨[], J0, by simp, by simp⟩ ?_ ?_ ?_).mono ?_
  · rintro p W' ⟨ps, J, -⟩
    exact ⟨by rw [cell_of J.xx]; rfl, ((unhide HBY).below J.be).mono (by have := J.be.size; have := lt_of_heap J.ll; omega)⟩
  · rintro p W' W'' ⟨ps, J, h2⟩ hB
    exact ⟨ps, J.below hB, h2⟩
  · rintro p W2 d hpn ⟨ps, J, hps2, hde⟩ hD
    have hstep := decs_step (1023 - ps.length) b p (by have := unhide HN; omega)
    rw [show 1023 - ps.length + 1 = 1024 - ps.length by omega] at hstep
    rw [hstep] at hde
    generalize hy : fone (b.drop p) = y at *
    obtain ⟨x, sz⟩ := y
    simp only at hde hD ⊢
    obtain ⟨da, dc, rfl, -⟩ : ∃ da dc, d = .slice da x.c.data.length dc ∧ True := by obtain ⟨da, dc, h, -⟩ := hD; exact ⟨da, dc, h, trivial⟩
    have HDE := hide hde
    have HPS := hide hps2
    clear hstep hde hps2 J0 hy
    refine yield_brk (id := 0) hF hst hpe htm hps has hbo rfl J.ll ?_
    clear htm hps has hbo hst hpe
    intro rb
    obtain ⟨W3, hW3, hs3, g3, hB3⟩ := alloc1 W2 (.cells Z12 29)
    obtain ⟨X1, X2, X3, X4, X5, X6, X7, X8, X9, X10, X11, X12, ⟨y1, y2, y3, y4, y5, y6, y7, y8, y9, y10, y11, y12⟩, ⟨s1, s2, s3, s4, s5, s6, s7, s8, s9, s10, s11, s12⟩, ⟨f1, f2, f3, f4, f5, f6, f7, f8, f9, f10, f11, f12⟩, gX, grX⟩ := store12 g3 (I x.kind) (I x.thread) (I x.n) (I x.c.op) (S x.c.path) (S x.c.dst) (I x.c.fd) (I x.c.fl) (I x.c.mo) (I x.c.n) (I x.c.m) (.slice da x.c.data.length dc)
    have be3 : Below W2.heap.size W2 X12 := hB3.trans (grX.below (Nat.le_refl _) (by omega))
    have J3 := J.below be3
    have hD3 := (hD.below be3).mono be3.size
    have hl3 := J3.ll
    unfold It.cs
    gi_wp2_with fail
    refine ⟨hl3, ?_⟩
    have hq3 := lt_of_heap J.ll
    have F4 := J3.put rb
    have gX4 := (World.putObj_heap_other (w := X12) (o := .loop rb) (show W2.heap.size ≠ h + 3 by omega)).trans gX
    have hD4 := hD3.putO (r' := rb) hl3
    rw [show X12.heap.size = (X12.putObj (h + 3) (.loop rb)).heap.size by simp] at hD4
    clear y1 y2 y3 y4 y5 y6 y7 y8 y9 y10 y11 y12 s1 s2 s3 s4 s5 s6 s7 s8 s9 s10 s11 s12 f1 f2 f3 f4 f5 f6 f7 f8 f9 f10 f11 f12 gX grX be3 J3 hD3 hl3 hW3 hs3 g3 hB3 hD
    generalize X12.putObj (h + 3) (.loop rb) = W4 at *
    generalize W2.heap.size = q at *
    obtain ⟨v, k0, own⟩ := F4.bx
    obtain ⟨v', W5, hrun, own', K⟩ := own.new (Nat.le_of_lt (lt_of_heap k0)) x _ (Dt.du (p := (x, _)) hD4) (own.apt hD4) (by have := unhide HPS; omega)
    obtain ⟨c5, f5, J6, c6⟩ := F4.add k0 own K own'
    obtain ⟨va, vc, rfl⟩ := own.sl
    obtain ⟨va', vn', vc', rfl, hvn⟩ : ∃ va' vn' vc', v' = .slice va' vn' vc' ∧ vn' = ps.length + 1 := by
      obtain ⟨a1, c1, e⟩ := own'.sl
      exact ⟨a1, _, c1, e, by simp⟩
    have e0 : W4.cell? ⟨h, 0, none⟩ = some (.slice va ps.length vc) := by rw [cell_of k0]; rfl
    obtain ⟨i0, i1, i2, i3, i4, i5, i6, i7, i8, i9, i10, i11⟩ := cells12 (x := x) (d := .slice da x.c.data.length dc) gX4
    unfold It.cs at hrun
    have HJ6 := hide J6
    clear own own' K k0 J6 F4 hD4 gX4 J
    obtain ⟨W6, hW6⟩ : ∃ W6, W5.setCell ⟨h, 0, none⟩ (.slice va' vn' vc') = W6 := ⟨_, rfl⟩
    rw [hW6] at HJ6 c6
    rcases (show vn' = 1024 ∨ vn' < 1024 by have := unhide HPS; omega) with hv1 | hv1
    · have hv2 : ((vn' : Int) == 1024) = true := by simp; omega
      replace hvn := hide hvn
      replace hv1 := hide hv1
      have J7 := (unhide HJ6).put { rb with state := .done, pending := some (.exit 0) }
      have FIN := hide (show DZ w h b a n cap _ from ⟨_, _, rfl, rfl, J7, by
        rw [unhide HDE, show 1023 - ps.length = 0 by have := unhide hv1; have := unhide hvn; omega]
        simp [decs]⟩)
      have hl6 := (unhide HJ6).ll
      clear J7 HJ6 HDE hvn hv1
      gi_wp2_with (gi_at_builtin; refine wpListIn_app rfl _ _ 30 30 rfl 30 rfl _ _ (by rfl) (by rfl) _ _ hrun ?_; clear hrun)
      exact unhide FIN
    · have hv2 : ((vn' : Int) == 1024) = false := by simp; omega
      have J7 := (unhide HJ6).put r
      have FIN := hide (show DJ w r h b a n cap (p + sz) _ from ⟨_, J7, by simp; omega, by
        rw [unhide HDE, List.map_append, List.append_assoc, List.length_append, show 1024 - (ps.length + [(x, (Value.slice da x.c.data.length dc))].length) = 1023 - ps.length by simp <;> omega]
        rfl⟩)
      have hl6 := (unhide HJ6).ll
      clear J7 HJ6 HDE hvn hv1
      gi_wp2_with (gi_at_builtin; refine wpListIn_app rfl _ _ 30 30 rfl 30 rfl _ _ (by rfl) (by rfl) _ _ hrun ?_; clear hrun)
      exact unhide FIN
  · rintro e W2 ⟨rfl, ⟨p, hpn, ps, J, hps, hde⟩ | ⟨ps, rd, hd1, hd2, J, hde⟩⟩
    · refine ⟨⟨_, rfl⟩, .inl ⟨J.ll, ?_⟩⟩
      have J6 := J.put { r with state := .exhausted }
      have hde2 : decs 1024 b = ps.map (·.1) := by
        rw [hde, List.drop_eq_nil_of_le (by have := unhide HN; omega), decs_nil, List.append_nil]
      generalize W2.putObj (h + 3) _ = W3 at *
      obtain ⟨v, k0, own⟩ := J6.bx
      obtain ⟨va, vc, rfl⟩ := own.sl
      have e0 : W3.cell? ⟨h, 0, none⟩ = some (.slice va ps.length vc) := by rw [cell_of k0]; rfl
      have HF := hide (⟨J6.dd, J6.be, own, hde2⟩ : _ ∧ _ ∧ _ ∧ _)
      have HK0 := hide k0
      clear J J0 J6 own k0 hde2 hde htm hps has hbo hst hpe
      gi_wp2_with fail
      refine ⟨by simp, .inl ⟨_, _, rfl, run_takeDeferred (unhide HF).1, ?_⟩⟩
      obtain ⟨h1, h2, h3, h4⟩ := unhide HF
      refine ⟨.slice va ps.length vc, by simp [results, Try.results11, go_sem], ⟨.slice va ps.length vc, ps, rfl, h4.symm, ?_, ?_⟩⟩
      · rw [hh]
        refine h3.keepC (by simp) fun k cs t f e _ => ?_
        refine World.putObj_heap_other ?_
        rintro rfl
        rw [h1] at e
        cases e
      · rw [hh]
        exact below_put h2 (by omega) _
    · refine ⟨⟨_, rfl⟩, .inr ⟨rd, hd1, hd2, J.ll, ?_⟩⟩
      have J6 := J.put { rd with state := .exhausted }
      have hde2 := hde
      generalize W2.putObj (h + 3) _ = W3 at *
      obtain ⟨v, k0, own⟩ := J6.bx
      obtain ⟨va, vc, rfl⟩ := own.sl
      have e0 : W3.cell? ⟨h, 0, none⟩ = some (.slice va ps.length vc) := by rw [cell_of k0]; rfl
      have HF := hide (⟨J6.dd, J6.be, own, hde2⟩ : _ ∧ _ ∧ _ ∧ _)
      have HK0 := hide k0
      clear J J0 J6 own k0 hde2 hde htm hps has hbo hst hpe
      gi_wp2_with fail
      refine ⟨by simp, .inl ⟨_, _, rfl, run_takeDeferred (unhide HF).1, ?_⟩⟩
      obtain ⟨h1, h2, h3, h4⟩ := unhide HF
      refine ⟨.slice va ps.length vc, by simp [results, Try.results11, go_sem], ⟨.slice va ps.length vc, ps, rfl, h4.symm, ?_, ?_⟩⟩
      · rw [hh]
        refine h3.keepC (by simp) fun k cs t f e _ => ?_
        refine World.putObj_heap_other ?_
        rintro rfl
        rw [h1] at e
        cases e
      · rw [hh]
        exact below_put h2 (by omega) _
theorem sdecode_any (b : List UInt8) (a : Option Addr) (n cap : Nat) (hn : n = b.length) (hc : n ≤ cap) (hm : cap ≤ maxLen) (w : World) (hb : By w w.heap.size a b) :
    Calls Try.prog 11 #[.slice a n cap] w fun e w' => ∃ v ps, e = .returned v ∧ ps.map (·.1) = decs 1024 b ∧ Ir w' w.heap.size v ps ∧ Below w.heap.size w w' := callsIn_wide.1 (sdecode_in b a n cap hn hc hm w hb)
end Go.Proofs.Ytcopjhidijhlaaa.Cl
