/-
  A tree and mounts beside the document's own: what the calls of the one leave of the others.
-/
import Derived.Test.YtlngeaacjbdmhaaGreatQp25
import Derived.Test.YtlngeaacjbdmhaaGreatQp26
import Derived.Test.YtlngeaacjbdmhaaGreatQp29
import Derived.Test.YtlngeaacjbdmhaaGreatQp31
import Derived.Test.YtlngeaacjbdmhaaGreatQp01
import Derived.Test.YtlngeaacjbdmhaaGreatQp02
namespace Go.Proofs.YtlngeaacjbdmhaaGreat.Bt
open Go.RowKit
def tyA (t : TypeId) : Prop := t = 202 ∨ t = 261 ∨ t = 125 ∨ t = 129 ∨ t = 256
def tyC (t : TypeId) : Prop := t = 221 ∨ t = 182
def tyD (t : TypeId) : Prop := t = 226 ∨ t = 223
structure Ke (P : TypeId → Prop) (W W' : World) : Prop where
  sz : W.heap.size ≤ W'.heap.size
  ce : ∀ (b : Nat) (cs : Array Value) (t : TypeId) (f : Nat × Nat), W.heap[b]? = some (.cells cs t f) → ¬ P t → W'.heap[b]? = some (.cells cs t f)
section
variable {P : TypeId → Prop} {W W' : World} {lo N mb m t r R : Nat} {T : Tr} {B : Nat} {M : Mt.T} {K : Int} {rs : List Mt.Rm}
theorem Ke.below (g : Below W.heap.size W W') : Ke P W W' := ⟨g.size, fun b _ _ _ e _ => (g.block b (lt_of_heap e)).trans e⟩
theorem Ke.tx (g : Tx lo W W') : Ke tyA W W' := ⟨g.size, fun b cs t f e h => g.oth b cs t f e (fun e => h (by simp [tyA, e])) (fun e => h (by simp [tyA, e])) (fun e => h (by simp [tyA, e])) (fun e => h (by simp [tyA, e])) (fun e => h (by simp [tyA, e]))⟩
theorem Ke.rx (g : Rf.Rx lo W W') : Ke Rf.rty W W' := ⟨g.bel.size, fun b cs t f e h => (g.oth b cs t f e h).trans e⟩
theorem Ke.fm {rt md : Int} {es : Mt.Ents} (h : Mt.Ls mb W m rt md es) (g : Mt.Fm mb m W W') : Ke tyC W W' := by
  refine ⟨g.size, fun b cs t f e ht => g.blk b _ e ?_ ?_⟩
  · rintro rfl
    obtain ⟨a, cap, h2, _⟩ := h.hb
    rw [h2] at e
    cases e
    exact ht (by simp [tyC])
  · intro cur e2
    cases e2
    exact ht (by simp [tyC])
theorem Tq_ke (h : Tq lo N W t T B) (k : Ke P W W') (hm : ∀ (b : Nat) (es : Array MapEntry) (k : Nat), W.heap[b]? = some (.map es k) → W'.heap[b]? = W.heap[b]?) (hP : ∀ t, tyA t → ¬ P t) : Tq lo N W' t T B :=
  ⟨h.p.keep k.sz hm fun b cs t f e ht => (k.ce b cs t f e (hP t ht)).trans e.symm, h.f⟩
theorem Dq_ke (h : Rf.Dq lo N W r T) (k : Ke P W W') (hP : ∀ t, Rf.rty t → ¬ P t) : Rf.Dq lo N W' r T := h.keep k.sz fun b cs t f e ht => (k.ce b cs t f e (hP t ht)).trans e.symm
theorem Ls_ke (h : Mt.Tq K mb W m M) (k : Ke P W W') (hP : ∀ t, tyC t → ¬ P t) : Mt.Tq K mb W' m M := by
  refine ⟨h.ls.keep fun b cur ty e ht => (k.ce b cur ty _ e (hP ty ?_)).trans e.symm, h.wf⟩
  rcases ht with rfl | rfl
  · obtain ⟨a, cap, h2, _⟩ := h.ls.hb
    rw [h2] at e
    cases e
    simp [tyC]
  · simp [tyC]
theorem Rs_ke (h : Mt.Rs mb W m rs) (k : Ke P W W') (hP : ∀ t, tyD t → ¬ P t) : Mt.Rs mb W' m rs := by
  refine h.keep fun b cur ty e ht => (k.ce b cur ty _ e (hP ty ?_)).trans e.symm
  rcases ht with rfl | rfl
  · obtain ⟨a, cap, h2, _⟩ := h.hb
    rw [h2] at e
    cases e
    simp [tyD]
  · simp [tyD]
theorem AB : ∀ t, tyA t → ¬ Rf.rty t := by rintro t (rfl | rfl | rfl | rfl | rfl) <;> (unfold Rf.rty; decide)
theorem AC : ∀ t, tyA t → ¬ tyC t := by rintro t (rfl | rfl | rfl | rfl | rfl) <;> (unfold tyC; decide)
theorem AD : ∀ t, tyA t → ¬ tyD t := by rintro t (rfl | rfl | rfl | rfl | rfl) <;> (unfold tyD; decide)
theorem BC : ∀ t, Rf.rty t → ¬ tyC t := by rintro t (rfl | rfl | rfl | rfl | rfl | rfl | rfl | rfl) <;> (unfold tyC; decide)
theorem BD : ∀ t, Rf.rty t → ¬ tyD t := by rintro t (rfl | rfl | rfl | rfl | rfl | rfl | rfl | rfl) <;> (unfold tyD; decide)
theorem CD : ∀ t, tyC t → ¬ tyD t := by rintro t (rfl | rfl) <;> (unfold tyD; decide)
theorem flip {P Q : TypeId → Prop} (h : ∀ t, P t → ¬ Q t) : ∀ t, Q t → ¬ P t := fun t q p => h t p q
end
def own (t : TypeId) : Prop := ¬ tyA t ∧ ¬ Rf.rty t ∧ ¬ tyC t ∧ ¬ tyD t
def Kp (W W' : World) : Prop := ∀ (b : Nat) (cs : Array Value) (t : TypeId) (f : Nat × Nat), W.heap[b]? = some (.cells cs t f) → own t → W'.heap[b]? = some (.cells cs t f)
theorem Kp.refl (W : World) : Kp W W := fun _ _ _ _ e _ => e
theorem Kp.trans {u v w : World} (h : Kp u v) (g : Kp v w) : Kp u w := fun b cs t f e ht => g b cs t f (h b cs t f e ht) ht
theorem Kp.of {P : TypeId → Prop} {W W' : World} (k : Ke P W W') (h : ∀ t, own t → ¬ P t) : Kp W W' := fun b cs t f e ht => k.ce b cs t f e (h t ht)
theorem oA : ∀ t, own t → ¬ tyA t := fun _ h => h.1
theorem oB : ∀ t, own t → ¬ Rf.rty t := fun _ h => h.2.1
theorem oC : ∀ t, own t → ¬ tyC t := fun _ h => h.2.2.1
structure Bx (t m r R l0 l1 : Nat) (B : Nat) (K : Int) (w W : World) (T T2 : Tr) (M M2 : Mt.T) (rs : List Mt.Rm) : Prop where
  q : Tq l0 20 W t T B
  d : Rf.Dq l1 20 W r T2
  f : Wf B T2
  l : L16 T2
  a : Mt.Tq K m W m M
  b : Mt.Rs R W (R + 1) rs
  rt : Mt.RT M2 rs
  mf : Mt.Wf K M2
  be : Below w.heap.size w W
  le : w.heap.size ≤ l0 ∧ w.heap.size ≤ l1 ∧ w.heap.size ≤ m ∧ w.heap.size ≤ R
section
variable {t m r R l0 l1 B B' : Nat} {K : Int} {w W W' : World} {T T' T2 : Tr} {M M2 : Mt.T} {rs : List Mt.Rm}
theorem Bx.below (s : Bx t m r R l0 l1 B K w W T T2 M M2 rs) (g : Below W.heap.size W W') : Bx t m r R l0 l1 B K w W' T T2 M M2 rs := ⟨s.q.below g, s.d.below g, s.f, s.l, s.a.below g, s.b.below g, s.rt, s.mf, s.be.trans (g.mono s.be.size), s.le⟩
theorem Bx.mono (s : Bx t m r R l0 l1 B K w W T T2 M M2 rs) (h : B ≤ B') {K' : Int} (hk : K ≤ K') : Bx t m r R l0 l1 B' K' w W T T2 M M2 rs := ⟨s.q.mono h, s.d, s.f.mono h, s.l, ⟨s.a.ls, s.a.wf.mono hk⟩, s.b, s.rt, s.mf.mono hk, s.be, s.le⟩
theorem Bx.tx (s : Bx t m r R l0 l1 B K w W T T2 M M2 rs) (h : Tq l0 20 W' t T' B') (g : Tx l0 W W') (hb : B ≤ B') : Bx t m r R l0 l1 B' K w W' T' T2 M M2 rs ∧ Kp W W' :=
  ⟨⟨h, Dq_ke s.d (Ke.tx g) (flip AB), s.f.mono hb, s.l, Ls_ke s.a (Ke.tx g) (flip AC), Rs_ke s.b (Ke.tx g) (flip AD), s.rt, s.mf, s.be.trans (g.bel.mono s.le.1), s.le⟩, .of (Ke.tx g) oA⟩
theorem Bx.rx (s : Bx t m r R l0 l1 B K w W T T2 M M2 rs) (h : Rf.De l1 20 W W' r T') (hf : Wf B' T') (hl : L16 T') (hb : B ≤ B') : Bx t m r R l0 l1 B' K w W' T T' M M2 rs ∧ Kp W W' :=
  ⟨⟨(Tq_ke s.q (Ke.rx h.2) h.2.mps AB).mono hb, h.1, hf, hl, Ls_ke s.a (Ke.rx h.2) (flip BC), Rs_ke s.b (Ke.rx h.2) (flip BD), s.rt, s.mf, s.be.trans (h.2.bel.mono s.le.2.1), s.le⟩, .of (Ke.rx h.2) oB⟩
theorem Bx.fm (s : Bx t m r R l0 l1 B K w W T T2 M M2 rs) {K' : Int} {M' : Mt.T} (h : Mt.Tq K' m W' m M') (g : Mt.Fm m m W W') (hk : K ≤ K') : Bx t m r R l0 l1 B K' w W' T T2 M' M2 rs ∧ Kp W W' :=
  have k := Ke.fm s.a.ls g
  ⟨⟨Tq_ke s.q k (fun b es c e => (g.blk b _ e (by
      rintro rfl
      obtain ⟨a, cap, h2, _⟩ := s.a.ls.hb
      rw [h2] at e
      cases e) (by intro cur e2; cases e2)).trans e.symm) AC, Dq_ke s.d k BC, s.f, s.l, h, Rs_ke s.b k (flip CD), s.rt, s.mf.mono hk, s.be.trans (g.below.mono s.le.2.2.1), s.le⟩, .of k oC⟩
theorem Bx.kpb (g : Below W.heap.size W W') : Kp W W' := fun b _ _ _ e _ => (g.block b (lt_of_heap e)).trans e
/-! The calls, told of both. -/
theorem tMake (s : Bx t m r R l0 l1 B K w W T T2 M M2 rs) (hB : B ≤ 860) {dir : Int} (hn : (kl dir).wf = true) (z : ByteArray) (a kind mode uid gid f g : Int) (text : ByteArray) (hz : text.size ≤ 281474976710656) :
    Calls Tryz.prog 62 #[P0 t, I dir, .string z, .agg #[I a, I kind, I mode, I uid, I gid, I f, I g], .string text] W fun e w' => e = .returned (.tuple #[I (T.makeN dir z kind text), I (T.makeE dir z kind text)]) ∧ Hid (Bx t m r R l0 l1 (B + 2) K w w' (T.make dir z kind mode uid gid text) T2 M M2 rs ∧ Kp W w') := by
  refine (make_Q s.q (by omega) hn z a kind mode uid gid f g text hz _ _ _ rfl rfl rfl).mono ?_
  rintro e w' ⟨rfl, h1, h2⟩
  exact ⟨rfl, hide (s.tx (unhide h1) (unhide h2) (by omega))⟩
theorem dMake (s : Bx t m r R l0 l1 B K w W T T2 M M2 rs) (hB : B ≤ 860) {dir : Int} (hn : (kl dir).wf = true) (z : ByteArray) (hs : z.size ≤ 100000) (a kind mode uid gid f g : Int) (text : ByteArray) (hz : text.size ≤ 281474976710656) :
    Calls Tryz.prog 65 #[P0 r, I dir, .string z, .agg #[I a, I kind, I mode, I uid, I gid, I f, I g], .string text] W fun e w' => e = .returned (.tuple #[I (T2.makeN dir z kind text), I (T2.makeE dir z kind text)]) ∧ Hid (Bx t m r R l0 l1 (B + 2) K w w' T (T2.make dir z kind mode uid gid text) M M2 rs ∧ Kp W w') := by
  refine (Rf.dMake_D s.d s.f (by omega) dir z hn (Nat.le_trans hs (by omega)) a kind mode uid gid f g text hz s.l).mono ?_
  rintro e w' ⟨rfl, h1⟩
  exact ⟨rfl, hide (s.rx h1 (s.f.make dir z kind mode uid gid text hz) (s.l.make s.f dir z kind mode uid gid text) (by omega))⟩
theorem tJoin (s : Bx t m r R l0 l1 B K w W T T2 M M2 rs) (hB : B ≤ 860) {dir n : Int} (hn : (kl dir).wf = true) (hnn : (kl n).wf = true) (z : ByteArray) :
    Calls Tryz.prog 66 #[P0 t, I dir, .string z, I n] W fun e w' => e = .returned (I (T.joinE dir z n)) ∧ Hid (Bx t m r R l0 l1 (B + 2) K w w' (T.join dir z n) T2 M M2 rs ∧ Kp W w') := by
  refine (join_Q s.q (by omega) hn hnn z _ _ rfl rfl).mono ?_
  rintro e w' ⟨rfl, h1, h2⟩
  exact ⟨rfl, hide (s.tx ((unhide h1).mono (by omega)) (unhide h2) (by omega))⟩
theorem dJoin (s : Bx t m r R l0 l1 B K w W T T2 M M2 rs) (hB : B ≤ 860) {dir n : Int} (hn : (kl dir).wf = true) (hnn : (kl n).wf = true) (z : ByteArray) (hs : z.size ≤ 100000) :
    Calls Tryz.prog 67 #[P0 r, I dir, .string z, I n] W fun e w' => e = .returned (I (T2.joinE dir z n)) ∧ Hid (Bx t m r R l0 l1 (B + 2) K w w' T (T2.join dir z n) M M2 rs ∧ Kp W w') := by
  refine (Rf.dJoin_D s.d s.f (by omega) dir n z hn hnn (Nat.le_trans hs (by omega)) (fun y hy hk => s.l.names hy hk)).mono ?_
  rintro e w' ⟨rfl, h1⟩
  exact ⟨rfl, hide (s.rx h1 ((s.f.join dir z n).mono (by omega)) (s.l.join s.f dir z n) (by omega))⟩
theorem tPart (s : Bx t m r R l0 l1 B K w W T T2 M M2 rs) (hB : B ≤ 860) {dir : Int} (hn : (kl dir).wf = true) (z : ByteArray) :
    Calls Tryz.prog 64 #[P0 t, I dir, .string z] W fun e w' => e = .returned (I (T.partE dir z)) ∧ Hid (Bx t m r R l0 l1 (B + 2) K w w' (T.part dir z) T2 M M2 rs ∧ Kp W w') := by
  refine (part_Q s.q (by omega) hn z _ _ rfl rfl).mono ?_
  rintro e w' ⟨rfl, h1, h2⟩
  exact ⟨rfl, hide (s.tx ((unhide h1).mono (by omega)) (unhide h2) (by omega))⟩
theorem dPart (s : Bx t m r R l0 l1 B K w W T T2 M M2 rs) (hB : B ≤ 860) {dir : Int} (hn : (kl dir).wf = true) (z : ByteArray) :
    Calls Tryz.prog 68 #[P0 r, I dir, .string z] W fun e w' => e = .returned (I (T2.partE dir z)) ∧ Hid (Bx t m r R l0 l1 (B + 2) K w w' T (T2.part dir z) M M2 rs ∧ Kp W w') := by
  refine (Rf.dPart_any s.d s.f (by omega) dir z hn).mono ?_
  rintro e w' ⟨rfl, h1⟩
  exact ⟨rfl, hide (s.rx h1 ((s.f.part dir z).mono (by omega)) (s.l.part s.f dir z) (by omega))⟩
theorem tMove (s : Bx t m r R l0 l1 B K w W T T2 M M2 rs) (hB : B ≤ 860) {dir tq : Int} (hn : (kl dir).wf = true) (hnn : (kl tq).wf = true) (z z2 : ByteArray) {l : List Int} (hl : Ab T tq l) :
    Calls Tryz.prog 69 #[P0 t, I dir, .string z, I tq, .string z2] W fun e w' => e = .returned (I (T.moveE l dir z tq z2)) ∧ Hid (Bx t m r R l0 l1 (B + 2) K w w' (T.move l dir z tq z2) T2 M M2 rs ∧ Kp W w') := by
  refine (move_Q s.q (by omega) hn hnn z z2 hl _ _ rfl rfl).mono ?_
  rintro e w' ⟨rfl, h1, h2⟩
  exact ⟨rfl, hide (s.tx ((unhide h1).mono (by omega)) (unhide h2) (by omega))⟩
theorem dMove (s : Bx t m r R l0 l1 B K w W T T2 M M2 rs) (hB : B ≤ 860) {dir tq : Int} (hn : (kl dir).wf = true) (hnn : (kl tq).wf = true) (z z2 : ByteArray) (hs : z2.size ≤ 100000) {l : List Int} (hl : Ab T2 tq l) :
    Calls Tryz.prog 70 #[P0 r, I dir, .string z, I tq, .string z2] W fun e w' => e = .returned (I (T2.moveE l dir z tq z2)) ∧ Hid (Bx t m r R l0 l1 (B + 2) K w w' T (T2.move l dir z tq z2) M M2 rs ∧ Kp W w') := by
  refine (Rf.dMove_D s.d s.f (by omega) dir z tq z2 l hl hn hnn (Nat.le_trans hs (by omega)) s.l.dirs).mono ?_
  rintro e w' ⟨rfl, h1⟩
  exact ⟨rfl, hide (s.rx h1 ((s.f.move dir z tq z2 hl).mono (by omega)) (s.l.move s.f dir z tq z2) (by omega))⟩
theorem dSetMode (s : Bx t m r R l0 l1 B K w W T T2 M M2 rs) (hB : B ≤ 860) {n : Int} (hn : (kl n).wf = true) (mode : Int) :
    Calls Tryz.prog 41 #[P0 r, I n, I mode] W fun e w' => e = .returned (I (setsE T2 n)) ∧ Hid (Bx t m r R l0 l1 (B + 2) K w w' T (T2.setMode n mode) M M2 rs ∧ Kp W w') := by
  refine (Rf.dSetMode_D s.d s.f.k (by omega) n hn mode).mono ?_
  rintro e w' ⟨rfl, h1⟩
  exact ⟨rfl, hide (s.rx h1 ((s.f.setMode n mode).mono (by omega)) (s.l.setMode n mode) (by omega))⟩
theorem dSetOwner (s : Bx t m r R l0 l1 B K w W T T2 M M2 rs) (hB : B ≤ 860) {n : Int} (hn : (kl n).wf = true) (u g : Int) :
    Calls Tryz.prog 75 #[P0 r, I n, I u, I g] W fun e w' => e = .returned (I (setsE T2 n)) ∧ Hid (Bx t m r R l0 l1 (B + 2) K w w' T (T2.setOwner n u g) M M2 rs ∧ Kp W w') := by
  refine (Rf.dSetOwner_D s.d s.f.k (by omega) n hn u g).mono ?_
  rintro e w' ⟨rfl, h1⟩
  exact ⟨rfl, hide (s.rx h1 ((s.f.setOwner n u g).mono (by omega)) (s.l.setOwner n u g) (by omega))⟩
theorem tSetMode (s : Bx t m r R l0 l1 B K w W T T2 M M2 rs) {n : Int} (hn : (kl n).wf = true) (mode : Int) :
    Calls Tryz.prog 40 #[P0 t, I n, I mode] W fun e w' => e = .returned (I (setsE T n)) ∧ Hid (Bx t m r R l0 l1 (B + 2) K w w' (T.setMode n mode) T2 M M2 rs ∧ Kp W w') := by
  refine (setMode_Q s.q hn mode).mono ?_
  rintro e w' ⟨rfl, h1, h2⟩
  exact ⟨rfl, hide (s.tx ((unhide h1).mono (by omega)) (unhide h2) (by omega))⟩
theorem tSetOwner (s : Bx t m r R l0 l1 B K w W T T2 M M2 rs) {n : Int} (hn : (kl n).wf = true) (u g : Int) :
    Calls Tryz.prog 74 #[P0 t, I n, I u, I g] W fun e w' => e = .returned (I (setsE T n)) ∧ Hid (Bx t m r R l0 l1 (B + 2) K w w' (T.setOwner n u g) T2 M M2 rs ∧ Kp W w') := by
  refine (setOwner_Q s.q hn u g).mono ?_
  rintro e w' ⟨rfl, h1, h2⟩
  exact ⟨rfl, hide (s.tx ((unhide h1).mono (by omega)) (unhide h2) (by omega))⟩
theorem tHold (s : Bx t m r R l0 l1 B K w W T T2 M M2 rs) (hB : B ≤ 860) {n : Int} (hn : (kl n).wf = true) :
    Calls Tryz.prog 63 #[P0 t, I n] W fun e w' => e = .returned (I (T.holdE n)) ∧ Hid (Bx t m r R l0 l1 (B + 1) K w w' (T.hold n) T2 M M2 rs ∧ Kp W w') := by
  refine (hold_Q s.q (by omega) hn _ _ rfl rfl).mono ?_
  rintro e w' ⟨rfl, h1, h2⟩
  exact ⟨rfl, hide (s.tx (unhide h1) (unhide h2) (by omega))⟩
theorem dHold (s : Bx t m r R l0 l1 B K w W T T2 M M2 rs) (hB : B ≤ 860) {n : Int} (hn : (kl n).wf = true) :
    Calls Tryz.prog 71 #[P0 r, I n] W fun e w' => e = .returned (I (T2.holdE n)) ∧ Hid (Bx t m r R l0 l1 (B + 1) K w w' T (T2.hold n) M M2 rs ∧ Kp W w') := by
  refine (Rf.dHold_D s.d s.f.k (by omega) n hn).mono ?_
  rintro e w' ⟨rfl, h1⟩
  exact ⟨rfl, hide (s.rx h1 (s.f.hold n) (s.l.hold n) (by omega))⟩
end
end Go.Proofs.YtlngeaacjbdmhaaGreat.Bt

namespace Go.Proofs.YtlngeaacjbdmhaaGreat
open Go.RowKit Go.Maps
theorem closure_any (cb : Nat) (s : Nat) (hs : s ≤ 1024) (k : Nat) (hk : k < 64) (R : Array Value) (w : World) (hc : w.cell? ⟨cb, 0, none⟩ = some (I (s : Int))) :
    Calls Tryz.prog 283 #[I (k : Int), .agg R, P0 cb] w fun e w' => e = .returned (.bool (decide (s ≤ 16 * k))) ∧ Below w.heap.size w w' := by
  have h1 : (s : Int) ≤ 1024 := by omega
  have h2 : (k : Int) < 64 := by omega
  have h3 : cb < w.heap.size := by
    cases Nat.lt_or_ge cb w.heap.size with
    | inl h' => exact h'
    | inr h' => simp [World.cell?, Array.getElem?_eq_none h'] at hc
  have hc2 : ∀ o, (w.alloc o).cell? ⟨cb, 0, none⟩ = some (I (s : Int)) := fun o => by simp [World.cell?, Below.heap_alloc _ _ _ h3]; simpa [World.cell?] using hc
  go_enter Tryz.func283, Tryz.ntmps283
  go_wp2_with fail
  go_ret
  refine ⟨?_, (Below.refl _ w).alloc (Nat.le_refl _) _⟩
  have e : (decide ((s : Int) ≤ (k : Int) * 16)) = decide (s ≤ 16 * k) := by rw [decide_eq_decide]; omega
  rw [← e]
  rfl
theorem next_data (w : World) {ops : Array Oper} {rest : List Oper} {o : Oper} {a : Act} {Q : Exit → Act → World → Prop} (hg : o.guard = none) (it : Operand) (hop : o.op = Op.next it false) (b r n : Nat) (D : DataW Value) (left : Lit → Bool) (cnt : Nat)
    (hit : a.eval it = .pointer (some ⟨r, 0, none⟩)) (h : w.ranges Tryz.prog 3 hE b r n D left cnt) (shape : ∀ (x : Int) (v : Value), (kl x).wf = true → (∀ zd, D.atKey (kl x) zd = .held v) → ∃ R : Array Value, v = .agg R ∧ R.size = 16 ∧ R.all (·.oneCell') = true)
    (hDone : (∀ z, left z = false) → wpList Tryz.prog ops Q rest (a.put o.dst (.tuple #[.bool false])) w)
    (hMore : ∀ (x : Int) (R : Array Value) (w' : World) (cnt' : Nat), R.size = 16 → Hid (R.all (·.oneCell') = true) → (kl x).wf = true → left (kl x) = true → Maps.has D (kl x) = true → w'.ranges Tryz.prog 3 hE b r n D (fun z => left z && !z.sameKey (kl x)) cnt' → cnt' < cnt →
      w.grownBy w' (some r) → w'.heap.size = w.heap.size → (Instr.entry (.pointer (some ⟨r, 0, none⟩))).run Tryz.prog w' = .ok (.tuple #[I x, .agg R]) w' → wpList Tryz.prog ops Q rest (a.put o.dst (.tuple #[.bool true, I x, .agg R])) w') :
    wpList Tryz.prog ops Q (o :: rest) a w := by
  refine wpList_plain hg fun K' hK' => ?_
  unfold Oper.wp
  rcases h.next law o.type with ⟨h0, hl, hrun⟩ | ⟨key, v, z, y, w', cnt', hkey, hlk, hv, hat, hrun, hrg, hlt, hgr, hsz, hen⟩
  · simp [execOp, hop, hit, hrun, Result.andThen]
    exact hK' _ _ (hDone hl)
  · obtain ⟨x, rfl, rfl, hx⟩ := Maps.keyOf_int_inv Tryz.underlying3 hkey
    simp only [hE, Option.some.injEq] at hv
    have hat' : ∀ zd, D.atKey (kl x) zd = .held v := fun zd => by rw [hat zd, ← hv]
    obtain ⟨R, rfl, hR1, hR2⟩ := shape x v hx hat'
    simp [execOp, hop, hit, hrun, Result.andThen]
    exact hK' _ _ (hMore x R w' cnt' hR1 (hide hR2) hx hlk (has_true_of_atKey hat') hrg hlt hgr hsz hen)
def swept (f : Int → Option Value) (s : Nat) (left : Lit → Bool) : Int → Option Value := fun k => if left (kl k) = true ∨ 16 * k < (s : Int) then f k else none
theorem swept_strike (f : Int → Option Value) (s : Nat) (left : Lit → Bool) (k : Nat) : swept f s (fun z => left z && !z.sameKey (kl k)) = if s ≤ 16 * k then upd (swept f s left) k none else swept f s left := by
  funext j
  by_cases e : j = (k : Int)
  · subst e
    simp only [swept, WideAt.sameKey_self (isKey _), Bool.not_true, Bool.and_false, Bool.false_eq_true, false_or]
    by_cases h : s ≤ 16 * k
    · rw [if_pos h, if_neg (by omega)]
      simp [upd]
    · rw [if_neg h, if_pos (by omega)]
      simp only [swept]
      rw [if_pos (.inr (by omega))]
  · have h1 : (kl j).sameKey (kl k) = false := sameKey_ne (kl_ne e)
    have h2 : swept f s (fun z => left z && !z.sameKey (kl k)) j = swept f s left j := by simp [swept, h1]
    rw [h2]
    split
    · simp [upd, e]
    · rfl
theorem grown_of {a b : World} (h : Below a.heap.size a b) : a.grownBy b none := ⟨h.os, h.tape, h.output, h.size, fun i hi _ => h.block i hi⟩
set_option maxHeartbeats 1000000 in
theorem deleteFunc_any {W : World} {m cb s : Nat} {f : Nat → Int} {h : Nat → Bool} (hM : Mp W m 64 (bk f h)) (hh : ∀ k, h k = true → k < 64) (hs : s ≤ 1024) (hc : W.cell? ⟨cb, 0, none⟩ = some (I (s : Int))) :
    Calls Tryz.prog 282 #[.map (some m), .func (.func 283) #[] #[P0 cb]] W fun e w' => e = .returned (.tuple #[]) ∧ Mp w' m 64 (bk f (cutH h s)) ∧ Fr [m] W w' := by
  obtain ⟨D, hown, hD⟩ := hM
  have hcl : cb < W.heap.size := by
    cases Nat.lt_or_ge cb W.heap.size with
    | inl h' => exact h'
    | inr h' => simp [World.cell?, Array.getElem?_eq_none h'] at hc
  have hcm : cb ≠ m := by
    rintro rfl
    obtain ⟨es, k, h1, _⟩ := hown
    simp [World.cell?, h1] at hc
  have HD := hide hD
  have HC := hide hc
  have HH := hide hh
  clear hD hc hh
  go_enter Tryz.func282, Tryz.ntmps282
  go_wp2_with (first | (at_range; refine wpList_range_own _ rfl _ 259 rfl 3 309 law ht55 _ m 64 D rfl hown ?_; intro w0 hrg0 hg0 hs0) | go_in)
  go_frame
  go_loopw [4] (fun _ wr => ∃ left cnt D', Hid (wr.ranges Tryz.prog 3 hE m W.heap.size 64 D' left cnt) ∧ Hid (Holds D' (swept (bk f h) s left)) ∧ Hid (Fr [m] W wr)) (fun _ wr => wr.rangeLeft m W.heap.size)
  case atStart =>
    refine ⟨_, _, D, hide hrg0, hide ?_, hide ((Fr.refl _ W).grown hg0 (by simp))⟩
    intro k hk
    have hk' := unhide HD k hk
    have e : swept (bk f h) s (Maps.has D) k = bk f h k := by
      simp only [swept]
      rw [hk'.1]
      cases e2 : bk f h k with
      | none => simp
      | some v => simp
    rw [e]
    exact hk'
  case round =>
    obtain ⟨left, cnt, D', hrg, hD', hF⟩ := hrel
    clear hrg0 hg0 hs0 hown
    have hrg := unhide hrg
    have shape : ∀ (x : Int) (v : Value), (kl x).wf = true → (∀ zd, D'.atKey (kl x) zd = .held v) → ∃ R : Array Value, v = .agg R ∧ R.size = 16 ∧ R.all (·.oneCell') = true := by
      intro x v hx hat
      have h1 := unhide hD' x hx
      have h2 := has_true_of_atKey hat
      rw [h1.1] at h2
      obtain ⟨v', hv'⟩ := Option.isSome_iff_exists.1 h2
      have h3 := h1.2 v' hv' (.held v)
      rw [hat] at h3
      injection h3 with h3
      subst h3
      simp only [swept] at hv'
      split at hv'
      · simp only [bk] at hv'
        split at hv'
        · injection hv' with hv'
          exact ⟨_, hv'.symm, by simp [lst_length], lst_all _ _ _⟩
        · cases hv'
      · cases hv'
    go_wp2_with (first | (at_next; refine next_data _ rfl _ rfl m W.heap.size 64 D' left cnt rfl hrg shape ?_ ?_) | go_in)
    · intro hl
      clear shape
      go_wp2_with fail
      go_end0
      refine ⟨rfl, ?_, unhide hF⟩
      have hM : Mp wr m 64 (swept (bk f h) s left) := ⟨D', hrg.owns, unhide hD'⟩
      refine hM.congr fun k => ?_
      simp only [swept, hl, Bool.false_eq_true, false_or, bk, cutH]
      by_cases h0 : 0 ≤ k
      · by_cases h1 : 16 * k < (s : Int)
        · have : 16 * k.toNat < s := by omega
          simp [h0, h1, this]
        · have : ¬ 16 * k.toNat < s := by omega
          simp [h0, h1, this]
      · simp [h0]
    · intro x R w1 cnt1 hR1 hR2 hx hlx hhas hrg1 hlt hgr hsz hen
      clear shape
      have hsw := unhide hD' x hx
      rw [hhas] at hsw
      have hxs : 0 ≤ x ∧ x < 64 := by
        obtain ⟨v', hv'⟩ := Option.isSome_iff_exists.1 hsw.1.symm
        simp only [swept] at hv'
        split at hv'
        · simp only [bk] at hv'
          split at hv'
          · rename_i h1
            have := unhide HH _ h1.2
            omega
          · cases hv'
        · cases hv'
      obtain ⟨k, rfl⟩ : ∃ k : Nat, x = (k : Int) := ⟨x.toNat, by omega⟩
      have hk : k < 64 := by omega
      clear hsw
      have hst := store74 hR1 (by simpa using unhide hR2)
      have hld := fun w : World => run_loadAt_new (P := Tryz.prog) w 309 R 16 5 Tryz.underlying309 (by rw [hR1]; exact size74)
      have F1 : Fr [m] W w1 := (unhide hF).grown hgr (by simp)
      have HF1 := hide F1
      have HR1 := hide hrg1
      have HG := hide hgr
      have HL := hide hlx
      have HR := hide hrg
      have HHas := hide hhas
      have HSZ := hide hsz
      clear F1 hrg1 hgr hlx hrg hhas hsz
      go_wp2_with fail
      have hc1 : (w1.alloc (.cells R 309)).cell? ⟨cb, 0, none⟩ = some (I (s : Int)) := by
        have h1 := (unhide HF1).alloc (.cells R 309)
        have h2 := h1.blk cb hcl (by simpa using hcm)
        have h3 := unhide HC
        simp only [World.cell?, h2] at h3 ⊢
        exact h3
      refine (closure_any cb s hs k hk _ _ hc1).mono ?_
      rintro e w2 ⟨rfl, B2⟩
      have HR2 := ((unhide HR1).alloc (.cells R 309)).kept (grown_of B2) (by simp) (by simp)
      have F2 : Fr [m] W w2 := ((unhide HF1).alloc (.cells R 309)).trans (.of_below B2)
      clear hst hld hc1 HR1 hen
      have HH2 := unhide hD'
      by_cases hsk : s ≤ 16 * k
      · rw [decide_eq_true hsk]
        go_wp2_with (first | (at_delete; refine wpList_delete_ranges _ rfl _ _ 259 3 rfl 309 law ht55 hE m W.heap.size 64 D' _ cnt1 rfl HR2 _ _ rfl (key_of hx) ?_; intro w3 cnt3 hrg3 hle hturn; go_frame) | go_in)
        rw [Maps.strike_twice] at hrg3
        refine ⟨⟨_, cnt3, D'.del (kl k), hide hrg3, hide ?_, hide (F2.grown hturn.grown (by simp))⟩, ?_⟩
        · rw [swept_strike, if_pos hsk]
          exact HH2.del k
        · rw [hrg3.left_eq, (unhide HR).left_eq]
          omega
      · rw [decide_eq_false hsk]
        go_wp2_with fail
        refine ⟨⟨_, cnt1, D', hide HR2, hide ?_, hide F2⟩, ?_⟩
        · rw [swept_strike, if_neg hsk]
          exact HH2
        · rw [HR2.left_eq, (unhide HR).left_eq]
          omega
end Go.Proofs.YtlngeaacjbdmhaaGreat

namespace Go.Proofs.YtlngeaacjbdmhaaGreat
open Go.RowKit Go.Maps
theorem clear74 (f : Nat → Int) (a r : Nat) (hr : r < 16) (w : World) (ty : TypeId) :
    (Builtin.clear_ #[34] ty #[.slice (some ⟨w.heap.size, r, none⟩) (16 - r) (16 - r)]).run Tryz.prog (w.alloc (.cells (lst f a 16).toArray 309)) = .ok (.tuple #[]) (w.alloc (.cells (lst (cutF f (a + r)) a 16).toArray 309)) := by
  have hst := run_storeCells_at Tryz.prog w.heap.size r 309 (lst (fun _ => 0) 0 (16 - r)) 0 (lst f a 16).toArray (w.alloc (.cells (lst f a 16).toArray 309)) (heap_alloc_new _ _) (by simp [lst_length]; omega) (lst_one _ _ _)
  have e : (lst f a 16).take r ++ lst (fun _ => 0) 0 (16 - r) ++ (lst f a 16).drop (r + (lst (fun _ => 0) 0 (16 - r)).length) = lst (cutF f (a + r)) a 16 := by
    rw [List.append_assoc]
    refine splice_lst (by omega) ?_ ?_
    · intro j hj
      simp only [cutF]
      rw [if_neg (by omega)]
    · intro j hj ho
      simp only [cutF]
      rw [if_pos (by omega)]
  simp only [Nat.add_zero] at hst
  rw [e, World.setRow_alloc_new] at hst
  obtain ⟨i0, hi, hz0, hz1, hz2⟩ := info_parts info5
  have hz : ∀ w, (zeroValue 5).run Tryz.prog w = .ok (U 0) w := fun w => by simp [zeroValue, typeInfo, hi, hz0]
  have hzc : (Builtin.zeroCells (Value.cells (U 0)) (16 - r)).toList = lst (fun _ => 0) 0 (16 - r) := by
    apply List.ext_getElem
    · simp [Builtin.zeroCells, lst_length, Value.cells]
    · intro j h1 h2
      simp [Builtin.zeroCells, lst, Value.cells, Nat.mod_one]
  have h28 : Tryz.prog.underlying 34 = some (.slice 5) := Tryz.underlying34
  obtain ⟨m, hm⟩ : ∃ m, 16 - r = m + 1 := ⟨15 - r, by omega⟩
  rw [hm] at hst hzc ⊢
  simp [Builtin.clear_, run_underlying h28, hz, hzc, hst]
set_option maxHeartbeats 1000000 in
theorem ccut_any {W : World} {c m : Nat} {x : F} (h : Fl W c m x) (s : Nat) (hs : s ≤ 1024) :
    Calls Tryz.prog 221 #[P0 c, I (s : Int)] W fun e w' => e = .returned (.tuple #[]) ∧ Fl w' c m (x.cut s) ∧ Fr [c, m] W w' := by
  have H := hide h
  obtain ⟨c0, c1, cf⟩ := h.cells
  have hcl := lt_of_heap h.hc
  have hcm : c ≠ m := by
    rintro rfl
    obtain ⟨D, ⟨es, k, h1, _⟩, _⟩ := h.hm
    rw [h.hc] at h1
    cases h1
  have k1 : ∀ o, (W.alloc o).cell? ⟨c, 1, none⟩ = some (.map (some m)) := fun o => by simp [World.cell?, Below.heap_alloc _ _ _ hcl]; simpa [World.cell?] using c1
  have hmf : ∀ (fn : Go.Fn) (first cap : Array Value) (w : World), (Instr.makeFunc fn first cap).run Tryz.prog w = .ok (.func fn first cap) w := fun _ _ _ _ => rfl
  clear h c0 c1 cf
  go_enter Tryz.func221, Tryz.ntmps221
  go_wp2_with fail
  obtain ⟨cb, hcb⟩ : ∃ cb, cb = W.heap.size := ⟨_, rfl⟩
  have hx := (unhide H).ok
  refine (deleteFunc_any (cb := W.heap.size) (s := s) ((unhide H).hm.alloc _) hx.sup hs (by rw [cell_of (heap_alloc_new _ _)]; rfl)).mono ?_
  rintro e w1 ⟨rfl, M1, F1⟩
  have hml := (unhide H).hm.lt
  have hcw : w1.heap[c]? = some (.cells #[I x.size, .map (some m)] 261) := by
    rw [F1.blk c (by simp; omega) (by simpa using hcm), Below.heap_alloc _ _ _ hcl]
    exact (unhide H).hc
  have hbw : w1.heap[W.heap.size]? = some (.cells #[I (s : Int)] 3) := by
    rw [F1.blk W.heap.size (by simp) (by simp; omega)]
    exact heap_alloc_new _ _
  have F1' : Fr [m] W w1 := ((Fr.refl [m] W).alloc _).trans F1
  clear k1
  have k1 : w1.cell? ⟨c, 1, none⟩ = some (.map (some m)) := by rw [cell_of hcw]; rfl
  have kb : w1.cell? ⟨W.heap.size, 0, none⟩ = some (I (s : Int)) := by rw [cell_of hbw]; rfl
  have kf : ∀ i, w1.frozen? ⟨c, i, none⟩ = false := frozen_of hcw
  have hw1 : W.heap.size < w1.heap.size := lt_of_heap hbw
  have kc0 : ∀ o, (w1.alloc o).cell? ⟨c, 0, none⟩ = some (I x.size) := fun o => by
    have h1 : (w1.alloc o).heap[c]? = some (.cells #[I x.size, .map (some m)] 261) := by rw [Below.heap_alloc _ _ _ (lt_of_heap hcw)]; exact hcw
    rw [cell_of h1]; rfl
  have kcf : ∀ o, (w1.alloc o).frozen? ⟨c, 0, none⟩ = false := fun o => by
    have h1 : (w1.alloc o).heap[c]? = some (.cells #[I x.size, .map (some m)] 261) := by rw [Below.heap_alloc _ _ _ (lt_of_heap hcw)]; exact hcw
    exact frozen_of h1 _
  rw [← hcb] at kb hbw hw1 ⊢
  obtain ⟨q, r, hq, hr⟩ : ∃ q r : Nat, s = 16 * q + r ∧ r < 16 := ⟨s / 16, s % 16, by omega, by omega⟩
  have r0 : (0 : Int) ≤ (r : Int) := by omega
  have r1 : (r : Int) < 16 := by omega
  have hq1 : q ≤ 64 := by omega
  have hlk := M1.look_ok ht55 (zero74 _) (k := (q : Int)) (wf_of (by omega))
  have fin : ∀ w2 : World, w2.heap[c]? = some (.cells #[I x.size, .map (some m)] 261) → Mp w2 m 64 (bk (cutF x.byte s) (cutH x.has s)) → Fr [m] W w2 →
      Fl (w2.setCell ⟨c, 0, none⟩ (I (s : Int))) c m (x.cut s) ∧ Fr [c, m] W (w2.setCell ⟨c, 0, none⟩ (I (s : Int))) := by
    intro w2 h1 h2 h3
    refine ⟨⟨?_, h2.same (Below.heap_setCell _ _ _ _ (by exact hcm.symm)), F.cut_ok hx hs⟩, (h3.mono (by simp)).set (by simp) _⟩
    rw [heap_set h1]
    rfl
  replace fin := hide fin
  have HM1 := hide M1
  have HF1 := hide F1'
  have HC1 := hide hcw
  have HCB := hide hcb
  have HX := hide hx
  replace hq := hide hq
  clear M1 F1 F1' hcw hbw hcb hx
  go_wp2_with fail
  refine (split_any _ q r (by rw [← unhide hq]) hr (by omega) _).mono ?_
  rintro e w2 ⟨rfl, rfl⟩
  cases hh : cutH x.has s q with
  | true =>
    rw [bk_get, hh] at hlk
    simp only [if_true, Option.getD_some, Option.isSome_some] at hlk
    obtain ⟨R, hR⟩ : ∃ R, R = (lst x.byte (16 * q) 16).toArray := ⟨_, rfl⟩
    have hRs : R.size = 16 := by rw [hR]; simp [lst_length]
    have hst := store74 hRs (by rw [hR]; exact lst_all _ _ _)
    rw [← hR] at hlk
    obtain ⟨R2, hR2⟩ : ∃ R2, R2 = (lst (cutF x.byte s) (16 * q) 16).toArray := ⟨_, rfl⟩
    have hRs2 : R2.size = 16 := by rw [hR2]; simp [lst_length]
    have hcl2 : ∀ (w : World) (ty : TypeId), (Builtin.clear_ #[34] ty #[.slice (some ⟨w.heap.size, r, none⟩) (16 - r) (16 - r)]).run Tryz.prog (w.alloc (.cells R 309)) = .ok (.tuple #[]) (w.alloc (.cells R2 309)) := by
      intro w ty
      have := clear74 x.byte (16 * q) r hr w ty
      rw [← unhide hq] at this
      rw [hR, hR2]
      exact this
    have hsl := slice74 w2.heap.size r hr
    replace hR := hide hR
    replace hR2 := hide hR2
    replace hRs2 := hide hRs2
    go_wp2_with fail
    obtain ⟨w4, hw4⟩ : ∃ w4, w4 = w2.alloc (Obj.cells R2 309) := ⟨_, rfl⟩
    rw [← hw4]
    have G4 : w4.heap[w2.heap.size]? = some (.cells R2 309) := by rw [hw4]; exact heap_alloc_new _ _
    have hcl4 := lt_of_heap (unhide HC1)
    have hc4 : w4.heap[c]? = some (.cells #[I x.size, .map (some m)] 261) := by rw [hw4, Below.heap_alloc _ _ _ hcl4]; exact unhide HC1
    have hb4 : w4.cell? ⟨cb, 0, none⟩ = some (I (s : Int)) := by
      have : w4.heap[cb]? = w2.heap[cb]? := by rw [hw4, Below.heap_alloc _ _ _ hw1]
      rw [cell_same this]; exact kb
    have M4 : Mp w4 m 64 (bk x.byte (cutH x.has s)) := by rw [hw4]; exact (unhide HM1).alloc _
    have F4 : Fr [m] W w4 := by rw [hw4]; exact (unhide HF1).alloc _
    have k4 : w4.cell? ⟨c, 1, none⟩ = some (.map (some m)) := by rw [cell_of hc4]; rfl
    obtain ⟨y0, y1, y2, y3, y4, y5, y6, y7, y8, y9, y10, y11, y12, y13, y14, y15, e16, z0, z1, z2, z3, z4, z5, z6, z7, z8, z9, z10, z11, z12, z13, z14, z15⟩ := row16 G4 (unhide hRs2)
    obtain ⟨w5, hrun, M5, F5, _⟩ := M4.drew.store ht55 (by decide) (k := (q : Int)) (wf_of (by omega)) (.agg #[y0, y1, y2, y3, y4, y5, y6, y7, y8, y9, y10, y11, y12, y13, y14, y15])
    have M5' : Mp w5 m 64 (bk (cutF x.byte s) (cutH x.has s)) := by
      rw [← e16, unhide hR2] at M5
      have e2 := unhide hq
      refine Mp.tight (n := 64) (M5.congr (upd_bk (h' := cutH x.has s) hh ?_)) (by omega) (bk_sup (n := 64) ?_)
      · intro j hj
        refine ⟨rfl, fun hj2 i hi => ?_⟩
        simp only [cutH, Bool.and_eq_true, decide_eq_true_eq] at hj2
        simp only [cutF]
        rw [if_pos (by omega)]
      · intro k hk
        simp only [cutH, Bool.and_eq_true] at hk
        exact (unhide HX).sup k hk.1
    have hc5 : w5.heap[c]? = some (.cells #[I x.size, .map (some m)] 261) := by
      rw [F5.blk c (lt_of_heap hc4) (by simpa using hcm)]
      exact hc4
    have kc5 : w5.cell? ⟨c, 0, none⟩ = some (I x.size) := by rw [cell_of hc5]; rfl
    have kf5 : w5.frozen? ⟨c, 0, none⟩ = false := frozen_of hc5 _
    have kb5 : w5.cell? ⟨cb, 0, none⟩ = some (I (s : Int)) := by
      have hcb5 : cb ∉ [m] := by have := unhide HCB; simp; omega
      rw [cell_same (F5.blk cb (lt_of_cell hb4) hcb5)]
      exact hb4
    have HM5 := hide M5'
    have HF5 := hide (F4.drew.trans F5)
    have HC5 := hide hc5
    clear M5 M5' F5 F4 M4 G4 hsl hcl2 hst hlk hc4 hc5 e16 hw4 k1 kf kc0 kcf
    go_region
    go_wp2_with fail
    go_end0
    exact ⟨rfl, unhide fin _ (unhide HC5) (unhide HM5) (unhide HF5)⟩
  | false =>
    rw [bk_get, hh] at hlk
    simp only [Bool.false_eq_true, if_false, Option.getD_none, Option.isSome_none] at hlk
    obtain ⟨R, hR⟩ : ∃ R, R = Z16 := ⟨_, rfl⟩
    have hRs : R.size = 16 := by rw [hR]; simp [lst_length]
    have hst := store74 hRs (by rw [hR]; exact lst_all _ _ _)
    rw [← hR] at hlk
    replace hR := hide hR
    go_wp2_with fail
    go_end0
    refine ⟨rfl, ?_⟩
    have hcw := unhide HC1
    refine unhide fin _ (by rw [Below.heap_alloc _ _ _ (lt_of_heap hcw)]; exact hcw) ?_ ((unhide HF1).alloc _)
    refine ((unhide HM1).alloc _).congr fun k => bk_cong (fun j hj i hi => ?_) k
    have e2 := unhide hq
    have hne : j ≠ q := by
      rintro rfl
      rw [hh] at hj
      cases hj
    simp only [cutH, Bool.and_eq_true, decide_eq_true_eq] at hj
    simp only [cutF]
    rw [if_pos (by omega)]
end Go.Proofs.YtlngeaacjbdmhaaGreat
