/-
 A tree and mounts beside the document's own: what the calls of the one leave of the others.
-/
import Derived.Test.YtlngeaacjbdmhaaGreatPp30
import Derived.Test.YtlngeaacjbdmhaaGreatPp31
import Derived.Test.YtlngeaacjbdmhaaGreatPp25
set_option maxRecDepth 100000
namespace Go.Proofs.YtlngeaacjbdmhaaGreat.Bt
open Go.RowKit
def tyA (t:TypeId):Prop:=t=202 ∨ t=261 ∨ t=125 ∨ t=129 ∨ t=256
def tyC (t:TypeId):Prop:=t=221 ∨ t=182
def tyD (t:TypeId):Prop:=t=226 ∨ t=223
structure Ke (P:TypeId→Prop) (W W':World):Prop where
 sz:W.heap.size≤W'.heap.size
 ce:∀ (b:Nat) (cs:Array Value) (t:TypeId) (f:Nat × Nat),W.heap[b]?=some (.cells cs t f)→¬ P t→W'.heap[b]?=some (.cells cs t f)
section
variable {P:TypeId→Prop} {W W':World} {lo N mb m t r R:Nat} {T:Tr} {B:Nat} {M:Mt.T} {K:Int} {rs:List Mt.Rm}
theorem Ke.below (g:Below W.heap.size W W'):Ke P W W':=⟨g.size,fun b _ _ _ e _=>(g.block b (lt_of_heap e)).trans e⟩
theorem Ke.tx (g:Tx lo W W'):Ke tyA W W':=⟨g.size,fun b cs t f e h=>g.oth b cs t f e (fun e=>h (by simp [tyA,e])) (fun e=>h (by simp [tyA,e])) (fun e=>h (by simp [tyA,e])) (fun e=>h (by simp [tyA,e])) (fun e=>h (by simp [tyA,e]))⟩
theorem Ke.rx (g:Rf.Rx lo W W'):Ke Rf.rty W W':=⟨g.bel.size,fun b cs t f e h=>(g.oth b cs t f e h).trans e⟩
theorem Ke.fm {rt md:Int} {es:Mt.Ents} (h:Mt.Ls mb W m rt md es) (g:Mt.Fm mb m W W'):Ke tyC W W':=by
 refine ⟨g.size,fun b cs t f e ht=>g.blk b _ e ?_ ?_⟩
 ·rintro rfl
  obtain ⟨a,cap,h2,_⟩:=h.hb
  rw [h2] at e
  cases e
  exact ht (by simp [tyC])
 ·intro cur e2
  cases e2
  exact ht (by simp [tyC])
theorem Ke.fq (h:Mt.Rs mb W m rs) (g:Mt.Fq mb m W W'):Ke tyD W W':=by
 refine ⟨g.size,fun b cs t f e ht=>g.blk b _ e ?_ ?_⟩
 ·rintro rfl
  obtain ⟨a,cap,h2,_⟩:=h.hb
  rw [h2] at e
  cases e
  exact ht (by simp [tyD])
 ·intro cur e2
  cases e2
  exact ht (by simp [tyD])
theorem Tq_ke (h:Tq lo N W t T B) (k:Ke P W W') (hm:∀ (b:Nat) (es:Array MapEntry) (k:Nat),W.heap[b]?=some (.map es k)→W'.heap[b]?=W.heap[b]?) (hP:∀ t,tyA t→¬ P t):Tq lo N W' t T B :=
 ⟨h.p.keep k.sz hm fun b cs t f e ht=>(k.ce b cs t f e (hP t ht)).trans e.symm,h.f⟩
theorem Dq_ke (h:Rf.Dq lo N W r T) (k:Ke P W W') (hP:∀ t,Rf.rty t→¬ P t):Rf.Dq lo N W' r T:=h.keep k.sz fun b cs t f e ht=>(k.ce b cs t f e (hP t ht)).trans e.symm
theorem Ls_ke (h:Mt.Tq K mb W m M) (k:Ke P W W') (hP:∀ t,tyC t→¬ P t):Mt.Tq K mb W' m M:=by
 refine ⟨h.ls.keep fun b cur ty e ht=>(k.ce b cur ty _ e (hP ty ?_)).trans e.symm,h.wf⟩
 rcases ht with rfl | rfl
 ·obtain ⟨a,cap,h2,_⟩:=h.ls.hb
  rw [h2] at e
  cases e
  simp [tyC]
 ·simp [tyC]
theorem Rs_ke (h:Mt.Rs mb W m rs) (k:Ke P W W') (hP:∀ t,tyD t→¬ P t):Mt.Rs mb W' m rs:=by
 refine h.keep fun b cur ty e ht=>(k.ce b cur ty _ e (hP ty ?_)).trans e.symm
 rcases ht with rfl | rfl
 ·obtain ⟨a,cap,h2,_⟩:=h.hb
  rw [h2] at e
  cases e
  simp [tyD]
 ·simp [tyD]
theorem AB:∀ t,tyA t→¬ Rf.rty t:=by rintro t (rfl | rfl | rfl | rfl | rfl) <;> (unfold Rf.rty;decide)
theorem AC:∀ t,tyA t→¬ tyC t:=by rintro t (rfl | rfl | rfl | rfl | rfl) <;> (unfold tyC;decide)
theorem AD:∀ t,tyA t→¬ tyD t:=by rintro t (rfl | rfl | rfl | rfl | rfl) <;> (unfold tyD;decide)
theorem BC:∀ t,Rf.rty t→¬ tyC t:=by rintro t (rfl | rfl | rfl | rfl | rfl | rfl | rfl | rfl) <;> (unfold tyC;decide)
theorem BD:∀ t,Rf.rty t→¬ tyD t:=by rintro t (rfl | rfl | rfl | rfl | rfl | rfl | rfl | rfl) <;> (unfold tyD;decide)
theorem CD:∀ t,tyC t→¬ tyD t:=by rintro t (rfl | rfl) <;> (unfold tyD;decide)
theorem flip {P Q:TypeId→Prop} (h:∀ t,P t→¬ Q t):∀ t,Q t→¬ P t:=fun t q p=>h t p q
end
def own (t:TypeId):Prop:=¬ tyA t∧¬ Rf.rty t∧¬ tyC t∧¬ tyD t
theorem own_both:own 46:=by unfold own tyA Rf.rty tyC tyD;decide
theorem own_act:own 52:=by unfold own tyA Rf.rty tyC tyD;decide
theorem own_cred:own 57:=by unfold own tyA Rf.rty tyC tyD;decide
theorem own_place:own 50:=by unfold own tyA Rf.rty tyC tyD;decide
def Kp (W W':World):Prop:=∀ (b:Nat) (cs:Array Value) (t:TypeId) (f:Nat × Nat),W.heap[b]?=some (.cells cs t f)→own t→W'.heap[b]?=some (.cells cs t f)
theorem Kp.refl (W:World):Kp W W:=fun _ _ _ _ e _=>e
theorem Kp.trans {u v w:World} (h:Kp u v) (g:Kp v w):Kp u w:=fun b cs t f e ht=>g b cs t f (h b cs t f e ht) ht
theorem Kp.of {P:TypeId→Prop} {W W':World} (k:Ke P W W') (h:∀ t,own t→¬ P t):Kp W W':=fun b cs t f e ht=>k.ce b cs t f e (h t ht)
theorem oA:∀ t,own t→¬ tyA t:=fun _ h=>h.1
theorem oB:∀ t,own t→¬ Rf.rty t:=fun _ h=>h.2.1
theorem oC:∀ t,own t→¬ tyC t:=fun _ h=>h.2.2.1
theorem oD:∀ t,own t→¬ tyD t:=fun _ h=>h.2.2.2
structure Bx (t m r R l0 l1:Nat) (B:Nat) (K:Int) (w W:World) (T T2:Tr) (M M2:Mt.T) (rs:List Mt.Rm):Prop where
 q:Tq l0 20 W t T B
 d:Rf.Dq l1 20 W r T2
 f:Wf B T2
 l:L16 T2
 a:Mt.Tq K m W m M
 b:Mt.Rs R W (R + 1) rs
 rt:Mt.RT M2 rs
 mf:Mt.Wf K M2
 be:Below w.heap.size w W
 le:w.heap.size≤l0∧w.heap.size≤l1∧w.heap.size≤m∧w.heap.size≤R
section
variable {t m r R l0 l1 B B':Nat} {K:Int} {w W W':World} {T T' T2:Tr} {M M2:Mt.T} {rs:List Mt.Rm}
theorem Bx.below (s:Bx t m r R l0 l1 B K w W T T2 M M2 rs) (g:Below W.heap.size W W'):Bx t m r R l0 l1 B K w W' T T2 M M2 rs:=⟨s.q.below g,s.d.below g,s.f,s.l,s.a.below g,s.b.below g,s.rt,s.mf,s.be.trans (g.mono s.be.size),s.le⟩
theorem Bx.mono (s:Bx t m r R l0 l1 B K w W T T2 M M2 rs) (h:B≤B') {K':Int} (hk:K≤K'):Bx t m r R l0 l1 B' K' w W T T2 M M2 rs:=⟨s.q.mono h,s.d,s.f.mono h,s.l,⟨s.a.ls,s.a.wf.mono hk⟩,s.b,s.rt,s.mf.mono hk,s.be,s.le⟩
theorem Bx.tx (s:Bx t m r R l0 l1 B K w W T T2 M M2 rs) (h:Tq l0 20 W' t T' B') (g:Tx l0 W W') (hb:B≤B'):Bx t m r R l0 l1 B' K w W' T' T2 M M2 rs∧Kp W W' :=
 ⟨⟨h,Dq_ke s.d (Ke.tx g) (flip AB),s.f.mono hb,s.l,Ls_ke s.a (Ke.tx g) (flip AC),Rs_ke s.b (Ke.tx g) (flip AD),s.rt,s.mf,s.be.trans (g.bel.mono s.le.1),s.le⟩,.of (Ke.tx g) oA⟩
theorem Bx.rx (s:Bx t m r R l0 l1 B K w W T T2 M M2 rs) (h:Rf.De l1 20 W W' r T') (hf:Wf B' T') (hl:L16 T') (hb:B≤B'):Bx t m r R l0 l1 B' K w W' T T' M M2 rs∧Kp W W' :=
 ⟨⟨(Tq_ke s.q (Ke.rx h.2) h.2.mps AB).mono hb,h.1,hf,hl,Ls_ke s.a (Ke.rx h.2) (flip BC),Rs_ke s.b (Ke.rx h.2) (flip BD),s.rt,s.mf,s.be.trans (h.2.bel.mono s.le.2.1),s.le⟩,.of (Ke.rx h.2) oB⟩
theorem Bx.fm (s:Bx t m r R l0 l1 B K w W T T2 M M2 rs) {K':Int} {M':Mt.T} (h:Mt.Tq K' m W' m M') (g:Mt.Fm m m W W') (hk:K≤K'):Bx t m r R l0 l1 B K' w W' T T2 M' M2 rs∧Kp W W' :=
 have k:=Ke.fm s.a.ls g
 ⟨⟨Tq_ke s.q k (fun b es c e=>(g.blk b _ e (by
   rintro rfl
   obtain ⟨a,cap,h2,_⟩:=s.a.ls.hb
   rw [h2] at e
   cases e) (by intro cur e2;cases e2)).trans e.symm) AC,Dq_ke s.d k BC,s.f,s.l,h,Rs_ke s.b k (flip CD),s.rt,s.mf.mono hk,s.be.trans (g.below.mono s.le.2.2.1),s.le⟩,.of k oC⟩
theorem Bx.fq (s:Bx t m r R l0 l1 B K w W T T2 M M2 rs) {K':Int} {M':Mt.T} {rs':List Mt.Rm} (h:Mt.Rs R W' (R + 1) rs') (hr:Mt.RT M' rs') (hw:Mt.Wf K' M') (g:Mt.Fq R (R + 1) W W') (hk:K≤K'):Bx t m r R l0 l1 B K' w W' T T2 M M' rs'∧Kp W W' :=
 have k:=Ke.fq s.b g
 ⟨⟨Tq_ke s.q k (fun b es c e=>(g.blk b _ e (by
   rintro rfl
   obtain ⟨a,cap,h2,_⟩:=s.b.hb
   rw [h2] at e
   cases e) (by intro cur e2;cases e2)).trans e.symm) AD,Dq_ke s.d k BD,s.f,s.l,⟨(Ls_ke s.a k CD).ls,s.a.wf.mono hk⟩,h,hr,hw,s.be.trans (g.below.mono s.le.2.2.2),s.le⟩,.of k oD⟩
theorem Bx.kpb (g:Below W.heap.size W W'):Kp W W':=fun b _ _ _ e _=>(g.block b (lt_of_heap e)).trans e
/-! The calls, told of both. -/
theorem tMake (s:Bx t m r R l0 l1 B K w W T T2 M M2 rs) (hB:B≤860) {dir:Int} (hn:(kl dir).wf=true) (z:ByteArray) (a kind mode uid gid f g:Int) (text:ByteArray) (hz:text.size≤281474976710656) :
  Calls Tryz.prog 62 #[P0 t,I dir,.string z,.agg #[I a,I kind,I mode,I uid,I gid,I f,I g],.string text] W fun e w'=>e=.returned (.tuple #[I (T.makeN dir z kind text),I (T.makeE dir z kind text)])∧Hid (Bx t m r R l0 l1 (B + 2) K w w' (T.make dir z kind mode uid gid text) T2 M M2 rs∧Kp W w'):=by
 refine (make_Q s.q (by omega) hn z a kind mode uid gid f g text hz _ _ _ rfl rfl rfl).mono ?_
 rintro e w' ⟨rfl,h1,h2⟩
 exact ⟨rfl,hide (s.tx (unhide h1) (unhide h2) (by omega))⟩
theorem dMake (s:Bx t m r R l0 l1 B K w W T T2 M M2 rs) (hB:B≤860) {dir:Int} (hn:(kl dir).wf=true) (z:ByteArray) (hs:z.size≤100000) (a kind mode uid gid f g:Int) (text:ByteArray) (hz:text.size≤281474976710656) :
  Calls Tryz.prog 65 #[P0 r,I dir,.string z,.agg #[I a,I kind,I mode,I uid,I gid,I f,I g],.string text] W fun e w'=>e=.returned (.tuple #[I (T2.makeN dir z kind text),I (T2.makeE dir z kind text)])∧Hid (Bx t m r R l0 l1 (B + 2) K w w' T (T2.make dir z kind mode uid gid text) M M2 rs∧Kp W w'):=by
 refine (Rf.dMake_D s.d s.f (by omega) dir z hn hs a kind mode uid gid f g text hz s.l).mono ?_
 rintro e w' ⟨rfl,h1⟩
 exact ⟨rfl,hide (s.rx h1 (s.f.make dir z kind mode uid gid text hz) (s.l.make s.f dir z kind mode uid gid text) (by omega))⟩
theorem tJoin (s:Bx t m r R l0 l1 B K w W T T2 M M2 rs) (hB:B≤860) {dir n:Int} (hn:(kl dir).wf=true) (hnn:(kl n).wf=true) (z:ByteArray) :
  Calls Tryz.prog 66 #[P0 t,I dir,.string z,I n] W fun e w'=>e=.returned (I (T.joinE dir z n))∧Hid (Bx t m r R l0 l1 (B + 2) K w w' (T.join dir z n) T2 M M2 rs∧Kp W w'):=by
 refine (join_Q s.q (by omega) hn hnn z _ _ rfl rfl).mono ?_
 rintro e w' ⟨rfl,h1,h2⟩
 exact ⟨rfl,hide (s.tx ((unhide h1).mono (by omega)) (unhide h2) (by omega))⟩
theorem dJoin (s:Bx t m r R l0 l1 B K w W T T2 M M2 rs) (hB:B≤860) {dir n:Int} (hn:(kl dir).wf=true) (hnn:(kl n).wf=true) (z:ByteArray) (hs:z.size≤100000) :
  Calls Tryz.prog 67 #[P0 r,I dir,.string z,I n] W fun e w'=>e=.returned (I (T2.joinE dir z n))∧Hid (Bx t m r R l0 l1 (B + 2) K w w' T (T2.join dir z n) M M2 rs∧Kp W w'):=by
 refine (Rf.dJoin_D s.d s.f (by omega) dir n z hn hnn hs (fun y hy hk=>s.l.names hy hk)).mono ?_
 rintro e w' ⟨rfl,h1⟩
 exact ⟨rfl,hide (s.rx h1 ((s.f.join dir z n).mono (by omega)) (s.l.join s.f dir z n) (by omega))⟩
theorem tPart (s:Bx t m r R l0 l1 B K w W T T2 M M2 rs) (hB:B≤860) {dir:Int} (hn:(kl dir).wf=true) (z:ByteArray) :
  Calls Tryz.prog 64 #[P0 t,I dir,.string z] W fun e w'=>e=.returned (I (T.partE dir z))∧Hid (Bx t m r R l0 l1 (B + 2) K w w' (T.part dir z) T2 M M2 rs∧Kp W w'):=by
 refine (part_Q s.q (by omega) hn z _ _ rfl rfl).mono ?_
 rintro e w' ⟨rfl,h1,h2⟩
 exact ⟨rfl,hide (s.tx ((unhide h1).mono (by omega)) (unhide h2) (by omega))⟩
theorem dPart (s:Bx t m r R l0 l1 B K w W T T2 M M2 rs) (hB:B≤860) {dir:Int} (hn:(kl dir).wf=true) (z:ByteArray) :
  Calls Tryz.prog 68 #[P0 r,I dir,.string z] W fun e w'=>e=.returned (I (T2.partE dir z))∧Hid (Bx t m r R l0 l1 (B + 2) K w w' T (T2.part dir z) M M2 rs∧Kp W w'):=by
 refine (Rf.dPart_any s.d s.f (by omega) dir z hn).mono ?_
 rintro e w' ⟨rfl,h1⟩
 exact ⟨rfl,hide (s.rx h1 ((s.f.part dir z).mono (by omega)) (s.l.part s.f dir z) (by omega))⟩
theorem tMove (s:Bx t m r R l0 l1 B K w W T T2 M M2 rs) (hB:B≤860) {dir tq:Int} (hn:(kl dir).wf=true) (hnn:(kl tq).wf=true) (z z2:ByteArray) {l:List Int} (hl:Ab T tq l) :
  Calls Tryz.prog 69 #[P0 t,I dir,.string z,I tq,.string z2] W fun e w'=>e=.returned (I (T.moveE l dir z tq z2))∧Hid (Bx t m r R l0 l1 (B + 2) K w w' (T.move l dir z tq z2) T2 M M2 rs∧Kp W w'):=by
 refine (move_Q s.q (by omega) hn hnn z z2 hl _ _ rfl rfl).mono ?_
 rintro e w' ⟨rfl,h1,h2⟩
 exact ⟨rfl,hide (s.tx ((unhide h1).mono (by omega)) (unhide h2) (by omega))⟩
theorem dMove (s:Bx t m r R l0 l1 B K w W T T2 M M2 rs) (hB:B≤860) {dir tq:Int} (hn:(kl dir).wf=true) (hnn:(kl tq).wf=true) (z z2:ByteArray) (hs:z2.size≤100000) {l:List Int} (hl:Ab T2 tq l) :
  Calls Tryz.prog 70 #[P0 r,I dir,.string z,I tq,.string z2] W fun e w'=>e=.returned (I (T2.moveE l dir z tq z2))∧Hid (Bx t m r R l0 l1 (B + 2) K w w' T (T2.move l dir z tq z2) M M2 rs∧Kp W w'):=by
 refine (Rf.dMove_D s.d s.f (by omega) dir z tq z2 l hl hn hnn hs s.l.dirs).mono ?_
 rintro e w' ⟨rfl,h1⟩
 exact ⟨rfl,hide (s.rx h1 ((s.f.move dir z tq z2 hl).mono (by omega)) (s.l.move s.f dir z tq z2) (by omega))⟩
theorem dSetMode (s:Bx t m r R l0 l1 B K w W T T2 M M2 rs) (hB:B≤860) {n:Int} (hn:(kl n).wf=true) (mode:Int) :
  Calls Tryz.prog 41 #[P0 r,I n,I mode] W fun e w'=>e=.returned (I (setsE T2 n))∧Hid (Bx t m r R l0 l1 (B + 2) K w w' T (T2.setMode n mode) M M2 rs∧Kp W w'):=by
 refine (Rf.dSetMode_D s.d s.f.k (by omega) n hn mode).mono ?_
 rintro e w' ⟨rfl,h1⟩
 exact ⟨rfl,hide (s.rx h1 ((s.f.setMode n mode).mono (by omega)) (s.l.setMode n mode) (by omega))⟩
theorem dSetOwner (s:Bx t m r R l0 l1 B K w W T T2 M M2 rs) (hB:B≤860) {n:Int} (hn:(kl n).wf=true) (u g:Int) :
  Calls Tryz.prog 75 #[P0 r,I n,I u,I g] W fun e w'=>e=.returned (I (setsE T2 n))∧Hid (Bx t m r R l0 l1 (B + 2) K w w' T (T2.setOwner n u g) M M2 rs∧Kp W w'):=by
 refine (Rf.dSetOwner_D s.d s.f.k (by omega) n hn u g).mono ?_
 rintro e w' ⟨rfl,h1⟩
 exact ⟨rfl,hide (s.rx h1 ((s.f.setOwner n u g).mono (by omega)) (s.l.setOwner n u g) (by omega))⟩
theorem tSetMode (s:Bx t m r R l0 l1 B K w W T T2 M M2 rs) {n:Int} (hn:(kl n).wf=true) (mode:Int) :
  Calls Tryz.prog 40 #[P0 t,I n,I mode] W fun e w'=>e=.returned (I (setsE T n))∧Hid (Bx t m r R l0 l1 (B + 2) K w w' (T.setMode n mode) T2 M M2 rs∧Kp W w'):=by
 refine (setMode_Q s.q hn mode).mono ?_
 rintro e w' ⟨rfl,h1,h2⟩
 exact ⟨rfl,hide (s.tx ((unhide h1).mono (by omega)) (unhide h2) (by omega))⟩
theorem tSetOwner (s:Bx t m r R l0 l1 B K w W T T2 M M2 rs) {n:Int} (hn:(kl n).wf=true) (u g:Int) :
  Calls Tryz.prog 74 #[P0 t,I n,I u,I g] W fun e w'=>e=.returned (I (setsE T n))∧Hid (Bx t m r R l0 l1 (B + 2) K w w' (T.setOwner n u g) T2 M M2 rs∧Kp W w'):=by
 refine (setOwner_Q s.q hn u g).mono ?_
 rintro e w' ⟨rfl,h1,h2⟩
 exact ⟨rfl,hide (s.tx ((unhide h1).mono (by omega)) (unhide h2) (by omega))⟩
theorem tHold (s:Bx t m r R l0 l1 B K w W T T2 M M2 rs) (hB:B≤860) {n:Int} (hn:(kl n).wf=true) :
  Calls Tryz.prog 63 #[P0 t,I n] W fun e w'=>e=.returned (I (T.holdE n))∧Hid (Bx t m r R l0 l1 (B + 1) K w w' (T.hold n) T2 M M2 rs∧Kp W w'):=by
 refine (hold_Q s.q (by omega) hn _ _ rfl rfl).mono ?_
 rintro e w' ⟨rfl,h1,h2⟩
 exact ⟨rfl,hide (s.tx (unhide h1) (unhide h2) (by omega))⟩
theorem dHold (s:Bx t m r R l0 l1 B K w W T T2 M M2 rs) (hB:B≤860) {n:Int} (hn:(kl n).wf=true) :
  Calls Tryz.prog 71 #[P0 r,I n] W fun e w'=>e=.returned (I (T2.holdE n))∧Hid (Bx t m r R l0 l1 (B + 1) K w w' T (T2.hold n) M M2 rs∧Kp W w'):=by
 refine (Rf.dHold_D s.d s.f.k (by omega) n hn).mono ?_
 rintro e w' ⟨rfl,h1⟩
 exact ⟨rfl,hide (s.rx h1 (s.f.hold n) (s.l.hold n) (by omega))⟩
theorem mBind (s:Bx t m r R l0 l1 B K w W T T2 M M2 rs) (hK:K≤90) (am an nd:Int) :
  Calls Tryz.prog 148 #[P0 m,.agg #[I am,I an],I nd] W fun e w'=>e=.returned (.tuple #[I (M.bindN am an),I (Mt.bindE M.es am an)])∧Hid (Bx t m r R l0 l1 B (K + 1) w w' T T2 (M.bind am an nd) M2 rs∧Kp W w'):=by
 refine (Mt.bind_Q s.a (by omega) am an nd).mono ?_
 rintro e w' ⟨h1,h2,h3⟩
 exact ⟨h1,hide (s.fm h2 h3 (by omega))⟩
theorem rBind (s:Bx t m r R l0 l1 B K w W T T2 M M2 rs) (hK:K≤91) {K0:Int} (hm:Mt.Wf K0 M2) (hk:K0 + 1≤K) (am an nd:Int) :
  Calls Tryz.prog 149 #[P0 (R + 1),.agg #[I am,I an],I nd] W fun e w'=>e=.returned (.tuple #[I (M2.bindN am an),I (Mt.bindE M2.es am an)])∧Hid (∃ rs',Bx t m r R l0 l1 B K w w' T T2 M (M2.bind am an nd) rs'∧Kp W w'):=by
 have hl:rs.length≤100:=by
  have:=s.rt.len
  have:=s.mf.pos
  omega
 by_cases hz:Mt.bindE M2.es am an=0
 ·have e1:M2.bindN am an=M2.md + 1:=by rw [Mt.T.bindN,if_pos hz]
  rw [hz,e1]
  refine (Mt.rbind_yes s.rt s.mf s.b hl am an nd hz).mono ?_
  rintro e w' ⟨rfl,h2,h3⟩
  exact ⟨rfl,hide ⟨_,s.fq h2 (s.rt.bind s.mf nd hz) ((hm.bind am an nd).mono hk) h3 (Int.le_refl _)⟩⟩
 ·have e1:M2.bindN am an=0:=by rw [Mt.T.bindN,if_neg hz]
  rw [e1]
  refine (Mt.rbind_no s.rt s.mf s.b hl am an nd _ rfl hz).mono ?_
  rintro e w' ⟨rfl,h2⟩
  have ht':M2.bind am an nd=M2:=Mt.bind_same hz
  rw [ht']
  exact ⟨rfl,hide ⟨rs,s.below h2,Bx.kpb h2⟩⟩
theorem mUnbind (s:Bx t m r R l0 l1 B K w W T T2 M M2 rs) (n:Int) :
  Calls Tryz.prog 99 #[P0 m,I n] W fun e w'=>e=.returned (I (Mt.unbE M.es n))∧Hid (Bx t m r R l0 l1 B K w w' T T2 (M.unbind n) M2 rs∧Kp W w'):=by
 refine (Mt.unbind_Q s.a n).mono ?_
 rintro e w' ⟨h1,h2,h3⟩
 exact ⟨h1,hide (s.fm h2 h3 (Int.le_refl _))⟩
theorem rUnbind (s:Bx t m r R l0 l1 B K w W T T2 M M2 rs) (hK:K≤90) (n:Int) :
  Calls Tryz.prog 100 #[P0 (R + 1),I n] W fun e w'=>e=.returned (I (Mt.unbE M2.es n))∧Hid (∃ rs',Bx t m r R l0 l1 B K w w' T T2 M (M2.unbind n) rs'∧Kp W w'):=by
 have hl:rs.length≤100:=by
  have:=s.rt.len
  have:=s.mf.pos
  omega
 by_cases hz:Mt.unbE M2.es n=0
 ·rw [hz]
  refine (Mt.runbind_yes s.rt s.mf s.b hl n hz).mono ?_
  rintro e w' ⟨rfl,⟨rs',h2,h4,h5⟩,h3⟩
  exact ⟨rfl,hide ⟨rs',s.fq h2 h4 (s.mf.unbind n) h3 (Int.le_refl _)⟩⟩
 ·refine (Mt.runbind_no s.rt s.mf s.b hl n _ rfl hz).mono ?_
  rintro e w' ⟨rfl,h2⟩
  have ht':M2.unbind n=M2:=Mt.unb_same hz
  rw [ht']
  exact ⟨rfl,hide ⟨rs,s.below h2,Bx.kpb h2⟩⟩
end
end Go.Proofs.YtlngeaacjbdmhaaGreat.Bt
