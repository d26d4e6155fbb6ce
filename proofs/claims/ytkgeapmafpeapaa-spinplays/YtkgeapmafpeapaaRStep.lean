/-
  The contract of the document's Step: out of range, done, or a step beside the machine's.
-/
import Derived.Test.YtkgeapmafpeapaaRSim
namespace Go.Proofs.Ytkgeapmafpeapaa
open Go.RowKit
attribute [local go_sem ↓] Go.wp_at_zero Go.wp_at_succ

def St.val (s : St) : Value := .agg #[.bool s.done, .int .i64 s.sA, .int .i64 s.sB, .int .i64 s.tries]

set_option maxHeartbeats 1000000 in
theorem rstep_neg (rr : Nat) (j : Int) (w : World) (h : j < 0) :
    Calls Try.prog 20 #[.pointer (some ⟨rr, 0, none⟩), .int .i64 j] w fun e w' => e = .returned (.tuple #[noState, .int .i64 1]) ∧ Below w.heap.size w w' := by
  go_enter Try.func20, Try.ntmps20
  go_wp2_with fail
  exact bodyPost_ret (v := .tuple #[noState, .int .i64 1]) (by simp [results, Try.results20, go_sem, noState]) rfl ⟨rfl, (Below.refl _ _).alloc (Nat.le_refl _) _⟩

set_option maxHeartbeats 1000000 in
theorem rstep_past (rr b c aa ca la sa n cap : Nat) (jp : Option Addr) (ws : List Int) (st j : Int) (xs : List RJ) (w : World) (h : RSys w rr b c aa ca la sa n jp cap ws st xs) (hj : (xs.length : Int) ≤ j) :
    Calls Try.prog 20 #[.pointer (some ⟨rr, 0, none⟩), .int .i64 j] w fun e w' => e = .returned (.tuple #[noState, .int .i64 1]) ∧ Below w.heap.size w w' := by
  have l8 := h.l8
  obtain ⟨r0, r1, r2, r3, r4, r5⟩ := h.rcells
  generalize xs.length = l at *
  have j1 : ¬ j < 0 := by omega
  have hr : rr < w.heap.size := (Array.getElem?_eq_some_iff.1 h.hr).1
  clear r0 r2 r3 r4 r5 h
  go_enter Try.func20, Try.ntmps20
  go_wp2_with fail
  exact bodyPost_ret (v := .tuple #[noState, .int .i64 1]) (by simp [results, Try.results20, go_sem, noState]) rfl ⟨rfl, (Below.refl _ _).alloc (Nat.le_refl _) _⟩

set_option maxHeartbeats 1000000 in
theorem rstep_done (rr b c aa ca la sa n cap k : Nat) (jp : Option Addr) (ws : List Int) (st : Int) (xs : List RJ) (x : RJ) (w : World) (h : RSys w rr b c aa ca la sa n jp cap ws st xs) (hk : xs[k]? = some x) (hd : x.st.done = true) :
    Calls Try.prog 20 #[.pointer (some ⟨rr, 0, none⟩), .int .i64 (k : Int)] w fun e w' => e = .returned (.tuple #[noState, .int .i64 16]) ∧ Below w.heap.size w w' := by
  have l8 := h.l8
  have hkl := (List.getElem?_eq_some_iff.1 hk).1
  obtain ⟨r0, r1, r2, r3, r4, r5⟩ := h.rcells
  obtain ⟨A1, C1, L1, S0, S1, S2, S3⟩ := h.at hk
  rw [hd] at S0
  generalize xs.length = l at *
  have j1 : ¬ (k : Int) < 0 := by omega
  have j2 : (k : Int) < (l : Int) := by omega
  have hr : rr < w.heap.size := (Array.getElem?_eq_some_iff.1 h.hr).1
  have hs : sa < w.heap.size := (Array.getElem?_eq_some_iff.1 h.hs).1
  clear r0 r2 r3 r4 A1 C1 L1 S1 S2 S3 h hk hd hkl l8
  go_enter Try.func20, Try.ntmps20
  go_wp2_with fail
  exact bodyPost_ret (v := .tuple #[noState, .int .i64 16]) (by simp [results, Try.results20, go_sem, noState]) rfl ⟨rfl, (Below.refl _ _).alloc (Nat.le_refl _) _⟩

theorem RSys.keep {W W' : World} {rr b c aa ca la sa n cap g : Nat} {jp : Option Addr} {ws : List Int} {st : Int} {xs : List RJ} (h : RSys W rr b c aa ca la sa n jp cap ws st xs) (hz : W.heap.size ≤ W'.heap.size) (hk : ∀ k, k ≠ g → W'.heap[k]? = W.heap[k]?)
    (h1 : rr ≠ g) (h2 : b ≠ g) (h3 : c ≠ g) (h4 : aa ≠ g) (h5 : ca ≠ g) (h6 : la ≠ g) (h7 : sa ≠ g) (h8 : ∀ a : Addr, jp = some a → a.block ≠ g) : RSys W' rr b c aa ca la sa n jp cap ws st xs := by
  obtain ⟨k, a, o, v, d, hm⟩ := h.mem
  exact ⟨⟨k, a, o, v, d, hm.of (hk _ h2) (hk _ h3)⟩, (hk _ h1).trans h.hr, h.hj.keep hz (fun a ha _ => hk _ (h8 a ha)), (hk _ h4).trans h.ha, (hk _ h5).trans h.hc, (hk _ h6).trans h.hl, (hk _ h7).trans h.hs, h.hp, h.nr, h.na, h.nc, h.nl, h.ns, h.l8⟩
theorem four_kept (W : World) (g : Nat) (v0 v1 v2 v3 : Value) (k : Nat) (hk : k ≠ g) : ((((W.setCell ⟨g, 0, none⟩ v0).setCell ⟨g, 1, none⟩ v1).setCell ⟨g, 2, none⟩ v2).setCell ⟨g, 3, none⟩ v3).heap[k]? = W.heap[k]? := by
  have e : ∀ (u : World) (o : Nat) (v : Value), (u.setCell ⟨g, o, none⟩ v).heap[k]? = u.heap[k]? := fun u o v => Below.heap_setCell _ _ _ _ hk
  rw [e, e, e, e]
theorem four_size (W : World) (g : Nat) (v0 v1 v2 v3 : Value) : ((((W.setCell ⟨g, 0, none⟩ v0).setCell ⟨g, 1, none⟩ v1).setCell ⟨g, 2, none⟩ v2).setCell ⟨g, 3, none⟩ v3).heap.size = W.heap.size := by simp [World.setCell]
theorem FrR.four {b c aa ca la sa : Nat} {u W : World} (h : FrR b c aa ca la sa u W) {g : Nat} (hg : u.heap.size ≤ g) (v0 v1 v2 v3 : Value) : FrR b c aa ca la sa u ((((W.setCell ⟨g, 0, none⟩ v0).setCell ⟨g, 1, none⟩ v1).setCell ⟨g, 2, none⟩ v2).setCell ⟨g, 3, none⟩ v3) :=
  ⟨h.os, h.tape, h.output, by rw [four_size]; exact h.size, fun k hk h1 h2 h3 h4 h5 h6 => (four_kept W g v0 v1 v2 v3 k (by omega)).trans (h.block k hk h1 h2 h3 h4 h5 h6)⟩
theorem RSys.four {W : World} {rr b c aa ca la sa n cap g : Nat} {jp : Option Addr} {ws : List Int} {st : Int} {xs : List RJ} (h : RSys W rr b c aa ca la sa n jp cap ws st xs) 
    (h1 : rr ≠ g) (h2 : b ≠ g) (h3 : c ≠ g) (h4 : aa ≠ g) (h5 : ca ≠ g) (h6 : la ≠ g) (h7 : sa ≠ g) (h8 : ∀ a : Addr, jp = some a → a.block ≠ g) (v0 v1 v2 v3 : Value) : RSys ((((W.setCell ⟨g, 0, none⟩ v0).setCell ⟨g, 1, none⟩ v1).setCell ⟨g, 2, none⟩ v2).setCell ⟨g, 3, none⟩ v3) rr b c aa ca la sa n jp cap ws st xs :=
  h.keep (by rw [four_size]; exact Nat.le_refl _) (four_kept W g v0 v1 v2 v3) h1 h2 h3 h4 h5 h6 h7 h8

set_option maxRecDepth 100000 in
set_option maxHeartbeats 1000000 in
theorem rstep_k (rr b c aa ca la sa n cap k F : Nat) (jp : Option Addr) (ws : List Int) (st : Int) (xs : List RJ) (x : RJ) (r : Mach × List Int) (w : World) (h : RSys w rr b c aa ca la sa n jp cap ws st xs) (hk : xs[k]? = some x) (hd : x.st.done = false)
    (hF : (x.job.kind = 1 ∧ F = 29) ∨ (x.job.kind = 2 ∧ F = 30) ∨ (x.job.kind = 3 ∧ F = 31)) (K : ∀ W, RSys W rr b c aa ca la sa n jp cap ws st xs → Goes2 rr b c aa ca la sa n cap k jp st xs F W r) :
    Calls Try.prog 20 #[.pointer (some ⟨rr, 0, none⟩), .int .i64 (k : Int)] w fun e w' => ∃ x', e = .returned (.tuple #[x'.st.val, .int .i64 0]) ∧ Sim k r.1 x' ∧ RSys w' rr b c aa ca la sa n jp cap r.2 (st + 1) (xs.set k x') ∧ FrR b c aa ca la sa w w' := by
  have l8 := h.l8
  have hkl := (List.getElem?_eq_some_iff.1 hk).1
  obtain ⟨l, hll⟩ : ∃ l, xs.length = l := ⟨_, rfl⟩
  have hB0 : Below w.heap.size w (w.alloc (.cells #[.bool false, .int .i64 0, .int .i64 0, .int .i64 0] 50)) := (Below.refl _ _).alloc (Nat.le_refl _) _
  have h' := h.below hB0
  have HK := hide (K _ h')
  obtain ⟨r0, r1, r2, r3, r4, r5⟩ := h.cellsL hll
  obtain ⟨A1, C1, L1, S0, S1, S2, S3⟩ := h.at hk
  obtain ⟨jb, jo, rfl, hjl, c0, c1, c2, c3, c4⟩ := h.hj k x.job (by simp [hk])
  rw [hd] at S0
  have j1 : ¬ (k : Int) < 0 := by omega
  have j0 : (0 : Int) ≤ (k : Int) := by omega
  have j2 : (k : Int) < (l : Int) := by omega
  have HLL : Hid (∀ x' : RJ, (xs.set k x').length = l) := hide (fun x' => by simp [hll])
  have HK1 : Hid (∀ x' : RJ, (xs.set k x')[k]? = some x') := hide (fun x' => get_set hk x')
  obtain ⟨_, _, _, _, _, hm⟩ := h.mem
  have lb := hm.blt
  have lc := hm.clt
  have lr : rr < w.heap.size := (Array.getElem?_eq_some_iff.1 h.hr).1
  have ls : sa < w.heap.size := (Array.getElem?_eq_some_iff.1 h.hs).1
  have lca : ca < w.heap.size := (Array.getElem?_eq_some_iff.1 h.hc).1
  have lla : la < w.heap.size := (Array.getElem?_eq_some_iff.1 h.hl).1
  have laa : aa < w.heap.size := (Array.getElem?_eq_some_iff.1 h.ha).1
  have HG : Hid (∀ w1, FrR b c aa ca la sa (w.alloc (.cells #[.bool false, .int .i64 0, .int .i64 0, .int .i64 0] 50)) w1 → w1.heap[w.heap.size]? = some (.cells #[.bool false, .int .i64 0, .int .i64 0, .int .i64 0] 50) ∧ FrR b c aa ca la sa w w1) :=
    hide (fun w1 hF => ⟨(hF.block w.heap.size (by simp) (by omega) (by omega) (by omega) (by omega) (by omega) (by omega)).trans (putAll _ _ rfl), (FrR.of_below hB0).trans hF⟩)
  clear K r0 r2 r3 r4 A1 C1 L1 S1 S2 S3 h h' hm hk hd hkl l8 hll c1 c2 c3 c4 hB0
  rcases hF with ⟨e, rfl⟩ | ⟨e, rfl⟩ | ⟨e, rfl⟩
  all_goals
    rw [e] at c0
    clear e
    go_enter Try.func20, Try.ntmps20
    go_wp2_with fail
    refine (unhide HK).mono ?_
    rintro e w1 ⟨rfl, x', hS, h1, F1⟩
    obtain ⟨hg, F2⟩ := unhide HG _ F1
    obtain ⟨r0, r1, r2, r3, r4, r5⟩ := h1.cellsL (unhide HLL x')
    obtain ⟨A1, C1, L1, S0, S1, S2, S3⟩ := h1.at (unhide HK1 x')
    have g0 := cell_of hg 0
    have g1 := cell_of hg 1
    have g2 := cell_of hg 2
    have g3 := cell_of hg 3
    have gf := frozen_of hg
    simp at g0 g1 g2 g3
    have H1 := hide h1
    have HS := hide hS
    have gq : w.heap.size ≠ sa := by omega
    have gr : w.heap.size ≠ rr := by omega
    clear r0 r2 r3 r4 A1 C1 L1 h1 hS hg c0
    generalize hs : w.heap.size = g at *
    have HZ := hide hs
    clear hs
    go_wp2_with fail
    refine bodyPost_ret (v := .tuple #[x'.st.val, .int .i64 0]) (by simp [results, Try.results20, go_sem, St.val, *]) rfl ⟨x', rfl, unhide HS, ?_, F2.four (by rw [unhide HZ]; exact Nat.le_refl _) _ _ _ _⟩
    exact (unhide H1).four (by omega) (by omega) (by omega) (by omega) (by omega) (by omega) (by omega) (fun a ha => by simp at ha; subst ha; show jb ≠ g; omega) _ _ _ _

theorem Mach.step_kind1 {M : Mach} {ws : List Int} (h : M.kind = 1) : M.step ws = M.stepH ws := by unfold Mach.step; simp [h]
theorem Mach.step_kind2 {M : Mach} {ws : List Int} (h : M.kind = 2) : M.step ws = M.stepW ws := by unfold Mach.step; simp [h]
theorem Mach.step_kind3 {M : Mach} {ws : List Int} (h : M.kind = 3) : M.step ws = M.stepR ws := by unfold Mach.step; simp [h]

theorem rstep_yes (rr b c aa ca la sa n cap k : Nat) (jp : Option Addr) (ws : List Int) (st : Int) (xs : List RJ) (x : RJ) (M : Mach) (w : World) (h : RSys w rr b c aa ca la sa n jp cap ws st xs) (hk : xs[k]? = some x) (S : Sim k M x) (ok : M.ok n) (hd : M.done = false) (s0 : 0 ≤ st) (s1 : st ≤ 1000000) (t1 : M.tries ≤ 1000000) :
    Calls Try.prog 20 #[.pointer (some ⟨rr, 0, none⟩), .int .i64 (k : Int)] w fun e w' => ∃ x', e = .returned (.tuple #[x'.st.val, .int .i64 0]) ∧ Sim k (M.step ws).1 x' ∧ RSys w' rr b c aa ca la sa n jp cap (M.step ws).2 (st + 1) (xs.set k x') ∧ FrR b c aa ca la sa w w' := by
  have jk := S.jk
  have hd' : x.st.done = false := by rw [S.dn, hd]
  rcases ok.kind with e | e | e
  · rw [Mach.step_kind1 e]
    exact rstep_k rr b c aa ca la sa n cap k 29 jp ws st xs x _ w h hk hd' (.inl ⟨by omega, rfl⟩) (fun W hW => rhold_sim hW hk S ok hd e s0 s1 t1)
  · rw [Mach.step_kind2 e]
    exact rstep_k rr b c aa ca la sa n cap k 30 jp ws st xs x _ w h hk hd' (.inr (.inl ⟨by omega, rfl⟩)) (fun W hW => rwrite_sim hW hk S ok hd e s0 s1 t1)
  · rw [Mach.step_kind3 e]
    exact rstep_k rr b c aa ca la sa n cap k 31 jp ws st xs x _ w h hk hd' (.inr (.inr ⟨by omega, rfl⟩)) (fun W hW => rread_sim hW hk S ok hd e s0 s1 t1)
end Go.Proofs.Ytkgeapmafpeapaa
