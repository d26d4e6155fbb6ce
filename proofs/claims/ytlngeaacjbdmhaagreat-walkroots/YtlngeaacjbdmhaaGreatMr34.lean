/-
  What stays so while a tree is changed by small changes: short texts, mounts of small numbers; walks in such a tree.
-/
import Derived.Test.YtlngeaacjbdmhaaGreatMr33
import Derived.Test.YtlngeaacjbdmhaaGreatMr13
import Derived.Test.YtlngeaacjbdmhaaGreatMr32
import Derived.ProofKit
import Derived.Deep.Slices
import Derived.SliceStrings
import Derived.Deep.Grids
import Derived.Test.YtlngeaacjbdmhaaGreatMr30
namespace Go.Proofs.YtlngeaacjbdmhaaGreat.Bt
open Go.RowKit
/-- Every node of the latter has its text of the former. -/
def Sub (T T' : Tr) : Prop := ∀ n x', T'.nd n = some x' → ∃ x, T.nd n = some x ∧ x'.text = x.text
section
variable {T T' T2 : Tr} {M M' : Mt.T} {k : Nat}
theorem Sub.refl (T : Tr) : Sub T T := fun _ x h => ⟨x, h, rfl⟩
theorem Sub.trans (h : Sub T T') (g : Sub T' T2) : Sub T T2 := fun n x hx => by
  obtain ⟨y, h1, h2⟩ := g n x hx
  obtain ⟨z, h3, h4⟩ := h n y h1
  exact ⟨z, h3, h2.trans h4⟩
theorem Sub.set {n : Int} {x y : Nd} (hx : T.nd n = some x) (h : y.text = x.text) : Sub T (T.set n (some y)) := fun j z hz => by
  by_cases e : j = n
  · rw [e, Tr.set_same] at hz
    cases hz
    exact ⟨x, by rw [e]; exact hx, h⟩
  · rw [Tr.set_other _ _ e] at hz
    exact ⟨z, hz, rfl⟩
theorem Sub.none (n : Int) : Sub T (T.set n none) := fun j z hz => by
  by_cases e : j = n
  · rw [e, Tr.set_same] at hz
    cases hz
  · rw [Tr.set_other _ _ e] at hz
    exact ⟨z, hz, rfl⟩
theorem Sub.give (dir : Int) (s : ByteArray) (n : Int) : Sub T (T.give dir s n) := by
  unfold Tr.give
  split
  · rename_i d x hd hx
    intro j z hz
    by_cases e : j = n
    · rw [e, Tr.set_same] at hz
      cases hz
      exact ⟨x, by rw [e]; exact hx, rfl⟩
    · rw [Tr.set_other _ _ e] at hz
      exact Sub.set (y := { d with ins := putE d.ins s n }) hd rfl j z hz
  · exact .refl _
theorem Sub.leave (n : Int) : Sub T (T.leave n) := by
  unfold Tr.leave
  split
  · split
    · exact .refl _
    · exact fun j z hz => Sub.none n j z hz
  · exact .refl _
theorem Sub.less (n : Int) : Sub T (T.less n) := by
  unfold Tr.less
  split
  · rename_i x hx
    exact .set hx rfl
  · exact .refl _
theorem Sub.take (dir : Int) (s : ByteArray) : Sub T (T.take dir s) := by
  unfold Tr.take
  split
  · rename_i d hd
    split
    · exact ((Sub.set (y := { d with ins := delE d.ins s }) hd rfl).trans (.less _)).trans (.leave _)
    · exact .refl _
  · exact .refl _
theorem Sub.join (dir : Int) (s : ByteArray) (n : Int) : Sub T (T.join dir s n) := by
  unfold Tr.join
  split
  · exact .give _ _ _
  · exact .refl _
theorem Sub.part (dir : Int) (s : ByteArray) : Sub T (T.part dir s) := by
  unfold Tr.part
  split
  · exact .take _ _
  · exact .refl _
theorem Sub.move (l : List Int) (dir : Int) (s : ByteArray) (tq : Int) (s2 : ByteArray) : Sub T (T.move l dir s tq s2) := by
  unfold Tr.move
  split
  · split
    · split
      · split
        · exact .refl _
        · exact ((Sub.take _ _).trans (.give _ _ _)).trans (.take _ _)
      · exact (Sub.give _ _ _).trans (.take _ _)
    · exact .refl _
  · exact .refl _
theorem Sub.hold (n : Int) : Sub T (T.hold n) := by
  unfold Tr.hold
  split
  · rename_i x hx
    exact .set hx rfl
  · exact .refl _
theorem Sub.setMode (n m : Int) : Sub T (T.setMode n m) := by
  unfold Tr.setMode
  split
  · rename_i x hx
    exact .set hx rfl
  · exact .refl _
theorem Sub.setOwner (n u g : Int) : Sub T (T.setOwner n u g) := by
  unfold Tr.setOwner
  split
  · rename_i x hx
    exact .set hx rfl
  · exact .refl _
/-- Short texts, and mounts of small numbers. -/
structure Inv (T : Tr) (M : Mt.T) : Prop where
  t : ∀ n x, T.nd n = some x → x.text.size ≤ 9
  m : ∀ p ∈ M.es, (1 ≤ p.top ∧ p.top ≤ 7) ∧ (1 ≤ p.an ∧ p.an ≤ 7)
  r : M.rt = 1
theorem Inv.sub (h : Inv T M) (g : Sub T T') : Inv T' M := ⟨fun n x hx => by
  obtain ⟨y, h1, h2⟩ := g n x hx
  rw [h2]
  exact h.t n y h1, h.m, h.r⟩
theorem Inv.new : Inv (Tr.new 40 20) ⟨1, 0, []⟩ := ⟨fun n x hx => by
  simp only [Tr.new] at hx
  split at hx
  · cases hx
    decide
  · exact absurd hx (by simp), fun p hp => by simp at hp, rfl⟩
theorem texts9 {s : ByteArray} (h : s ∈ texts) : s.size ≤ 9 := by
  simp only [texts, List.mem_cons, List.not_mem_nil, or_false] at h
  rcases h with rfl | rfl | rfl | rfl | rfl | rfl | rfl | rfl | rfl | rfl <;> decide
theorem Inv.make (h : Inv T M) (dir : Int) (s : ByteArray) (kd mo ui gi : Int) (text : ByteArray) (ht : text.size ≤ 9) : Inv (T.make dir s kd mo ui gi text) M := by
  unfold Tr.make
  split
  · refine Inv.sub ⟨fun n x hx => ?_, h.m, h.r⟩ (.give _ _ _)
    simp only [Tr.add] at hx
    split at hx
    · cases hx; exact ht
    · exact h.t n x hx
  · exact h
theorem Inv.unbind (h : Inv T M) (n : Int) : Inv T (M.unbind n) := by
  unfold Mt.T.unbind
  split
  · exact ⟨h.t, fun p hp => h.m p (List.mem_filter.1 hp).1, h.r⟩
  · exact h
theorem Inv.bind (h : Inv T M) {x : Ac} (hx : Tm x) : Inv (bindT T M x) (bindM T M x) := by
  have h1 : Sub T (bindT T M x) := by
    unfold bindT
    split
    · exact (Sub.hold _).trans (.hold _)
    · exact .refl _
  refine Inv.sub (T := T) ?_ h1
  unfold bindM
  split
  · unfold Mt.T.bind
    split
    · refine ⟨h.t, fun p hp => ?_, h.r⟩
      rcases List.mem_append.1 hp with hp | hp
      · exact h.m p hp
      · simp only [List.mem_singleton] at hp
        subst hp
        exact ⟨hx.tq, hx.an⟩
    · exact h
  · exact h
theorem Inv.step (h : Inv T M) {x : Ac} (hx : Tm x) (hs : Stp x T T' M M') : Inv T' M' := by
  rcases hs with ⟨k, rfl, rfl⟩ | ⟨-, rfl, rfl⟩ | ⟨-, rfl, rfl⟩ | ⟨-, ⟨l, -, rfl⟩, rfl⟩ | ⟨-, rfl, rfl⟩ | ⟨-, rfl, rfl⟩ | ⟨-, rfl, rfl⟩ | ⟨rfl, rfl⟩
  · refine h.make _ _ _ _ _ _ _ ?_
    rcases hx.ad with ⟨k2, -⟩ | ⟨-, -, -, ⟨-, e⟩ | ⟨-, e⟩⟩
    · exact absurd k k2
    · rw [e]; decide
    · exact texts9 e
  · exact h.sub (.join _ _ _)
  · exact h.sub (.part _ _)
  · exact h.sub (.move _ _ _ _ _)
  · exact h.sub (.setMode _ _)
  · exact h.bind hx
  · exact h.unbind _
  · exact h.sub (.setOwner _ _ _)
end
/-- Who walks in a tree with mounts, from the root. -/
def Eb (T : Tr) (M : Mt.T) (cu cg : Int) (fo : Bool) : Wl.En := ⟨T, M.rt, M.md, M.es, cu, cg, 0, 1, fo⟩
section
variable {t m r R l0 l1 B : Nat} {K : Int} {w W W' : World} {T T2 : Tr} {M M2 : Mt.T} {rs : List Mt.Rm}
theorem Bx.wd (s : Bx t m r R l0 l1 B K w W T T2 M M2 rs) (hB : B ≤ 860) (hi : Inv T M) (cu cg : Int) (fo : Bool) : Wl.Wd l0 20 m W t m (Eb T M cu cg fo) :=
  ⟨s.q.p, s.q.f.k.mono (by omega), s.a.ls, s.a.wf.eld, by have := s.a.wf.le; simp only [Eb]; omega, fun p hp => by
    obtain ⟨h1, h2⟩ := hi.m p hp
    exact ⟨wf_of (by omega), wf_of (by omega)⟩⟩
theorem Inv.short (hi : Inv T M) (cu cg : Int) (fo : Bool) : (Eb T M cu cg fo).Short 9 := fun n => by
  simp only [Wl.En.text, Eb, Tr.textOf]
  cases hx : T.nd n with
  | none => simp
  | some x => exact hi.t n x hx
end
/-- Both, while a law's variables lie in blocks of their own: both, and who asks. -/
structure Bz (t m r R l0 l1 yb yc : Nat) (cu cg : Int) (B : Nat) (K : Int) (w W : World) (T : Tr) (M : Mt.T) (rs : List Mt.Rm) : Prop where
  s : Bx t m r R l0 l1 B K w W T T M M rs
  hb : W.heap[yb]? = some (.cells #[P0 t, P0 m, P0 r, P0 (R + 1)] 46)
  hc : W.heap[yc]? = some (.cells #[I cu, I cg] 57)
section
variable {t m r R l0 l1 yb yc B B' : Nat} {cu cg K K' : Int} {w W W' : World} {T T' : Tr} {M M' : Mt.T} {rs rs' : List Mt.Rm}
theorem Bz.below (h : Bz t m r R l0 l1 yb yc cu cg B K w W T M rs) (g : Below W.heap.size W W') : Bz t m r R l0 l1 yb yc cu cg B K w W' T M rs := ⟨h.s.below g, (g.block _ (lt_of_heap h.hb)).trans h.hb, (g.block _ (lt_of_heap h.hc)).trans h.hc⟩
theorem Bz.drew (h : Bz t m r R l0 l1 yb yc cu cg B K w W T M rs) : Bz t m r R l0 l1 yb yc cu cg B K w W.drew T M rs := h.below ⟨rfl, rfl, rfl, Nat.le_refl _, fun _ _ => rfl⟩
theorem Bz.step (h : Bz t m r R l0 l1 yb yc cu cg B K w W T M rs) (g : Bx t m r R l0 l1 B' K' w W' T' T' M' M' rs') (k : Kp W W') : Bz t m r R l0 l1 yb yc cu cg B' K' w W' T' M' rs' := ⟨g, k _ _ _ _ h.hb own_both, k _ _ _ _ h.hc own_cred⟩
theorem Bz.cb (h : Bz t m r R l0 l1 yb yc cu cg B K w W T M rs) : W.cell? ⟨yb, 0, none⟩ = some (P0 t) ∧ W.cell? ⟨yb, 1, none⟩ = some (P0 m) ∧ W.cell? ⟨yb, 2, none⟩ = some (P0 r) ∧ W.cell? ⟨yb, 3, none⟩ = some (P0 (R + 1)) := by
  refine ⟨?_, ?_, ?_, ?_⟩ <;> (rw [cell_of h.hb]; rfl)
end
end Go.Proofs.YtlngeaacjbdmhaaGreat.Bt

namespace Go.Proofs.YtlngeaacjbdmhaaGreat.Bt
open Go.ChangeShapes Go.WideShapes Go.ChangeAt Go.RowKit Go.Deep
theorem spot_none {w : World} {b off : Nat} {sp : Option Nat} {v : Value} (h : w.cell? ⟨b, off, sp⟩ = some v) : sp = none := by
  unfold World.cell? at h
  cases sp with
  | none => rfl
  | some s => cases hq : w.heap[b]? with
    | none => simp [hq] at h
    | some o => cases o <;> simp [hq] at h
theorem addr_add (b off i : Nat) : (⟨b, off, none⟩ : Addr).add i = ⟨b, off + i, none⟩ := by unfold Addr.add; split <;> simp_all
theorem cells3 : Tryz.prog.cellsOf 3 = 1 := by kernel_rfl
theorem cells9 : Tryz.prog.cellsOf 9 = 1 := by kernel_rfl
theorem cellsS : Tryz.prog.cellsOf 33 = 7 := by kernel_rfl
theorem cellsP : Tryz.prog.cellsOf 50 = 2 := by kernel_rfl
theorem cellsC : Tryz.prog.cellsOf 57 = 2 := by kernel_rfl
theorem cellsA : Tryz.prog.cellsOf 52 = 15 := by kernel_rfl
theorem max_le : maxLen ≤ 9223372036854775807 := by decide
theorem iw_of {n : Int} (h : (kl n).wf = true) : Iw n := by
  have := Rb.wf_bounds h
  exact ⟨by omega, by omega⟩
theorem add_add (b : Addr) (i j : Nat) : (b.add i).add j = b.add (i + j) := by
  unfold Addr.add
  by_cases hi : i = 0
  · subst hi; simp
  · by_cases hj : j = 0
    · subst hj; simp [hi]
    · simp [hi, hj, Nat.add_assoc]
/-- A slice of numbers that came in. -/
def IntsAt (W : World) (pa : Option Addr) (len : Nat) : Prop := len ≤ 9223372036854775807 ∧ ∀ i, i < len → ∃ b off v, pa = some ⟨b, off, none⟩ ∧ b < W.heap.size ∧ W.cell? ⟨b, off + i, none⟩ = some (I v) ∧ Iw v
theorem IntsAt.below {W W' : World} {pa : Option Addr} {len : Nat} (h : IntsAt W pa len) (g : Below W.heap.size W W') : IntsAt W' pa len :=
  ⟨h.1, fun i hi => by
    obtain ⟨b, off, s, h1, h2, h3, h4⟩ := h.2 i hi
    exact ⟨b, off, s, h1, Nat.lt_of_lt_of_le h2 g.size, (cell_same (g.block b h2) _).trans h3, h4⟩⟩
theorem ints_of {H : Type} {enc : TypeId × Value → H} {w : World} {held : Bool} {fuel : Nat} {a : Option Addr} {len cap : Nat} {x : DataW H × List MemPlace}
    (h : DataW.trod enc Tryz.prog w 0 (fun _ => true) held fuel 72 [.slice a len cap] = some x) : IntsAt w a len := by
  rcases open_slice Tryz.underlying72 h with ⟨hcs, _⟩ | ⟨y, l, c, m, n, D, Pl, hcs, _, hl, hm, hmm, _, hx⟩
  · simp at hcs
    obtain ⟨rfl, rfl, rfl⟩ := hcs
    exact ⟨Nat.zero_le _, fun i hi => absurd hi (Nat.not_lt_zero _)⟩
  · simp at hcs
    obtain ⟨rfl, rfl, rfl⟩ := hcs
    simp at hmm
    subst hmm
    have hml := max_le
    refine ⟨by omega, fun i hi => ?_⟩
    have key : ∀ j, j ≤ i → ∃ v : Int, w.cell? (y.add j) = some (I v) ∧ (kl v).wf = true := by
      intro j hj
      obtain ⟨cs', h1, h2⟩ := hx j (by omega)
      rw [cells3] at h1
      obtain ⟨_, hlen, hcell⟩ := World.cells?_some h1
      match cs', hlen with
      | [v0], _ =>
        obtain ⟨n0, e0, _, m0⟩ := DataW.trod_int Tryz.underlying3 h2
        simp at e0
        subst e0
        have q0 := hcell 0 (by omega)
        rw [add_add] at q0
        exact ⟨n0, by simpa using q0, m0⟩
    obtain ⟨_, c0, -⟩ := key 0 (by omega)
    obtain ⟨v, q0, hv⟩ := key i (by omega)
    obtain ⟨b, off, sp⟩ := y
    have e : (⟨b, off, sp⟩ : Addr).add 0 = ⟨b, off, sp⟩ := rfl
    rw [e] at c0
    obtain rfl := spot_none c0
    rw [addr_add] at q0
    exact ⟨b, off, v, rfl, lt_of_cell q0, q0, iw_of hv⟩
end Go.Proofs.YtlngeaacjbdmhaaGreat.Bt

namespace Go.Proofs.YtlngeaacjbdmhaaGreat.Bt
open Go.RowKit
attribute [local go_sem ↓] Go.wp_at_zero Go.wp_at_succ
def names9 : List ByteArray := [⟨#[97]⟩, ⟨#[98]⟩, ⟨#[99]⟩, ⟨#[108]⟩, ⟨#[46, 46]⟩, ⟨#[46]⟩, ⟨#[47]⟩, ⟨#[47, 47]⟩, ⟨#[122, 122]⟩]
theorem names9_size {s : ByteArray} (h : s ∈ names9) : 1 ≤ s.size ∧ s.size ≤ 2 := by
  simp only [names9, List.mem_cons, List.not_mem_nil, or_false] at h
  rcases h with rfl | rfl | rfl | rfl | rfl | rfl | rfl | rfl | rfl <;> decide
theorem row9 {W : World} {g : Nat} (h : W.heap[g]? = some (.cells #[Value.string ⟨#[97]⟩, Value.string ⟨#[98]⟩, Value.string ⟨#[99]⟩, Value.string ⟨#[108]⟩, Value.string ⟨#[46, 46]⟩, Value.string ⟨#[46]⟩, Value.string ⟨#[47]⟩, Value.string ⟨#[47, 47]⟩, Value.string ⟨#[122, 122]⟩] 9)) (k : Nat) (hk : (k : Int) < 9) : ∃ s, s ∈ names9 ∧ W.cell? ⟨g, k, none⟩ = some (.string s) := by
  rw [cell_of h]
  match k, (by omega : k < 9) with
  | 0, _ => exact ⟨⟨#[97]⟩, by simp [names9], rfl⟩
  | 1, _ => exact ⟨⟨#[98]⟩, by simp [names9], rfl⟩
  | 2, _ => exact ⟨⟨#[99]⟩, by simp [names9], rfl⟩
  | 3, _ => exact ⟨⟨#[108]⟩, by simp [names9], rfl⟩
  | 4, _ => exact ⟨⟨#[46, 46]⟩, by simp [names9], rfl⟩
  | 5, _ => exact ⟨⟨#[46]⟩, by simp [names9], rfl⟩
  | 6, _ => exact ⟨⟨#[47]⟩, by simp [names9], rfl⟩
  | 7, _ => exact ⟨⟨#[47, 47]⟩, by simp [names9], rfl⟩
  | 8, _ => exact ⟨⟨#[122, 122]⟩, by simp [names9], rfl⟩
set_option maxRecDepth 100000 in
set_option maxHeartbeats 4000000 in
theorem path_any (pa : Option Addr) (len cap : Nat) (w : World) (ha : IntsAt w pa len) :
    Calls Tryz.prog 35 #[.slice pa len cap] w fun e w' => ∃ s : ByteArray, e = .returned (.string s) ∧ s.size ≤ 36 ∧ Below w.heap.size w w' := by
  have hlen : (len : Int) ≤ 9223372036854775807 := by have := ha.1; omega
  obtain ⟨V, hV, hg, hB⟩ : ∃ V, w.alloc (.cells #[Value.string ⟨#[97]⟩, Value.string ⟨#[98]⟩, Value.string ⟨#[99]⟩, Value.string ⟨#[108]⟩, Value.string ⟨#[46, 46]⟩, Value.string ⟨#[46]⟩, Value.string ⟨#[47]⟩, Value.string ⟨#[47, 47]⟩, Value.string ⟨#[122, 122]⟩] 9) = V ∧ V.heap[w.heap.size]? = some (.cells #[Value.string ⟨#[97]⟩, Value.string ⟨#[98]⟩, Value.string ⟨#[99]⟩, Value.string ⟨#[108]⟩, Value.string ⟨#[46, 46]⟩, Value.string ⟨#[46]⟩, Value.string ⟨#[47]⟩, Value.string ⟨#[47, 47]⟩, Value.string ⟨#[122, 122]⟩] 9) ∧ Below w.heap.size w V := ⟨_, rfl, heap_alloc_new w _, (Below.refl _ _).alloc (Nat.le_refl _) _⟩
  have HA := hide (ha.below hB)
  have HG := hide hg
  have HB := hide hB
  have HSm := hide small_any
  clear ha hg hB
  generalize hgg : w.heap.size = g at *
  go_enter Tryz.func35, Tryz.ntmps35
  go_wp2_with fail
  go_loopw [3, 5] (fun v3 v5 wr => ∃ (k : Nat) (s : ByteArray), v3 = .string s ∧ v5 = I k ∧ k ≤ 12 ∧ k ≤ len ∧ wr = V ∧ Hid (s.size ≤ 3 * k ∧ (0 < k → 0 < s.size))) (fun _ v _ => 12 - (intOf v).toNat)
  case atStart => exact ⟨0, ⟨#[]⟩, rfl, rfl, by omega, by omega, rfl, hide ⟨by decide, by omega⟩⟩
  case round =>
    obtain ⟨k, s, rfl, rfl, hk, hkl, hwr, hI⟩ := hrel
    subst wr
    obtain ⟨hs1, hs2⟩ := unhide hI
    by_cases hc : k < len ∧ k < 12
    · obtain ⟨b, off, v, rfl, hb, hv, hw1, hw2⟩ := (unhide HA).2 k hc.1
      have j1 : (k : Int) < (len : Int) := by omega
      have j2 : (k : Int) < 12 := by omega
      have j0 : (0 : Int) ≤ (k : Int) := by omega
      have hz : s.size ≤ 36 := by omega
      clear hI
      go_wp2_with fail
      refine (unhide HSm v 9 _ hw1 hw2 (by decide) (by decide)).mono ?_
      rintro e w' ⟨q, rfl, hq, hw'⟩
      rw [hw']
      clear hw' w'
      obtain ⟨p, hp, gc⟩ := row9 (unhide HG) q hq
      have gc0 : V.cell? ⟨g, 0 + q, none⟩ = some (.string p) := by rw [Nat.zero_add]; exact gc
      have hq0 : (0 : Int) ≤ (q : Int) := by omega
      have hps := names9_size hp
      have e47 : (⟨#[47]⟩ : ByteArray).size = 1 := rfl
      simp only [names9, List.mem_cons, List.not_mem_nil, or_false] at hp
      by_cases hk0 : k = 0
      · subst hk0
        obtain rfl : s = ⟨#[]⟩ := by
          have : s.data = #[] := Array.eq_empty_of_size_eq_zero (by have : s.size = 0 := by omega
                                                                    exact this)
          cases s
          simp_all
        rcases hp with rfl | rfl | rfl | rfl | rfl | rfl | rfl | rfl | rfl <;>
        · go_wp2_with fail
          refine ⟨⟨1, _, rfl, rfl, by omega, by omega, trivial, hide ⟨by decide, fun _ => by decide⟩⟩, by simp [intOf]⟩
      · have k1 : (0 : Int) < (k : Int) := by omega
        have k2 : 0 < k := by omega
        obtain ⟨m, hm⟩ : ∃ m : Nat, s.size = m + 1 := ⟨s.size - 1, by have := hs2 (by omega); omega⟩
        have u1 : (s.size : Int) - 1 = (m : Int) := by omega
        have u2 : IntKind.i64.wrap ((s.size : Int) - 1) = (m : Int) := by rw [u1, IntKind.wrap_i64]; omega
        have u3 : (m : Int) < (s.size : Int) := by omega
        have u4 : (0 : Int) ≤ (m : Int) := by omega
        have HS1 := hide hs1
        have HPS := hide (⟨hps, e47⟩ : _ ∧ _)
        clear hs1 hs2 hps e47
        rcases hp with rfl | rfl | rfl | rfl | rfl | rfl | rfl | rfl | rfl <;>
        · go_wp2_with fail
          all_goals
            have hs1 := unhide HS1
            obtain ⟨hps, e47⟩ := unhide HPS
            refine ⟨⟨k + 1, _, rfl, by simp, by omega, by omega, trivial, hide ⟨?_, fun _ => ?_⟩⟩, by simp [intOf]; omega⟩
            · simp only [ByteArray.size_append]; omega
            · simp only [ByteArray.size_append]; omega
    · by_cases hl : k < len
      · have j1 : (k : Int) < (len : Int) := by omega
        obtain rfl : k = 12 := by omega
        have HI := hide (show s.size ≤ 36 by omega)
        go_wp2_with fail
        go_ret
        exact ⟨s, rfl, unhide HI, unhide HB⟩
      · have j1 : ¬ ((k : Int) < (len : Int)) := by omega
        have HI := hide (show s.size ≤ 36 by omega)
        go_wp2_with fail
        go_ret
        exact ⟨s, rfl, unhide HI, unhide HB⟩
end Go.Proofs.YtlngeaacjbdmhaaGreat.Bt

namespace Go.Proofs.YtlngeaacjbdmhaaGreat.Bt
open Go.ChangeShapes Go.WideShapes Go.ChangeAt Go.RowKit Go.Deep
/-- A change that came in. -/
structure ActAt (W : World) (b o : Nat) (x : Ac) : Prop where
  c0 : W.cell? ⟨b, o, none⟩ = some (I x.kind)
  c1 : W.cell? ⟨b, o + 1, none⟩ = some (I x.dir)
  c2 : W.cell? ⟨b, o + 2, none⟩ = some (I x.tq)
  c3 : W.cell? ⟨b, o + 3, none⟩ = some (I x.n)
  c4 : W.cell? ⟨b, o + 4, none⟩ = some (.string x.s)
  c5 : W.cell? ⟨b, o + 5, none⟩ = some (.string x.ad)
  c6 : W.cell? ⟨b, o + 6, none⟩ = some (I x.sn)
  c7 : W.cell? ⟨b, o + 7, none⟩ = some (I x.kd)
  c8 : W.cell? ⟨b, o + 8, none⟩ = some (I x.mo)
  c9 : W.cell? ⟨b, o + 9, none⟩ = some (I x.ui)
  c10 : W.cell? ⟨b, o + 10, none⟩ = some (I x.gi)
  c11 : W.cell? ⟨b, o + 11, none⟩ = some (I x.li)
  c12 : W.cell? ⟨b, o + 12, none⟩ = some (I x.si)
  c13 : W.cell? ⟨b, o + 13, none⟩ = some (I x.am)
  c14 : W.cell? ⟨b, o + 14, none⟩ = some (I x.an)
  w : x.Wd
def ActsAt (W : World) (pa : Option Addr) (len : Nat) : Prop := len ≤ 9223372036854775807 ∧ ∀ i, i < len → ∃ b off x, pa = some ⟨b, off, none⟩ ∧ b < W.heap.size ∧ ActAt W b (off + i * 15) x
theorem ActAt.below {B : Nat} {W W' : World} {b o : Nat} {x : Ac} (h : ActAt W b o x) (hb : b < B) (g : Below B W W') : ActAt W' b o x := by
  have hs := fun i => cell_same (g.block b hb) i
  exact ⟨(hs _).trans h.c0, (hs _).trans h.c1, (hs _).trans h.c2, (hs _).trans h.c3, (hs _).trans h.c4, (hs _).trans h.c5, (hs _).trans h.c6, (hs _).trans h.c7, (hs _).trans h.c8, (hs _).trans h.c9, (hs _).trans h.c10, (hs _).trans h.c11, (hs _).trans h.c12, (hs _).trans h.c13, (hs _).trans h.c14, h.w⟩
set_option maxRecDepth 100000 in
set_option maxHeartbeats 1000000 in
theorem acts_of {H : Type} {enc : TypeId × Value → H} {w : World} {held : Bool} {fuel : Nat} {a : Option Addr} {len cap : Nat} {x : DataW H × List MemPlace}
    (h : DataW.trod enc Tryz.prog w 0 (fun _ => true) held fuel 53 [.slice a len cap] = some x) : ActsAt w a len := by
  rcases open_slice Tryz.underlying53 h with ⟨hcs, _⟩ | ⟨y, l, c, m, n, D, Pl, hcs, _, hl, hm, hmm, _, hx⟩
  · simp at hcs
    obtain ⟨rfl, rfl, rfl⟩ := hcs
    exact ⟨Nat.zero_le _, fun i hi => absurd hi (Nat.not_lt_zero _)⟩
  · simp at hcs
    obtain ⟨rfl, rfl, rfl⟩ := hcs
    simp at hmm
    subst hmm
    have hml := max_le
    refine ⟨by omega, fun i hi => ?_⟩
    have key : ∀ j, j ≤ i → ∃ x : Ac, w.cell? (y.add (j * 15)) = some (I x.kind) ∧ w.cell? (y.add (j * 15 + 1)) = some (I x.dir) ∧ w.cell? (y.add (j * 15 + 2)) = some (I x.tq) ∧ w.cell? (y.add (j * 15 + 3)) = some (I x.n) ∧ w.cell? (y.add (j * 15 + 4)) = some (.string x.s) ∧ w.cell? (y.add (j * 15 + 5)) = some (.string x.ad) ∧ w.cell? (y.add (j * 15 + 6)) = some (I x.sn) ∧ w.cell? (y.add (j * 15 + 7)) = some (I x.kd) ∧ w.cell? (y.add (j * 15 + 8)) = some (I x.mo) ∧ w.cell? (y.add (j * 15 + 9)) = some (I x.ui) ∧ w.cell? (y.add (j * 15 + 10)) = some (I x.gi) ∧ w.cell? (y.add (j * 15 + 11)) = some (I x.li) ∧ w.cell? (y.add (j * 15 + 12)) = some (I x.si) ∧ w.cell? (y.add (j * 15 + 13)) = some (I x.am) ∧ w.cell? (y.add (j * 15 + 14)) = some (I x.an) ∧ x.Wd := by
      intro j hj
      obtain ⟨cs', h1, h2⟩ := hx j (by omega)
      rw [cellsA] at h1
      obtain ⟨_, hlen, hcell⟩ := World.cells?_some h1
      obtain ⟨xs, k, hk, hxy, _, hxl, hf⟩ := DataW.trod_struct Tryz.underlying52 h2
      match xs, hxl, cs', hlen with
      | [y0, y1, y2, y3, y4, y5, y6, y7], _, [v0, v1, v2, v3, v4, v5, v6, v7, v8, v9, v10, v11, v12, v13, v14], _ =>
        have g0 := hf 0 _ rfl
        have g1 := hf 1 _ rfl
        have g2 := hf 2 _ rfl
        have g3 := hf 3 _ rfl
        have g4 := hf 4 _ rfl
        have g5 := hf 5 _ rfl
        have g6 := hf 6 _ rfl
        have g7 := hf 7 _ rfl
        simp [cells3, cells9, cellsS, cellsP] at g0 g1 g2 g3 g4 g5 g6 g7
        obtain ⟨n0, e0, _, m0⟩ := DataW.trod_int Tryz.underlying3 g0
        obtain ⟨n1, e1, _, m1⟩ := DataW.trod_int Tryz.underlying3 g1
        obtain ⟨n2, e2, _, m2⟩ := DataW.trod_int Tryz.underlying3 g2
        obtain ⟨n3, e3, _, m3⟩ := DataW.trod_int Tryz.underlying3 g3
        obtain ⟨t4, e4, _, m4⟩ := DataW.trod_string Tryz.underlying9 g4
        obtain ⟨t5, e5, _, m5⟩ := DataW.trod_string Tryz.underlying9 g5
        simp at e0 e1 e2 e3 e4 e5
        subst e0 e1 e2 e3 e4 e5
        obtain ⟨xs6, k6, hk6, hxy6, _, hxl6, hf6⟩ := DataW.trod_struct Tryz.underlying33 g6
        obtain ⟨xs7, k7, hk7, hxy7, _, hxl7, hf7⟩ := DataW.trod_struct Tryz.underlying50 g7
        match xs6, hxl6, xs7, hxl7 with
        | [z0, z1, z2, z3, z4, z5, z6], _, [p0, p1], _ =>
          have j0 := hf6 0 _ rfl
          have j1 := hf6 1 _ rfl
          have j2 := hf6 2 _ rfl
          have j3 := hf6 3 _ rfl
          have j4 := hf6 4 _ rfl
          have j5 := hf6 5 _ rfl
          have j6 := hf6 6 _ rfl
          have j7 := hf7 0 _ rfl
          have j8 := hf7 1 _ rfl
          simp [cells3] at j0 j1 j2 j3 j4 j5 j6 j7 j8
          obtain ⟨i0, d0, _, l0⟩ := DataW.trod_int Tryz.underlying3 j0
          obtain ⟨i1, d1, _, l1⟩ := DataW.trod_int Tryz.underlying3 j1
          obtain ⟨i2, d2, _, l2⟩ := DataW.trod_int Tryz.underlying3 j2
          obtain ⟨i3, d3, _, l3⟩ := DataW.trod_int Tryz.underlying3 j3
          obtain ⟨i4, d4, _, l4⟩ := DataW.trod_int Tryz.underlying3 j4
          obtain ⟨i5, d5, _, l5⟩ := DataW.trod_int Tryz.underlying3 j5
          obtain ⟨i6, d6, _, l6⟩ := DataW.trod_int Tryz.underlying3 j6
          obtain ⟨i7, d7, _, l7⟩ := DataW.trod_int Tryz.underlying3 j7
          obtain ⟨i8, d8, _, l8⟩ := DataW.trod_int Tryz.underlying3 j8
          simp at d0 d1 d2 d3 d4 d5 d6 d7 d8
          subst d0 d1 d2 d3 d4 d5 d6 d7 d8
          have q0 := hcell 0 (by omega)
          have q1 := hcell 1 (by omega)
          have q2 := hcell 2 (by omega)
          have q3 := hcell 3 (by omega)
          have q4 := hcell 4 (by omega)
          have q5 := hcell 5 (by omega)
          have q6 := hcell 6 (by omega)
          have q7 := hcell 7 (by omega)
          have q8 := hcell 8 (by omega)
          have q9 := hcell 9 (by omega)
          have q10 := hcell 10 (by omega)
          have q11 := hcell 11 (by omega)
          have q12 := hcell 12 (by omega)
          have q13 := hcell 13 (by omega)
          have q14 := hcell 14 (by omega)
          rw [add_add] at q0 q1 q2 q3 q4 q5 q6 q7 q8 q9 q10 q11 q12 q13 q14
          exact ⟨⟨n0, n1, n2, n3, t4, t5, i0, i1, i2, i3, i4, i5, i6, i7, i8⟩, by simpa using q0, by simpa using q1, by simpa using q2, by simpa using q3, by simpa using q4, by simpa using q5, by simpa using q6, by simpa using q7, by simpa using q8, by simpa using q9, by simpa using q10, by simpa using q11, by simpa using q12, by simpa using q13, by simpa using q14, ⟨iw_of m0, iw_of m1, iw_of m2, iw_of m3, iw_of l1, iw_of l2, iw_of l3, iw_of l4, iw_of l7, iw_of l8, by simp only; omega, by simp only; omega⟩⟩
    obtain ⟨_, c0, -⟩ := key 0 (by omega)
    obtain ⟨x, q0, q1, q2, q3, q4, q5, q6, q7, q8, q9, q10, q11, q12, q13, q14, hw⟩ := key i (by omega)
    obtain ⟨b, off, sp⟩ := y
    have e : (⟨b, off, sp⟩ : Addr).add (0 * 15) = ⟨b, off, sp⟩ := rfl
    rw [e] at c0
    obtain rfl := spot_none c0
    rw [addr_add] at q0 q1 q2 q3 q4 q5 q6 q7 q8 q9 q10 q11 q12 q13 q14
    exact ⟨b, off, x, rfl, lt_of_cell q0, ⟨q0, by simpa [Nat.add_assoc] using q1, by simpa [Nat.add_assoc] using q2, by simpa [Nat.add_assoc] using q3, by simpa [Nat.add_assoc] using q4, by simpa [Nat.add_assoc] using q5, by simpa [Nat.add_assoc] using q6, by simpa [Nat.add_assoc] using q7, by simpa [Nat.add_assoc] using q8, by simpa [Nat.add_assoc] using q9, by simpa [Nat.add_assoc] using q10, by simpa [Nat.add_assoc] using q11, by simpa [Nat.add_assoc] using q12, by simpa [Nat.add_assoc] using q13, by simpa [Nat.add_assoc] using q14, hw⟩⟩
end Go.Proofs.YtlngeaacjbdmhaaGreat.Bt

namespace Go.Proofs.YtlngeaacjbdmhaaGreat.Wl
open Go.RowKit
attribute [local go_sem ↓] Go.wp_at_zero Go.wp_at_succ
/-- A tree and a table without mounts, made since w. -/
structure Pw (w W : World) (t m : Nat) (T : Tr) (B N : Nat) : Prop where
  q : Tq w.heap.size N W t T B
  ls : ∃ mb, Mt.Ls mb W m 1 0 []
  be : Below w.heap.size w W
section
variable {w W W' : World} {t m : Nat} {T : Tr} {B N : Nat}
theorem Pw.below (s : Pw w W t m T B N) (g : Below W.heap.size W W') : Pw w W' t m T B N := ⟨s.q.below g, let ⟨mb, h⟩ := s.ls; ⟨mb, h.below g⟩, s.be.trans (g.mono s.be.size)⟩
theorem Pw.alloc (s : Pw w W t m T B N) (o : Obj) : Pw w (W.alloc o) t m T B N := s.below ((Below.refl _ W).alloc (Nat.le_refl _) o)
theorem walk_P (s : Pw w W t m T B N) (hB : B ≤ 880) (path : Bytes) {F : Fd} {wy : Int} {ne : Option Pa} {x y : Int} {st : Nat} (hR : (E0 T).walk 0 1 path = ⟨ne, F, wy, x, y, st⟩) :
    Calls Tryz.prog 27 #[P0 t, P0 m, .agg #[I 0, I 1], .agg #[I 0, I 1], .agg #[I 0, I 0], .string (bs path), .bool true] W fun e w' => e = .returned (.tuple #[.agg #[I F.dm, I F.dn, .string (bs F.last), I F.am, I F.an, .bool F.has, .bool F.slash], I wy]) ∧ Hid (Below W.heap.size W w') := by
  obtain ⟨mb, ls⟩ := s.ls
  exact (Walk_any (Wd.of s.q hB ls) 0 1 (show (kl 1).wf = true by decide) (by decide) path _ hR)
theorem make_P (s : Pw w W t m T B N) (hB : B ≤ 878) (n : ByteArray) (kind mode : Int) (text : ByteArray) (hz : text.size ≤ 281474976710656) (x y : Int) (T' : Tr) (hx : T.makeN 1 n kind text = x) (hy : T.makeE 1 n kind text = y) (hT : T.make 1 n kind mode 0 0 text = T') :
    Calls Tryz.prog 62 #[P0 t, I 1, .string n, stV 0 kind mode 0 0 0 0, .string text] W fun e w' => e = .returned (.tuple #[I x, I y]) ∧ Hid (Pw w w' t m T' (B + 2) N) := by
  refine (make_Q s.q (by omega) (by decide) n 0 kind mode 0 0 0 0 text hz x y T' hx hy hT).mono ?_
  rintro e w' ⟨rfl, h1, h2⟩
  obtain ⟨mb, ls⟩ := s.ls
  exact ⟨rfl, ⟨unhide h1, ⟨mb, Ls_tx ls (unhide h2)⟩, s.be.trans (unhide h2).bel⟩⟩
theorem new_P (w : World) (nodes : Nat) (hn : 1 ≤ nodes ∧ nodes ≤ 64) :
    Calls Tryz.prog 16 #[I (nodes : Int), I 0] w fun e w' => ∃ t, e = .returned (.tuple #[P0 t, I 0]) ∧ Hid (Tq w.heap.size 0 w' t (Tr.new nodes 0) 1 ∧ Below w.heap.size w w') := by
  refine (new_Q nodes 0 hn (by omega) w).mono ?_
  rintro e w' ⟨t, rfl, h1, h2⟩
  exact ⟨t, rfl, unhide h1, unhide h2⟩
theorem newm_P {w1 : World} (h : Tq w.heap.size N w1 t T B ∧ Below w.heap.size w w1) :
    Calls Tryz.prog 96 #[I 1] w1 fun e w' => e = .returned (P0 w1.heap.size) ∧ Hid (Pw w w' t w1.heap.size T B N) := by
  refine (Mt.new_any 1 w1).mono ?_
  rintro e w' ⟨rfl, h1, h2⟩
  exact ⟨rfl, h.1.below h2, ⟨_, h1⟩, h.2.trans (h2.mono h.2.size)⟩
end
set_option maxRecDepth 100000 in
set_option maxHeartbeats 1000000 in
theorem known_any (w : World) : Calls Tryz.prog 33 #[] w fun e w' => e = .returned (.bool true) ∧ Below w.heap.size w w' := by
  have H0 := hide (new_P w 9 (by omega))
  have HT := hide top_any
  go_enter Tryz.func33, Tryz.ntmps33
  go_wp2_with fail
  refine (unhide H0).mono ?_
  rintro e w1 ⟨t, rfl, T1⟩
  clear H0
  go_wp2_with fail
  refine (newm_P (unhide T1)).mono ?_
  rintro e w2 ⟨rfl, P2⟩
  generalize w1.heap.size = m at *
  go_wp2_with fail
  refine (unhide HT w2).mono ?_
  rintro e w3 ⟨rfl, hB3⟩
  have P3 := hide ((unhide P2).below hB3)
  clear hB3 P2
  go_wp2_with fail
  refine (unhide HT w3).mono ?_
  rintro e w4 ⟨rfl, hB4⟩
  have P4 := hide ((unhide P3).below hB4)
  clear hB4 P3
  go_wp2_with fail
  refine (walk_P (unhide P4) (by omega) [47, 97, 47, 98] known_1).mono ?_
  rintro e w5 ⟨rfl, hB5⟩
  have P5 := hide (((unhide P4).below (unhide hB5)).alloc (.cells #[I 0, I 0, .string (bs []), I 0, I 0, .bool false, .bool false] 59))
  clear hB5 P4
  simp only [Fd.none]
  go_wp2_with fail
  refine (make_P (unhide P5) (by omega) ⟨#[97]⟩ 1 0 ⟨#[]⟩ (by decide) 2 0 T9a known_n.1 known_n.2 rfl).mono ?_
  rintro e w7 ⟨rfl, P7⟩
  clear P5
  go_wp2_with fail
  refine (unhide HT w7).mono ?_
  rintro e w8 ⟨rfl, hB8⟩
  have P8 := hide ((unhide P7).below hB8)
  clear hB8 P7
  go_wp2_with fail
  refine (unhide HT w8).mono ?_
  rintro e w9 ⟨rfl, hB9⟩
  have P9 := hide ((unhide P8).below hB9)
  clear hB9 P8
  go_wp2_with fail
  refine (walk_P (unhide P9) (by omega) [47, 97, 47, 98] known_2).mono ?_
  rintro e wa ⟨rfl, hBa⟩
  have Pa' := hide (((unhide P9).below (unhide hBa)).alloc (.cells #[I 0, I 2, .string (bs [98]), I 0, I 0, .bool false, .bool false] 59))
  clear hBa P9
  simp only []
  obtain ⟨wb, hwb, gb⟩ : ∃ wb, wa.alloc (.cells #[I 0, I 2, .string (bs [98]), I 0, I 0, .bool false, .bool false] 59) = wb ∧ wb.heap[wa.heap.size]? = some (.cells #[I 0, I 2, .string (bs [98]), I 0, I 0, .bool false, .bool false] 59) := ⟨_, rfl, heap_alloc_new _ _⟩
  rw [hwb] at Pa'
  have HGb := hide gb
  have HWb := hide hwb
  clear gb hwb
  go_wp2_with fail
  rw [unhide HWb]
  refine (unhide HT wb).mono ?_
  rintro e wc ⟨rfl, hBc⟩
  have Pc := hide (⟨(unhide Pa').below hBc, (hBc.block _ (lt_of_heap (unhide HGb))).trans (unhide HGb)⟩ : _ ∧ _)
  clear hBc Pa' HGb HWb
  go_wp2_with fail
  refine (unhide HT wc).mono ?_
  rintro e wd ⟨rfl, hBd⟩
  have Pd := hide (⟨(unhide Pc).1.below hBd, (hBd.block _ (lt_of_heap (unhide Pc).2)).trans (unhide Pc).2⟩ : _ ∧ _)
  clear hBd Pc
  go_wp2_with fail
  refine (walk_P (unhide Pd).1 (by omega) [47, 46, 46] known_3).mono ?_
  rintro e we ⟨rfl, hBe⟩
  simp only []
  obtain ⟨wf, hwf, gf, hBf⟩ : ∃ wf, we.alloc (.cells #[I 0, I 1, .string (bs []), I 0, I 1, .bool true, .bool false] 59) = wf ∧ wf.heap[we.heap.size]? = some (.cells #[I 0, I 1, .string (bs []), I 0, I 1, .bool true, .bool false] 59) ∧ Below we.heap.size we wf := ⟨_, rfl, heap_alloc_new _ _, (Below.refl _ _).alloc (Nat.le_refl _) _⟩
  have hBdf := (unhide hBe).trans (hBf.mono (unhide hBe).size)
  have Pf := (unhide Pd).1.below hBdf
  have gaf := (hBdf.block _ (lt_of_heap (unhide Pd).2)).trans (unhide Pd).2
  obtain ⟨x0, x1, x2, x3, x4, x5, x6, -⟩ := cells7 gaf
  obtain ⟨y0, y1, y2, y3, y4, y5, y6, -⟩ := cells7 gf
  have HPf := hide Pf
  have HTf := hide (unhide HT wf.drew)
  have HWf := hide hwf
  clear hBe Pd gf hBf hBdf Pf gaf hwf
  go_wp2_with fail
  rw [unhide HWf]
  go_region_held3 (fun w' => w'.cell? ⟨wa.heap.size, 0, none⟩ = some (I 0) ∧ w'.cell? ⟨wa.heap.size, 1, none⟩ = some (I 2) ∧ w'.cell? ⟨wa.heap.size, 2, none⟩ = some (.string (bs [98])) ∧ w'.cell? ⟨wa.heap.size, 3, none⟩ = some (I 0) ∧ w'.cell? ⟨wa.heap.size, 4, none⟩ = some (I 0) ∧ w'.cell? ⟨wa.heap.size, 5, none⟩ = some (.bool false) ∧ w'.cell? ⟨wa.heap.size, 6, none⟩ = some (.bool false) ∧ w'.cell? ⟨we.heap.size, 2, none⟩ = some (.string (bs [])) ∧ w'.cell? ⟨we.heap.size, 3, none⟩ = some (I 0) ∧ w'.cell? ⟨we.heap.size, 4, none⟩ = some (I 1) ∧ w'.cell? ⟨we.heap.size, 5, none⟩ = some (.bool true)) (go_keep)
    (first
      | (go_at_call 28; refine (unhide HTf).mono ?_; rintro e wg ⟨rfl, hBg⟩; have HBg := hide hBg; clear hBg; have a0 := cell_be (W := wf.drew) x0 (unhide HBg); have a1 := cell_be (W := wf.drew) x1 (unhide HBg); have a2 := cell_be (W := wf.drew) x2 (unhide HBg); have a3 := cell_be (W := wf.drew) x3 (unhide HBg); have a4 := cell_be (W := wf.drew) x4 (unhide HBg); have a5 := cell_be (W := wf.drew) x5 (unhide HBg); have a6 := cell_be (W := wf.drew) x6 (unhide HBg); have b2 := cell_be (W := wf.drew) y2 (unhide HBg); have b3 := cell_be (W := wf.drew) y3 (unhide HBg); have b4 := cell_be (W := wf.drew) y4 (unhide HBg); have b5 := cell_be (W := wf.drew) y5 (unhide HBg)))
  go_wp2_with fail
  go_ret
  exact ⟨rfl, ((unhide HPf).below ((below_drew (Below.refl _ _)).trans (unhide HBg))).be⟩
end Go.Proofs.YtlngeaacjbdmhaaGreat.Wl

namespace Go.Proofs.YtlngeaacjbdmhaaGreat.Bt
open Go.RowKit
/-- A change that came in lies as it lay. -/
theorem act_cells {W W' : World} {B b o : Nat} {x : Ac} (h : ActAt W b o x) (hb : b < B) (g : Below B W W') : W'.cell? ⟨b, o, none⟩ = some (I x.kind) ∧ W'.cell? ⟨b, o + 1, none⟩ = some (I x.dir) ∧ W'.cell? ⟨b, o + 2, none⟩ = some (I x.tq) ∧ W'.cell? ⟨b, o + 3, none⟩ = some (I x.n) ∧ W'.cell? ⟨b, o + 4, none⟩ = some (.string x.s) ∧ W'.cell? ⟨b, o + 5, none⟩ = some (.string x.ad) ∧ W'.cell? ⟨b, o + 6, none⟩ = some (I x.sn) ∧ W'.cell? ⟨b, o + 7, none⟩ = some (I x.kd) ∧ W'.cell? ⟨b, o + 8, none⟩ = some (I x.mo) ∧ W'.cell? ⟨b, o + 9, none⟩ = some (I x.ui) ∧ W'.cell? ⟨b, o + 10, none⟩ = some (I x.gi) ∧ W'.cell? ⟨b, o + 11, none⟩ = some (I x.li) ∧ W'.cell? ⟨b, o + 12, none⟩ = some (I x.si) ∧ W'.cell? ⟨b, o + 13, none⟩ = some (I x.am) ∧ W'.cell? ⟨b, o + 14, none⟩ = some (I x.an) := by
  have := h.below hb g
  exact ⟨this.c0, this.c1, this.c2, this.c3, this.c4, this.c5, this.c6, this.c7, this.c8, this.c9, this.c10, this.c11, this.c12, this.c13, this.c14⟩
theorem cellsF {W : World} {b : Nat} {ty : TypeId} {v0 v1 v2 v3 v4 v5 v6 : Value} (h : W.heap[b]? = some (.cells #[v0, v1, v2, v3, v4, v5, v6] ty)) : W.cell? ⟨b, 0, none⟩ = some v0 ∧ W.cell? ⟨b, 1, none⟩ = some v1 ∧ W.cell? ⟨b, 2, none⟩ = some v2 ∧ W.cell? ⟨b, 3, none⟩ = some v3 ∧ W.cell? ⟨b, 4, none⟩ = some v4 ∧ W.cell? ⟨b, 5, none⟩ = some v5 ∧ W.cell? ⟨b, 6, none⟩ = some v6 ∧ ∀ i, W.frozen? ⟨b, i, none⟩ = false := by
  refine ⟨?_, ?_, ?_, ?_, ?_, ?_, ?_, frozen_of h⟩ <;> (rw [cell_of h]; rfl)
end Go.Proofs.YtlngeaacjbdmhaaGreat.Bt

namespace Go.Proofs.YtlngeaacjbdmhaaGreat.Wl
theorem one_root (E : En) (fol : Nat) {p : Pa} (h : p.root = true) (am an am' an' : Int) (s : Nat) : E.one fol p am an s = E.one fol p am' an' s := by
  simp only [En.one, En.beg, h, if_true]
theorem run_root (E : En) (k : Nat) {p : Pa} (h : p.root = true) (am an am' an' : Int) (s : Nat) : E.run k p am an s = E.run k p am' an' s := by
  cases k with
  | zero => exact one_root E 40 h am an am' an' s
  | succ k =>
    unfold En.run
    rw [one_root E _ h am an am' an' s]
theorem walk_root (E : En) {path : Bytes} (h : Nm.err path = 0 → Nm.rt path = true) {fm fn fm' fn' : Int} (h1 : E.place fm fn = true) (h2 : E.place fm' fn' = true) : E.walk fm fn path = E.walk fm' fn' path := by
  unfold En.walk
  rw [h1, h2]
  split
  · split
    · rename_i e
      exact run_root _ _ (h e) _ _ _ _ _
    · rfl
  · rfl
theorem rt_slash {q : Bytes} (h : Nm.err (47 :: q) = 0) : Nm.rt (47 :: q) = true := by
  unfold Nm.rt
  rw [h]
  simp
/-- So many dots. -/
def ups : Nat → Bytes
  | 0 => [47]
  | k + 1 => ups k ++ [46, 46, 47]
theorem ups_ok : ∀ k, k ≤ 9 → Nm.err (ups k) = 0 ∧ Nm.rt (ups k) = true ∧ Nm.sl (ups k) = true ∧ Nm.ps (ups k) = List.replicate k [46, 46] := by
  intro k hk
  match k, hk with
  | 0, _ => decide
  | 1, _ => decide
  | 2, _ => decide
  | 3, _ => decide
  | 4, _ => decide
  | 5, _ => decide
  | 6, _ => decide
  | 7, _ => decide
  | 8, _ => decide
  | 9, _ => decide
theorem par_ups {E : En} (hr : E.refusal E.rn = 0) (fol : Nat) (slash : Bool) : ∀ (k : Nat) (dm dn : Int) (s : Nat), E.par fol slash (List.replicate k [46, 46]) dm dn [] E.rm E.rn s = ⟨none, E.endF dm dn [] E.rm E.rn slash, E.endE E.rn slash, E.rm, E.rn, s + k⟩ := by
  intro k
  induction k with
  | zero => intro dm dn s; rfl
  | succ k ih =>
    intro dm dn s
    rw [List.replicate_succ]
    unfold En.par
    rw [if_pos hr, if_pos (by decide)]
    have e : E.dots [46, 46] E.rm E.rn = (E.rm, E.rn) := by
      unfold En.dots
      rw [if_pos (.inr ⟨rfl, rfl⟩)]
    rw [e]
    simp only
    rw [ih]
    congr 1
    omega
/-- Dots at the root stay there. -/
theorem walk_ups (E : En) {k : Nat} (hk : k ≤ 9) {fm fn : Int} (h1 : E.place E.rm E.rn = true) (h2 : E.place fm fn = true) (hd : E.T.kindOf (E.down E.rm E.rn).2 = 1) (hc : E.cu = 0) :
    (E.walk fm fn (ups k)).why = 0 ∧ (E.walk fm fn (ups k)).f.am = (E.down E.rm E.rn).1 ∧ (E.walk fm fn (ups k)).f.an = (E.down E.rm E.rn).2 := by
  obtain ⟨u1, u2, u3, u4⟩ := ups_ok k hk
  have hr : E.downed.refusal E.downed.rn = 0 := by
    unfold En.refusal
    rw [if_pos (show E.downed.T.kindOf E.downed.rn = 1 from hd)]
    have : E.downed.may E.downed.rn = true := by
      unfold En.may
      cases hx : E.downed.T.nd E.downed.rn with
      | none =>
        have h3 : E.T.kindOf (E.down E.rm E.rn).2 = 0 := by
          unfold Tr.kindOf
          rw [show E.T.nd (E.down E.rm E.rn).2 = none from hx]
        omega
      | some x =>
        simp only
        show Kr.may E.cu _ _ _ _ 1 = true
        rw [hc]
        simp only [Kr.may, Kr.cnt, if_true]
        decide
    rw [if_pos this]
  have hone : E.downed.one (40 - (39 + 1)) ⟨true, true, List.replicate k [46, 46]⟩ (E.down fm fn).1 (E.down fm fn).2 0 = ⟨none, E.downed.endF E.downed.rm E.downed.rn [] E.downed.rm E.downed.rn true, E.downed.endE E.downed.rn true, E.downed.rm, E.downed.rn, 0 + k⟩ := by
    simp only [En.one, En.beg, if_true]
    exact par_ups hr _ _ k _ _ 0
  have hrun : E.downed.run 40 ⟨true, true, List.replicate k [46, 46]⟩ (E.down fm fn).1 (E.down fm fn).2 0 = ⟨none, E.downed.endF E.downed.rm E.downed.rn [] E.downed.rm E.downed.rn true, E.downed.endE E.downed.rn true, E.downed.rm, E.downed.rn, 0 + k⟩ := by
    unfold En.run
    rw [hone]
  have hn : ¬ (True ∧ E.downed.T.kindOf E.downed.rn ≠ 1) := fun h => h.2 hd
  unfold En.walk
  rw [h1, h2, if_pos (show (true && true) = true from rfl), if_pos u1, u2, u3, u4, hrun]
  simp only [En.endE, En.endF]
  rw [if_neg hn, if_neg hn, if_pos trivial]
  exact ⟨rfl, rfl, rfl⟩
end Go.Proofs.YtlngeaacjbdmhaaGreat.Wl
