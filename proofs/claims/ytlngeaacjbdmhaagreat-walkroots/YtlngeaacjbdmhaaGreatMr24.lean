/-
  The contract of Down: the top of the last of those that lie over one another.
-/
import Derived.Test.YtlngeaacjbdmhaaGreatMr22
import Derived.Test.YtlngeaacjbdmhaaGreatMr23
import Derived.Sort.AtCall
import Derived.Laws.Cover1
import Derived.Sort.Walk0
namespace Go.Proofs.YtlngeaacjbdmhaaGreat.Mt
open Go.RowKit
attribute [local go_sem ↓] Go.wp_at_zero Go.wp_at_succ
/-- A mount lies at a place of an elder one. -/
def Eld (md : Int) (es : Ents) : Prop := ∀ p ∈ es, p.am < p.n ∧ p.n ≤ md
theorem fst_mem {es : Ents} {P : Ld → Bool} (h : any es P = true) : fst es P ∈ es ∧ P (fst es P) = true := by
  unfold any at h
  obtain ⟨p, hp⟩ := Option.isSome_iff_exists.1 h
  rw [fst, hp]
  exact ⟨List.mem_of_find?_eq_some hp, List.find?_some hp⟩
/-- Down, at most so many steps. -/
def dn (es : Ents) : Nat → Int → Int → Int × Int
  | 0, m, n => (m, n)
  | k + 1, m, n => if any es (isAt m n) then dn es k (fst es (isAt m n)).n (fst es (isAt m n)).top else (m, n)
/-- How many steps are enough. -/
def fuel (md m : Int) : Nat := (md + 1 - m).toNat
def down (md : Int) (es : Ents) (m n : Int) : Int × Int := dn es (fuel md m) m n
theorem Eld.next {md : Int} {es : Ents} (h : Eld md es) {m n : Int} (ha : any es (isAt m n) = true) : m < (fst es (isAt m n)).n ∧ (fst es (isAt m n)).n ≤ md := by
  obtain ⟨h1, h2⟩ := fst_mem ha
  have h3 := h _ h1
  simp only [isAt, decide_eq_true_eq] at h2
  rw [h2.1] at h3
  exact h3
theorem dn_stop {es : Ents} (k : Nat) {m n : Int} (ha : any es (isAt m n) = false) : dn es k m n = (m, n) := by
  cases k with
  | zero => rfl
  | succ j => rw [dn, ha]; rfl
theorem dn_same {md : Int} {es : Ents} (h : Eld md es) : ∀ (k k' : Nat) (m n : Int), fuel md m ≤ k → fuel md m ≤ k' → dn es k m n = dn es k' m n := by
  intro k
  induction k with
  | zero =>
    intro k' m n hk _
    cases ha : any es (isAt m n) with
    | false => rw [dn_stop _ ha, dn_stop _ ha]
    | true =>
      obtain ⟨h1, h2⟩ := h.next ha
      simp only [fuel] at hk
      omega
  | succ k ih =>
    intro k' m n hk hk'
    cases ha : any es (isAt m n) with
    | false => rw [dn_stop _ ha, dn_stop _ ha]
    | true =>
      obtain ⟨h1, h2⟩ := h.next ha
      cases k' with
      | zero => simp only [fuel] at hk'; omega
      | succ j =>
        rw [dn, dn, ha]
        simp only [if_true]
        exact ih _ _ _ (by simp only [fuel] at *; omega) (by simp only [fuel] at *; omega)
theorem dn_fuel {md : Int} {es : Ents} (h : Eld md es) (k : Nat) (m n : Int) (hk : fuel md m ≤ k) : dn es k m n = down md es m n := dn_same h _ _ _ _ hk (Nat.le_refl _)
theorem down_step {md : Int} {es : Ents} (h : Eld md es) {m n : Int} (ha : any es (isAt m n) = true) : down md es m n = down md es (fst es (isAt m n)).n (fst es (isAt m n)).top := by
  obtain ⟨h1, h2⟩ := h.next ha
  have e : fuel md m = (fuel md m - 1) + 1 := by simp only [fuel] at *; omega
  rw [down, e, dn, ha]
  simp only [if_true]
  exact dn_fuel h _ _ _ (by simp only [fuel] at *; omega)
theorem down_stop {md : Int} {es : Ents} {m n : Int} (ha : any es (isAt m n) = false) : down md es m n = (m, n) := by
  rw [down]
  cases fuel md m with
  | zero => rfl
  | succ j => rw [dn, ha]; rfl
def cInt (W : World) (h : Nat) : Int := match W.cell? ⟨h, 0, none⟩ with | some (.int _ x) => x | _ => 0
set_option maxRecDepth 100000 in
set_option maxHeartbeats 1000000 in
theorem down_any (base b : Nat) (rt md m n : Int) (es : Ents) (w : World) (hG : Ls base w b rt md es) (hes : es.length ≤ 1000) (hE : Eld md es) :
    Calls Tryz.prog 38 #[.pointer (some ⟨b, 0, none⟩), pv m n] w fun e w' => e = .returned (pv (down md es m n).1 (down md es m n).2) ∧ Below w.heap.size w w' := by
  have HE := hide hE
  have hbl := hG.lt
  have HL := hide (fun m n W (hB : Below w.heap.size w W) => lyingAt_any base b rt md m n es W (hG.below hB) hes)
  obtain ⟨r, hr⟩ : ∃ r, r = down md es m n := ⟨_, rfl⟩
  rw [← hr]
  have Hr := hide hr
  obtain ⟨V, hV, hs, hx, hz, hb⟩ := two0 w (.cells #[I m, I n] 50) (.cells #[I 0, I 0] 50)
  have HB := hide hb
  have HX := hide hx
  have HZ := hide hz
  clear hG hE hr hb hx hz
  unfold pv
  go_enter Tryz.func38, Tryz.ntmps38
  go_wp2_with fail
  generalize hh : w.heap.size = h at *
  go_loopw [6] (fun _ wr => ∃ m n : Int, r = down md es m n ∧ wr.heap[h]? = some (.cells #[I m, I n] 50) ∧ wr.heap[h + 1]? = some (.cells #[I 0, I 0] 50) ∧ Below h w wr) (fun _ wr => (md + 1 - cInt wr h).toNat)
  case atStart => exact ⟨m, n, unhide Hr, unhide HX, unhide HZ, unhide HB⟩
  case round =>
    clear hV hs HB HX HZ Hr
    obtain ⟨m, n, hr, hx, hz, hb⟩ := hrel
    have HF := hide (unhide HL m n wr hb)
    obtain ⟨x0, x1⟩ := cells2 hx
    have HX := hide hx
    have HZ := hide hz
    have HB := hide hb
    have Hr := hide hr
    clear hx hz hb hr
    have hcm : cInt wr h = m := by rw [cInt, x0]
    have Hc := hide hcm
    clear hcm
    obtain ⟨x, hx⟩ : ∃ x, x = fst es (isAt m n) := ⟨_, rfl⟩
    rw [← hx] at HF
    have HP : Hid (any es (isAt m n) = true → m < x.n ∧ x.n ≤ md ∧ r = down md es x.n x.top) := by
      intro ha
      obtain ⟨h1, h2⟩ := (unhide HE).next ha
      rw [hx]
      exact ⟨h1, h2, (unhide Hr).trans (down_step (unhide HE) ha)⟩
    clear hx
    cases ha : any es (isAt m n) with
    | false =>
      rw [ha] at HF
      have He : Hid (r = (m, n)) := hide ((unhide Hr).trans (down_stop ha))
      clear ha HP Hr HL HE
      go_wp2_with fail
      refine (unhide HF).mono ?_
      rintro e w1 ⟨rfl, hB⟩
      have hz1 := (Below.heap_alloc w1 (.cells #[I x.n, I x.top, I x.am, I x.an] 182) _ (by have := hB.size; have := lt_of_heap (unhide HZ); omega)).trans ((hB.block _ (lt_of_heap (unhide HZ))).trans (unhide HZ))
      have hx1 := (Below.heap_alloc w1 (.cells #[I x.n, I x.top, I x.am, I x.an] 182) _ (by have := hB.size; have := lt_of_heap (unhide HX); omega)).trans ((hB.block _ (lt_of_heap (unhide HX))).trans (unhide HX))
      have hB2 : Below h w (w1.alloc (.cells #[I x.n, I x.top, I x.am, I x.an] 182)) := ((unhide HB).trans (hB.mono (by have := lt_of_heap (unhide HX); omega))).alloc (by have := hB.size; have := lt_of_heap (unhide HX); omega) _
      obtain ⟨W2, hW2⟩ : ∃ W2, w1.alloc (.cells #[I x.n, I x.top, I x.am, I x.an] 182) = W2 := ⟨_, rfl⟩
      rw [hW2] at hz1 hx1 hB2
      obtain ⟨p0, p1⟩ := cells2 hx1
      obtain ⟨X1, X2, ⟨x1', x2'⟩, ⟨c0, c1⟩, ⟨f0, f1⟩, q1, hfr, hsx⟩ := store2 hz1 (I m) (I n)
      obtain ⟨z0, z1⟩ := cells2 q1
      have HE := hide (hB2.trans (hfr.base (B := h) (by have := lt_of_heap hx1; omega) (by simp)))
      clear hfr hsx q1 hB2 hz1 hx1 hB HF HB HX HZ x0 x1
      unfold lv
      go_wp2_with fail
      refine bodyPost_ret (v := .agg #[I m, I n]) (by simp [results, Tryz.results38, go_sem, z0, z1]) rfl ?_
      rw [unhide He, hh]
      exact ⟨rfl, unhide HE⟩
    | true =>
      rw [ha] at HF
      obtain ⟨g1, g2, g3⟩ := unhide HP ha
      have Hg := hide (⟨g1, g2, g3⟩ : m < x.n ∧ x.n ≤ md ∧ r = down md es x.n x.top)
      clear ha HP Hr HL HE g1 g2 g3
      go_wp2_with fail
      refine (unhide HF).mono ?_
      rintro e w1 ⟨rfl, hB⟩
      have hz1 := (Below.heap_alloc w1 (.cells #[I x.n, I x.top, I x.am, I x.an] 182) _ (by have := hB.size; have := lt_of_heap (unhide HZ); omega)).trans ((hB.block _ (lt_of_heap (unhide HZ))).trans (unhide HZ))
      have hx1 := (Below.heap_alloc w1 (.cells #[I x.n, I x.top, I x.am, I x.an] 182) _ (by have := hB.size; have := lt_of_heap (unhide HX); omega)).trans ((hB.block _ (lt_of_heap (unhide HX))).trans (unhide HX))
      have hm1 : (w1.alloc (.cells #[I x.n, I x.top, I x.am, I x.an] 182)).heap[w1.heap.size]? = some (.cells #[I x.n, I x.top, I x.am, I x.an] 182) := putAll _ _ rfl
      have hB2 : Below h w (w1.alloc (.cells #[I x.n, I x.top, I x.am, I x.an] 182)) := ((unhide HB).trans (hB.mono (by have := lt_of_heap (unhide HX); omega))).alloc (by have := hB.size; have := lt_of_heap (unhide HX); omega) _
      obtain ⟨W2, hW2⟩ : ∃ W2, w1.alloc (.cells #[I x.n, I x.top, I x.am, I x.an] 182) = W2 := ⟨_, rfl⟩
      rw [hW2] at hz1 hx1 hm1 hB2
      obtain ⟨p0, p1⟩ := cells2 hx1
      obtain ⟨l0, l1, l2, l3⟩ := cells4 hm1
      obtain ⟨X1, X2, ⟨x1', x2'⟩, ⟨c0, c1⟩, ⟨f0, f1⟩, q1, hfr, hsx⟩ := store2 hx1 (I x.n) (I x.top)
      have HE := hide (hB2.trans (hfr.base (B := h) (by have := lt_of_heap hx1; omega) (by simp)))
      have Hq := hide q1
      have Hz := hide ((hfr.blk (h + 1) (lt_of_heap hz1) (by simp)).trans hz1)
      clear hfr hsx q1 hB2 hz1 hx1 hm1 hB HF HB HX HZ x0 x1
      unfold lv
      go_wp2_with fail
      go_roundw
      case rel => exact ⟨x.n, x.top, (unhide Hg).2.2, unhide Hq, unhide Hz, unhide HE⟩
      case measure =>
        have e1 : cInt X2 h = x.n := by rw [cInt, cell_of (unhide Hq)]; rfl
        rw [e1, unhide Hc]
        have := unhide Hg
        omega
end Go.Proofs.YtlngeaacjbdmhaaGreat.Mt

namespace Go.Proofs.YtlngeaacjbdmhaaGreat.Mt
open Go.RowKit
/-- A table: mount 0's top, how many were bound, those that are there. -/
structure T where
  rt : Int
  md : Int
  es : Ents
/-- What holds of every table; B: how many calls were made, at most. -/
structure Wf (B : Int) (t : T) : Prop where
  rise : Rise t.es
  eld : Eld t.md t.es
  le : t.es.length ≤ 7
  pos : 0 ≤ t.md ∧ t.md ≤ B
  num : ∀ p ∈ t.es, 0 < p.n
  up : ∀ p ∈ t.es, rootIs t.es p.am = true
  one : t.es.Pairwise fun p q => ¬ (p.am = q.am ∧ p.an = q.an)
def T.bind (t : T) (am an nd : Int) : T := if bindE t.es am an = 0 then ⟨t.rt, t.md + 1, t.es ++ [⟨t.md + 1, nd, am, an⟩]⟩ else t
def T.bindN (t : T) (am an : Int) : Int := if bindE t.es am an = 0 then t.md + 1 else 0
def T.unbind (t : T) (m : Int) : T := if unbE t.es m = 0 then ⟨t.rt, t.md, unb t.es m⟩ else t
theorem Wf.new (r : Int) : Wf 0 ⟨r, 0, []⟩ := by
  refine ⟨?_, ?_, ?_, ?_, ?_, ?_, ?_⟩ <;> simp [Rise, Eld]
theorem Wf.mono {B B' : Int} {t : T} (h : Wf B t) (hB : B ≤ B') : Wf B' t := ⟨h.rise, h.eld, h.le, ⟨h.pos.1, by have := h.pos.2; omega⟩, h.num, h.up, h.one⟩
theorem any_append {es fs : Ents} {P : Ld → Bool} : any (es ++ fs) P = (any es P || any fs P) := by
  simp [any, List.find?_append]
theorem rootIs_append {es fs : Ents} {m : Int} (h : rootIs es m = true) : rootIs (es ++ fs) m = true := by
  unfold rootIs at *
  split at h
  · rename_i e
    rw [if_pos e]
  · rename_i e
    rw [if_neg e, any_append, h]; rfl
theorem bindE_zero {es : Ents} {am an : Int} (h : bindE es am an = 0) : rootIs es am = true ∧ any es (isAt am an) = false ∧ es.length < 7 := by
  unfold bindE at h
  cases h1 : rootIs es am with
  | false => simp [h1] at h
  | true =>
    cases h2 : any es (isAt am an) with
    | true => simp [h1, h2] at h
    | false =>
      simp [h1, h2] at h
      exact ⟨rfl, rfl, by omega⟩
theorem root_le {B : Int} {t : T} (h : Wf B t) {m : Int} (hr : rootIs t.es m = true) : m ≤ t.md := by
  unfold rootIs at hr
  split at hr
  · have := h.pos; omega
  · obtain ⟨p, hp, he⟩ := any_iff.1 hr
    simp [isN] at he
    have := (h.eld p hp).2
    omega
theorem Wf.bind {B : Int} {t : T} (h : Wf B t) (am an nd : Int) : Wf (B + 1) (t.bind am an nd) := by
  unfold T.bind
  split
  · rename_i hz
    obtain ⟨h1, h2, h3⟩ := bindE_zero hz
    have hle := root_le h h1
    have hp := h.pos
    refine ⟨?_, ?_, ?_, ?_, ?_, ?_, ?_⟩
    · refine List.pairwise_append.2 ⟨h.rise, by simp, fun p hp' q hq => ?_⟩
      simp at hq; subst hq
      have := (h.eld p hp').2
      simp; omega
    · intro p hp'
      rcases List.mem_append.1 hp' with hp' | hp'
      · have := h.eld p hp'
        simp; omega
      · simp at hp'; subst hp'
        simp; omega
    · simp; omega
    · simp; omega
    · intro p hp'
      rcases List.mem_append.1 hp' with hp' | hp'
      · exact h.num p hp'
      · simp at hp'; subst hp'; simp; omega
    · intro p hp'
      rcases List.mem_append.1 hp' with hp' | hp'
      · exact rootIs_append (h.up p hp')
      · simp at hp'; subst hp'; exact rootIs_append h1
    · refine List.pairwise_append.2 ⟨h.one, by simp, fun p hp' q hq => ?_⟩
      simp at hq; subst hq
      have := any_false.1 h2 p hp'
      simpa [isAt] using this
  · exact h.mono (by omega)
theorem unbE_zero {es : Ents} {m : Int} (h : unbE es m = 0) : any es (isN m) = true ∧ any es (isM m) = false := by
  unfold unbE at h
  cases h1 : any es (isN m) with
  | false => simp [h1] at h
  | true =>
    cases h2 : any es (isM m) with
    | true => simp [h1, h2] at h
    | false => exact ⟨rfl, rfl⟩
theorem Wf.unbind {B : Int} {t : T} (h : Wf B t) (m : Int) : Wf B (t.unbind m) := by
  unfold T.unbind
  split
  · rename_i hz
    obtain ⟨h1, h2⟩ := unbE_zero hz
    have hsub : (unb t.es m).Sublist t.es := List.filter_sublist
    refine ⟨h.rise.sublist hsub, fun p hp => h.eld p (hsub.subset hp), ?_, h.pos, fun p hp => h.num p (hsub.subset hp), fun p hp => ?_, h.one.sublist hsub⟩
    · have := hsub.length_le; have := h.le; simp; omega
    · have hp' := hsub.subset hp
      have hu := h.up p hp'
      have hne : ¬ p.am = m := by
        have := any_false.1 h2 p hp'
        simpa [isM] using this
      unfold rootIs at hu ⊢
      split
      · rfl
      · rename_i h0
        rw [if_neg h0] at hu
        obtain ⟨q, hq, he⟩ := any_iff.1 hu
        refine any_iff.2 ⟨q, List.mem_filter.2 ⟨hq, ?_⟩, he⟩
        simp [isN] at he ⊢
        omega
  · exact h
/-- A table in its blocks, and well formed. -/
structure Tq (B : Int) (base : Nat) (W : World) (b : Nat) (t : T) : Prop where
  ls : Ls base W b t.rt t.md t.es
  wf : Wf B t
theorem Tq.below {B : Int} {base : Nat} {W W' : World} {b : Nat} {t : T} (h : Tq B base W b t) (g : Below W.heap.size W W') : Tq B base W' b t := ⟨h.ls.below g, h.wf⟩
theorem Tq.fm {B : Int} {base : Nat} {W W' : World} {b : Nat} {t : T} (h : Tq B base W b t) (hk : ∀ (k : Nat) (cur : Array Value) (ty : TypeId), W.heap[k]? = some (.cells cur ty (0, 0)) → (k = b ∨ ty = 182) → W'.heap[k]? = W.heap[k]?) : Tq B base W' b t := ⟨h.ls.keep hk, h.wf⟩
theorem new_Q (r : Int) (w : World) : Calls Tryz.prog 96 #[I r] w fun e w' => e = .returned (.pointer (some ⟨w.heap.size, 0, none⟩)) ∧ Tq 0 w.heap.size w' w.heap.size ⟨r, 0, []⟩ ∧ Below w.heap.size w w' :=
  (new_any r w).mono fun _ _ ⟨h1, h2, h3⟩ => ⟨h1, ⟨h2, Wf.new r⟩, h3⟩
section
variable {B : Int} {base : Nat} {w : World} {b : Nat} {t : T}
theorem bind_Q (h : Tq B base w b t) (hB : B < 1000000) (am an nd : Int) :
    Calls Tryz.prog 148 #[.pointer (some ⟨b, 0, none⟩), pv am an, I nd] w fun e w' => e = .returned (.tuple #[I (t.bindN am an), I (bindE t.es am an)]) ∧ Tq (B + 1) base w' b (t.bind am an nd) ∧ Fm base b w w' := by
  have hw := h.wf.bind am an nd
  have hp := h.wf.pos
  have hl := h.wf.le
  unfold T.bind T.bindN at *
  by_cases hz : bindE t.es am an = 0
  · rw [if_pos hz] at hw ⊢
    rw [if_pos hz, hz]
    exact (bind_yes base b t.rt t.md am an nd t.es w h.ls (by omega) (by omega) hz).mono fun _ _ ⟨h1, h2, h3⟩ => ⟨h1, ⟨h2, hw⟩, h3⟩
  · rw [if_neg hz] at hw ⊢
    rw [if_neg hz]
    exact (bind_no base b t.rt t.md am an nd _ t.es w h.ls (by omega) rfl hz).mono fun _ _ ⟨h1, h2⟩ => ⟨h1, ⟨h.ls.below h2, hw⟩, Fm.of_below h2 h.ls.base_le⟩
theorem unbind_Q (h : Tq B base w b t) (m : Int) :
    Calls Tryz.prog 99 #[.pointer (some ⟨b, 0, none⟩), I m] w fun e w' => e = .returned (I (unbE t.es m)) ∧ Tq B base w' b (t.unbind m) ∧ Fm base b w w' := by
  have hw := h.wf.unbind m
  have hl := h.wf.le
  unfold T.unbind at *
  by_cases hz : unbE t.es m = 0
  · rw [if_pos hz] at hw ⊢
    rw [hz]
    exact (unbind_yes base b t.rt t.md m t.es w h.ls (by omega) h.wf.rise hz).mono fun _ _ ⟨h1, h2, h3⟩ => ⟨h1, ⟨h2, hw⟩, h3⟩
  · rw [if_neg hz] at hw ⊢
    exact (unbind_no base b t.rt t.md m _ t.es w h.ls (by omega) rfl hz).mono fun _ _ ⟨h1, h2⟩ => ⟨h1, ⟨h.ls.below h2, hw⟩, Fm.of_below h2 h.ls.base_le⟩
theorem down_Q (h : Tq B base w b t) (m n : Int) :
    Calls Tryz.prog 38 #[.pointer (some ⟨b, 0, none⟩), pv m n] w fun e w' => e = .returned (pv (down t.md t.es m n).1 (down t.md t.es m n).2) ∧ Below w.heap.size w w' :=
  down_any base b t.rt t.md m n t.es w h.ls (by have := h.wf.le; omega) h.wf.eld
end
end Go.Proofs.YtlngeaacjbdmhaaGreat.Mt

namespace Go.Proofs.YtlngeaacjbdmhaaGreat.Mt
open Go.RowKit
attribute [local go_sem ↓] Go.wp_at_zero Go.wp_at_succ
/-- A mount of the document's: the place, its top, whether it is there. -/
structure Rm where
  am : Int
  an : Int
  nd : Int
  lv : Bool
def rrow (p : Rm) : List Value := [I p.am, I p.an, I p.nd, .bool p.lv]
theorem rrow_length (p : Rm) : (rrow p).length = 4 := rfl
theorem rrows_at (es : List Rm) (i : Nat) (p : Rm) (h : es[i]? = some p) : (rowsOf rrow es)[i * 4]? = some (I p.am) ∧ (rowsOf rrow es)[i * 4 + 1]? = some (I p.an) ∧ (rowsOf rrow es)[i * 4 + 2]? = some (I p.nd) ∧ (rowsOf rrow es)[i * 4 + 3]? = some (.bool p.lv) := by
  have e0 := rowsOf_get rrow 4 rrow_length es i 0 p h (by omega)
  have e1 := rowsOf_get rrow 4 rrow_length es i 1 p h (by omega)
  have e2 := rowsOf_get rrow 4 rrow_length es i 2 p h (by omega)
  have e3 := rowsOf_get rrow 4 rrow_length es i 3 p h (by omega)
  rw [show i * 4 = 4 * i + 0 by omega, show 4 * i + 0 + 1 = 4 * i + 1 by omega, show 4 * i + 0 + 2 = 4 * i + 2 by omega, show 4 * i + 0 + 3 = 4 * i + 3 by omega]
  exact ⟨e0, e1, e2, e3⟩
/-- The document's table: its struct in block b, its mounts in a row of their own from base on. -/
structure Rs (base : Nat) (W : World) (b : Nat) (rs : List Rm) : Prop where
  hb : ∃ a cap, W.heap[b]? = some (.cells #[.slice a rs.length cap] 226) ∧ W.ownsRow base 223 4 (.slice a rs.length cap) rs.length (rowsOf rrow rs)
  kb : base ≤ b
  ne : rs ≠ []
section
variable {base : Nat} {W W' : World} {b : Nat} {rs : List Rm}
theorem Rs.lt (h : Rs base W b rs) : b < W.heap.size := by
  obtain ⟨a, cap, h1, _⟩ := h.hb
  exact lt_of_heap h1
theorem Rs.keep (h : Rs base W b rs) (hk : ∀ (k : Nat) (cur : Array Value) (t : TypeId), W.heap[k]? = some (.cells cur t (0, 0)) → (k = b ∨ t = 223) → W'.heap[k]? = W.heap[k]?) : Rs base W' b rs := by
  obtain ⟨a, cap, h1, h2⟩ := h.hb
  exact ⟨⟨a, cap, (hk b _ _ h1 (.inl rfl)).trans h1, own_keep h2 fun k cur hc => hk k cur 223 hc (.inr rfl)⟩, h.kb, h.ne⟩
theorem Rs.below (h : Rs base W b rs) (g : Below W.heap.size W W') : Rs base W' b rs := h.keep fun k _ _ hk _ => g.block k (lt_of_heap hk)
theorem Rs.len (h : Rs base W b rs) : 0 < rs.length := List.length_pos_iff.2 h.ne
/-- What a walk is told of it. -/
theorem Rs.cells (h : Rs base W b rs) : ∃ g cap, W.cell? ⟨b, 0, none⟩ = some (.slice (some ⟨g, 0, none⟩) rs.length cap) ∧ (∀ i, W.frozen? ⟨b, i, none⟩ = false) ∧ (∀ j, W.frozen? ⟨g, j, none⟩ = false) ∧ g < W.heap.size ∧
    ∀ (i : Nat) (p : Rm), rs[i]? = some p → W.cell? ⟨g, i * 4, none⟩ = some (I p.am) ∧ W.cell? ⟨g, i * 4 + 1, none⟩ = some (I p.an) ∧ W.cell? ⟨g, i * 4 + 2, none⟩ = some (I p.nd) ∧ W.cell? ⟨g, i * 4 + 3, none⟩ = some (.bool p.lv) := by
  obtain ⟨a, cap, h1, h2⟩ := h.hb
  obtain ⟨g, cap', cur, e1, _, hg, _, _, _, hx⟩ := own_open h2 (by have := h.len; omega)
  simp only [Value.slice.injEq] at e1
  obtain ⟨rfl, -, -⟩ := e1
  refine ⟨g, cap, by rw [cell_of h1]; rfl, frozen_of h1, frozen_of hg, lt_of_heap hg, fun i p hi => ?_⟩
  obtain ⟨p0, p1, p2, p3⟩ := rrows_at rs i p hi
  exact ⟨hx _ _ p0, hx _ _ p1, hx _ _ p2, hx _ _ p3⟩
end
/-- What is tells. -/
def rIs (rs : List Rm) (m : Int) : Bool := decide (0 ≤ m) && (match rs[m.toNat]? with | some p => p.lv | none => false)
set_option maxRecDepth 100000 in
set_option maxHeartbeats 1000000 in
theorem ris_any (base b : Nat) (rs : List Rm) (m : Int) (w : World) (h : Rs base w b rs) :
    Calls Tryz.prog 155 #[.pointer (some ⟨b, 0, none⟩), I m] w fun e w' => e = .returned (.bool (rIs rs m)) ∧ w' = w := by
  obtain ⟨g, cap, c0, _, _, _, hc⟩ := h.cells
  have hlen := h.len
  by_cases h0 : 0 ≤ m
  · obtain ⟨j, rfl⟩ : ∃ j : Nat, m = (j : Int) := ⟨m.toNat, by omega⟩
    by_cases hj : j < rs.length
    · obtain ⟨p, hp⟩ : ∃ p, rs[j]? = some p := ⟨_, List.getElem?_eq_getElem hj⟩
      obtain ⟨_, _, _, d3⟩ := hc j p hp
      have HR : Hid (rIs rs (j : Int) = p.lv) := by simp [Hid, rIs, hp]
      have j1 : (j : Int) < (rs.length : Int) := by omega
      obtain ⟨lv, hlv⟩ : ∃ lv, lv = p.lv := ⟨_, rfl⟩
      rw [← hlv] at d3 HR
      clear hc hp hlv h
      generalize rs.length = n at *
      go_enter Tryz.func155, Tryz.ntmps155
      go_wp2_with fail
      go_ret
      exact ⟨by rw [unhide HR]; rfl, rfl⟩
    · have HR : Hid (rIs rs (j : Int) = false) := by
        simp only [Hid, rIs, Int.toNat_natCast, List.getElem?_eq_none (Nat.le_of_not_lt hj)]; simp
      have j1 : ¬ (j : Int) < (rs.length : Int) := by omega
      clear hc h
      generalize rs.length = n at *
      go_enter Tryz.func155, Tryz.ntmps155
      go_wp2_with fail
      go_ret
      exact ⟨by rw [unhide HR]; rfl, rfl⟩
  · have HR : Hid (rIs rs m = false) := by simp [Hid, rIs, h0]
    clear hc h
    go_enter Tryz.func155, Tryz.ntmps155
    go_wp2_with fail
    go_ret
    exact ⟨by rw [unhide HR]; rfl, rfl⟩
end Go.Proofs.YtlngeaacjbdmhaaGreat.Mt

namespace Go.Proofs.YtlngeaacjbdmhaaGreat.Mt
open Go.RowKit
attribute [local go_sem ↓] Go.wp_at_zero Go.wp_at_succ
/-- The number of one that is so, from 1 on; -1: none is. -/
def Ov (rs : List Rm) (P : Rm → Bool) (r : Int) : Prop :=
  (r = -1 ∧ ∀ i p, 1 ≤ i → rs[i]? = some p → P p = false) ∨ ∃ (k : Nat) (p : Rm), r = (k : Int) ∧ 1 ≤ k ∧ rs[k]? = some p ∧ P p = true
def lvAt (m n : Int) : Rm → Bool := fun p => p.lv && decide (p.am = m ∧ p.an = n)
def lvNd (n : Int) : Rm → Bool := fun p => p.lv && decide (p.an = n)
set_option maxRecDepth 100000 in
set_option maxHeartbeats 1000000 in
theorem over_any (base b : Nat) (rs : List Rm) (m n : Int) (w : World) (h : Rs base w b rs) (hl : rs.length ≤ 1000) :
    Calls Tryz.prog 159 #[.pointer (some ⟨b, 0, none⟩), pv m n] w fun e w' => (∃ r, Ov rs (lvAt m n) r ∧ e = .returned (I r)) ∧ Below w.heap.size w w' := by
  have hlen := h.len
  obtain ⟨V, hV, hs, hx, hb⟩ : ∃ V, w.alloc (.cells #[I m, I n] 50) = V ∧ V.heap.size = w.heap.size + 1 ∧ V.heap[w.heap.size]? = some (.cells #[I m, I n] 50) ∧ Below w.heap.size w V := ⟨_, rfl, by simp, putAll _ _ rfl, below_alloc _ _⟩
  have HR := hide (h.below hb)
  have HX := hide hx
  have HB := hide hb
  obtain ⟨N, hN⟩ : ∃ N, N = rs.length := ⟨_, rfl⟩
  have HN := hide hN
  rw [← hN] at hl hlen
  clear h hb hx hN
  unfold pv
  go_enter Tryz.func159, Tryz.ntmps159
  go_wp2_with fail
  go_loopw [5] (fun v wr => ∃ k : Nat, v = I k ∧ 1 ≤ k ∧ k ≤ N ∧ (∀ i p, 1 ≤ i → i < k → rs[i]? = some p → lvAt m n p = false) ∧ Below V.heap.size V wr) (fun v _ => N - (intOf v).toNat)
  case atStart => exact ⟨1, rfl, Nat.le_refl _, by omega, fun i p h1 h2 => by omega, Below.refl _ _⟩
  case round =>
    obtain ⟨k, rfl, hk1, hk, hno, hbr⟩ := hrel
    have hR := (unhide HR).below hbr
    obtain ⟨g, cap, c0, _, _, _, hc⟩ := hR.cells
    rw [← unhide HN] at c0
    obtain ⟨p0, p1⟩ := cells2 ((hbr.block w.heap.size (by omega)).trans (unhide HX))
    have HBR := hide hbr
    by_cases hkn : k < N
    · obtain ⟨p, hp⟩ : ∃ p, rs[k]? = some p := ⟨_, List.getElem?_eq_getElem (by have := unhide HN; omega)⟩
      obtain ⟨d0, d1, d2, d3⟩ := hc k p hp
      have j1 : (k : Int) < (N : Int) := by omega
      have j0 : (0 : Int) ≤ (k : Int) := by omega
      have HP := hide hp
      have HNO := hide hno
      clear hR hc hp hno hbr
      obtain ⟨am, an, nd, lv⟩ := p
      simp only [] at d0 d1 d2 d3
      by_cases hP : lv = true ∧ am = m ∧ an = n
      · obtain ⟨rfl, rfl, rfl⟩ := hP
        go_wp2_with fail
        go_quiet (fail)
        go_wp2_with fail
        go_ret
        exact ⟨⟨_, .inr ⟨k, _, rfl, hk1, unhide HP, by simp [lvAt]⟩, rfl⟩, (unhide HB).trans ((below_dn (unhide HBR) _).mono (by omega))⟩
      · have HPf : Hid (lvAt m n ⟨am, an, nd, lv⟩ = false) := by
          cases lv <;> simp_all [Hid, lvAt]
        have HREL : Hid (∀ i p, 1 ≤ i → i < k + 1 → rs[i]? = some p → lvAt m n p = false) := by
          intro i q h1 h2 h3
          by_cases e : i = k
          · subst e
            rw [unhide HP] at h3
            cases h3
            exact unhide HPf
          · exact unhide HNO i q h1 (by omega) h3
        clear HPf HNO HP
        cases lv with
        | false =>
          clear hP
          go_wp2_with fail
          go_quiet (fail)
          go_wp2_with fail
          go_roundw
          case rel => exact ⟨k + 1, by go_num, by omega, by omega, unhide HREL, below_dn (unhide HBR) _⟩
          case measure => simp [intOf]; omega
        | true =>
          by_cases e1 : am = m
          · have e2 : ¬ an = n := fun e => hP ⟨rfl, e1, e⟩
            subst e1
            clear hP
            go_wp2_with fail
            go_quiet (fail)
            go_wp2_with fail
            go_roundw
            case rel => exact ⟨k + 1, by go_num, by omega, by omega, unhide HREL, below_dn (unhide HBR) _⟩
            case measure => simp [intOf]; omega
          · clear hP
            go_wp2_with fail
            go_quiet (fail)
            go_wp2_with fail
            go_roundw
            case rel => exact ⟨k + 1, by go_num, by omega, by omega, unhide HREL, below_dn (unhide HBR) _⟩
            case measure => simp [intOf]; omega
    · obtain rfl : k = N := by omega
      have HNO := hide hno
      clear hR hc hno hbr
      go_wp2_with fail
      go_ret
      refine ⟨⟨_, .inl ⟨rfl, fun i p h1 h2 => unhide HNO i p h1 ?_ h2⟩, rfl⟩, (unhide HB).trans ((unhide HBR).mono (by omega))⟩
      have := (List.getElem?_eq_some_iff.1 h2).1
      have := unhide HN
      omega
end Go.Proofs.YtlngeaacjbdmhaaGreat.Mt

namespace Go.Proofs.YtlngeaacjbdmhaaGreat.Mt
open Go.RowKit
attribute [local go_sem ↓] Go.wp_at_zero Go.wp_at_succ
def rNd (rs : List Rm) (m : Int) : Int := match rs[m.toNat]? with | some p => p.nd | none => 0
/-- Numbers of those that are so, from lo on. -/
def nums (rs : List Rm) (P : Rm → Bool) (lo k : Nat) : List Int := ((List.range k).filter fun i => decide (lo ≤ i) && (match rs[i]? with | some p => P p | none => false)).map (fun (i : Nat) => (i : Int))
theorem nums_yes {rs : List Rm} {P : Rm → Bool} {lo k : Nat} {p : Rm} (h : rs[k]? = some p) (hl : lo ≤ k) (hp : P p = true) : nums rs P lo (k + 1) = nums rs P lo k ++ [(k : Int)] := by
  rw [nums, nums, List.range_succ, List.filter_append, List.map_append]
  simp [h, hl, hp]
theorem nums_no {rs : List Rm} {P : Rm → Bool} {lo k : Nat} {p : Rm} (h : rs[k]? = some p) (hp : P p = false) : nums rs P lo (k + 1) = nums rs P lo k := by
  rw [nums, nums, List.range_succ, List.filter_append, List.map_append]
  simp [h, hp]
theorem nums_len (rs : List Rm) (P : Rm → Bool) (lo k : Nat) : (nums rs P lo k).length ≤ k := by
  have := List.length_filter_le (fun i => decide (lo ≤ i) && (match rs[i]? with | some p => P p | none => false)) (List.range k)
  simp [nums] at this ⊢
  omega
theorem nums_zero (rs : List Rm) (P : Rm → Bool) (lo : Nat) : nums rs P lo lo = [] := by
  rw [nums, List.map_eq_nil_iff, List.filter_eq_nil_iff]
  intro i hi
  rw [List.mem_range] at hi
  simp; omega
def lvAll : Rm → Bool := fun p => p.lv
def lvIn (m : Int) : Rm → Bool := fun p => p.lv && decide (p.am = m)
set_option maxRecDepth 100000 in
set_option maxHeartbeats 1000000 in
theorem rlist_any (base b : Nat) (rs : List Rm) (w : World) (h : Rs base w b rs) (hl : rs.length ≤ 1000) :
    Calls Tryz.prog 114 #[.pointer (some ⟨b, 0, none⟩)] w fun e w' => ∃ v, e = .returned v ∧ w'.ownsRow w.heap.size 3 1 v (nums rs lvAll 0 rs.length).length (ints (nums rs lvAll 0 rs.length)) ∧ Below w.heap.size w w' := by
  have hlen := h.len
  obtain ⟨i0, hi, hz0, hz1, hz2⟩ := info_parts info3
  obtain ⟨N, hN⟩ : ∃ N, N = rs.length := ⟨_, rfl⟩
  have HN := hide hN
  rw [← hN] at hl hlen ⊢
  have HR := hide h
  clear h hN
  go_enter Tryz.func114, Tryz.ntmps114
  go_wp2_with fail
  go_loopw [3, 4] (fun vo v wr => ∃ k : Nat, v = I k ∧ 0 ≤ k ∧ k ≤ N ∧ wr.ownsRow w.heap.size 3 1 vo (nums rs lvAll 0 k).length (ints (nums rs lvAll 0 k)) ∧ Below w.heap.size w wr) (fun _ v _ => N - (intOf v).toNat)
  case atStart => exact ⟨0, rfl, Nat.le_refl _, by omega, by rw [nums_zero]; exact World.ownsRow_nil _ _ _ _, Below.refl _ _⟩
  case round =>
    obtain ⟨k, rfl, hk1, hk, own, hbr⟩ := hrel
    have hR := (unhide HR).below hbr
    obtain ⟨g, cap, c0, _, _, _, hc⟩ := hR.cells
    rw [← unhide HN] at c0
    have hs4 := hbr.size
    by_cases hkn : k < N
    · obtain ⟨p, hp⟩ : ∃ p, rs[k]? = some p := ⟨_, List.getElem?_eq_getElem (by have := unhide HN; omega)⟩
      obtain ⟨d0, d1, d2, d3⟩ := hc k p hp
      have j1 : (k : Int) < (N : Int) := by omega
      have j0 : (0 : Int) ≤ (k : Int) := by omega
      have hil := nums_len rs lvAll 0 k
      cases hP : lvAll p with
      | true =>
        have own5 := own_keep (W' := wr.alloc (.cells #[I (k : Int)] 3)) own (fun k cur hc => Below.heap_alloc wr _ _ (lt_of_heap hc))
        obtain ⟨v', W5, hrun, own6, hgr, -, -⟩ := run_append_own_at (P := Tryz.prog) (wr.alloc (.cells #[I (k : Int)] 3)) w.heap.size 72 72 3 i0 (I 0) 1 8 Tryz.underlying72 hi hz0 hz1 hz2 rfl (by decide) _ _ _ own5 ⟨wr.heap.size, 0, none⟩ 1 1 [I (k : Int)] rfl (cell_one_new wr _ _) (by intro u hu; simp at hu; subst hu; rfl) (by unfold maxLen; omega) (by omega) (by simp; omega)
        have hb5 := below_grown (hbr.alloc hbr.size _) own5 hgr (by simp; omega)
        have HREL := hide (⟨k + 1, by go_num, by omega, by omega, by rw [nums_yes hp hk1 hP, List.length_append]; simpa [ints] using own6, hb5⟩ : ∃ k' : Nat, I ((k : Int) + 1) = I (k' : Int) ∧ 0 ≤ k' ∧ k' ≤ N ∧ W5.ownsRow w.heap.size 3 1 v' (nums rs lvAll 0 k').length (ints (nums rs lvAll 0 k')) ∧ Below w.heap.size w W5)
        obtain ⟨q', cp, rfl⟩ := own_form own6
        rw [show p.lv = true from hP] at d3
        clear own own5 own6 hgr hb5 hR hc hp hil
        go_wp2_with (at_builtin; refine wpList_append_eq rfl _ _ 72 rfl 72 rfl _ _ rfl rfl _ _ hrun ?_)
        go_roundw
        case rel => exact unhide HREL
        case measure => simp [intOf]; omega
      | false =>
        have HREL := hide (⟨k + 1, by go_num, by omega, by omega, by rw [nums_no hp hP]; exact own, hbr⟩ : ∃ k' : Nat, I ((k : Int) + 1) = I (k' : Int) ∧ 0 ≤ k' ∧ k' ≤ N ∧ wr.ownsRow w.heap.size 3 1 _ (nums rs lvAll 0 k').length (ints (nums rs lvAll 0 k')) ∧ Below w.heap.size w wr)
        rw [show p.lv = false from hP] at d3
        clear own hR hc hp hil
        go_wp2_with fail
        go_roundw
        case rel => exact unhide HREL
        case measure => simp [intOf]; omega
    · obtain rfl : k = N := by omega
      have HO := hide own
      have HB := hide hbr
      clear hR hc own hbr
      go_wp2_with fail
      go_ret
      exact ⟨_, rfl, unhide HO, unhide HB⟩
set_option maxRecDepth 100000 in
set_option maxHeartbeats 1000000 in
theorem rabove_any (base b : Nat) (rs : List Rm) (m : Int) (w : World) (h : Rs base w b rs) (hl : rs.length ≤ 1000) :
    Calls Tryz.prog 156 #[.pointer (some ⟨b, 0, none⟩), I m] w fun e w' => ∃ v, e = .returned v ∧ w'.ownsRow w.heap.size 3 1 v (nums rs (lvIn m) 1 rs.length).length (ints (nums rs (lvIn m) 1 rs.length)) ∧ Below w.heap.size w w' := by
  have hlen := h.len
  obtain ⟨i0, hi, hz0, hz1, hz2⟩ := info_parts info3
  obtain ⟨N, hN⟩ : ∃ N, N = rs.length := ⟨_, rfl⟩
  have HN := hide hN
  rw [← hN] at hl hlen ⊢
  have HR := hide h
  clear h hN
  go_enter Tryz.func156, Tryz.ntmps156
  go_wp2_with fail
  go_loopw [5, 6] (fun vo v wr => ∃ k : Nat, v = I k ∧ 1 ≤ k ∧ k ≤ N ∧ wr.ownsRow w.heap.size 3 1 vo (nums rs (lvIn m) 1 k).length (ints (nums rs (lvIn m) 1 k)) ∧ Below w.heap.size w wr) (fun _ v _ => N - (intOf v).toNat)
  case atStart => exact ⟨1, rfl, Nat.le_refl _, by omega, by rw [nums_zero]; exact World.ownsRow_nil _ _ _ _, Below.refl _ _⟩
  case round =>
    obtain ⟨k, rfl, hk1, hk, own, hbr⟩ := hrel
    have hR := (unhide HR).below hbr
    obtain ⟨g, cap, c0, _, _, _, hc⟩ := hR.cells
    rw [← unhide HN] at c0
    have hs4 := hbr.size
    by_cases hkn : k < N
    · obtain ⟨p, hp⟩ : ∃ p, rs[k]? = some p := ⟨_, List.getElem?_eq_getElem (by have := unhide HN; omega)⟩
      obtain ⟨d0, d1, d2, d3⟩ := hc k p hp
      have j1 : (k : Int) < (N : Int) := by omega
      have j0 : (0 : Int) ≤ (k : Int) := by omega
      have hil := nums_len rs (lvIn m) 1 k
      cases hP : (lvIn m) p with
      | true =>
        have own5 := own_keep (W' := wr.alloc (.cells #[I (k : Int)] 3)) own (fun k cur hc => Below.heap_alloc wr _ _ (lt_of_heap hc))
        obtain ⟨v', W5, hrun, own6, hgr, -, -⟩ := run_append_own_at (P := Tryz.prog) (wr.alloc (.cells #[I (k : Int)] 3)) w.heap.size 72 72 3 i0 (I 0) 1 8 Tryz.underlying72 hi hz0 hz1 hz2 rfl (by decide) _ _ _ own5 ⟨wr.heap.size, 0, none⟩ 1 1 [I (k : Int)] rfl (cell_one_new wr _ _) (by intro u hu; simp at hu; subst hu; rfl) (by unfold maxLen; omega) (by omega) (by simp; omega)
        have hb5 := below_grown (hbr.alloc hbr.size _) own5 hgr (by simp; omega)
        have HREL := hide (⟨k + 1, by go_num, by omega, by omega, by rw [nums_yes hp hk1 hP, List.length_append]; simpa [ints] using own6, hb5⟩ : ∃ k' : Nat, I ((k : Int) + 1) = I (k' : Int) ∧ 1 ≤ k' ∧ k' ≤ N ∧ W5.ownsRow w.heap.size 3 1 v' (nums rs (lvIn m) 1 k').length (ints (nums rs (lvIn m) 1 k')) ∧ Below w.heap.size w W5)
        obtain ⟨q', cp, rfl⟩ := own_form own6
        have hq : p.lv = true ∧ p.am = m := by simpa [lvIn] using hP
        rw [hq.1] at d3
        have hm := hq.2
        rw [hm] at d0
        clear hm hq
        clear own own5 own6 hgr hb5 hR hc hp hil
        go_wp2_with (at_builtin; refine wpList_append_eq rfl _ _ 72 rfl 72 rfl _ _ rfl rfl _ _ hrun ?_)
        go_roundw
        case rel => exact unhide HREL
        case measure => simp [intOf]; omega
      | false =>
        have HREL := hide (⟨k + 1, by go_num, by omega, by omega, by rw [nums_no hp hP]; exact own, hbr⟩ : ∃ k' : Nat, I ((k : Int) + 1) = I (k' : Int) ∧ 1 ≤ k' ∧ k' ≤ N ∧ wr.ownsRow w.heap.size 3 1 _ (nums rs (lvIn m) 1 k').length (ints (nums rs (lvIn m) 1 k')) ∧ Below w.heap.size w wr)
        cases hv : p.lv with
        | false =>
          rw [hv] at d3
          clear own hR hc hp hil hP
          go_wp2_with fail
          go_roundw
          case rel => exact unhide HREL
          case measure => simp [intOf]; omega
        | true =>
          rw [hv] at d3
          have hm : ¬ p.am = m := by simpa [lvIn, hv] using hP
          clear own hR hc hp hil hP
          go_wp2_with fail
          go_roundw
          case rel => exact unhide HREL
          case measure => simp [intOf]; omega
    · obtain rfl : k = N := by omega
      have HO := hide own
      have HB := hide hbr
      clear hR hc own hbr
      go_wp2_with fail
      go_ret
      exact ⟨_, rfl, unhide HO, unhide HB⟩
end Go.Proofs.YtlngeaacjbdmhaaGreat.Mt

namespace Go.Proofs.YtlngeaacjbdmhaaGreat.Mt
/-- Mounts with numbers above m. -/
def abo (es : Ents) (m : Int) : Nat := (es.filter fun p => decide (m < p.n)).length
end Go.Proofs.YtlngeaacjbdmhaaGreat.Mt

namespace Go.Proofs.YtlngeaacjbdmhaaGreat.Mt
open Go.RowKit
theorem abv_nil {es : Ents} {m : Int} : (abv es m).length = 0 ↔ any es (isM m) = false := by
  rw [any_false, abv, List.length_map, List.length_eq_zero_iff, List.filter_eq_nil_iff]
  simp
/-- Unbind is done where the mount is there, is not 0, and none lies in it. -/
theorem unb_ok {B : Int} {t : T} (h : Wf B t) (m : Int) : unbE t.es m = 0 ↔ (m ≠ 0 ∧ rootIs t.es m = true ∧ (abv t.es m).length = 0) := by
  rw [abv_nil]
  constructor
  · intro hz
    obtain ⟨h1, h2⟩ := unbE_zero hz
    obtain ⟨p, hp, he⟩ := any_iff.1 h1
    have hn := h.num p hp
    simp [isN] at he
    exact ⟨by omega, by rw [rootIs, if_neg (by omega), h1], h2⟩
  · rintro ⟨h0, h1, h2⟩
    rw [rootIs, if_neg h0] at h1
    simp [unbE, h1, h2]
theorem unb_same {t : T} {m : Int} (hz : unbE t.es m ≠ 0) : t.unbind m = t := by rw [T.unbind, if_neg hz]
theorem bind_same {t : T} {am an nd : Int} (hz : bindE t.es am an ≠ 0) : t.bind am an nd = t := by rw [T.bind, if_neg hz]
/-- The sum of the first i. -/
def sm (t : T) (i : Nat) : Nat := (((lst t.es).take i).map fun k => (abv t.es k).length).sum
end Go.Proofs.YtlngeaacjbdmhaaGreat.Mt

namespace Go.Proofs.YtlngeaacjbdmhaaGreat.Mt
open Go.RowKit
/-- The document's mounts are those that are there, by their numbers. -/
structure RT (t : T) (rs : List Rm) : Prop where
  len : (rs.length : Int) = t.md + 1
  zero : rs[0]? = some ⟨0, 0, t.rt, true⟩
  live : ∀ p ∈ t.es, rs[p.n.toNat]? = some ⟨p.am, p.an, p.top, true⟩
  only : ∀ (i : Nat) (q : Rm), 1 ≤ i → rs[i]? = some q → q.lv = true → ∃ p ∈ t.es, p.n = (i : Int)
section
variable {B : Int} {t : T} {rs : List Rm}
theorem RT.new (r : Int) : RT ⟨r, 0, []⟩ [⟨0, 0, r, true⟩] := by
  refine ⟨by simp, rfl, by simp, fun i q h1 h2 => ?_⟩
  have := (List.getElem?_eq_some_iff.1 h2).1
  simp at this
  omega
theorem RT.is (h : RT t rs) (hw : Wf B t) (m : Int) : rIs rs m = rootIs t.es m := by
  unfold rootIs
  by_cases h0 : m = 0
  · subst h0
    simp [rIs, h.zero]
  · rw [if_neg h0]
    cases ha : any t.es (isN m) with
    | true =>
      obtain ⟨p, hp, he⟩ := any_iff.1 ha
      simp [isN] at he
      have h1 := h.live p hp
      have h2 := hw.num p hp
      rw [he] at h1
      simp [rIs, h1]
      omega
    | false =>
      unfold rIs
      by_cases hm : 0 ≤ m
      · cases hq : rs[m.toNat]? with
        | none => simp
        | some q =>
          cases hl : q.lv with
          | false => simp [hl]
          | true =>
            obtain ⟨p, hp, he⟩ := h.only m.toNat q (by omega) hq hl
            have := any_false.1 ha p hp
            simp [isN] at this
            omega
      · simp [hm]
theorem RT.over (h : RT t rs) (hw : Wf B t) {m n r : Int} (ho : Ov rs (lvAt m n) r) : r = if any t.es (isAt m n) then (fst t.es (isAt m n)).n else -1 := by
  cases ha : any t.es (isAt m n) with
  | true =>
    obtain ⟨f1, f2⟩ := fst_mem ha
    simp only [isAt, decide_eq_true_eq] at f2
    have hl := h.live _ f1
    have hn := hw.num _ f1
    simp only [if_true]
    rcases ho with ⟨rfl, hno⟩ | ⟨k, q, rfl, hk, hq, hP⟩
    · have := hno _ _ (by omega) hl
      simp [lvAt, f2.1, f2.2] at this
    · simp only [lvAt, Bool.and_eq_true, decide_eq_true_eq] at hP
      obtain ⟨p, hp, he⟩ := h.only k q hk hq hP.1
      have h2 := h.live p hp
      rw [he, Int.toNat_natCast, hq] at h2
      cases h2
      simp only [] at hP
      have : p = fst t.es (isAt m n) := by
        refine Classical.byContradiction fun hne => ?_
        have hpw := hw.one
        rcases List.mem_iff_getElem.1 hp with ⟨i, hi, ei⟩
        rcases List.mem_iff_getElem.1 f1 with ⟨j, hj, ej⟩
        rcases Nat.lt_trichotomy i j with hij | hij | hij
        · have := List.pairwise_iff_getElem.1 hpw i j hi hj hij
          rw [ei, ej] at this
          exact this ⟨hP.2.1.trans f2.1.symm, hP.2.2.trans f2.2.symm⟩
        · subst hij
          exact hne (ei.symm.trans ej)
        · have := List.pairwise_iff_getElem.1 hpw j i hj hi hij
          rw [ei, ej] at this
          exact this ⟨f2.1.trans hP.2.1.symm, f2.2.trans hP.2.2.symm⟩
      rw [← this]
      exact he.symm
  | false =>
    simp only [Bool.false_eq_true, if_false]
    rcases ho with ⟨rfl, hno⟩ | ⟨k, q, rfl, hk, hq, hP⟩
    · rfl
    · simp only [lvAt, Bool.and_eq_true, decide_eq_true_eq] at hP
      obtain ⟨p, hp, he⟩ := h.only k q hk hq hP.1
      have h2 := h.live p hp
      rw [he, Int.toNat_natCast, hq] at h2
      cases h2
      have := any_false.1 ha p hp
      simp only [isAt, decide_eq_false_iff_not] at this
      exact absurd hP.2 this
theorem RT.root (h : RT t rs) (hw : Wf B t) (m : Int) : (if rIs rs m then rNd rs m else 0) = rootTop t.rt t.es m := by
  rw [h.is hw]
  unfold rootIs rootTop
  by_cases h0 : m = 0
  · subst h0
    simp [rNd, h.zero]
  · rw [if_neg h0, if_neg h0]
    cases ha : any t.es (isN m) with
    | true =>
      obtain ⟨f1, f2⟩ := fst_mem ha
      simp only [isN, decide_eq_true_eq] at f2
      have hl := h.live _ f1
      rw [f2] at hl
      simp [rNd, hl]
    | false =>
      unfold any at ha
      cases hf : t.es.find? (isN m) with
      | none => simp [fst, hf]
      | some p => rw [hf] at ha; simp at ha
/-- Two lists of numbers that rise and have the same members are one. -/
theorem rise_ext : ∀ {l m : List Int}, l.Pairwise (· < ·) → m.Pairwise (· < ·) → (∀ e, e ∈ l ↔ e ∈ m) → l = m
  | [], [], _, _, _ => rfl
  | [], b :: m, _, _, h => by have := (h b).2 (by simp); simp at this
  | a :: l, [], _, _, h => by have := (h a).1 (by simp); simp at this
  | a :: l, b :: m, hl, hm, h => by
    obtain ⟨l1, l2⟩ := List.pairwise_cons.1 hl
    obtain ⟨m1, m2⟩ := List.pairwise_cons.1 hm
    have hab : a = b := by
      rcases List.mem_cons.1 ((h a).1 (by simp)) with e | ha
      · exact e
      · rcases List.mem_cons.1 ((h b).2 (by simp)) with e | hb
        · exact e.symm
        · have := m1 a ha; have := l1 b hb; omega
    subst hab
    congr 1
    refine rise_ext l2 m2 fun e => ⟨fun he => ?_, fun he => ?_⟩
    · rcases List.mem_cons.1 ((h e).1 (List.mem_cons_of_mem _ he)) with e1 | e1
      · have := l1 e he; omega
      · exact e1
    · rcases List.mem_cons.1 ((h e).2 (List.mem_cons_of_mem _ he)) with e1 | e1
      · have := m1 e he; omega
      · exact e1
theorem nums_rise (rs : List Rm) (P : Rm → Bool) (lo k : Nat) : (nums rs P lo k).Pairwise (· < ·) := by
  rw [nums]
  refine List.pairwise_map.2 ((List.pairwise_lt_range.filter _).imp fun h => ?_)
  omega
theorem nums_mem {rs : List Rm} {P : Rm → Bool} {lo : Nat} {x : Int} : x ∈ nums rs P lo rs.length ↔ ∃ (i : Nat) (q : Rm), x = (i : Int) ∧ lo ≤ i ∧ rs[i]? = some q ∧ P q = true := by
  rw [nums, List.mem_map]
  constructor
  · rintro ⟨i, hi, rfl⟩
    rw [List.mem_filter] at hi
    obtain ⟨h1, h2⟩ := hi
    simp only [Bool.and_eq_true, decide_eq_true_eq] at h2
    cases hq : rs[i]? with
    | none => rw [hq] at h2; simp at h2
    | some q => rw [hq] at h2; exact ⟨i, q, rfl, h2.1, hq, h2.2⟩
  · rintro ⟨i, q, rfl, h1, h2, h3⟩
    refine ⟨i, List.mem_filter.2 ⟨List.mem_range.2 (List.getElem?_eq_some_iff.1 h2).1, ?_⟩, rfl⟩
    simp [h1, h2, h3]
theorem RT.list (h : RT t rs) (hw : Wf B t) : nums rs lvAll 0 rs.length = lst t.es := by
  refine rise_ext (nums_rise _ _ _ _) ?_ fun x => ?_
  · rw [lst]
    refine List.pairwise_cons.2 ⟨fun a ha => ?_, List.pairwise_map.2 hw.rise⟩
    obtain ⟨p, hp, rfl⟩ := List.mem_map.1 ha
    exact hw.num p hp
  · rw [nums_mem, lst, List.mem_cons, List.mem_map]
    constructor
    · rintro ⟨i, q, rfl, _, hq, hl⟩
      by_cases e : i = 0
      · subst e; exact .inl rfl
      · obtain ⟨p, hp, he⟩ := h.only i q (by omega) hq hl
        exact .inr ⟨p, hp, he⟩
    · rintro (rfl | ⟨p, hp, rfl⟩)
      · exact ⟨0, _, rfl, Nat.le_refl _, h.zero, rfl⟩
      · exact ⟨p.n.toNat, _, by have := hw.num p hp; omega, Nat.zero_le _, h.live p hp, rfl⟩
theorem RT.above (h : RT t rs) (hw : Wf B t) (m : Int) : nums rs (lvIn m) 1 rs.length = abv t.es m := by
  refine rise_ext (nums_rise _ _ _ _) ?_ fun x => ?_
  · rw [abv]
    exact List.pairwise_map.2 (hw.rise.filter _)
  · rw [nums_mem, abv, List.mem_map]
    constructor
    · rintro ⟨i, q, rfl, h1, hq, hP⟩
      simp only [lvIn, Bool.and_eq_true, decide_eq_true_eq] at hP
      obtain ⟨p, hp, he⟩ := h.only i q h1 hq hP.1
      have h2 := h.live p hp
      rw [he, Int.toNat_natCast, hq] at h2
      cases h2
      exact ⟨p, List.mem_filter.2 ⟨hp, by simpa [isM] using hP.2⟩, he⟩
    · rintro ⟨p, hp, rfl⟩
      obtain ⟨hp, hm⟩ := List.mem_filter.1 hp
      have hn := hw.num p hp
      exact ⟨p.n.toNat, _, by omega, by omega, h.live p hp, by simpa [lvIn, isM] using hm⟩
theorem RT.bind (h : RT t rs) (hw : Wf B t) {am an : Int} (nd : Int) (hz : bindE t.es am an = 0) : RT (t.bind am an nd) (rs ++ [⟨am, an, nd, true⟩]) := by
  have hp := hw.pos
  have hl := h.len
  rw [T.bind, if_pos hz]
  refine ⟨by simp; omega, ?_, fun p hp' => ?_, fun i q h1 h2 h3 => ?_⟩
  · rw [List.getElem?_append_left (by omega)]; exact h.zero
  · rcases List.mem_append.1 hp' with hp' | hp'
    · have := (hw.eld p hp').2
      have := hw.num p hp'
      rw [List.getElem?_append_left (by omega)]
      exact h.live p hp'
    · simp at hp'; subst hp'
      simp only []
      rw [List.getElem?_append_right (by omega), show (t.md + 1).toNat - rs.length = 0 by omega]
      rfl
  · by_cases e : i < rs.length
    · rw [List.getElem?_append_left e] at h2
      obtain ⟨p, q1, q2⟩ := h.only i q h1 h2 h3
      exact ⟨p, List.mem_append_left _ q1, q2⟩
    · have := (List.getElem?_eq_some_iff.1 h2).1
      simp at this
      exact ⟨⟨t.md + 1, nd, am, an⟩, by simp, by simp only []; omega⟩
theorem RT.unb (h : RT t rs) (hw : Wf B t) {m : Int} (hz : unbE t.es m = 0) : ∃ (j : Nat) (p : Rm), m = (j : Int) ∧ rs[j]? = some p ∧ RT (t.unbind m) (rs.set j { p with lv := false }) := by
  obtain ⟨h1, h2⟩ := unbE_zero hz
  obtain ⟨x, hx, he⟩ := any_iff.1 h1
  simp [isN] at he
  have hn := hw.num x hx
  have hl := h.live x hx
  rw [he] at hl
  refine ⟨m.toNat, _, by omega, hl, ?_⟩
  rw [T.unbind, if_pos hz]
  have hj : m.toNat < rs.length := (List.getElem?_eq_some_iff.1 hl).1
  refine ⟨by simpa using h.len, ?_, fun p hp => ?_, fun i q q1 q2 q3 => ?_⟩
  · rw [List.getElem?_set_ne (by omega)]; exact h.zero
  · obtain ⟨hp, hne⟩ := List.mem_filter.1 hp
    simp [isN] at hne
    have := hw.num p hp
    rw [List.getElem?_set_ne (by omega)]
    exact h.live p hp
  · by_cases e : i = m.toNat
    · subst e
      rw [List.getElem?_set_self hj] at q2
      cases q2
      simp at q3
    · rw [List.getElem?_set_ne (fun e' => e e'.symm)] at q2
      obtain ⟨p, r1, r2⟩ := h.only i q q1 q2 q3
      refine ⟨p, List.mem_filter.2 ⟨r1, ?_⟩, r2⟩
      simp [isN]
      omega
end
end Go.Proofs.YtlngeaacjbdmhaaGreat.Mt
