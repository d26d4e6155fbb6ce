/-
  The contract of Down: the top of the last of those that lie over one another.
-/
import Derived.Test.YtlngeaacjbdmhaaGreatQp28
import Derived.Sort.AtCall
import Derived.Laws.Cover1
import Derived.Sort.Walk0
import Derived.Deep.RegionLaw
import Derived.Test.YtlngeaacjbdmhaaGreatRows
import Derived.WalkKit
import Derived.Test.YtlngeaacjbdmhaaGreatQp05
import Derived.Test.YtlngeaacjbdmhaaGreatQp19
namespace Go.Proofs.YtlngeaacjbdmhaaGreat.Mt
open Go.RowKit
attribute [local go_sem ↓] Go.wp_at_zero Go.wp_at_succ
def Eld (md : Int) (es : Ents) : Prop := ∀ p ∈ es, p.am < p.n ∧ p.n ≤ md
theorem fst_mem {es : Ents} {P : Ld → Bool} (h : any es P = true) : fst es P ∈ es ∧ P (fst es P) = true := by
  unfold any at h
  obtain ⟨p, hp⟩ := Option.isSome_iff_exists.1 h
  rw [fst, hp]
  exact ⟨List.mem_of_find?_eq_some hp, List.find?_some hp⟩
def dn (es : Ents) : Nat → Int → Int → Int × Int
  | 0, m, n => (m, n)
  | k + 1, m, n => if any es (isAt m n) then dn es k (fst es (isAt m n)).n (fst es (isAt m n)).top else (m, n)
def fuel (md m : Int) : Nat := (md + 1 - m).toNat
def down (md : Int) (es : Ents) (m n : Int) : Int × Int := dn es (fuel md m) m n
theorem Eld.next {md : Int} {es : Ents} (h : Eld md es) {m n : Int} (ha : any es (isAt m n) = true) : m < (fst es (isAt m n)).n ∧ (fst es (isAt m n)).n ≤ md := by
  obtain ⟨h1, h2⟩ := fst_mem ha
  have h3 := h _ h1
  simp only [isAt, decide_eq_true_eq] at h2
  rw [h2.1] at h3
  exact h3
theorem dn_stop {es : Ents} (k : Nat) {m n : Int} (ha : any es (isAt m n) = false) : dn es k m n = (m, n) := by
  cases k with
  | zero => rfl
  | succ j => rw [dn, ha]; rfl
theorem dn_same {md : Int} {es : Ents} (h : Eld md es) : ∀ (k k' : Nat) (m n : Int), fuel md m ≤ k → fuel md m ≤ k' → dn es k m n = dn es k' m n := by
  intro k
  induction k with
  | zero =>
    intro k' m n hk _
    cases ha : any es (isAt m n) with
    | false => rw [dn_stop _ ha, dn_stop _ ha]
    | true =>
      obtain ⟨h1, h2⟩ := h.next ha
      simp only [fuel] at hk
      omega
  | succ k ih =>
    intro k' m n hk hk'
    cases ha : any es (isAt m n) with
    | false => rw [dn_stop _ ha, dn_stop _ ha]
    | true =>
      obtain ⟨h1, h2⟩ := h.next ha
      cases k' with
      | zero => simp only [fuel] at hk'; omega
      | succ j =>
        rw [dn, dn, ha]
        simp only [if_true]
        exact ih _ _ _ (by simp only [fuel] at *; omega) (by simp only [fuel] at *; omega)
theorem dn_fuel {md : Int} {es : Ents} (h : Eld md es) (k : Nat) (m n : Int) (hk : fuel md m ≤ k) : dn es k m n = down md es m n := dn_same h _ _ _ _ hk (Nat.le_refl _)
theorem down_step {md : Int} {es : Ents} (h : Eld md es) {m n : Int} (ha : any es (isAt m n) = true) : down md es m n = down md es (fst es (isAt m n)).n (fst es (isAt m n)).top := by
  obtain ⟨h1, h2⟩ := h.next ha
  have e : fuel md m = (fuel md m - 1) + 1 := by simp only [fuel] at *; omega
  rw [down, e, dn, ha]
  simp only [if_true]
  exact dn_fuel h _ _ _ (by simp only [fuel] at *; omega)
theorem down_stop {md : Int} {es : Ents} {m n : Int} (ha : any es (isAt m n) = false) : down md es m n = (m, n) := by
  rw [down]
  cases fuel md m with
  | zero => rfl
  | succ j => rw [dn, ha]; rfl
def cInt (W : World) (h : Nat) : Int := match W.cell? ⟨h, 0, none⟩ with | some (.int _ x) => x | _ => 0
set_option maxRecDepth 100000 in
set_option maxHeartbeats 1000000 in
theorem down_any (base b : Nat) (rt md m n : Int) (es : Ents) (w : World) (hG : Ls base w b rt md es) (hes : es.length ≤ 1000) (hE : Eld md es) :
    Calls Tryz.prog 38 #[.pointer (some ⟨b, 0, none⟩), pv m n] w fun e w' => e = .returned (pv (down md es m n).1 (down md es m n).2) ∧ Below w.heap.size w w' := by
  have HE := hide hE
  have hbl := hG.lt
  have HL := hide (fun m n W (hB : Below w.heap.size w W) => lyingAt_any base b rt md m n es W (hG.below hB) hes)
  obtain ⟨r, hr⟩ : ∃ r, r = down md es m n := ⟨_, rfl⟩
  rw [← hr]
  have Hr := hide hr
  obtain ⟨V, hV, hs, hx, hz, hb⟩ := two0 w (.cells #[I m, I n] 50) (.cells #[I 0, I 0] 50)
  have HB := hide hb
  have HX := hide hx
  have HZ := hide hz
  clear hG hE hr hb hx hz
  unfold pv
  go_enter Tryz.func38, Tryz.ntmps38
  go_wp2_with fail
  generalize hh : w.heap.size = h at *
  go_loopw [6] (fun _ wr => ∃ m n : Int, r = down md es m n ∧ wr.heap[h]? = some (.cells #[I m, I n] 50) ∧ wr.heap[h + 1]? = some (.cells #[I 0, I 0] 50) ∧ Below h w wr) (fun _ wr => (md + 1 - cInt wr h).toNat)
  case atStart => exact ⟨m, n, unhide Hr, unhide HX, unhide HZ, unhide HB⟩
  case round =>
    clear hV hs HB HX HZ Hr
    obtain ⟨m, n, hr, hx, hz, hb⟩ := hrel
    have HF := hide (unhide HL m n wr hb)
    obtain ⟨x0, x1⟩ := cells2 hx
    have HX := hide hx
    have HZ := hide hz
    have HB := hide hb
    have Hr := hide hr
    clear hx hz hb hr
    have hcm : cInt wr h = m := by rw [cInt, x0]
    have Hc := hide hcm
    clear hcm
    obtain ⟨x, hx⟩ : ∃ x, x = fst es (isAt m n) := ⟨_, rfl⟩
    rw [← hx] at HF
    have HP : Hid (any es (isAt m n) = true → m < x.n ∧ x.n ≤ md ∧ r = down md es x.n x.top) := by
      intro ha
      obtain ⟨h1, h2⟩ := (unhide HE).next ha
      rw [hx]
      exact ⟨h1, h2, (unhide Hr).trans (down_step (unhide HE) ha)⟩
    clear hx
    cases ha : any es (isAt m n) with
    | false =>
      rw [ha] at HF
      have He : Hid (r = (m, n)) := hide ((unhide Hr).trans (down_stop ha))
      clear ha HP Hr HL HE
      go_wp2_with fail
      refine (unhide HF).mono ?_
      rintro e w1 ⟨rfl, hB⟩
      have hz1 := (Below.heap_alloc w1 (.cells #[I x.n, I x.top, I x.am, I x.an] 182) _ (by have := hB.size; have := lt_of_heap (unhide HZ); omega)).trans ((hB.block _ (lt_of_heap (unhide HZ))).trans (unhide HZ))
      have hx1 := (Below.heap_alloc w1 (.cells #[I x.n, I x.top, I x.am, I x.an] 182) _ (by have := hB.size; have := lt_of_heap (unhide HX); omega)).trans ((hB.block _ (lt_of_heap (unhide HX))).trans (unhide HX))
      have hB2 : Below h w (w1.alloc (.cells #[I x.n, I x.top, I x.am, I x.an] 182)) := ((unhide HB).trans (hB.mono (by have := lt_of_heap (unhide HX); omega))).alloc (by have := hB.size; have := lt_of_heap (unhide HX); omega) _
      obtain ⟨W2, hW2⟩ : ∃ W2, w1.alloc (.cells #[I x.n, I x.top, I x.am, I x.an] 182) = W2 := ⟨_, rfl⟩
      rw [hW2] at hz1 hx1 hB2
      obtain ⟨p0, p1⟩ := cells2 hx1
      obtain ⟨X1, X2, ⟨x1', x2'⟩, ⟨c0, c1⟩, ⟨f0, f1⟩, q1, hfr, hsx⟩ := store2 hz1 (I m) (I n)
      obtain ⟨z0, z1⟩ := cells2 q1
      have HE := hide (hB2.trans (hfr.base (B := h) (by have := lt_of_heap hx1; omega) (by simp)))
      clear hfr hsx q1 hB2 hz1 hx1 hB HF HB HX HZ x0 x1
      unfold lv
      go_wp2_with fail
      refine bodyPost_ret (v := .agg #[I m, I n]) (by simp [results, Tryz.results38, go_sem, z0, z1]) rfl ?_
      rw [unhide He, hh]
      exact ⟨rfl, unhide HE⟩
    | true =>
      rw [ha] at HF
      obtain ⟨g1, g2, g3⟩ := unhide HP ha
      have Hg := hide (⟨g1, g2, g3⟩ : m < x.n ∧ x.n ≤ md ∧ r = down md es x.n x.top)
      clear ha HP Hr HL HE g1 g2 g3
      go_wp2_with fail
      refine (unhide HF).mono ?_
      rintro e w1 ⟨rfl, hB⟩
      have hz1 := (Below.heap_alloc w1 (.cells #[I x.n, I x.top, I x.am, I x.an] 182) _ (by have := hB.size; have := lt_of_heap (unhide HZ); omega)).trans ((hB.block _ (lt_of_heap (unhide HZ))).trans (unhide HZ))
      have hx1 := (Below.heap_alloc w1 (.cells #[I x.n, I x.top, I x.am, I x.an] 182) _ (by have := hB.size; have := lt_of_heap (unhide HX); omega)).trans ((hB.block _ (lt_of_heap (unhide HX))).trans (unhide HX))
      have hm1 : (w1.alloc (.cells #[I x.n, I x.top, I x.am, I x.an] 182)).heap[w1.heap.size]? = some (.cells #[I x.n, I x.top, I x.am, I x.an] 182) := putAll _ _ rfl
      have hB2 : Below h w (w1.alloc (.cells #[I x.n, I x.top, I x.am, I x.an] 182)) := ((unhide HB).trans (hB.mono (by have := lt_of_heap (unhide HX); omega))).alloc (by have := hB.size; have := lt_of_heap (unhide HX); omega) _
      obtain ⟨W2, hW2⟩ : ∃ W2, w1.alloc (.cells #[I x.n, I x.top, I x.am, I x.an] 182) = W2 := ⟨_, rfl⟩
      rw [hW2] at hz1 hx1 hm1 hB2
      obtain ⟨p0, p1⟩ := cells2 hx1
      obtain ⟨l0, l1, l2, l3⟩ := cells4 hm1
      obtain ⟨X1, X2, ⟨x1', x2'⟩, ⟨c0, c1⟩, ⟨f0, f1⟩, q1, hfr, hsx⟩ := store2 hx1 (I x.n) (I x.top)
      have HE := hide (hB2.trans (hfr.base (B := h) (by have := lt_of_heap hx1; omega) (by simp)))
      have Hq := hide q1
      have Hz := hide ((hfr.blk (h + 1) (lt_of_heap hz1) (by simp)).trans hz1)
      clear hfr hsx q1 hB2 hz1 hx1 hm1 hB HF HB HX HZ x0 x1
      unfold lv
      go_wp2_with fail
      go_roundw
      case rel => exact ⟨x.n, x.top, (unhide Hg).2.2, unhide Hq, unhide Hz, unhide HE⟩
      case measure =>
        have e1 : cInt X2 h = x.n := by rw [cInt, cell_of (unhide Hq)]; rfl
        rw [e1, unhide Hc]
        have := unhide Hg
        omega
end Go.Proofs.YtlngeaacjbdmhaaGreat.Mt

namespace Go.Proofs.YtlngeaacjbdmhaaGreat.Mt
open Go.RowKit
structure T where
  rt : Int
  md : Int
  es : Ents
structure Wf (B : Int) (t : T) : Prop where
  rise : Rise t.es
  eld : Eld t.md t.es
  le : t.es.length ≤ 7
  pos : 0 ≤ t.md ∧ t.md ≤ B
  num : ∀ p ∈ t.es, 0 < p.n
  up : ∀ p ∈ t.es, rootIs t.es p.am = true
  one : t.es.Pairwise fun p q => ¬ (p.am = q.am ∧ p.an = q.an)
def T.bind (t : T) (am an nd : Int) : T := if bindE t.es am an = 0 then ⟨t.rt, t.md + 1, t.es ++ [⟨t.md + 1, nd, am, an⟩]⟩ else t
def T.unbind (t : T) (m : Int) : T := if unbE t.es m = 0 then ⟨t.rt, t.md, unb t.es m⟩ else t
theorem Wf.new (r : Int) : Wf 0 ⟨r, 0, []⟩ := by
  refine ⟨?_, ?_, ?_, ?_, ?_, ?_, ?_⟩ <;> simp [Rise, Eld]
theorem Wf.mono {B B' : Int} {t : T} (h : Wf B t) (hB : B ≤ B') : Wf B' t := ⟨h.rise, h.eld, h.le, ⟨h.pos.1, by have := h.pos.2; omega⟩, h.num, h.up, h.one⟩
theorem any_append {es fs : Ents} {P : Ld → Bool} : any (es ++ fs) P = (any es P || any fs P) := by
  simp [any, List.find?_append]
theorem rootIs_append {es fs : Ents} {m : Int} (h : rootIs es m = true) : rootIs (es ++ fs) m = true := by
  unfold rootIs at *
  split at h
  · rename_i e
    rw [if_pos e]
  · rename_i e
    rw [if_neg e, any_append, h]; rfl
theorem bindE_zero {es : Ents} {am an : Int} (h : bindE es am an = 0) : rootIs es am = true ∧ any es (isAt am an) = false ∧ es.length < 7 := by
  unfold bindE at h
  cases h1 : rootIs es am with
  | false => simp [h1] at h
  | true =>
    cases h2 : any es (isAt am an) with
    | true => simp [h1, h2] at h
    | false =>
      simp [h1, h2] at h
      exact ⟨rfl, rfl, by omega⟩
theorem root_le {B : Int} {t : T} (h : Wf B t) {m : Int} (hr : rootIs t.es m = true) : m ≤ t.md := by
  unfold rootIs at hr
  split at hr
  · have := h.pos; omega
  · obtain ⟨p, hp, he⟩ := any_iff.1 hr
    simp [isN] at he
    have := (h.eld p hp).2
    omega
theorem Wf.bind {B : Int} {t : T} (h : Wf B t) (am an nd : Int) : Wf (B + 1) (t.bind am an nd) := by
  unfold T.bind
  split
  · rename_i hz
    obtain ⟨h1, h2, h3⟩ := bindE_zero hz
    have hle := root_le h h1
    have hp := h.pos
    refine ⟨?_, ?_, ?_, ?_, ?_, ?_, ?_⟩
    · refine List.pairwise_append.2 ⟨h.rise, by simp, fun p hp' q hq => ?_⟩
      simp at hq; subst hq
      have := (h.eld p hp').2
      simp; omega
    · intro p hp'
      rcases List.mem_append.1 hp' with hp' | hp'
      · have := h.eld p hp'
        simp; omega
      · simp at hp'; subst hp'
        simp; omega
    · simp; omega
    · simp; omega
    · intro p hp'
      rcases List.mem_append.1 hp' with hp' | hp'
      · exact h.num p hp'
      · simp at hp'; subst hp'; simp; omega
    · intro p hp'
      rcases List.mem_append.1 hp' with hp' | hp'
      · exact rootIs_append (h.up p hp')
      · simp at hp'; subst hp'; exact rootIs_append h1
    · refine List.pairwise_append.2 ⟨h.one, by simp, fun p hp' q hq => ?_⟩
      simp at hq; subst hq
      have := any_false.1 h2 p hp'
      simpa [isAt] using this
  · exact h.mono (by omega)
theorem unbE_zero {es : Ents} {m : Int} (h : unbE es m = 0) : any es (isN m) = true ∧ any es (isM m) = false := by
  unfold unbE at h
  cases h1 : any es (isN m) with
  | false => simp [h1] at h
  | true =>
    cases h2 : any es (isM m) with
    | true => simp [h1, h2] at h
    | false => exact ⟨rfl, rfl⟩
theorem Wf.unbind {B : Int} {t : T} (h : Wf B t) (m : Int) : Wf B (t.unbind m) := by
  unfold T.unbind
  split
  · rename_i hz
    obtain ⟨h1, h2⟩ := unbE_zero hz
    have hsub : (unb t.es m).Sublist t.es := List.filter_sublist
    refine ⟨h.rise.sublist hsub, fun p hp => h.eld p (hsub.subset hp), ?_, h.pos, fun p hp => h.num p (hsub.subset hp), fun p hp => ?_, h.one.sublist hsub⟩
    · have := hsub.length_le; have := h.le; simp; omega
    · have hp' := hsub.subset hp
      have hu := h.up p hp'
      have hne : ¬ p.am = m := by
        have := any_false.1 h2 p hp'
        simpa [isM] using this
      unfold rootIs at hu ⊢
      split
      · rfl
      · rename_i h0
        rw [if_neg h0] at hu
        obtain ⟨q, hq, he⟩ := any_iff.1 hu
        refine any_iff.2 ⟨q, List.mem_filter.2 ⟨hq, ?_⟩, he⟩
        simp [isN] at he ⊢
        omega
  · exact h
structure Tq (B : Int) (base : Nat) (W : World) (b : Nat) (t : T) : Prop where
  ls : Ls base W b t.rt t.md t.es
  wf : Wf B t
theorem Tq.below {B : Int} {base : Nat} {W W' : World} {b : Nat} {t : T} (h : Tq B base W b t) (g : Below W.heap.size W W') : Tq B base W' b t := ⟨h.ls.below g, h.wf⟩
theorem Tq.fm {B : Int} {base : Nat} {W W' : World} {b : Nat} {t : T} (h : Tq B base W b t) (hk : ∀ (k : Nat) (cur : Array Value) (ty : TypeId), W.heap[k]? = some (.cells cur ty (0, 0)) → (k = b ∨ ty = 182) → W'.heap[k]? = W.heap[k]?) : Tq B base W' b t := ⟨h.ls.keep hk, h.wf⟩
theorem new_Q (r : Int) (w : World) : Calls Tryz.prog 96 #[I r] w fun e w' => e = .returned (.pointer (some ⟨w.heap.size, 0, none⟩)) ∧ Tq 0 w.heap.size w' w.heap.size ⟨r, 0, []⟩ ∧ Below w.heap.size w w' :=
  (new_any r w).mono fun _ _ ⟨h1, h2, h3⟩ => ⟨h1, ⟨h2, Wf.new r⟩, h3⟩
section
variable {B : Int} {base : Nat} {w : World} {b : Nat} {t : T}
theorem up_Q (h : Tq B base w b t) (m n : Int) :
    Calls Tryz.prog 272 #[.pointer (some ⟨b, 0, none⟩), pv m n] w fun e w' => e = .returned (.tuple #[pv (upM t.es m n) (upN t.es m n), .bool (upIs t.es m n)]) ∧ Below w.heap.size w w' :=
  up_any base b t.rt t.md m n t.es w h.ls (by have := h.wf.le; omega)
end
end Go.Proofs.YtlngeaacjbdmhaaGreat.Mt

namespace Go.Proofs.YtlngeaacjbdmhaaGreat.Mt
open Go.RowKit
attribute [local go_sem ↓] Go.wp_at_zero Go.wp_at_succ
structure Rm where
  am : Int
  an : Int
  nd : Int
  lv : Bool
def rrow (p : Rm) : List Value := [I p.am, I p.an, I p.nd, .bool p.lv]
theorem rrow_length (p : Rm) : (rrow p).length = 4 := rfl
theorem rrows_at (es : List Rm) (i : Nat) (p : Rm) (h : es[i]? = some p) : (rowsOf rrow es)[i * 4]? = some (I p.am) ∧ (rowsOf rrow es)[i * 4 + 1]? = some (I p.an) ∧ (rowsOf rrow es)[i * 4 + 2]? = some (I p.nd) ∧ (rowsOf rrow es)[i * 4 + 3]? = some (.bool p.lv) := by
  have e0 := rowsOf_get rrow 4 rrow_length es i 0 p h (by omega)
  have e1 := rowsOf_get rrow 4 rrow_length es i 1 p h (by omega)
  have e2 := rowsOf_get rrow 4 rrow_length es i 2 p h (by omega)
  have e3 := rowsOf_get rrow 4 rrow_length es i 3 p h (by omega)
  rw [show i * 4 = 4 * i + 0 by omega, show 4 * i + 0 + 1 = 4 * i + 1 by omega, show 4 * i + 0 + 2 = 4 * i + 2 by omega, show 4 * i + 0 + 3 = 4 * i + 3 by omega]
  exact ⟨e0, e1, e2, e3⟩
structure Rs (base : Nat) (W : World) (b : Nat) (rs : List Rm) : Prop where
  hb : ∃ a cap, W.heap[b]? = some (.cells #[.slice a rs.length cap] 226) ∧ W.ownsRow base 223 4 (.slice a rs.length cap) rs.length (rowsOf rrow rs)
  kb : base ≤ b
  ne : rs ≠ []
section
variable {base : Nat} {W W' : World} {b : Nat} {rs : List Rm}
theorem Rs.lt (h : Rs base W b rs) : b < W.heap.size := by
  obtain ⟨a, cap, h1, _⟩ := h.hb
  exact lt_of_heap h1
theorem Rs.keep (h : Rs base W b rs) (hk : ∀ (k : Nat) (cur : Array Value) (t : TypeId), W.heap[k]? = some (.cells cur t (0, 0)) → (k = b ∨ t = 223) → W'.heap[k]? = W.heap[k]?) : Rs base W' b rs := by
  obtain ⟨a, cap, h1, h2⟩ := h.hb
  exact ⟨⟨a, cap, (hk b _ _ h1 (.inl rfl)).trans h1, own_keep h2 fun k cur hc => hk k cur 223 hc (.inr rfl)⟩, h.kb, h.ne⟩
theorem Rs.below (h : Rs base W b rs) (g : Below W.heap.size W W') : Rs base W' b rs := h.keep fun k _ _ hk _ => g.block k (lt_of_heap hk)
theorem Rs.len (h : Rs base W b rs) : 0 < rs.length := List.length_pos_iff.2 h.ne
theorem Rs.cells (h : Rs base W b rs) : ∃ g cap, W.cell? ⟨b, 0, none⟩ = some (.slice (some ⟨g, 0, none⟩) rs.length cap) ∧ (∀ i, W.frozen? ⟨b, i, none⟩ = false) ∧ (∀ j, W.frozen? ⟨g, j, none⟩ = false) ∧ g < W.heap.size ∧
    ∀ (i : Nat) (p : Rm), rs[i]? = some p → W.cell? ⟨g, i * 4, none⟩ = some (I p.am) ∧ W.cell? ⟨g, i * 4 + 1, none⟩ = some (I p.an) ∧ W.cell? ⟨g, i * 4 + 2, none⟩ = some (I p.nd) ∧ W.cell? ⟨g, i * 4 + 3, none⟩ = some (.bool p.lv) := by
  obtain ⟨a, cap, h1, h2⟩ := h.hb
  obtain ⟨g, cap', cur, e1, _, hg, _, _, _, hx⟩ := own_open h2 (by have := h.len; omega)
  simp only [Value.slice.injEq] at e1
  obtain ⟨rfl, -, -⟩ := e1
  refine ⟨g, cap, by rw [cell_of h1]; rfl, frozen_of h1, frozen_of hg, lt_of_heap hg, fun i p hi => ?_⟩
  obtain ⟨p0, p1, p2, p3⟩ := rrows_at rs i p hi
  exact ⟨hx _ _ p0, hx _ _ p1, hx _ _ p2, hx _ _ p3⟩
end
def rIs (rs : List Rm) (m : Int) : Bool := decide (0 ≤ m) && (match rs[m.toNat]? with | some p => p.lv | none => false)
end Go.Proofs.YtlngeaacjbdmhaaGreat.Mt

namespace Go.Proofs.YtlngeaacjbdmhaaGreat.Mt
open Go.RowKit
attribute [local go_sem ↓] Go.wp_at_zero Go.wp_at_succ
def Ov (rs : List Rm) (P : Rm → Bool) (r : Int) : Prop :=
  (r = -1 ∧ ∀ i p, 1 ≤ i → rs[i]? = some p → P p = false) ∨ ∃ (k : Nat) (p : Rm), r = (k : Int) ∧ 1 ≤ k ∧ rs[k]? = some p ∧ P p = true
def lvAt (m n : Int) : Rm → Bool := fun p => p.lv && decide (p.am = m ∧ p.an = n)
end Go.Proofs.YtlngeaacjbdmhaaGreat.Mt

namespace Go.Proofs.YtlngeaacjbdmhaaGreat.Mt
open Go.RowKit
attribute [local go_sem ↓] Go.wp_at_zero Go.wp_at_succ
def rNd (rs : List Rm) (m : Int) : Int := match rs[m.toNat]? with | some p => p.nd | none => 0
def nums (rs : List Rm) (P : Rm → Bool) (lo k : Nat) : List Int := ((List.range k).filter fun i => decide (lo ≤ i) && (match rs[i]? with | some p => P p | none => false)).map (fun (i : Nat) => (i : Int))
def lvAll : Rm → Bool := fun p => p.lv
def lvIn (m : Int) : Rm → Bool := fun p => p.lv && decide (p.am = m)
end Go.Proofs.YtlngeaacjbdmhaaGreat.Mt

namespace Go.Proofs.YtlngeaacjbdmhaaGreat.Mt
end Go.Proofs.YtlngeaacjbdmhaaGreat.Mt

namespace Go.Proofs.YtlngeaacjbdmhaaGreat.Mt
open Go.RowKit
def sm (t : T) (i : Nat) : Nat := (((lst t.es).take i).map fun k => (abv t.es k).length).sum
end Go.Proofs.YtlngeaacjbdmhaaGreat.Mt

namespace Go.Proofs.YtlngeaacjbdmhaaGreat.Mt
open Go.RowKit
structure RT (t : T) (rs : List Rm) : Prop where
  len : (rs.length : Int) = t.md + 1
  zero : rs[0]? = some ⟨0, 0, t.rt, true⟩
  live : ∀ p ∈ t.es, rs[p.n.toNat]? = some ⟨p.am, p.an, p.top, true⟩
  only : ∀ (i : Nat) (q : Rm), 1 ≤ i → rs[i]? = some q → q.lv = true → ∃ p ∈ t.es, p.n = (i : Int)
section
variable {B : Int} {t : T} {rs : List Rm}
theorem RT.new (r : Int) : RT ⟨r, 0, []⟩ [⟨0, 0, r, true⟩] := by
  refine ⟨by simp, rfl, by simp, fun i q h1 h2 => ?_⟩
  have := (List.getElem?_eq_some_iff.1 h2).1
  simp at this
  omega
theorem RT.is (h : RT t rs) (hw : Wf B t) (m : Int) : rIs rs m = rootIs t.es m := by
  unfold rootIs
  by_cases h0 : m = 0
  · subst h0
    simp [rIs, h.zero]
  · rw [if_neg h0]
    cases ha : any t.es (isN m) with
    | true =>
      obtain ⟨p, hp, he⟩ := any_iff.1 ha
      simp [isN] at he
      have h1 := h.live p hp
      have h2 := hw.num p hp
      rw [he] at h1
      simp [rIs, h1]
      omega
    | false =>
      unfold rIs
      by_cases hm : 0 ≤ m
      · cases hq : rs[m.toNat]? with
        | none => simp
        | some q =>
          cases hl : q.lv with
          | false => simp [hl]
          | true =>
            obtain ⟨p, hp, he⟩ := h.only m.toNat q (by omega) hq hl
            have := any_false.1 ha p hp
            simp [isN] at this
            omega
      · simp [hm]
theorem RT.over (h : RT t rs) (hw : Wf B t) {m n r : Int} (ho : Ov rs (lvAt m n) r) : r = if any t.es (isAt m n) then (fst t.es (isAt m n)).n else -1 := by
  cases ha : any t.es (isAt m n) with
  | true =>
    obtain ⟨f1, f2⟩ := fst_mem ha
    simp only [isAt, decide_eq_true_eq] at f2
    have hl := h.live _ f1
    have hn := hw.num _ f1
    simp only [if_true]
    rcases ho with ⟨rfl, hno⟩ | ⟨k, q, rfl, hk, hq, hP⟩
    · have := hno _ _ (by omega) hl
      simp [lvAt, f2.1, f2.2] at this
    · simp only [lvAt, Bool.and_eq_true, decide_eq_true_eq] at hP
      obtain ⟨p, hp, he⟩ := h.only k q hk hq hP.1
      have h2 := h.live p hp
      rw [he, Int.toNat_natCast, hq] at h2
      cases h2
      simp only [] at hP
      have : p = fst t.es (isAt m n) := by
        refine Classical.byContradiction fun hne => ?_
        have hpw := hw.one
        rcases List.mem_iff_getElem.1 hp with ⟨i, hi, ei⟩
        rcases List.mem_iff_getElem.1 f1 with ⟨j, hj, ej⟩
        rcases Nat.lt_trichotomy i j with hij | hij | hij
        · have := List.pairwise_iff_getElem.1 hpw i j hi hj hij
          rw [ei, ej] at this
          exact this ⟨hP.2.1.trans f2.1.symm, hP.2.2.trans f2.2.symm⟩
        · subst hij
          exact hne (ei.symm.trans ej)
        · have := List.pairwise_iff_getElem.1 hpw j i hj hi hij
          rw [ei, ej] at this
          exact this ⟨f2.1.trans hP.2.1.symm, f2.2.trans hP.2.2.symm⟩
      rw [← this]
      exact he.symm
  | false =>
    simp only [Bool.false_eq_true, if_false]
    rcases ho with ⟨rfl, hno⟩ | ⟨k, q, rfl, hk, hq, hP⟩
    · rfl
    · simp only [lvAt, Bool.and_eq_true, decide_eq_true_eq] at hP
      obtain ⟨p, hp, he⟩ := h.only k q hk hq hP.1
      have h2 := h.live p hp
      rw [he, Int.toNat_natCast, hq] at h2
      cases h2
      have := any_false.1 ha p hp
      simp only [isAt, decide_eq_false_iff_not] at this
      exact absurd hP.2 this
theorem RT.root (h : RT t rs) (hw : Wf B t) (m : Int) : (if rIs rs m then rNd rs m else 0) = rootTop t.rt t.es m := by
  rw [h.is hw]
  unfold rootIs rootTop
  by_cases h0 : m = 0
  · subst h0
    simp [rNd, h.zero]
  · rw [if_neg h0, if_neg h0]
    cases ha : any t.es (isN m) with
    | true =>
      obtain ⟨f1, f2⟩ := fst_mem ha
      simp only [isN, decide_eq_true_eq] at f2
      have hl := h.live _ f1
      rw [f2] at hl
      simp [rNd, hl]
    | false =>
      unfold any at ha
      cases hf : t.es.find? (isN m) with
      | none => simp [fst, hf]
      | some p => rw [hf] at ha; simp at ha
theorem rise_ext : ∀ {l m : List Int}, l.Pairwise (· < ·) → m.Pairwise (· < ·) → (∀ e, e ∈ l ↔ e ∈ m) → l = m
  | [], [], _, _, _ => rfl
  | [], b :: m, _, _, h => by have := (h b).2 (by simp); simp at this
  | a :: l, [], _, _, h => by have := (h a).1 (by simp); simp at this
  | a :: l, b :: m, hl, hm, h => by
    obtain ⟨l1, l2⟩ := List.pairwise_cons.1 hl
    obtain ⟨m1, m2⟩ := List.pairwise_cons.1 hm
    have hab : a = b := by
      rcases List.mem_cons.1 ((h a).1 (by simp)) with e | ha
      · exact e
      · rcases List.mem_cons.1 ((h b).2 (by simp)) with e | hb
        · exact e.symm
        · have := m1 a ha; have := l1 b hb; omega
    subst hab
    congr 1
    refine rise_ext l2 m2 fun e => ⟨fun he => ?_, fun he => ?_⟩
    · rcases List.mem_cons.1 ((h e).1 (List.mem_cons_of_mem _ he)) with e1 | e1
      · have := l1 e he; omega
      · exact e1
    · rcases List.mem_cons.1 ((h e).2 (List.mem_cons_of_mem _ he)) with e1 | e1
      · have := m1 e he; omega
      · exact e1
theorem nums_rise (rs : List Rm) (P : Rm → Bool) (lo k : Nat) : (nums rs P lo k).Pairwise (· < ·) := by
  rw [nums]
  refine List.pairwise_map.2 ((List.pairwise_lt_range.filter _).imp fun h => ?_)
  omega
theorem nums_mem {rs : List Rm} {P : Rm → Bool} {lo : Nat} {x : Int} : x ∈ nums rs P lo rs.length ↔ ∃ (i : Nat) (q : Rm), x = (i : Int) ∧ lo ≤ i ∧ rs[i]? = some q ∧ P q = true := by
  rw [nums, List.mem_map]
  constructor
  · rintro ⟨i, hi, rfl⟩
    rw [List.mem_filter] at hi
    obtain ⟨h1, h2⟩ := hi
    simp only [Bool.and_eq_true, decide_eq_true_eq] at h2
    cases hq : rs[i]? with
    | none => rw [hq] at h2; simp at h2
    | some q => rw [hq] at h2; exact ⟨i, q, rfl, h2.1, hq, h2.2⟩
  · rintro ⟨i, q, rfl, h1, h2, h3⟩
    refine ⟨i, List.mem_filter.2 ⟨List.mem_range.2 (List.getElem?_eq_some_iff.1 h2).1, ?_⟩, rfl⟩
    simp [h1, h2, h3]
theorem RT.list (h : RT t rs) (hw : Wf B t) : nums rs lvAll 0 rs.length = lst t.es := by
  refine rise_ext (nums_rise _ _ _ _) ?_ fun x => ?_
  · rw [lst]
    refine List.pairwise_cons.2 ⟨fun a ha => ?_, List.pairwise_map.2 hw.rise⟩
    obtain ⟨p, hp, rfl⟩ := List.mem_map.1 ha
    exact hw.num p hp
  · rw [nums_mem, lst, List.mem_cons, List.mem_map]
    constructor
    · rintro ⟨i, q, rfl, _, hq, hl⟩
      by_cases e : i = 0
      · subst e; exact .inl rfl
      · obtain ⟨p, hp, he⟩ := h.only i q (by omega) hq hl
        exact .inr ⟨p, hp, he⟩
    · rintro (rfl | ⟨p, hp, rfl⟩)
      · exact ⟨0, _, rfl, Nat.le_refl _, h.zero, rfl⟩
      · exact ⟨p.n.toNat, _, by have := hw.num p hp; omega, Nat.zero_le _, h.live p hp, rfl⟩
theorem RT.above (h : RT t rs) (hw : Wf B t) (m : Int) : nums rs (lvIn m) 1 rs.length = abv t.es m := by
  refine rise_ext (nums_rise _ _ _ _) ?_ fun x => ?_
  · rw [abv]
    exact List.pairwise_map.2 (hw.rise.filter _)
  · rw [nums_mem, abv, List.mem_map]
    constructor
    · rintro ⟨i, q, rfl, h1, hq, hP⟩
      simp only [lvIn, Bool.and_eq_true, decide_eq_true_eq] at hP
      obtain ⟨p, hp, he⟩ := h.only i q h1 hq hP.1
      have h2 := h.live p hp
      rw [he, Int.toNat_natCast, hq] at h2
      cases h2
      exact ⟨p, List.mem_filter.2 ⟨hp, by simpa [isM] using hP.2⟩, he⟩
    · rintro ⟨p, hp, rfl⟩
      obtain ⟨hp, hm⟩ := List.mem_filter.1 hp
      have hn := hw.num p hp
      exact ⟨p.n.toNat, _, by omega, by omega, h.live p hp, by simpa [lvIn, isM] using hm⟩
theorem RT.bind (h : RT t rs) (hw : Wf B t) {am an : Int} (nd : Int) (hz : bindE t.es am an = 0) : RT (t.bind am an nd) (rs ++ [⟨am, an, nd, true⟩]) := by
  have hp := hw.pos
  have hl := h.len
  rw [T.bind, if_pos hz]
  refine ⟨by simp; omega, ?_, fun p hp' => ?_, fun i q h1 h2 h3 => ?_⟩
  · rw [List.getElem?_append_left (by omega)]; exact h.zero
  · rcases List.mem_append.1 hp' with hp' | hp'
    · have := (hw.eld p hp').2
      have := hw.num p hp'
      rw [List.getElem?_append_left (by omega)]
      exact h.live p hp'
    · simp at hp'; subst hp'
      simp only []
      rw [List.getElem?_append_right (by omega), show (t.md + 1).toNat - rs.length = 0 by omega]
      rfl
  · by_cases e : i < rs.length
    · rw [List.getElem?_append_left e] at h2
      obtain ⟨p, q1, q2⟩ := h.only i q h1 h2 h3
      exact ⟨p, List.mem_append_left _ q1, q2⟩
    · have := (List.getElem?_eq_some_iff.1 h2).1
      simp at this
      exact ⟨⟨t.md + 1, nd, am, an⟩, by simp, by simp only []; omega⟩
theorem RT.unb (h : RT t rs) (hw : Wf B t) {m : Int} (hz : unbE t.es m = 0) : ∃ (j : Nat) (p : Rm), m = (j : Int) ∧ rs[j]? = some p ∧ RT (t.unbind m) (rs.set j { p with lv := false }) := by
  obtain ⟨h1, h2⟩ := unbE_zero hz
  obtain ⟨x, hx, he⟩ := any_iff.1 h1
  simp [isN] at he
  have hn := hw.num x hx
  have hl := h.live x hx
  rw [he] at hl
  refine ⟨m.toNat, _, by omega, hl, ?_⟩
  rw [T.unbind, if_pos hz]
  have hj : m.toNat < rs.length := (List.getElem?_eq_some_iff.1 hl).1
  refine ⟨by simpa using h.len, ?_, fun p hp => ?_, fun i q q1 q2 q3 => ?_⟩
  · rw [List.getElem?_set_ne (by omega)]; exact h.zero
  · obtain ⟨hp, hne⟩ := List.mem_filter.1 hp
    simp [isN] at hne
    have := hw.num p hp
    rw [List.getElem?_set_ne (by omega)]
    exact h.live p hp
  · by_cases e : i = m.toNat
    · subst e
      rw [List.getElem?_set_self hj] at q2
      cases q2
      simp at q3
    · rw [List.getElem?_set_ne (fun e' => e e'.symm)] at q2
      obtain ⟨p, r1, r2⟩ := h.only i q q1 q2 q3
      refine ⟨p, List.mem_filter.2 ⟨r1, ?_⟩, r2⟩
      simp [isN]
      omega
end
end Go.Proofs.YtlngeaacjbdmhaaGreat.Mt

namespace Go.Proofs.YtlngeaacjbdmhaaGreat.Mt
open Go.RowKit
attribute [local go_sem ↓] Go.wp_at_zero Go.wp_at_succ
structure Fq (base b : Nat) (w w' : World) : Prop where
  os : w'.os = w.os
  tape : w'.tape = w.tape
  output : w'.output = w.output
  size : w.heap.size ≤ w'.heap.size
  low : ∀ k, k < base → w'.heap[k]? = w.heap[k]?
  blk : ∀ (k : Nat) (o : Obj), w.heap[k]? = some o → k ≠ b → (∀ cur, o ≠ .cells cur 223 (0, 0)) → w'.heap[k]? = some o
theorem Fq.of_below {base b : Nat} {w w' : World} (h : Below w.heap.size w w') (hb : base ≤ w.heap.size) : Fq base b w w' :=
  ⟨h.os, h.tape, h.output, h.size, fun k hk => h.block k (by omega), fun k _ hk _ _ => (h.block k (lt_of_heap hk)).trans hk⟩
theorem Fq.trans {base b : Nat} {u v w : World} (h : Fq base b u v) (g : Fq base b v w) : Fq base b u w :=
  ⟨g.os.trans h.os, g.tape.trans h.tape, g.output.trans h.output, Nat.le_trans h.size g.size, fun k hk => (g.low k hk).trans (h.low k hk), fun k o h1 h2 h3 => g.blk k o (h.blk k o h1 h2 h3) h2 h3⟩
theorem Fq.below {base b : Nat} {w w' : World} (h : Fq base b w w') : Below base w w' := ⟨h.os, h.tape, h.output, h.size, h.low⟩
set_option maxHeartbeats 400000 in
theorem rnew_any (r : Int) (w : World) :
    Calls Tryz.prog 97 #[I r] w fun e w' => e = .returned (.pointer (some ⟨w.heap.size + 1, 0, none⟩)) ∧ Rs w.heap.size w' (w.heap.size + 1) [⟨0, 0, r, true⟩] ∧ Below w.heap.size w w' := by
  go_enter Tryz.func97, Tryz.ntmps97
  go_wp2_with fail
  go_ret
  refine ⟨rfl, ⟨⟨some ⟨w.heap.size, 0, none⟩, 1, putAll _ _ (by simp), ⟨rfl, .inr ⟨w.heap.size, 1, _, rfl, Nat.le_refl _, (Below.heap_alloc _ _ _ (by simp)).trans (putAll _ _ rfl), Nat.le_refl _, by decide, rfl, rfl⟩⟩⟩, by omega, by simp⟩, ((Below.refl _ w).alloc (Nat.le_refl _) _).alloc (by simp) _⟩
section
variable {B : Int} {t : T} {rs : List Rm} {base b : Nat} {w : World}
end
end Go.Proofs.YtlngeaacjbdmhaaGreat.Mt

namespace Go.Proofs.YtlngeaacjbdmhaaGreat.Mt
open Go.RowKit
attribute [local go_sem ↓] Go.wp_at_zero Go.wp_at_succ
section
variable {B : Int} {t : T} {rs : List Rm} {base b : Nat} {w W : World}
end
end Go.Proofs.YtlngeaacjbdmhaaGreat.Mt

namespace Go.Proofs.YtlngeaacjbdmhaaGreat.Mt
open Go.RowKit
attribute [local go_sem ↓] Go.wp_at_zero Go.wp_at_succ
section
variable {B : Int} {t : T} {rs : List Rm} {base b : Nat} {w : World}
end
end Go.Proofs.YtlngeaacjbdmhaaGreat.Mt

namespace Go.Proofs.YtlngeaacjbdmhaaGreat.Kr
open Go.RowKit
theorem toNat_of (x : Int) : ((BitVec.ofInt 64 x).toNat : Int) = x % 18446744073709551616 := by
  rw [BitVec.toNat_ofInt]
  omega
theorem wrap_small {n : Nat} (h : n < 9223372036854775808) : IntKind.i64.wrap (n : Int) = n := by
  simp only [IntKind.wrap, IntKind.bits, IntKind.signed]
  simp
  omega
theorem wrap_zero {n : Nat} (h : n < 18446744073709551616) : IntKind.i64.wrap (n : Int) = 0 ↔ n = 0 := by
  simp only [IntKind.wrap, IntKind.bits, IntKind.signed]
  simp
  split <;> omega
theorem and_mask (n k m : Nat) (h : m &&& (2 ^ k - 1) = m) : n &&& m = (n % 2 ^ k) &&& m := by
  rw [← Nat.and_two_pow_sub_one_eq_mod, Nat.and_assoc, Nat.and_comm (2 ^ k - 1) m, h]
def lo (x : Int) : Nat := (x % 8).toNat
theorem lo_lt (x : Int) : lo x < 8 := by unfold lo; omega
theorem lo_mod (x : Int) : (BitVec.ofInt 64 x).toNat % 8 = lo x := by
  have := toNat_of x
  unfold lo
  omega
theorem and_of (x : Int) (m : Nat) (hm : m < 1024) : bits .and .i64 x m = (((x % 1024).toNat &&& m : Nat) : Int) := by
  have h0 : m &&& (2 ^ 10 - 1) = m := by rw [Nat.and_two_pow_sub_one_eq_mod]; omega
  have h1 := toNat_of x
  have h2 : (BitVec.ofInt 64 x).toNat % 2 ^ 10 = (x % 1024).toNat := by omega
  have h3 : (BitVec.ofInt 64 (m : Int)).toNat = m := by have := toNat_of m; omega
  show IntKind.i64.wrap ((BitVec.ofInt 64 x &&& BitVec.ofInt 64 (m : Int)).toNat : Int) = _
  rw [BitVec.toNat_and, h3, and_mask _ 10 m h0, h2]
  apply wrap_small
  have : (x % 1024).toNat &&& m ≤ m := Nat.and_le_right
  omega
theorem and7 (x : Int) : bits .and .i64 x 7 = lo x := by
  rw [show (7 : Int) = ((7 : Nat) : Int) from rfl, and_of x 7 (by omega), and_mask _ 3 7 (by decide), show (7 : Nat) = 2 ^ 3 - 1 from rfl, Nat.and_two_pow_sub_one_eq_mod]
  unfold lo
  omega
def has (w m : Nat) : Bool := w &&& m == w
theorem bv_not (a b : BitVec 64) : a &&& ~~~b = 0#64 ↔ a &&& b = a := by
  constructor
  · intro h
    ext i hi
    have := congrArg (fun v => v.getLsbD i) h
    simp [BitVec.getLsbD_eq_getElem hi] at this
    simp
    exact this
  · intro h
    ext i hi
    have := congrArg (fun v => v.getLsbD i) h
    simp [BitVec.getLsbD_eq_getElem hi] at this
    simp
    exact this
theorem andNot_zero (w : Nat) (hw : w < 8) (b : Int) : (bits .andNot .i64 (w : Int) b == 0) = has w (lo b) := by
  have h1 := toNat_of (w : Int)
  have h3 : (BitVec.ofInt 64 (w : Int)).toNat = w := by omega
  have key : bits .andNot .i64 (w : Int) b = 0 ↔ w &&& lo b = w := by
    show IntKind.i64.wrap ((BitVec.ofInt 64 (w : Int) &&& ~~~BitVec.ofInt 64 b).toNat : Int) = 0 ↔ _
    rw [wrap_zero (BitVec.isLt _)]
    have e1 : ((BitVec.ofInt 64 (w : Int) &&& ~~~BitVec.ofInt 64 b).toNat = 0) ↔ (BitVec.ofInt 64 (w : Int) &&& ~~~BitVec.ofInt 64 b) = 0#64 := by
      constructor
      · intro h; exact BitVec.eq_of_toNat_eq (by simpa using h)
      · intro h; rw [h]; rfl
    rw [e1, bv_not]
    have e2 : (BitVec.ofInt 64 (w : Int) &&& BitVec.ofInt 64 b).toNat = w &&& lo b := by
      rw [BitVec.toNat_and, h3, Nat.and_comm, and_mask _ 3 w (by rw [Nat.and_two_pow_sub_one_eq_mod]; omega), lo_mod, Nat.and_comm]
    constructor
    · intro h
      rw [← e2, h, h3]
    · intro h
      apply BitVec.eq_of_toNat_eq
      rw [e2, h, h3]
  rw [Bool.eq_iff_iff, beq_iff_eq, key]
  simp [has]
def cnt (cu cg m su sg : Int) : Int := if cu = 0 then 7 else if cu = su then m / 64 else if cg = sg then m / 8 else m
def may (cu cg m su sg w : Int) : Bool := has (lo w) (lo (cnt cu cg m su sg))
def owns (cu su : Int) : Bool := cu == 0 || cu == su
end Go.Proofs.YtlngeaacjbdmhaaGreat.Kr

namespace Go.Proofs.YtlngeaacjbdmhaaGreat.Wl
open Go.RowKit
structure En where
  T : Tr
  rt : Int
  md : Int
  es : Mt.Ents
  cu : Int
  cg : Int
  rm : Int
  rn : Int
  follow : Bool
def En.down (E : En) (m n : Int) : Int × Int := Mt.down E.md E.es m n
def En.may (E : En) (n : Int) : Bool := match E.T.nd n with | some x => Kr.may E.cu E.cg x.mode x.uid x.gid 1 | none => false
def En.refusal (E : En) (n : Int) : Int := if E.T.kindOf n = 1 then (if E.may n = true then 0 else 34) else 37
def upF (es : Mt.Ents) : Nat → Int → Int → Int × Int
  | 0, m, n => (m, n)
  | k + 1, m, n => if Mt.upIs es m n = true then upF es k (Mt.upM es m n) (Mt.upN es m n) else (m, n)
def upK (es : Mt.Ents) (m : Int) : Nat := es.countP fun p => decide (p.n ≤ m)
def up (es : Mt.Ents) (m n : Int) : Int × Int := upF es (upK es m) m n
theorem up_less {md : Int} {es : Mt.Ents} (h : Mt.Eld md es) {m n : Int} (hu : Mt.upIs es m n = true) : Mt.upM es m n < m ∧ upK es (Mt.upM es m n) < upK es m := by
  have h1 : Mt.any es (Mt.isN m) = true := by
    unfold Mt.upIs at hu
    simp at hu
    exact hu.1
  obtain ⟨h2, h3⟩ := Mt.fst_mem h1
  simp only [Mt.isN, decide_eq_true_eq] at h3
  have h4 := h _ h2
  have e : Mt.upM es m n = (Mt.fst es (Mt.isN m)).am := by rw [Mt.upM, if_pos hu]
  rw [e]
  refine ⟨by omega, ?_⟩
  unfold upK
  have h5 : es.countP (fun p => decide (p.n ≤ (Mt.fst es (Mt.isN m)).am)) ≤ es.countP (fun p => decide (p.n < m)) := List.countP_mono_left fun p _ hp => by
    simp at hp ⊢
    omega
  have h6 : es.countP (fun p => decide (p.n < m)) < es.countP (fun p => decide (p.n ≤ m)) := by
    clear h5 e h4 hu h1 h
    generalize Mt.fst es (Mt.isN m) = q at h2 h3
    induction es with
    | nil => simp at h2
    | cons x l ih =>
      rw [List.countP_cons, List.countP_cons]
      have hm : l.countP (fun p => decide (p.n < m)) ≤ l.countP (fun p => decide (p.n ≤ m)) := List.countP_mono_left fun p _ hp => by
        simp at hp ⊢
        omega
      rcases List.mem_cons.1 h2 with rfl | h2
      · rw [if_neg (by simp; omega), if_pos (by simp; omega)]
        omega
      · have := ih h2
        split <;> split <;> simp_all <;> omega
  omega
theorem up_stop {es : Mt.Ents} {m n : Int} (hu : Mt.upIs es m n = false) (k : Nat) : upF es k m n = (m, n) := by
  cases k with
  | zero => rfl
  | succ k => rw [upF, hu]; rfl
theorem up_same {md : Int} {es : Mt.Ents} (h : Mt.Eld md es) : ∀ (k k' : Nat) (m n : Int), upK es m ≤ k → upK es m ≤ k' → upF es k m n = upF es k' m n := by
  intro k
  induction k with
  | zero =>
    intro k' m n hk _
    cases hu : Mt.upIs es m n with
    | false => rw [up_stop hu, up_stop hu]
    | true => have := (up_less h hu).2; omega
  | succ k ih =>
    intro k' m n hk hk'
    cases hu : Mt.upIs es m n with
    | false => rw [up_stop hu, up_stop hu]
    | true =>
      have := (up_less h hu).2
      cases k' with
      | zero => omega
      | succ j =>
        rw [upF, upF, hu]
        simp only [if_true]
        exact ih _ _ _ (by omega) (by omega)
theorem up_step {md : Int} {es : Mt.Ents} (h : Mt.Eld md es) {m n : Int} (hu : Mt.upIs es m n = true) : up es m n = up es (Mt.upM es m n) (Mt.upN es m n) := by
  have h1 := (up_less h hu).2
  obtain ⟨j, hj⟩ : ∃ j, upK es m = j + 1 := ⟨upK es m - 1, by omega⟩
  rw [up, hj, upF, hu]
  simp only [if_true]
  exact up_same h _ _ _ _ (by omega) (Nat.le_refl _)
theorem up_end {es : Mt.Ents} {m n : Int} (hu : Mt.upIs es m n = false) : up es m n = (m, n) := up_stop hu _
abbrev bs (l : List UInt8) : ByteArray := ⟨l.toArray⟩
abbrev Bytes := List UInt8
def isDots (p : Bytes) : Bool := p == [46] || p == [46, 46]
def En.dots (E : En) (p : Bytes) (am an : Int) : Int × Int :=
  if p = [46] ∨ (am = E.rm ∧ an = E.rn) then (am, an) else E.down (up E.es am an).1 (E.T.up (up E.es am an).2)
def En.find (E : En) (p : Bytes) (am an : Int) : Option (Int × Int) := (E.T.findN an (bs p)).map fun n => E.down am n
structure Pa where
  root : Bool
  slash : Bool
  parts : List Bytes
def onE (fol : Nat) (text : Bytes) (slash : Bool) (rest : List Bytes) : Int :=
  if fol = 40 then 46 else if text = [] then 32 else if 4096 < text.length + (Nm.pw false slash rest).length then 45 else Nm.err text
def onP (text : Bytes) (slash : Bool) (rest : List Bytes) : Pa := ⟨Nm.rt text, slash || (Nm.sl text && rest.isEmpty), Nm.ps text ++ rest⟩
structure Fd where
  dm : Int
  dn : Int
  last : Bytes
  am : Int
  an : Int
  has : Bool
  slash : Bool
def Fd.v (f : Fd) : Value := .agg #[I f.dm, I f.dn, .string (bs f.last), I f.am, I f.an, .bool f.has, .bool f.slash]
def Fd.none : Fd := ⟨0, 0, [], 0, 0, false, false⟩
structure Re where
  next : Option Pa
  f : Fd
  why : Int
  am : Int
  an : Int
  steps : Nat
def En.endF (E : En) (dm dn : Int) (last : Bytes) (am an : Int) (slash : Bool) : Fd :=
  if slash = true ∧ E.T.kindOf an ≠ 1 then Fd.none else if last = [] then ⟨am, an, last, am, an, true, slash⟩ else ⟨dm, dn, last, am, an, true, slash⟩
def En.endE (E : En) (an : Int) (slash : Bool) : Int := if slash = true ∧ E.T.kindOf an ≠ 1 then 37 else 0
def missF (p : Bytes) (rest : List Bytes) (slash : Bool) (am an : Int) : Fd := if rest = [] then ⟨am, an, p, 0, 0, false, slash⟩ else Fd.none
def missE (rest : List Bytes) : Int := if rest = [] then 0 else 32
def En.goes (E : En) (n : Int) (rest : List Bytes) (slash : Bool) : Bool := decide (E.T.kindOf n = 3) && (!rest.isEmpty || E.follow || slash)
def En.text (E : En) (n : Int) : Bytes := (E.T.textOf n).data.toList
def En.par (E : En) (fol : Nat) (slash : Bool) : List Bytes → Int → Int → Bytes → Int → Int → Nat → Re
  | [], dm, dn, last, am, an, s => ⟨none, E.endF dm dn last am an slash, E.endE an slash, am, an, s⟩
  | p :: rest, dm, dn, _, am, an, s =>
    if E.refusal an = 0 then
      if isDots p = true then E.par fol slash rest dm dn [] (E.dots p am an).1 (E.dots p am an).2 (s + 1)
      else match E.find p am an with
        | none => ⟨none, missF p rest slash am an, missE rest, am, an, s + 1⟩
        | some t => if E.goes t.2 rest slash = true then
            (if onE fol (E.text t.2) slash rest = 0 then ⟨some (onP (E.text t.2) slash rest), Fd.none, 0, am, an, s + 1⟩ else ⟨none, Fd.none, onE fol (E.text t.2) slash rest, am, an, s + 1⟩)
          else E.par fol slash rest am an p t.1 t.2 (s + 1)
    else ⟨none, Fd.none, E.refusal an, am, an, s + 1⟩
def En.beg (E : En) (p : Pa) (am an : Int) : Int × Int := if p.root = true then (E.rm, E.rn) else (am, an)
def En.one (E : En) (fol : Nat) (p : Pa) (am an : Int) (s : Nat) : Re := E.par fol p.slash p.parts (E.beg p am an).1 (E.beg p am an).2 [] (E.beg p am an).1 (E.beg p am an).2 s
def En.run (E : En) : Nat → Pa → Int → Int → Nat → Re
  | 0, p, am, an, s => E.one 40 p am an s
  | k + 1, p, am, an, s => match (E.one (40 - (k + 1)) p am an s).next with
    | none => E.one (40 - (k + 1)) p am an s
    | some q => E.run k q (E.one (40 - (k + 1)) p am an s).am (E.one (40 - (k + 1)) p am an s).an (E.one (40 - (k + 1)) p am an s).steps
def En.place (E : En) (m n : Int) : Bool := (E.T.nd n).isSome && Mt.rootIs E.es m
end Go.Proofs.YtlngeaacjbdmhaaGreat.Wl
