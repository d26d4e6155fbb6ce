/-
  The document's own tree: what is left of Move when nothing is refused.
-/
import Derived.Test.YtlngeaacjbdmhaaGreatQp23
import Derived.Test.YtlngeaacjbdmhaaGreatQp15
import Derived.Test.YtlngeaacjbdmhaaGreatQp22
namespace Go.Proofs.YtlngeaacjbdmhaaGreat.Rf
open Go.RowKit Go.Maps
theorem put_del_comm {l : List Ent} (h : Srt l) {s s2 : ByteArray} {n : Int} (hg : getE l s = some n) (hs2 : getE l s2 = none) : putE (delE l s) s2 n = delE (putE l s2 n) s := by
  have hne : s2 ≠ s := fun e => by rw [e, hg] at hs2; cases hs2
  have h1 : getE (delE l s) s2 = none := by rw [delE_get h hg, if_neg hne]; exact hs2
  have h2 : getE (putE l s2 n) s = some n := by rw [putE_get h hs2, if_neg (Ne.symm hne)]; exact hg
  refine Srt.ext ((h.del s).put h1 n) ((h.put hs2 n).del s) fun e => ?_
  rw [putE_mem, delE_mem h hg, delE_mem (h.put hs2 n) h2, putE_mem]
  constructor
  · rintro (rfl | ⟨a, b⟩)
    · exact ⟨.inl rfl, hne⟩
    · exact ⟨.inr a, b⟩
  · rintro ⟨rfl | a, b⟩
    · exact .inl rfl
    · exact .inr ⟨a, b⟩
section
variable {lo N : Nat} {W W' : World} {r : Nat} {T : Tr} {p : Nat} {Lv : Value} {nb : Int → Nat} {ev : Int → Value} {uv : Int → Int} {B : Nat}
theorem Tr.ext4 {a b : Tr} (h1 : a.most = b.most) (h2 : a.made = b.made) (h3 : ∀ k, a.nd k = b.nd k) (h4 : a.pool = b.pool) : a = b := by
  obtain ⟨a1, a2, a3, a4⟩ := a
  obtain ⟨b1, b2, b3, b4⟩ := b
  simp only at h1 h2 h3 h4
  subst h1 h2 h4
  obtain rfl : a3 = b3 := funext h3
  rfl
theorem Uq.shift (hu : Uq T uv) (hw : Wf B T) {dir tq n : Int} {d i x : Nd} {s s2 : ByteArray} (hd : T.nd dir = some d) (hg : getE d.ins s = some n) (hi : T.nd tq = some i) (hik : i.kind = 1) (hs2 : getE i.ins s2 = none) (hx : T.nd n = some x) (hx0 : 0 < x.names) (hdn : dir ≠ n) (g : Int → Int) (g1 : x.kind = 1 → g n = tq) (g2 : ∀ k, k ≠ n → g k = uv k) : Uq ((T.give tq s2 n).take dir s) g := by
  have hnd := Tr.shift_nd hd hg hi (hw.k.srt tq i hi) hs2 hx hx0 hdn
  intro k z hz
  obtain ⟨z1, z2⟩ := Tr.dir_some.1 hz
  rw [Tr.up_dir z1 z2]
  rw [hnd] at z1
  by_cases e : k = n
  · rw [if_pos e] at z1
    cases z1
    have z3 : x.kind = 1 := z2
    rw [e, g1 z3]
    simp [z3]
    omega
  · rw [if_neg e] at z1
    rw [g2 k e]
    by_cases e2 : k = dir
    · rw [if_pos e2] at z1
      cases z1
      rw [hu k d (Tr.dir_some.2 ⟨by rw [e2]; exact hd, z2⟩), Tr.up_dir (x := d) (by rw [e2]; exact hd) z2]
    · rw [if_neg e2] at z1
      by_cases e3 : k = tq
      · rw [if_pos e3] at z1
        cases z1
        rw [hu k i (Tr.dir_some.2 ⟨by rw [e3]; exact hi, hik⟩), Tr.up_dir (by rw [e3]; exact hi) hik]
      · rw [if_neg e3] at z1
        rw [hu k z (Tr.dir_some.2 ⟨z1, z2⟩), Tr.up_dir z1 z2]
theorem shift_eq (hw : Wk B T) {dir tq n : Int} {d i x : Nd} {s s2 : ByteArray} (hd : T.nd dir = some d) (hg : getE d.ins s = some n) (hi : T.nd tq = some i) (hs2 : getE i.ins s2 = none) (hx : T.nd n = some x) (hx0 : 0 < x.names) (hdn : dir ≠ n) (htn : tq ≠ n) :
    ∃ i2, ((T.hold n).take dir s).nd tq = some i2 ∧ getE i2.ins s2 = none ∧ ((T.hold n).take dir s).nd n = some { x with holds := x.holds + 1, names := x.names - 1 } ∧
      (((T.hold n).take dir s).give tq s2 n).nd n = some { x with holds := x.holds + 1, up := if x.kind = 1 then tq else x.up } ∧
      (((T.hold n).take dir s).give tq s2 n).set n (some { x with up := if x.kind = 1 then tq else x.up }) = (T.give tq s2 n).take dir s := by
  have hh : ∀ k, (T.hold n).nd k = if k = n then some { x with holds := x.holds + 1 } else T.nd k := fun k => by
    simp only [Tr.hold, hx, Tr.set]
  have hd1 : (T.hold n).nd dir = some d := by rw [hh, if_neg hdn]; exact hd
  have hx1 : (T.hold n).nd n = some { x with holds := x.holds + 1 } := by rw [hh, if_pos rfl]
  have ht := Tr.take_nd hd1 hg hx1 hdn
  have hx2 : ((T.hold n).take dir s).nd n = some { x with holds := x.holds + 1, names := x.names - 1 } := by rw [ht, if_pos rfl, if_pos (.inr (by simp))]
  have hi2 : ((T.hold n).take dir s).nd tq = some (if tq = dir then { d with ins := delE d.ins s } else i) := by
    rw [ht, if_neg htn, hh, if_neg htn]
    by_cases e : tq = dir
    · rw [if_pos e, if_pos e]
    · rw [if_neg e, if_neg e]; exact hi
  have hSd := hw.srt dir d hd
  have hg2 : getE (if tq = dir then { d with ins := delE d.ins s } else i : Nd).ins s2 = none := by
    by_cases e : tq = dir
    · rw [if_pos e]
      have : i = d := by rw [e, hd] at hi; cases hi; rfl
      subst this
      simp only
      rw [delE_get hSd hg]
      split
      · rfl
      · exact hs2
    · rw [if_neg e]; exact hs2
  have hgn := Tr.give_nd hi2 hx2 s2
  have hnm : ({ x with holds := x.holds + 1, names := x.names - 1 } : Nd).named tq = { x with holds := x.holds + 1, up := if x.kind = 1 then tq else x.up } := by
    simp only [Nd.named]
    congr 1
    omega
  refine ⟨_, hi2, hg2, hx2, by rw [hgn, if_pos rfl, hnm], ?_⟩
  have hrest := Tr.take_rest hd1 hg hx1 hdn
  have hgr := Tr.give_rest hi2 hx2 s2
  have hgr' := Tr.give_rest hi hx s2
  have hnd := Tr.shift_nd hd hg hi (hw.srt tq i hi) hs2 hx hx0 hdn
  have hgn' := Tr.give_nd hi hx s2
  have hx9 : (T.give tq s2 n).nd n = some (x.named tq) := by rw [hgn', if_pos rfl]
  have hrest' : ((T.give tq s2 n).take dir s).made = T.made ∧ ((T.give tq s2 n).take dir s).most = T.most ∧ ((T.give tq s2 n).take dir s).pool = T.pool := by
    have hd9 : (T.give tq s2 n).nd dir = some { d with ins := if dir = tq then putE d.ins s2 n else d.ins } := by
      rw [hgn', if_neg hdn]
      by_cases e : dir = tq
      · rw [if_pos e, if_pos e]
        rw [e, hi] at hd; cases hd; rfl
      · rw [if_neg e, if_neg e]; exact hd
    have hg9 : getE (if dir = tq then putE d.ins s2 n else d.ins) s = some n := by
      by_cases e : dir = tq
      · rw [if_pos e]
        have : i = d := by rw [← e, hd] at hi; cases hi; rfl
        subst this
        rw [putE_get hSd hs2]
        split
        · rfl
        · exact hg
      · rw [if_neg e]; exact hg
    have h := Tr.take_rest hd9 hg9 hx9 hdn
    rw [if_pos (.inl (by simp only [Nd.named]; omega))] at h
    exact ⟨h.1.trans hgr'.1, h.2.1.trans hgr'.2.1, h.2.2.trans hgr'.2.2⟩
  rw [if_pos (.inr (by simp))] at hrest
  have hb : (T.hold n).made = T.made ∧ (T.hold n).most = T.most ∧ (T.hold n).pool = T.pool := by simp only [Tr.hold, hx, Tr.set]; exact ⟨trivial, trivial, trivial⟩
  refine Tr.ext4 ?_ ?_ (fun k => ?_) ?_
  · simp only [Tr.set]; rw [hgr.2.1, hrest.2.1, hb.2.1, hrest'.2.1]
  · simp only [Tr.set]; rw [hgr.1, hrest.1, hb.1, hrest'.1]
  · rw [hnd]
    by_cases e : k = n
    · rw [e, Tr.set_same, if_pos rfl]
    · rw [Tr.set_other _ _ e, if_neg e, hgn, if_neg e, ht, if_neg e, hh, if_neg e]
      by_cases e2 : k = dir
      · rw [if_pos e2]
        by_cases e3 : k = tq
        · have e4 : tq = dir := e3.symm.trans e2
          have : i = d := by rw [e4, hd] at hi; cases hi; rfl
          subst this
          rw [if_pos e3, if_pos e4, if_pos e4.symm]
          simp only
          rw [put_del_comm hSd hg hs2, if_pos e2]
        · have e4 : ¬ dir = tq := fun e4 => e3 (e2.trans e4)
          rw [if_neg e3, if_neg e4, if_pos e2]
      · rw [if_neg e2]
        by_cases e3 : k = tq
        · have e4 : ¬ tq = dir := fun e4 => e2 (e3.trans e4)
          rw [if_pos e3, if_neg e4, if_neg e2, if_pos e3]
        · rw [if_neg e3, if_neg e2, if_neg e3]
  · simp only [Tr.set]; rw [hgr.2.2, hrest.2.2, hb.2.2, hrest'.2.2]
theorem shift_tail {W0 : World} (h : DtI lo N W r T p Lv nb ev uv) (hu : Uq T uv) (hR : Rx lo W0 W) (hw : Wf B T) (hB : B ≤ 880) {dir tq n : Int} {d i x : Nd} {s s2 : ByteArray} (hd : T.nd dir = some d) (hg : getE d.ins s = some n) (hi : T.nd tq = some i) (hik : i.kind = 1) (hs2 : getE i.ins s2 = none) (hx : T.nd n = some x) (htn : tq ≠ n) (hdw : (kl dir).wf = true) (htw : (kl tq).wf = true) :
    W.cell? ⟨nb n, 11, none⟩ = some (I (x.holds : Int)) ∧ W.frozen? ⟨nb n, 11, none⟩ = false ∧ (x.holds : Int) ≤ 900 ∧ ∃ X, W.setCell ⟨nb n, 11, none⟩ (I ((x.holds : Int) + 1)) = X ∧
      Hid (Calls Tryz.prog 132 #[P0 r, I dir, .string s] X fun e w1 => e = .returned (.tuple #[]) ∧
        Hid (Calls Tryz.prog 131 #[P0 r, I tq, .string s2, I n] w1 fun e w2 => e = .returned (.tuple #[]) ∧ w2.cell? ⟨nb n, 11, none⟩ = some (I ((x.holds : Int) + 1)) ∧ w2.frozen? ⟨nb n, 11, none⟩ = false ∧
          Hid (De lo N W0 (w2.setCell ⟨nb n, 11, none⟩ (I (x.holds : Int))) r ((T.give tq s2 n).take dir s)))) := by
  have hdn : dir ≠ n := by
    rintro rfl
    exact hw.noself hd (getE_some hg)
  have hn1 : n ≠ 1 := by
    rintro rfl
    exact hw.noroot hd (getE_some hg)
  have hx0 : 0 < x.names := by
    have := hw.k.num n x hx
    have := cntE_pos hw.k hd (getE_some hg)
    simp at this
    omega
  obtain ⟨i2, e1, e2, e3, e4, e5⟩ := shift_eq hw.k hd hg hi hs2 hx hx0 hdn htn
  obtain ⟨-, -, -, -, -, -, -, -, -, -, -, c11, -, cf⟩ := dcells (h.hn n x hx).1
  have hbb := (hw.k.bnd n x hx).2.1
  refine ⟨c11, cf 11, by omega, _, rfl, hide ?_⟩
  obtain ⟨h1, R1⟩ := h.store (y := { x with holds := x.holds + 1 }) hx 11 (I ((x.holds : Int) + 1)) (by simp [dnC, nm1]) rfl
  have hT1 : T.set n (some { x with holds := x.holds + 1 }) = T.hold n := by simp only [Tr.hold, hx]
  rw [hT1] at h1
  have hw1 := (hw.hold n).k
  have hh : ∀ k, (T.hold n).nd k = if k = n then some { x with holds := x.holds + 1 } else T.nd k := fun k => by simp only [Tr.hold, hx, Tr.set]
  have hpl := hw1.pol
  refine (out_any h1 hw1 (by omega) dir n s d { x with holds := x.holds + 1 } (by rw [hh, if_neg hdn]; exact hd) (by rw [hh, if_pos rfl]) hdn hn1 hg hx0 (by omega) hdw).mono ?_
  rintro e w1 ⟨rfl, ev1, h2, R2⟩
  refine ⟨rfl, hide ?_⟩
  have hw2 : Wk (B + 1) ((T.hold n).take dir s) := hw1.take (by rw [hh, if_neg hdn]; exact hd) hg (by rw [hh, if_pos rfl]) hdn (fun _ h0 => by simp at h0)
  refine (put_any h2 hw2 (by omega) tq n s2 i2 _ e1 e3 htn e2 htw).mono ?_
  rintro e w2 ⟨rfl, ev2, h3, R3⟩
  obtain ⟨-, -, -, -, -, -, -, -, -, -, -, q11, -, qf⟩ := dcells (h3.hn n _ e4).1
  refine ⟨rfl, by rw [q11]; simp, qf 11, hide ?_⟩
  obtain ⟨h4, R4⟩ := h3.store (y := { x with up := if x.kind = 1 then tq else x.up }) e4 11 (I (x.holds : Int)) (by simp [dnC, nm1]) rfl
  rw [e5] at h4
  exact ⟨⟨p, Lv, nb, ev2, _, h4, hu.shift hw hd hg hi hik hs2 hx hx0 hdn _ (fun hk => by simp [hk]) (fun k hk => by simp [hk])⟩, (((hR.trans R1).trans R2).trans R3).trans R4⟩
end
end Go.Proofs.YtlngeaacjbdmhaaGreat.Rf

namespace Go.Proofs.YtlngeaacjbdmhaaGreat.Rf
open Go.RowKit Go.Maps
attribute [local go_sem ↓] Go.wp_at_zero Go.wp_at_succ
def deep (T : Tr) : Nat → Int → Nat
  | 0, _ => 0
  | f + 1, c => if T.up c = 0 ∨ T.up c = c then 0 else deep T f (T.up c) + 1
theorem deep_ab {T : Tr} : ∀ {l : List Int} {c : Int} {f : Nat}, Ab T c l → l.length ≤ f → deep T f c = l.length
  | [], _, 0, _, _ => rfl
  | [], _, f + 1, h, _ => by
    simp only [Ab] at h
    simp [deep, h]
  | _ :: _, _, 0, _, hl => by simp at hl
  | u :: l, c, f + 1, h, hl => by
    obtain ⟨h1, h2, h3, h4⟩ := h
    rw [deep, if_neg (by rw [h1]; rintro (e | e); exact h2 e; exact h3 e), h1, deep_ab h4 (by simp at hl; omega)]
    rfl
section
variable {lo N : Nat} {W W' : World} {r : Nat} {T : Tr} {p : Nat} {Lv : Value} {nb : Int → Nat} {ev : Int → Value} {uv : Int → Int} {B : Nat}
theorem up_dir (hw : Wf B T) {c : Int} {x : Nd} (hx : T.dir c = some x) : T.up c ≠ 0 ∧ ∃ y, T.dir (T.up c) = some y := by
  obtain ⟨h1, h2⟩ := Tr.dir_some.1 hx
  have hk := hw.k.key c x h1
  by_cases h0 : x.names = 0
  · have e : T.up c = c := by rw [Tr.up, hx]; simp [h0]
    rw [e]
    exact ⟨by omega, x, hx⟩
  · have e : T.up c = x.up := by rw [Tr.up, hx]; simp [h0]
    rw [e]
    by_cases hc : c = 1
    · subst hc
      obtain ⟨y, g1, g2, g3, g4⟩ := hw.root
      rw [h1] at g1
      cases g1
      rw [g4]
      exact ⟨by decide, x, hx⟩
    · obtain ⟨-, d, s, g1, g2⟩ := hw.upd c x h1 h2 hc (by omega)
      have := hw.k.key _ d g1
      exact ⟨by omega, d, Tr.dir_some.2 ⟨g1, (hw.emp _ d g1 (List.ne_nil_of_mem g2)).1⟩⟩
set_option maxRecDepth 100000 in
set_option maxHeartbeats 1000000 in
theorem within_any (h : DtI lo N W r T p Lv nb ev uv) (hu : Uq T uv) (hw : Wf B T) (hB : B ≤ 890) (to' n : Int) (ht : (kl to').wf = true) (hn : (kl n).wf = true) (x y : Nd) (hx : T.dir to' = some x) (hy : T.dir n = some y) (l : List Int) (hl : Ab T to' l) (f : Bool) (hf : decide (n ∈ l) = f) :
    Calls Tryz.prog 21 #[P0 r, I to', I n] W fun e w' => e = .returned (.bool f) ∧ w' = W := by
  obtain ⟨L, hL⟩ : ∃ L, L = l.length := ⟨_, rfl⟩
  have HI : Hid (Hid (Ab T to' l ∧ l.length ≤ L ∧ (∃ z, T.dir to' = some z) ∧ decide (n ∈ l) = f)) := hide (hide ⟨hl, by omega, ⟨x, hx⟩, hf⟩)
  have HC := hide (fun c z (hc : T.dir c = some z) => show W.cell? ⟨nb c, 9, none⟩ = some (I (T.up c)) by
    rw [← hu c z hc]
    exact (dcells (h.hn c z (Tr.dir_some.1 hc).1).1).2.2.2.2.2.2.2.2.2.1)
  have HAT := hide (fun c z (hc : T.dir c = some z) => hide (at_any h hw.k (by omega) c (hw.k.wf (by omega) (Tr.dir_some.1 hc).1) (P0 (nb c)) (by rw [atV, (Tr.dir_some.1 hc).1])))
  have HW := hide hw
  have HD1 := hide (dir_any h hw.k (by omega) to' ht (P0 (nb to')) (by rw [dirV, hx]))
  have HD2 := hide (dir_any h hw.k (by omega) n hn (P0 (nb n)) (by rw [dirV, hy]))
  clear h hu hw hx hy hl hf hL
  go_enter Tryz.func21, Tryz.ntmps21
  go_wp2_with fail
  refine (unhide HD1).mono ?_
  rintro e w1 ⟨rfl, hw1⟩
  rw [hw1]
  clear hw1
  go_wp2_with fail
  refine (unhide HD2).mono ?_
  rintro e w1 ⟨rfl, hw1⟩
  rw [hw1]
  clear hw1
  go_wp2_with fail
  go_loopw [1, 7] (fun s1 s7 wr => ∃ (c : Int) (m : List Int), s1 = I c ∧ s7 = P0 (nb c) ∧ wr = W ∧ Hid (Ab T c m ∧ m.length ≤ L ∧ (∃ z, T.dir c = some z) ∧ decide (n ∈ m) = f)) (fun s1 _ _ => deep T L (intOf s1))
  case atStart => exact ⟨to', l, rfl, rfl, rfl, unhide HI⟩
  case round =>
    obtain ⟨c, m, rfl, rfl, rfl, hI⟩ := hrel
    obtain ⟨i1, i2, ⟨z, i3⟩, i4⟩ := unhide hI
    have c9 := unhide HC c z i3
    obtain ⟨u0, y1, hy1⟩ := up_dir (unhide HW) i3
    cases m with
    | nil =>
      simp only [Ab] at i1
      have hu1 : T.up c = c := i1.resolve_left u0
      rw [hu1] at c9
      have hf0 : f = false := by rw [← i4]; simp
      have Hf := hide hf0
      clear i1 i2 i3 i4 hu1 u0 hy1 hf0 hI
      generalize nb c = b at *
      go_wp2_with fail
      go_ret
      exact ⟨by rw [unhide Hf]; rfl, rfl⟩
    | cons u m =>
      obtain ⟨g1, g2, g3, g4⟩ := i1
      rw [g1] at c9 hy1
      have hd1 := deep_ab (f := L) (show Ab T c (u :: m) from ⟨g1, g2, g3, g4⟩) i2
      have hd2 := deep_ab (f := L) g4 (by simp at i2; omega)
      have hlt : deep T L u < deep T L c := by rw [hd1, hd2]; simp
      have q1 : (u != c) = true := by simpa using g3
      have q2 : (u == c) = false := by simpa using g3
      have q3 : ¬ u = c := g3
      have HL := hide hlt
      by_cases hun : u = n
      · have hf1 : f = true := by rw [← i4, hun]; simp
        have Hf := hide hf1
        have q4 : (u == n) = true := by simpa using hun
        have Hun := hide hun
        clear g1 g2 g3 g4 i2 i3 i4 hd1 hd2 hlt u0 hy1 hf1 hun hI
        generalize nb c = b at *
        go_wp2_with fail
        go_ret
        exact ⟨by rw [unhide Hf]; rfl, rfl⟩
      · have q4 : (u == n) = false := by simpa using hun
        have HA := unhide HAT u y1 hy1
        have HI2 : Hid (Ab T u m ∧ m.length ≤ L ∧ (∃ z, T.dir u = some z) ∧ decide (n ∈ m) = f) := hide ⟨g4, by simp at i2; omega, ⟨y1, hy1⟩, by
          have e : ¬ n = u := fun e => hun e.symm
          rw [← i4]
          simp [e]⟩
        clear g1 g2 g3 g4 i2 i3 i4 hd1 hd2 hlt u0 hy1 hI
        generalize nb c = b at *
        go_wp2_with fail
        refine (unhide HA).mono ?_
        rintro e w2 ⟨rfl, hw2⟩
        rw [hw2]
        clear hw2
        go_wp2_with fail
        exact ⟨⟨u, m, rfl, rfl, trivial, HI2⟩, by simp only [intOf]; exact unhide HL⟩
end
end Go.Proofs.YtlngeaacjbdmhaaGreat.Rf
