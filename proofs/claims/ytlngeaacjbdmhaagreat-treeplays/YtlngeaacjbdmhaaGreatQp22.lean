/-
  The document's own tree: Part.
-/
import Derived.Test.YtlngeaacjbdmhaaGreatQp21
import Derived.Test.YtlngeaacjbdmhaaGreatQp10
namespace Go.Proofs.YtlngeaacjbdmhaaGreat.Rf
open Go.RowKit Go.Maps
attribute [local go_sem ↓] Go.wp_at_zero Go.wp_at_succ
def Uq (T : Tr) (uv : Int → Int) : Prop := ∀ k x, T.dir k = some x → uv k = T.up k
def Dq (lo N : Nat) (W : World) (r : Nat) (T : Tr) : Prop := ∃ p Lv nb ev uv, DtI lo N W r T p Lv nb ev uv ∧ Uq T uv
def De (lo N : Nat) (W W' : World) (r : Nat) (T : Tr) : Prop := Dq lo N W' r T ∧ Rx lo W W'
section
variable {lo N : Nat} {W W' : World} {r : Nat} {T : Tr} {p : Nat} {Lv : Value} {nb : Int → Nat} {ev : Int → Value} {uv : Int → Int} {B : Nat}
theorem Uq.take (hu : Uq T uv) (hw : Wf B T) {dir n : Int} {d y : Nd} {s : ByteArray} (hd : T.nd dir = some d) (hg : getE d.ins s = some n) (hx : T.nd n = some y) (hi : y.ins = []) : Uq (T.take dir s) (fun k => if k = n then (if y.kind = 1 then n else uv n) else uv k) := by
  have hdn : dir ≠ n := by
    rintro rfl
    exact hw.noself hd (getE_some hg)
  obtain ⟨-, h2, -⟩ := hw.take hd hg hx hi
  have hnd := Tr.take_nd hd hg hx hdn
  intro k x hk
  obtain ⟨k1, k2⟩ := Tr.dir_some.1 hk
  by_cases e : k = n
  · subst e
    have h3 := hnd k
    rw [if_pos rfl, k1] at h3
    simp only [if_pos]
    split at h3
    · cases h3
      have hyk : y.kind = 1 := k2
      have := hw.one k y hx hyk
      rw [if_pos hyk, Tr.up, hk]
      dsimp only
      rw [if_pos (by omega)]
    · cases h3
  · simp only [if_neg e]
    rw [h2 k e]
    have h3 := hnd k
    rw [if_neg e, k1] at h3
    by_cases e2 : k = dir
    · subst e2
      rw [if_pos rfl] at h3
      cases h3
      exact hu k d (Tr.dir_some.2 ⟨hd, k2⟩)
    · rw [if_neg e2] at h3
      exact hu k x (Tr.dir_some.2 ⟨h3.symm, k2⟩)
set_option maxRecDepth 100000 in
set_option maxHeartbeats 4000000 in
theorem dPart_any (hq : Dq lo N W r T) (hw : Wf B T) (hB : B ≤ 890) (dir : Int) (s : ByteArray) (hd : (kl dir).wf = true) :
    Calls Tryz.prog 68 #[P0 r, I dir, .string s] W fun e w' => e = .returned (I (T.partE dir s)) ∧ De lo N W w' r (T.part dir s) := by
  obtain ⟨p, Lv, nb, ev, uv, h, hu⟩ := hq
  have HR : Hid (∀ k, De lo N W (W.drewN k) r T) := hide fun k => ⟨⟨p, Lv, nb, ev, uv, h.below (below_n W k), hu⟩, Rx.of_below (below_n W k) h.bd.2.1⟩
  obtain ⟨vd, hvd⟩ : ∃ v, dirV T nb dir = v := ⟨_, rfl⟩
  have HD := hide (dir_any h hw.k (by omega) dir hd vd hvd)
  obtain ⟨x0, hx0⟩ : ∃ x0, (T.findN dir s).getD 0 = x0 := ⟨_, rfl⟩
  obtain ⟨f, hf⟩ : ∃ f, (T.findN dir s).isSome = f := ⟨_, rfl⟩
  have HF := hide (dFind_any h hw.k (by omega) dir hd s x0 f hx0 hf)
  unfold Tr.part
  cases hx : T.dir dir with
  | none =>
    have e1 : T.partE dir s = 1 := by simp [Tr.partE, hx]
    rw [e1, if_neg (by decide)]
    rw [dirV, hx] at hvd
    subst hvd
    clear h hw e1 HF
    go_enter Tryz.func68, Tryz.ntmps68
    go_wp2_with (first
      | (go_at_call 81; refine (unhide HD).mono ?_; rintro e w1 ⟨rfl, hw1⟩; rw [hw1]; clear hw1)
      | (go_at_call 93; refine (unhide HF).mono ?_; rintro e w1 ⟨rfl, dk, hw1⟩; rw [hw1]; clear hw1)
      | (go_at_call 82; refine (unhide HA dk).mono ?_; rintro e w1 ⟨rfl, hw1⟩; rw [hw1]; clear hw1)
      | (go_at_call 132; refine (unhide HP dk).mono ?_; rintro e w1 ⟨rfl, hO⟩))
    go_ret
    exact ⟨rfl, unhide HR 0⟩
  | some x =>
    rw [dirV, hx] at hvd
    subst hvd
    have hxn := (Tr.dir_some.1 hx).1
    cases hg : getE x.ins s with
    | none =>
      have e1 : T.partE dir s = 32 := by simp [Tr.partE, hx, hg]
      rw [e1, if_neg (by decide)]
      have e2 : T.findN dir s = none := by simp [Tr.findN, hx, hg]
      rw [e2] at hf hx0
      subst hf
      clear h hw e1 e2
      go_enter Tryz.func68, Tryz.ntmps68
      go_wp2_with (first
        | (go_at_call 81; refine (unhide HD).mono ?_; rintro e w1 ⟨rfl, hw1⟩; rw [hw1]; clear hw1)
        | (go_at_call 93; refine (unhide HF).mono ?_; rintro e w1 ⟨rfl, dk, hw1⟩; rw [hw1]; clear hw1)
        | (go_at_call 82; refine (unhide HA dk).mono ?_; rintro e w1 ⟨rfl, hw1⟩; rw [hw1]; clear hw1)
        | (go_at_call 132; refine (unhide HP dk).mono ?_; rintro e w1 ⟨rfl, hO⟩))
      go_ret
      exact ⟨rfl, unhide HR dk⟩
    | some n =>
      have e2 : T.findN dir s = some n := by simp [Tr.findN, hx, hg]
      rw [e2] at hf hx0
      subst hf
      obtain rfl : n = x0 := hx0
      obtain ⟨y, hy⟩ := hw.k.ent hxn (getE_some hg)
      have hn := hw.k.wf (by omega) hy
      have HA := hide (fun k => at_any (h.below (below_n W k)) hw.k (by omega) n hn (P0 (nb n)) (by rw [atV, hy]))
      obtain ⟨hbn, hro⟩ := h.hn n y hy
      obtain ⟨-, -, -, -, -, -, -, -, c8, -⟩ := dcells hbn
      obtain ⟨a, cap, hev⟩ := own_form hro
      rw [hev] at c8
      have hl := (hw.k.bnd n y hy).2.2
      by_cases hi : 0 < y.ins.length
      · have e1 : T.partE dir s = 47 := by simp only [Tr.partE, hx, hg, Tr.insOf, hy]; rw [if_pos hi]
        rw [e1, if_neg (by decide)]
        generalize y.ins.length = L at *
        have g1 : (0 : Int) < (L : Int) := by omega
        have g2 : (L : Int) ≤ 900 := by omega
        clear h hw e1 hbn hro hev
        go_enter Tryz.func68, Tryz.ntmps68
        go_wp2_with (first
          | (go_at_call 81; refine (unhide HD).mono ?_; rintro e w1 ⟨rfl, hw1⟩; rw [hw1]; clear hw1)
          | (go_at_call 93; refine (unhide HF).mono ?_; rintro e w1 ⟨rfl, dk, hw1⟩; rw [hw1]; clear hw1)
          | (go_at_call 82; refine (unhide HA dk).mono ?_; rintro e w1 ⟨rfl, hw1⟩; rw [hw1]; clear hw1)
          | (go_at_call 132; refine (unhide HP dk).mono ?_; rintro e w1 ⟨rfl, hO⟩))
        go_ret
        exact ⟨rfl, unhide HR dk⟩
      · have hi0 : y.ins = [] := by
          cases hh : y.ins with
          | nil => rfl
          | cons _ _ => rw [hh] at hi; simp at hi
        have e1 : T.partE dir s = 0 := by simp [Tr.partE, hx, hg, Tr.insOf, hy, hi0]
        rw [e1, if_pos rfl]
        have hne : dir ≠ n := by
          rintro rfl
          exact hw.noself hxn (getE_some hg)
        have hn1 : n ≠ 1 := by
          rintro rfl
          exact hw.noroot hxn (getE_some hg)
        have hnm : 1 ≤ y.names := by
          have := hw.k.num n y hy
          have := cntE_pos hw.k hxn (getE_some hg)
          simp at this
          omega
        have hpl := hw.k.pol
        have HP : Hid (∀ k, Calls Tryz.prog 132 #[P0 r, I dir, .string s] (W.drewN k) fun e w' => e = .returned (.tuple #[]) ∧ De lo N W w' r (T.take dir s)) := by
          refine hide fun k => (out_any (h.below (below_n W k)) hw.k hB dir n s x y hxn hy hne hn1 hg hnm (by omega) hd).mono ?_
          rintro e w1 ⟨h1, ev', h2, R2⟩
          exact ⟨h1, ⟨p, Lv, nb, ev', _, h2, hu.take hw hxn hg hy hi0⟩, (Rx.of_below (below_n W k) h.bd.2.1).trans R2⟩
        rw [hi0] at c8
        clear h hw e1 hbn hro hev hi
        go_enter Tryz.func68, Tryz.ntmps68
        go_wp2_with (first
          | (go_at_call 81; refine (unhide HD).mono ?_; rintro e w1 ⟨rfl, hw1⟩; rw [hw1]; clear hw1)
          | (go_at_call 93; refine (unhide HF).mono ?_; rintro e w1 ⟨rfl, dk, hw1⟩; rw [hw1]; clear hw1)
          | (go_at_call 82; refine (unhide HA dk).mono ?_; rintro e w1 ⟨rfl, hw1⟩; rw [hw1]; clear hw1)
          | (go_at_call 132; refine (unhide HP dk).mono ?_; rintro e w1 ⟨rfl, hO⟩))
        go_ret
        exact ⟨rfl, hO⟩
end
end Go.Proofs.YtlngeaacjbdmhaaGreat.Rf

namespace Go.Proofs.YtlngeaacjbdmhaaGreat.Rf
open Go.RowKit Go.Maps
section
variable {lo N : Nat} {W W' : World} {r : Nat} {T : Tr} {uv : Int → Int} {B : Nat}
theorem Dq.below (h : Dq lo N W r T) (g : Below W.heap.size W W') : Dq lo N W' r T := by
  obtain ⟨p, Lv, nb, ev, uv, h, hu⟩ := h
  exact ⟨p, Lv, nb, ev, uv, h.below g, hu⟩
theorem Dq.keep (h : Dq lo N W r T) (hs : W.heap.size ≤ W'.heap.size) (hk : ∀ (b : Nat) (cs : Array Value) (t : TypeId) (f : Nat × Nat), W.heap[b]? = some (.cells cs t f) → rty t → W'.heap[b]? = W.heap[b]?) : Dq lo N W' r T := by
  obtain ⟨p, Lv, nb, ev, uv, h, hu⟩ := h
  exact ⟨p, Lv, nb, ev, uv, h.keep hs hk, hu⟩
theorem Dq.bds (h : Dq lo N W r T) : lo ≤ W.heap.size ∧ lo ≤ r ∧ r < W.heap.size := by
  obtain ⟨p, Lv, nb, ev, uv, h, hu⟩ := h
  exact ⟨h.bd.2.1, h.bd.1, lt_of_heap h.ht⟩
theorem Dq.de (h : Dq lo N W r T) : De lo N W W r T := ⟨h, Rx.refl h.bds.1⟩
theorem De.below (h : De lo N W W' r T) {V : World} (g : Below W'.heap.size W' V) : De lo N W V r T := ⟨h.1.below g, h.2.trans (Rx.of_below g h.1.bds.1)⟩
theorem De.trans {V : World} {T' : Tr} (h : De lo N W W' r T) (g : De lo N W' V r T') : De lo N W V r T' := ⟨g.1, h.2.trans g.2⟩
theorem Uq.node (hu : Uq T uv) {n : Int} {x y : Nd} (hx : T.nd n = some x) (hk : y.kind = x.kind) (hn : y.names = x.names) (hp : y.up = x.up) : Uq (T.set n (some y)) uv := by
  intro k z hz
  obtain ⟨z1, z2⟩ := Tr.dir_some.1 hz
  by_cases e : k = n
  · subst e
    rw [Tr.set_same] at z1
    cases z1
    have h2 : T.dir k = some x := Tr.dir_some.2 ⟨hx, by rw [← hk]; exact z2⟩
    rw [hu k x h2, Tr.up, Tr.up, hz, h2]
    simp [hn, hp]
  · rw [Tr.set_other _ _ e] at z1
    have h2 : T.dir k = some z := Tr.dir_some.2 ⟨z1, z2⟩
    rw [hu k z h2, Tr.up, Tr.up, hz, h2]
theorem dHold_D (hq : Dq lo N W r T) (hw : Wk B T) (hB : B ≤ 890) (n : Int) (hn : (kl n).wf = true) :
    Calls Tryz.prog 71 #[P0 r, I n] W fun e w' => e = .returned (I (T.holdE n)) ∧ De lo N W w' r (T.hold n) := by
  obtain ⟨p, Lv, nb, ev, uv, h, hu⟩ := hq
  refine (dHold_any h hw hB n hn).mono ?_
  rintro e w' ⟨h1, h2, h3⟩
  refine ⟨h1, ⟨p, Lv, nb, ev, uv, h2, ?_⟩, h3⟩
  unfold Tr.hold
  cases hx : T.nd n with
  | none => exact hu
  | some x => exact hu.node hx rfl rfl rfl
theorem dSetMode_D (hq : Dq lo N W r T) (hw : Wk B T) (hB : B ≤ 900) (n : Int) (hn : (kl n).wf = true) (mode : Int) :
    Calls Tryz.prog 41 #[P0 r, I n, I mode] W fun e w' => e = .returned (I (setE T n)) ∧ De lo N W w' r (T.setMode n mode) := by
  obtain ⟨p, Lv, nb, ev, uv, h, hu⟩ := hq
  refine (dSetMode_any h hw hB n hn mode).mono ?_
  rintro e w' ⟨h1, h2, h3⟩
  refine ⟨h1, ⟨p, Lv, nb, ev, uv, h2, ?_⟩, h3⟩
  unfold Tr.setMode
  cases hx : T.nd n with
  | none => exact hu
  | some x => exact hu.node hx rfl rfl rfl
theorem dSetOwner_D (hq : Dq lo N W r T) (hw : Wk B T) (hB : B ≤ 900) (n : Int) (hn : (kl n).wf = true) (uid gid : Int) :
    Calls Tryz.prog 75 #[P0 r, I n, I uid, I gid] W fun e w' => e = .returned (I (setE T n)) ∧ De lo N W w' r (T.setOwner n uid gid) := by
  obtain ⟨p, Lv, nb, ev, uv, h, hu⟩ := hq
  refine (dSetOwner_any h hw hB n hn uid gid).mono ?_
  rintro e w' ⟨h1, h2, h3⟩
  refine ⟨h1, ⟨p, Lv, nb, ev, uv, h2, ?_⟩, h3⟩
  unfold Tr.setOwner
  cases hx : T.nd n with
  | none => exact hu
  | some x => exact hu.node hx rfl rfl rfl
theorem dUp_D (hq : Dq lo N W r T) (hw : Wk B T) (hB : B ≤ 900) (n : Int) (hn : (kl n).wf = true) :
    Calls Tryz.prog 90 #[P0 r, I n] W fun e w' => e = .returned (I (T.up n)) ∧ w' = W := by
  obtain ⟨p, Lv, nb, ev, uv, h, hu⟩ := hq
  have e : upV T uv n = T.up n := by
    unfold upV
    cases hx : T.dir n with
    | none => simp [Tr.up, hx]
    | some x => exact hu n x hx
  rw [← e]
  exact dUp_any h hw hB n hn
theorem dText_D (hq : Dq lo N W r T) (hw : Wk B T) (hB : B ≤ 900) (n : Int) (hn : (kl n).wf = true) :
    Calls Tryz.prog 91 #[P0 r, I n] W fun e w' => e = .returned (.string (T.textOf n)) ∧ w' = W := by
  obtain ⟨p, Lv, nb, ev, uv, h, hu⟩ := hq
  exact dText_any h hw hB n hn
theorem dFind_D (hq : Dq lo N W r T) (hw : Wk B T) (hB : B ≤ 900) (n : Int) (hn : (kl n).wf = true) (s : ByteArray) (x0 : Int) (f : Bool) (hx0 : (T.findN n s).getD 0 = x0) (hf : (T.findN n s).isSome = f) :
    Calls Tryz.prog 93 #[P0 r, I n, .string s] W fun e w' => e = .returned (.tuple #[I x0, .bool f]) ∧ ∃ k, w' = W.drewN k := by
  obtain ⟨p, Lv, nb, ev, uv, h, hu⟩ := hq
  exact dFind_any h hw hB n hn s x0 f hx0 hf
theorem Uq.give (hu : Uq T uv) (hw : Wf B T) {dir n : Int} {d x : Nd} {s : ByteArray} (hd : T.nd dir = some d) (hdk : d.kind = 1) (hdn : 0 < d.names) (hx : T.nd n = some x) (hxk : x.kind ≠ 1) (hs : getE d.ins s = none) (hz : s.size ≤ 255) : Uq (T.give dir s n) uv := by
  obtain ⟨-, h2⟩ := hw.give hd hdk hdn hx hxk hs hz
  intro k z hz
  rw [h2 k]
  obtain ⟨z1, z2⟩ := Tr.dir_some.1 hz
  rw [Tr.give_nd hd hx s k] at z1
  by_cases e : k = n
  · rw [if_pos e] at z1
    cases z1
    exact absurd z2 hxk
  · rw [if_neg e] at z1
    by_cases e2 : k = dir
    · subst e2
      exact hu k d (Tr.dir_some.2 ⟨hd, hdk⟩)
    · rw [if_neg e2] at z1
      exact hu k z (Tr.dir_some.2 ⟨z1, z2⟩)
theorem dJoin_D (hq : Dq lo N W r T) (hw : Wf B T) (hB : B ≤ 890) (dir n : Int) (s : ByteArray) (hd : (kl dir).wf = true) (hn : (kl n).wf = true) (hs : s.size ≤ 281474976710656) (h16 : ∀ y, T.nd n = some y → y.kind ≠ 1 → y.names ≤ 16) :
    Calls Tryz.prog 67 #[P0 r, I dir, .string s, I n] W fun e w' => e = .returned (I (T.joinE dir s n)) ∧ De lo N W w' r (T.join dir s n) := by
  obtain ⟨p, Lv, nb, ev, uv, h, hu⟩ := hq
  refine (dJoin_any h hw.k hB dir n s hd hn hs h16 (fun y hy => by
    obtain ⟨x, h1, h2, -⟩ := hw.root
    rw [hy] at h1
    cases h1
    exact h2)).mono ?_
  rintro e w' ⟨h1, ev', h2, h3⟩
  refine ⟨h1, ⟨p, Lv, nb, ev', uv, h2, ?_⟩, h3⟩
  by_cases hj : T.joinE dir s n = 0
  · obtain ⟨d, x, g1, g2, g3, g4, g5, g6, g7⟩ := Tr.joinE0 hj
    rw [Tr.join, if_pos hj]
    exact hu.give hw g1 g2 g7 g3 g4 g6 (right_size g5)
  · rw [Tr.join, if_neg hj]
    exact hu
theorem dLeft_D (hq : Dq lo N W r T) (hw : Wk B T) (hB : B ≤ 900) :
    Calls Tryz.prog 87 #[P0 r] W fun e w' => e = .returned (I T.left) ∧ Below W.heap.size W w' := by
  obtain ⟨p, Lv, nb, ev, uv, h, hu⟩ := hq
  exact dLeft_any h hw hB (by have := hw.mst; omega)
end
end Go.Proofs.YtlngeaacjbdmhaaGreat.Rf

namespace Go.Proofs.YtlngeaacjbdmhaaGreat.Rf
open Go.RowKit Go.Maps
attribute [local go_sem ↓] Go.wp_at_zero Go.wp_at_succ
theorem sev {X : World} {b base : Nat} {t : TypeId} {a0 a1 a2 a3 a4 a5 a6 : Value} (h : X.heap[b]? = some (.cells #[a0, a1, a2, a3, a4, a5, a6] t)) (hb : base ≤ b) (v0 v1 v2 v3 v4 v5 v6 : Value) :
    ∃ Y, ((((((X.setCell ⟨b, 0, none⟩ v0).setCell ⟨b, 1, none⟩ v1).setCell ⟨b, 2, none⟩ v2).setCell ⟨b, 3, none⟩ v3).setCell ⟨b, 4, none⟩ v4).setCell ⟨b, 5, none⟩ v5).setCell ⟨b, 6, none⟩ v6 = Y ∧ Y.heap[b]? = some (.cells #[v0, v1, v2, v3, v4, v5, v6] t) ∧ Below base X Y :=
  ⟨_, rfl, by rw [heap_set (heap_set (heap_set (heap_set (heap_set (heap_set (heap_set h 0 _) 1 _) 2 _) 3 _) 4 _) 5 _) 6 _]; rfl, (((((((Below.refl base X).setCell (p := ⟨b, 0, none⟩) hb v0).setCell (p := ⟨b, 1, none⟩) hb v1).setCell (p := ⟨b, 2, none⟩) hb v2).setCell (p := ⟨b, 3, none⟩) hb v3).setCell (p := ⟨b, 4, none⟩) hb v4).setCell (p := ⟨b, 5, none⟩) hb v5).setCell (p := ⟨b, 6, none⟩) hb v6⟩
section
variable {lo N : Nat} {W W' : World} {r : Nat} {T : Tr} {p : Nat} {Lv : Value} {nb : Int → Nat} {ev : Int → Value} {uv : Int → Int} {B : Nat}
set_option maxRecDepth 100000 in
set_option maxHeartbeats 1000000 in
theorem dStat_none (h : DtI lo N W r T p Lv nb ev uv) (hw : Wf B T) (hB : B ≤ 890) (n : Int) (hn : (kl n).wf = true) (hx : T.nd n = none) :
    Calls Tryz.prog 88 #[P0 r, I n] W fun e w' => e = .returned (.tuple #[stat0, .bool false]) ∧ Below W.heap.size W w' := by
  have HA := hide (fun V (g : Below W.heap.size W V) => at_any (h.below g) hw.k (by omega) n hn (.pointer none) (by rw [atV, hx]))
  clear h hw
  unfold stat0
  go_enter Tryz.func88, Tryz.ntmps88
  go_wp2_with fail
  obtain ⟨V, hV, hR, hB1⟩ : ∃ V, V = W.alloc (Obj.cells #[Value.int IntKind.i64 0, Value.int IntKind.i64 0, Value.int IntKind.i64 0, Value.int IntKind.i64 0, Value.int IntKind.i64 0, Value.int IntKind.i64 0, Value.int IntKind.i64 0] 33) ∧ V.heap[W.heap.size]? = some (Obj.cells #[Value.int IntKind.i64 0, Value.int IntKind.i64 0, Value.int IntKind.i64 0, Value.int IntKind.i64 0, Value.int IntKind.i64 0, Value.int IntKind.i64 0, Value.int IntKind.i64 0] 33) ∧ Below W.heap.size W V := ⟨_, rfl, putAll _ _ rfl, (Below.refl _ _).alloc (Nat.le_refl _) _⟩
  rw [← hV]
  clear hV
  refine (unhide HA V hB1).mono ?_
  rintro e w1 ⟨rfl, hw1⟩
  rw [hw1]
  clear hw1
  obtain ⟨r0, r1, r2, r3, r4, r5, r6, rf⟩ := cells7 hR
  have HB := hide hB1
  have HR := hide hR
  clear HA hB1 hR
  go_wp2_with fail
  obtain ⟨Y, hY, hY1, hY2⟩ := sev (base := W.heap.size) (unhide HR) (Nat.le_refl _) (I 0) (I 0) (I 0) (I 0) (I 0) (I 0) (I 0)
  rw [hY]
  obtain ⟨x0, x1, x2, x3, x4, x5, x6, xf⟩ := cells7 hY1
  refine bodyPost_ret (v := .tuple #[.agg #[I 0, I 0, I 0, I 0, I 0, I 0, I 0], .bool false]) ?_ rfl ?_
  · rw [results_cell_tmp rfl]
    go_simp
  · exact ⟨rfl, (unhide HB).trans hY2⟩
set_option maxRecDepth 100000 in
set_option maxHeartbeats 1000000 in
theorem dStat_some (h : DtI lo N W r T p Lv nb ev uv) (hw : Wf B T) (hB : B ≤ 890) (n : Int) (hn : (kl n).wf = true) {x : Nd} (hx : T.nd n = some x) :
    Calls Tryz.prog 88 #[P0 r, I n] W fun e w' => e = .returned (.tuple #[T.statV n x, .bool true]) ∧ Below W.heap.size W w' := by
  have HA := hide (fun V (g : Below W.heap.size W V) => at_any (h.below g) hw.k (by omega) n hn (P0 (nb n)) (by rw [atV, hx]))
  obtain ⟨L, hL⟩ : ∃ L : Nat, T.links x = L := ⟨_, rfl⟩
  have HLK := hide (fun V (g : Below W.heap.size W V) => links_any (h.below g) hw.k (by omega) hn hx (fun e => by
    subst e
    obtain ⟨y, h1, h2, -⟩ := hw.root
    rw [hx] at h1
    cases h1
    exact h2) L hL)
  have hfw : (kl x.file).wf = true := wf_of (by have := hw.k.fil n x hx; omega)
  have HSZ := hide (fun V (g : Below W.heap.size W V) => Rb.rsize_any (h.below g).pl x.file hfw (by have := hw.k.pol; omega))
  have hb := (h.hn n x hx).1
  obtain ⟨a, cap, hev⟩ := own_form (h.hn n x hx).2
  have hkn := hw.k.knd n x hx
  have htx := hw.k.txt n x hx
  have hil := (hw.k.bnd n x hx).2.2
  have hrt := h.ht
  obtain ⟨mo, hmo⟩ : ∃ mo, mo = x.mode := ⟨_, rfl⟩
  unfold Tr.statV
  rw [hL]
  obtain ⟨Z, hZ⟩ : ∃ Z : Nat, T.size x = Z := ⟨_, rfl⟩
  rw [hZ]
  unfold Tr.size at hZ
  clear h hw
  generalize nb n = b at *
  go_enter Tryz.func88, Tryz.ntmps88
  go_wp2_with fail
  obtain ⟨V, hV, hR, hB1⟩ : ∃ V, V = W.alloc (Obj.cells #[Value.int IntKind.i64 0, Value.int IntKind.i64 0, Value.int IntKind.i64 0, Value.int IntKind.i64 0, Value.int IntKind.i64 0, Value.int IntKind.i64 0, Value.int IntKind.i64 0] 33) ∧ V.heap[W.heap.size]? = some (Obj.cells #[Value.int IntKind.i64 0, Value.int IntKind.i64 0, Value.int IntKind.i64 0, Value.int IntKind.i64 0, Value.int IntKind.i64 0, Value.int IntKind.i64 0, Value.int IntKind.i64 0] 33) ∧ Below W.heap.size W V := ⟨_, rfl, putAll _ _ rfl, (Below.refl _ _).alloc (Nat.le_refl _) _⟩
  rw [← hV]
  clear hV
  refine (unhide HA V hB1).mono ?_
  rintro e w1 ⟨rfl, hw1⟩
  rw [hw1]
  clear hw1
  obtain ⟨c0, c1, c2, c3, c4, c5, c6, c7, c8, c9, c10, c11, c12, cf⟩ := dcells ((hB1.block _ (lt_of_heap hb)).trans hb)
  go_wp2_with fail
  obtain ⟨V2, hV2, hS2, hB2⟩ : ∃ V2, V2 = V.alloc (Obj.cells #[Value.int IntKind.i64 n, Value.int IntKind.i64 x.kind, Value.int IntKind.i64 x.mode, Value.int IntKind.i64 x.uid, Value.int IntKind.i64 x.gid, Value.int IntKind.i64 0, Value.int IntKind.i64 0] 33) ∧ V2.heap[V.heap.size]? = some (Obj.cells #[Value.int IntKind.i64 n, Value.int IntKind.i64 x.kind, Value.int IntKind.i64 x.mode, Value.int IntKind.i64 x.uid, Value.int IntKind.i64 x.gid, Value.int IntKind.i64 0, Value.int IntKind.i64 0] 33) ∧ Below V.heap.size V V2 := ⟨_, rfl, putAll _ _ rfl, (Below.refl _ _).alloc (Nat.le_refl _) _⟩
  rw [← hV2]
  clear hV2
  have hB12 : Below W.heap.size W V2 := hB1.trans (hB2.mono hB1.size)
  refine (unhide HLK V2 hB12).mono ?_
  rintro e w1 ⟨rfl, hw1⟩
  rw [hw1]
  clear hw1
  have hRS : W.heap.size < V.heap.size := lt_of_heap hR
  have hbW := lt_of_heap hb
  have hrW := lt_of_heap hrt
  obtain ⟨X1, hX1⟩ : ∃ X1, V2.setCell ⟨V.heap.size, 5, none⟩ (I (L : Int)) = X1 := ⟨_, rfl⟩
  have hX1c : X1.heap[V.heap.size]? = some (.cells #[I n, I x.kind, I x.mode, I x.uid, I x.gid, I (L : Int), I 0] 33) := by rw [← hX1, heap_set hS2]; rfl
  have hX1B : Below W.heap.size W X1 := by rw [← hX1]; exact hB12.setCell (p := ⟨V.heap.size, 5, none⟩) (by show W.heap.size ≤ V.heap.size; omega) _
  have hX1R : X1.heap[W.heap.size]? = some (Obj.cells #[Value.int IntKind.i64 0, Value.int IntKind.i64 0, Value.int IntKind.i64 0, Value.int IntKind.i64 0, Value.int IntKind.i64 0, Value.int IntKind.i64 0, Value.int IntKind.i64 0] 33) := by
    rw [← hX1, Below.heap_setCell _ _ _ _ (show W.heap.size ≠ V.heap.size by omega), hB2.block _ hRS]
    exact hR
  have FIN : Hid (∀ X1', Below X1.heap.size X1 X1' → ∃ X2, X1'.setCell ⟨V.heap.size, 6, none⟩ (I (Z : Int)) = X2 ∧ X2.heap[V.heap.size]? = some (.cells #[I n, I x.kind, I x.mode, I x.uid, I x.gid, I (L : Int), I (Z : Int)] 33) ∧ ∃ Y, ((((((X2.setCell ⟨W.heap.size, 0, none⟩ (I n)).setCell ⟨W.heap.size, 1, none⟩ (I x.kind)).setCell ⟨W.heap.size, 2, none⟩ (I x.mode)).setCell ⟨W.heap.size, 3, none⟩ (I x.uid)).setCell ⟨W.heap.size, 4, none⟩ (I x.gid)).setCell ⟨W.heap.size, 5, none⟩ (I (L : Int))).setCell ⟨W.heap.size, 6, none⟩ (I (Z : Int)) = Y ∧ Y.heap[W.heap.size]? = some (.cells #[I n, I x.kind, I x.mode, I x.uid, I x.gid, I (L : Int), I (Z : Int)] 33) ∧ Below W.heap.size W Y ∧ X2.heap[W.heap.size]? = some (Obj.cells #[Value.int IntKind.i64 0, Value.int IntKind.i64 0, Value.int IntKind.i64 0, Value.int IntKind.i64 0, Value.int IntKind.i64 0, Value.int IntKind.i64 0, Value.int IntKind.i64 0] 33)) := hide fun X1' hB' => by
    have k1 : X1'.heap[V.heap.size]? = _ := (hB'.block _ (lt_of_heap hX1c)).trans hX1c
    have k2 : X1'.heap[W.heap.size]? = _ := (hB'.block _ (lt_of_heap hX1R)).trans hX1R
    have k3 : (X1'.setCell ⟨V.heap.size, 6, none⟩ (I (Z : Int))).heap[W.heap.size]? = _ := (Below.heap_setCell _ _ _ _ (show W.heap.size ≠ V.heap.size by omega)).trans k2
    obtain ⟨Y, y1, y2, y3⟩ := sev (base := W.heap.size) k3 (Nat.le_refl _) (I n) (I x.kind) (I x.mode) (I x.uid) (I x.gid) (I (L : Int)) (I (Z : Int))
    exact ⟨_, rfl, by rw [heap_set k1]; rfl, Y, y1, y2, ((hX1B.trans (hB'.mono hX1B.size)).setCell (p := ⟨V.heap.size, 6, none⟩) (by show W.heap.size ≤ V.heap.size; omega) _).trans y3, k3⟩
  obtain ⟨g0, g1, g2, g3, g4, g5, g6, gf⟩ := cells7 hX1c
  obtain ⟨-, -, -, -, -, -, -, c7', c8', -, -, -, c12', -⟩ := dcells ((hX1B.block _ hbW).trans hb)
  have q1 : X1.cell? ⟨r, 1, none⟩ = some (P0 p) := by rw [cell_of ((hX1B.block _ hrW).trans hrt)]; rfl
  have s5 : V2.cell? ⟨V.heap.size, 5, none⟩ = some (I 0) := by rw [cell_of hS2]; rfl
  have sf5 : V2.frozen? ⟨V.heap.size, 5, none⟩ = false := frozen_of hS2 5
  rw [hev] at c8'
  have HSX := hide (unhide HSZ X1 hX1B)
  have HSXd := hide (unhide HSZ X1.drew (below_drew hX1B))
  have hkk : x.kind = 1 ∨ x.kind = 2 ∨ x.kind = 3 := by omega
  generalize hkd : x.kind = kd at *
  clear HA HLK HSZ hB12 hB1 hB2 hS2 hX1c hX1B hX1R hR hb hrt c0 c1 c2 c3 c4 c5 c6 c7 c8 c9 c10 c11 c12 cf hkn
  rcases hkk with rfl | rfl | rfl
  · rw [if_neg (by decide), if_neg (by decide)] at hZ
    rw [hZ] at c8' hil
    obtain ⟨X2, hx2, h2, Y, hy, hyc, hyB, h2R⟩ := unhide FIN X1 (Below.refl _ _)
    obtain ⟨f0, f1, f2, f3, f4, f5, f6, ff⟩ := cells7 h2
    obtain ⟨t0, t1, t2, t3, t4, t5, t6, tf⟩ := cells7 h2R
    have HYC := hide hyc
    have HYB := hide hyB
    clear hyc hyB h2 h2R FIN
    go_wp2_with fail
    refine bodyPost_ret (v := .tuple #[.agg #[I n, I 1, I x.mode, I x.uid, I x.gid, I (L : Int), I (Z : Int)], .bool true]) ?_ rfl ?_
    · rw [results_cell_tmp rfl]
      obtain ⟨e0, e1, e2, e3, e4, e5, e6, ef⟩ := cells7 (unhide HYC)
      go_simp
    · exact ⟨by rw [hkd], unhide HYB⟩
  · rw [if_pos rfl] at hZ
    rw [hZ] at HSX HSXd
    obtain ⟨X2, hx2, h2, Y, hy, hyc, hyB, h2R⟩ := unhide FIN X1.drew (below_drew (Below.refl _ _))
    obtain ⟨f0, f1, f2, f3, f4, f5, f6, ff⟩ := cells7 h2
    obtain ⟨t0, t1, t2, t3, t4, t5, t6, tf⟩ := cells7 h2R
    have HYC := hide hyc
    have HYB := hide hyB
    clear hyc hyB h2 h2R FIN
    go_wp2_with fail
    have q2 : X2.cell? ⟨r, 1, none⟩ = some (P0 p) := by
      rw [← hx2]
      exact (World.cell?_of_block (a := ⟨r, 1, none⟩) (Below.heap_setCell _ _ _ _ (show r ≠ V.heap.size by omega))).trans q1
    have q3 : X2.cell? ⟨b, 12, none⟩ = some (I x.file) := by
      rw [← hx2]
      exact (World.cell?_of_block (a := ⟨b, 12, none⟩) (Below.heap_setCell _ _ _ _ (show b ≠ V.heap.size by omega))).trans c12'
    go_region_held3 (fun w' => w'.cell? ⟨r, 1, none⟩ = some (P0 p) ∧ w'.cell? ⟨b, 12, none⟩ = some (I x.file)) (go_keep) ((go_at_call 145; refine (unhide HSXd).mono ?_; rintro e w2 ⟨rfl, hw2⟩; rw [hw2]; clear hw2))
    go_wp2_with fail
    refine bodyPost_ret (v := .tuple #[.agg #[I n, I 2, I x.mode, I x.uid, I x.gid, I (L : Int), I (Z : Int)], .bool true]) ?_ rfl ?_
    · rw [results_cell_tmp rfl]
      obtain ⟨e0, e1, e2, e3, e4, e5, e6, ef⟩ := cells7 (unhide HYC)
      go_simp
    · exact ⟨by rw [hkd], unhide HYB⟩
  · rw [if_neg (by decide), if_pos rfl] at hZ
    subst hZ
    obtain ⟨X2, hx2, h2, Y, hy, hyc, hyB, h2R⟩ := unhide FIN X1 (Below.refl _ _)
    obtain ⟨f0, f1, f2, f3, f4, f5, f6, ff⟩ := cells7 h2
    obtain ⟨t0, t1, t2, t3, t4, t5, t6, tf⟩ := cells7 h2R
    have HYC := hide hyc
    have HYB := hide hyB
    clear hyc hyB h2 h2R FIN
    go_wp2_with fail
    refine bodyPost_ret (v := .tuple #[.agg #[I n, I 3, I x.mode, I x.uid, I x.gid, I (L : Int), I (x.text.size : Int)], .bool true]) ?_ rfl ?_
    · rw [results_cell_tmp rfl]
      obtain ⟨e0, e1, e2, e3, e4, e5, e6, ef⟩ := cells7 (unhide HYC)
      go_simp
    · exact ⟨by rw [hkd], unhide HYB⟩
end
end Go.Proofs.YtlngeaacjbdmhaaGreat.Rf
