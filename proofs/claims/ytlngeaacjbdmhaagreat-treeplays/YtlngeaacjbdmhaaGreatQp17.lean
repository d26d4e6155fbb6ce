/-
  The document's own tree: Find, gone, links.
-/
import Derived.Test.YtlngeaacjbdmhaaGreatQp16
import Derived.Test.YtlngeaacjbdmhaaGreatQp06
import Derived.Deep.CutRange
import Derived.Laws.OwnMore
namespace Go.Proofs.YtlngeaacjbdmhaaGreat.Rf
open Go.RowKit Go.Maps
attribute [local go_sem ↓] Go.wp_at_zero Go.wp_at_succ
section
variable {lo N : Nat} {W W' : World} {r : Nat} {T : Tr} {p : Nat} {Lv : Value} {nb : Int → Nat} {ev : Int → Value} {uv : Int → Int} {B : Nat}
theorem DtI.findC (h : DtI lo N W r T p Lv nb ev uv) (hw : Wk B T) (hB : B ≤ 900) {n : Int} {x : Nd} (hx : T.nd n = some x) (s : ByteArray) (z : Int) (hz : idx x.ins s = z) (V : World) (g : Below W.heap.size W V) :
    Calls Tryz.prog 127 #[P0 (nb n), .string s] V fun e w' => e = .returned (I z) ∧ w' = V := by
  have h1 := (h.below g).hn n x hx
  exact find_any h1.1 h1.2 (hw.srt n x hx) (by have := (hw.bnd n x hx).2.2; omega) s z hz
set_option maxRecDepth 100000 in
set_option maxHeartbeats 1000000 in
theorem dFind_any (h : DtI lo N W r T p Lv nb ev uv) (hw : Wk B T) (hB : B ≤ 900) (n : Int) (hn : (kl n).wf = true) (s : ByteArray) (x0 : Int) (f : Bool) (hx0 : (T.findN n s).getD 0 = x0) (hf : (T.findN n s).isSome = f) :
    Calls Tryz.prog 93 #[P0 r, I n, .string s] W fun e w' => e = .returned (.tuple #[I x0, .bool f]) ∧ ∃ k, w' = W.drewN k := by
  cases hd : T.dir n with
  | none =>
    have HA := hide (dir_any h hw hB n hn (.pointer none) (by rw [dirV, hd]))
    have e1 : T.findN n s = none := by rw [Tr.findN, hd]; rfl
    rw [e1] at hx0 hf
    obtain rfl : (0 : Int) = x0 := hx0
    obtain rfl : false = f := hf
    clear h hw hd e1
    go_enter Tryz.func93, Tryz.ntmps93
    go_wp2_with fail
    refine (unhide HA).mono ?_
    rintro e w1 ⟨rfl, rfl⟩
    go_wp2_with fail
    go_ret2
    exact ⟨rfl, 0, rfl⟩
  | some x =>
    obtain ⟨hx, hk⟩ := Tr.dir_some.1 hd
    have HA := hide (dir_any h hw hB n hn (P0 (nb n)) (by rw [dirV, hd]))
    have HF := hide (fun z hz V g => h.findC hw hB hx s z hz V g)
    have hfn : T.findN n s = getE x.ins s := by rw [Tr.findN, hd]; rfl
    rw [hfn] at hx0 hf
    obtain ⟨-, -, -, -, -, -, -, -, c8, -⟩ := dcells (h.hn n x hx).1
    obtain ⟨a, cap, hv, hcap, hc⟩ := (h.hn n x hx).2.open'
    rw [hv] at c8
    have hsr := hw.srt n x hx
    have hln := (hw.bnd n x hx).2.2
    cases hg : getE x.ins s with
    | none =>
      rw [hg] at hx0 hf
      obtain rfl : (0 : Int) = x0 := hx0
      obtain rfl : false = f := hf
      have H1 := hide (unhide HF (-1) (by rw [idx, hg]) W (Below.refl _ _))
      generalize nb n = b at *
      clear h hw hd hx HF hfn hc hv hg hsr c8
      go_enter Tryz.func93, Tryz.ntmps93
      go_wp2_with fail
      refine (unhide HA).mono ?_
      rintro e w1 ⟨rfl, rfl⟩
      go_wp2_with fail
      refine (unhide H1).mono ?_
      rintro e w1 ⟨rfl, rfl⟩
      go_wp2_with fail
      go_ret2
      exact ⟨rfl, 0, rfl⟩
    | some q =>
      rw [hg] at hx0 hf
      obtain rfl : q = x0 := hx0
      obtain rfl : true = f := hf
      have hp := (hsr.at_pos s).2 q hg
      obtain ⟨j, hj⟩ : ∃ j, j = pos x.ins s := ⟨_, rfl⟩
      rw [← hj] at hp
      have hjl := (List.getElem?_eq_some_iff.1 hp).1
      have hix : idx x.ins s = (j : Int) := (idx_at hsr hp).1
      have H1 := hide (unhide HF (j : Int) hix W (Below.refl _ _))
      have H2 := hide (fun k => unhide HF (j : Int) hix (W.drewN k) (below_n W k))
      obtain ⟨g, rfl, d0, d1⟩ := hc j s q hp
      obtain ⟨L, hL⟩ : ∃ L, x.ins.length = L := ⟨_, rfl⟩
      rw [hL] at c8 hjl hln
      have j0 : (0 : Int) ≤ (j : Int) := by omega
      have j1 : (j : Int) < (L : Int) := by omega
      have j2 : ¬ (j : Int) < 0 := by omega
      generalize nb n = b at *
      clear h hw hd hx HF hfn hc hv hg hsr hp hix hL hj
      go_enter Tryz.func93, Tryz.ntmps93
      go_wp2_with fail
      refine (unhide HA).mono ?_
      rintro e w1 ⟨rfl, rfl⟩
      go_wp2_with fail
      refine (unhide H1).mono ?_
      rintro e w1 ⟨rfl, rfl⟩
      go_wp2_with fail
      go_quiet (first | (go_at_call 127; exact Calls.quiet_of_same (unhide H2 _)))
      go_wp2_with fail
      go_ret2
      exact ⟨rfl, _, rfl⟩
theorem nm1_eq (hw : Wk B T) {n : Int} {x : Nd} (hx : T.nd n = some x) : (n ≠ 1 ∧ nm1 n x = 0) ↔ x.names = 0 := by
  have := hw.num n x hx
  unfold nm1
  by_cases e : n = 1
  · subst e
    simp at this ⊢
    omega
  · simp [e]
set_option maxHeartbeats 1000000 in
theorem gone_any (h : DtI lo N W r T p Lv nb ev uv) (hw : Wk B T) (hB : B ≤ 900) {n : Int} (hn : (kl n).wf = true) {x : Nd} (hx : T.nd n = some x) (f : Bool) (hf : decide (x.names = 0) = f) :
    Calls Tryz.prog 128 #[P0 r, I n] W fun e w' => e = .returned (.bool f) ∧ w' = W := by
  have HA := hide (at_any h hw hB n hn (P0 (nb n)) (by rw [atV, hx]))
  obtain ⟨-, -, -, -, -, -, -, -, -, -, c10, -⟩ := dcells (h.hn n x hx).1
  have hq := nm1_eq hw hx
  by_cases h1 : n = 1
  · have e : f = false := by
      rw [← hf, decide_eq_false_iff_not]
      exact fun h2 => (hq.2 h2).1 h1
    subst h1 e
    generalize nb 1 = b at *
    clear h hw hx hq hf
    go_enter Tryz.func128, Tryz.ntmps128
    go_wp2_with fail
    go_ret
    exact ⟨rfl, rfl⟩
  · obtain ⟨z, hz⟩ : ∃ z, nm1 n x = z := ⟨_, rfl⟩
    have e : f = decide (z = 0) := by
      rw [← hf, ← hz]
      congr 1
      exact propext ⟨fun h2 => (hq.2 h2).2, fun h2 => hq.1 ⟨h1, h2⟩⟩
    rw [hz] at c10
    have n1 : (n != 1) = true := by simpa using h1
    have He := hide e
    generalize nb n = b at *
    clear h hw hx hq hf e hz
    go_enter Tryz.func128, Tryz.ntmps128
    go_wp2_with fail
    refine (unhide HA).mono ?_
    rintro e w1 ⟨rfl, rfl⟩
    go_wp2_with fail
    go_ret
    refine ⟨?_, rfl⟩
    rw [unhide He]
    first
      | rfl
      | (congr 2; simp)
set_option maxRecDepth 100000 in
set_option maxHeartbeats 1000000 in
theorem links_any (h : DtI lo N W r T p Lv nb ev uv) (hw : Wk B T) (hB : B ≤ 900) {n : Int} (hn : (kl n).wf = true) {x : Nd} (hx : T.nd n = some x) (hr1 : n = 1 → x.kind = 1) (z : Nat) (hz : T.links x = z) :
    Calls Tryz.prog 129 #[P0 r, I n] W fun e w' => e = .returned (I (z : Int)) ∧ w' = W := by
  have HA := hide (at_any h hw hB n hn (P0 (nb n)) (by rw [atV, hx]))
  obtain ⟨-, c1, -, -, -, -, -, -, c8, -, c10, -⟩ := dcells (h.hn n x hx).1
  have hq := nm1_eq hw hx
  by_cases hk : x.kind = 1
  · by_cases h0 : x.names = 0
    · obtain ⟨q1, q2⟩ := hq.2 h0
      have e : z = 0 := by rw [← hz, Tr.links, if_neg (by omega)]; exact h0
      subst e
      rw [hk] at c1
      rw [q2] at c10
      have n1 : (n != 1) = true := by simpa using q1
      generalize nb n = b at *
      clear h hw hx hq hz hr1 hk h0 q2
      go_enter Tryz.func129, Tryz.ntmps129
      go_wp2_with fail
      refine (unhide HA).mono ?_
      rintro e w1 ⟨rfl, rfl⟩
      go_wp2_with fail
      go_ret
      exact ⟨rfl, rfl⟩
    · have e : z = 2 + T.dirs x.ins x.ins.length := by
        rw [← hz, Tr.links, if_pos ⟨hk, by omega⟩, Tr.dirs, List.take_length]
      rw [hk] at c1
      obtain ⟨a, cap, hv, hcap, hc⟩ := (h.hn n x hx).2.open'
      rw [hv] at c8
      have HAt := hide (fun (k : Int) (hk' : (kl k).wf = true) (v : Value) hv' => at_any h hw hB k hk' v hv')
      have hnode : ∀ (i : Nat) (s : ByteArray) (q : Int), x.ins[i]? = some (s, q) → ∃ y, T.nd q = some y ∧ (kl q).wf = true ∧ W.cell? ⟨nb q, 1, none⟩ = some (I y.kind) := fun i s q hi => by
        obtain ⟨y, hy⟩ := hw.ent hx (List.mem_of_getElem? hi)
        obtain ⟨-, d1, -⟩ := dcells (h.hn q y hy).1
        exact ⟨y, hy, hw.wf hB hy, d1⟩
      have Hnode := hide hnode
      have Hc := hide hc
      have hln := (hw.bnd n x hx).2.2
      obtain ⟨nz, hnz⟩ : ∃ nz, nm1 n x = nz := ⟨_, rfl⟩
      rw [hnz] at c10
      have hcond : (if n = 1 then false else decide (nz = 0)) = false := by
        by_cases h1 : n = 1
        · rw [if_pos h1]
        · rw [if_neg h1]
          simp
          intro h2
          exact h0 (hq.1 ⟨h1, by rw [hnz]; exact h2⟩)
      have He := hide e
      obtain ⟨es, hes⟩ : ∃ es, es = x.ins := ⟨_, rfl⟩
      rw [← hes] at Hnode Hc hln He c8
      have hdir := fun i => T.dirs_le es i
      have HDI := hide hdir
      obtain ⟨L, hL⟩ : ∃ L, es.length = L := ⟨_, rfl⟩
      rw [hL] at c8 He hln
      have HL := hide hL
      generalize nb n = b at *
      clear h hw hx hq hz hr1 hk hv hc hnode hdir hes hL e hcap hnz
      go_enter Tryz.func129, Tryz.ntmps129
      go_wp2_with fail
      refine (unhide HA).mono ?_
      rintro e w1 ⟨rfl, hw1⟩
      rw [hw1]
      clear hw1 HA
      go_upto_region 4 with fail
      go_cut [29] from 21 to 28 (fun s29 wc => s29 = .bool false ∧ wc = W)
      case first =>
        by_cases h1 : n = 1
        · subst h1
          clear hcond
          go_wp2_with fail
          go_meet
          case rel => exact ⟨rfl, rfl⟩
        · have n1 : (n != 1) = true := by simpa using h1
          have hnz0 : ¬ nz = 0 := by
            rw [if_neg h1] at hcond
            simpa using hcond
          clear hcond
          go_wp2_with fail
          go_meet
          case rel => exact ⟨by simp [hnz0], rfl⟩
      case rest =>
        obtain ⟨rfl, hwc⟩ := hcut
        rw [hwc]
        clear hwc hcond
        go_wp2_with fail
        go_loopw [6, 7] (fun s6 s7 wr => ∃ j : Nat, j ≤ L ∧ s7 = I (j : Int) ∧ s6 = I ((2 + T.dirs es j : Nat) : Int) ∧ wr = W) (fun _ s7 _ => L - (intOf s7).toNat)
        case atStart => exact ⟨0, by omega, rfl, by simp [Tr.dirs], rfl⟩
        case round =>
          obtain ⟨j, hj, rfl, rfl, rfl⟩ := hrel
          by_cases hlt : j < L
          · have j0 : (0 : Int) ≤ (j : Int) := by omega
            have j1 : (j : Int) < (L : Int) := by omega
            obtain ⟨⟨k, q⟩, hk⟩ : ∃ p, es[j]? = some p := ⟨_, List.getElem?_eq_getElem (by rw [unhide HL]; exact hlt)⟩
            obtain ⟨g, rfl, d0, d1⟩ := unhide Hc j k q hk
            obtain ⟨y, hy, hwq, dk⟩ := unhide Hnode j k q hk
            have HQ := hide (unhide HAt q hwq (P0 (nb q)) (by rw [atV, hy]))
            have hsu := T.dirs_succ hk
            have hko : T.kindOf q = y.kind := by rw [Tr.kindOf, hy]
            rw [hko] at hsu
            have Hsu := hide hsu
            obtain ⟨D, hD⟩ : ∃ D, T.dirs es j = D := ⟨_, rfl⟩
            have hDb : D ≤ 1000 := by have := unhide HDI j; have := unhide HL; omega
            rw [hD] at Hsu ⊢
            generalize nb q = bq at *
            clear hk hy hwq hsu hko hD
            go_wp2_with fail
            refine (unhide HQ).mono ?_
            rintro e w1 ⟨rfl, hw1⟩
            rw [hw1]
            clear hw1 HQ
            by_cases hy1 : y.kind = 1
            · rw [hy1] at dk
              have hs' := unhide Hsu
              rw [if_pos hy1] at hs'
              have Hs' := hide hs'
              clear hs' Hsu hy1
              go_wp2_with fail
              exact ⟨⟨j + 1, by omega, rfl, by rw [unhide Hs']; congr 1, trivial⟩, by simp [intOf]; omega⟩
            · have hs' := unhide Hsu
              rw [if_neg hy1] at hs'
              have Hs' := hide hs'
              clear hs' Hsu
              go_wp2_with fail
              exact ⟨⟨j + 1, by omega, rfl, by rw [unhide Hs']; rfl, trivial⟩, by simp [intOf]; omega⟩
          · obtain rfl : j = L := by omega
            have j1 : ¬ (j : Int) < (j : Int) := by omega
            go_wp2_with fail
            go_ret
            exact ⟨by rw [unhide He]; rfl, rfl⟩
  · have e : (z : Int) = nm1 n x := by
      rw [← hz, Tr.links, if_neg (by omega), nm1, if_neg (fun h1 => hk (hr1 h1))]
      simp
    rw [← e] at c10
    have k1 : (x.kind != 1) = true := by simpa using hk
    generalize nb n = b at *
    clear h hw hx hq hz hr1 e
    go_enter Tryz.func129, Tryz.ntmps129
    go_wp2_with fail
    refine (unhide HA).mono ?_
    rintro e w1 ⟨rfl, rfl⟩
    go_wp2_with fail
    go_ret
    exact ⟨rfl, rfl⟩
end
end Go.Proofs.YtlngeaacjbdmhaaGreat.Rf

namespace Go.Proofs.YtlngeaacjbdmhaaGreat.Rf
open Go.RowKit Go.Maps
attribute [local go_sem ↓] Go.wp_at_zero Go.wp_at_succ
theorem dptrs_congr {T T' : Tr} {nb : Int → Nat} (hm : T'.made = T.made) (h : ∀ k, (T'.nd k).isSome = (T.nd k).isSome) : dptrs T' nb = dptrs T nb := by
  unfold dptrs
  rw [hm]
  exact List.map_congr_left fun i _ => by unfold ptrV; rw [h]
section
variable {lo N : Nat} {W W' : World} {r : Nat} {T : Tr} {p : Nat} {Lv : Value} {nb : Int → Nat} {ev : Int → Value} {uv : Int → Int} {B : Nat}
theorem DtI.turn (h : DtI lo N W r T p Lv nb ev uv) {n : Int} {x y : Nd} {v : Value} {u : Int} (hx : T.nd n = some x) (F : Fr [nb n] W W') (hy : W'.heap[nb n]? = some (.cells (dnC n y u v) 139)) (hr : Dr lo W' v y.ins) :
    DtI lo N W' r (T.set n (some y)) p Lv nb (fun k => if k = n then v else ev k) (fun k => if k = n then u else uv k) ∧ Rx lo W W' := by
  obtain ⟨hb, hro⟩ := h.hn n x hx
  have hsome : ∀ k, ((T.set n (some y)).nd k).isSome = (T.nd k).isSome := fun k => by
    by_cases e : k = n
    · subst e; simp [Tr.set, hx]
    · simp [Tr.set, e]
  have hkp : ∀ (b : Nat) (cs : Array Value) (t : TypeId) (f : Nat × Nat), W.heap[b]? = some (.cells cs t f) → t ≠ 139 → W'.heap[b]? = W.heap[b]? := fun b cs t f e ht => F.blk b (lt_of_heap e) (by
    simp
    rintro rfl
    rw [hb] at e
    cases e
    exact ht rfl)
  refine ⟨⟨(hkp _ _ _ _ h.ht (by decide)).trans h.ht, ?_, ?_, ?_, ?_, h.bd.1, Nat.le_trans h.bd.2.1 F.size, ?_⟩, .of_fr F h.bd.2.1 fun b hS => ?_⟩
  · rw [dptrs_congr (T := T) (T' := T.set n (some y)) rfl hsome]
    exact own_keep h.hL fun b cur e => hkp b cur _ _ e (by decide)
  · intro k z hz
    by_cases e : k = n
    · subst e
      rw [Tr.set_same] at hz
      cases hz
      simp only [if_pos]
      exact ⟨hy, hr⟩
    · rw [Tr.set_other _ _ e] at hz
      simp only [if_neg e]
      obtain ⟨g1, g2⟩ := h.hn k z hz
      exact ⟨(F.blk _ (lt_of_heap g1) (by simpa using h.dn k n z x hz hx e)).trans g1, g2.keep fun b cur e => hkp b cur _ _ e (by decide)⟩
  · intro j k z u' hz hu hjk
    have back : ∀ i w', (T.set n (some y)).nd i = some w' → ∃ w'', T.nd i = some w'' := fun i w' hi => by
      have := hsome i
      rw [hi] at this
      exact Option.isSome_iff_exists.1 this.symm
    obtain ⟨z1, hz1⟩ := back j z hz
    obtain ⟨u1, hu1⟩ := back k u' hu
    exact h.dn j k z1 u1 hz1 hu1 hjk
  · obtain ⟨L, fb, bv, hp⟩ := h.pl
    refine Rb.Rq.mono ⟨L, fb, bv, hp.keep F.size fun b cs t f e ht => hkp b cs t f e ?_⟩ F.size (Nat.le_refl _)
    rcases ht with rfl | rfl | rfl | rfl <;> decide
  · intro k z hz
    have := hsome k
    rw [hz] at this
    obtain ⟨w'', hw''⟩ := Option.isSome_iff_exists.1 this.symm
    exact h.bd.2.2 k w'' hw''
  · simp at hS
    subst hS
    exact ⟨h.bd.2.2 n x hx, _, _, _, hb, by simp [rty]⟩
theorem DtI.set (h : DtI lo N W r T p Lv nb ev uv) {n : Int} {x y : Nd} {u : Int} (hx : T.nd n = some x) (F : Fr [nb n] W W') (hy : W'.heap[nb n]? = some (.cells (dnC n y u (ev n)) 139)) (hi : y.ins = x.ins) :
    DtI lo N W' r (T.set n (some y)) p Lv nb ev (fun k => if k = n then u else uv k) ∧ Rx lo W W' := by
  obtain ⟨hb, hro⟩ := h.hn n x hx
  have h1 := h.turn (W' := W') hx F hy (by
    rw [hi]
    refine hro.keep fun b cur e => F.blk b (lt_of_heap e) ?_
    simp
    rintro rfl
    rw [hb] at e
    simp at e)
  have e : (fun k => if k = n then ev n else ev k) = ev := by
    funext k
    by_cases e : k = n
    · subst e; simp
    · simp [e]
  rw [e] at h1
  exact h1
theorem uv_same (uv : Int → Int) (n : Int) : (fun k => if k = n then uv n else uv k) = uv := by
  funext k
  by_cases e : k = n
  · subst e; simp
  · simp [e]
theorem DtI.store (h : DtI lo N W r T p Lv nb ev uv) {n : Int} {x y : Nd} (hx : T.nd n = some x) (i : Nat) (v : Value) (hy : (dnC n x (uv n) (ev n)).setIfInBounds i v = dnC n y (uv n) (ev n)) (hi : y.ins = x.ins) :
    DtI lo N (W.setCell ⟨nb n, i, none⟩ v) r (T.set n (some y)) p Lv nb ev uv ∧ Rx lo W (W.setCell ⟨nb n, i, none⟩ v) := by
  have h1 := h.set (u := uv n) hx ((Fr.refl [nb n] W).set (a := ⟨nb n, i, none⟩) (by simp) v) (by rw [heap_set (h.hn n x hx).1, hy]) hi
  rw [uv_same] at h1
  exact h1
set_option maxHeartbeats 1000000 in
theorem dHold_any (h : DtI lo N W r T p Lv nb ev uv) (hw : Wk B T) (hB : B ≤ 890) (n : Int) (hn : (kl n).wf = true) :
    Calls Tryz.prog 71 #[P0 r, I n] W fun e w' => e = .returned (I (T.holdE n)) ∧ DtI lo N w' r (T.hold n) p Lv nb ev uv ∧ Rx lo W w' := by
  cases hx : T.nd n with
  | none =>
    have HA := hide (at_any h hw (by omega) n hn (.pointer none) (by rw [atV, hx]))
    have HR := hide (⟨h, Rx.refl h.bd.2.1⟩ : _ ∧ _)
    have e1 : T.holdE n = 1 := by rw [Tr.holdE, hx]
    have e2 : T.hold n = T := by rw [Tr.hold, hx]
    rw [e1, e2]
    clear h hw hx e1 e2
    go_enter Tryz.func71, Tryz.ntmps71
    go_wp2_with fail
    refine (unhide HA).mono ?_
    rintro e w1 ⟨rfl, hw1⟩
    rw [hw1]
    clear hw1
    go_wp2_with fail
    go_ret
    exact ⟨rfl, unhide HR⟩
  | some x =>
    have HA := hide (at_any h hw (by omega) n hn (P0 (nb n)) (by rw [atV, hx]))
    obtain ⟨-, -, -, -, -, -, -, -, -, -, -, c11, -, cf⟩ := dcells (h.hn n x hx).1
    have hb := (hw.bnd n x hx).2.1
    have HR := hide (h.store (y := { x with holds := x.holds + 1 }) hx 11 (I ((x.holds : Int) + 1)) (by simp [dnC, nm1]) rfl)
    have e1 : T.holdE n = 0 := by rw [Tr.holdE, hx]
    have e2 : T.hold n = T.set n (some { x with holds := x.holds + 1 }) := by rw [Tr.hold, hx]
    rw [e1, e2]
    have cf11 := cf 11
    obtain ⟨hd, hhd⟩ : ∃ hd, hd = x.holds := ⟨_, rfl⟩
    rw [← hhd] at c11 hb
    have HR2 := HR
    rw [← hhd] at HR2
    have Hh := hide hhd
    obtain ⟨b, hbb⟩ : ∃ b, b = nb n := ⟨_, rfl⟩
    rw [← hbb] at HA c11 cf11 HR2
    have Hb := hide hbb
    clear h hw hx e1 e2 cf HR hhd hbb
    go_enter Tryz.func71, Tryz.ntmps71
    go_wp2_with fail
    refine (unhide HA).mono ?_
    rintro e w1 ⟨rfl, hw1⟩
    rw [hw1]
    clear hw1
    go_wp2_with fail
    go_ret
    refine ⟨rfl, ?_⟩
    rw [← unhide Hh]
    exact unhide HR2
theorem masked_any (m : Int) (w : World) : Calls Tryz.prog 111 #[I m] w fun e w' => e = .returned (I (bits .and .i64 m 4095)) ∧ w' = w := by
  go_enter Tryz.func111, Tryz.ntmps111
  go_wp2_with fail
  go_ret
  exact ⟨rfl, rfl⟩
def setE (T : Tr) (n : Int) : Int := match T.nd n with | some _ => 0 | none => 1
set_option maxHeartbeats 1000000 in
theorem dSetMode_any (h : DtI lo N W r T p Lv nb ev uv) (hw : Wk B T) (hB : B ≤ 900) (n : Int) (hn : (kl n).wf = true) (mode : Int) :
    Calls Tryz.prog 41 #[P0 r, I n, I mode] W fun e w' => e = .returned (I (setE T n)) ∧ DtI lo N w' r (T.setMode n mode) p Lv nb ev uv ∧ Rx lo W w' := by
  cases hx : T.nd n with
  | none =>
    have HA := hide (at_any h hw hB n hn (.pointer none) (by rw [atV, hx]))
    have HR := hide (⟨h, Rx.refl h.bd.2.1⟩ : _ ∧ _)
    have e1 : setE T n = 1 := by rw [setE, hx]
    have e2 : T.setMode n mode = T := by rw [Tr.setMode, hx]
    rw [e1, e2]
    clear h hw hx e1 e2
    go_enter Tryz.func41, Tryz.ntmps41
    go_wp2_with fail
    refine (unhide HA).mono ?_
    rintro e w1 ⟨rfl, hw1⟩
    rw [hw1]
    clear hw1
    go_wp2_with fail
    go_ret
    exact ⟨rfl, unhide HR⟩
  | some x =>
    have HA := hide (at_any h hw hB n hn (P0 (nb n)) (by rw [atV, hx]))
    obtain ⟨-, -, c2, -, -, -, -, -, -, -, -, -, -, cf⟩ := dcells (h.hn n x hx).1
    have HR := hide (h.store (y := { x with mode := bits .and .i64 mode 4095 }) hx 2 (I (bits .and .i64 mode 4095)) (by simp [dnC, nm1]) rfl)
    have e1 : setE T n = 0 := by rw [setE, hx]
    have e2 : T.setMode n mode = T.set n (some { x with mode := bits .and .i64 mode 4095 }) := by rw [Tr.setMode, hx]
    rw [e1, e2]
    have cf2 := cf 2
    have HM := hide (masked_any mode)
    generalize bits .and .i64 mode 4095 = mm at *
    obtain ⟨b, hbb⟩ : ∃ b, b = nb n := ⟨_, rfl⟩
    rw [← hbb] at HA c2 cf2 HR
    have Hb := hide hbb
    clear h hw hx e1 e2 cf hbb
    go_enter Tryz.func41, Tryz.ntmps41
    go_wp2_with fail
    refine (unhide HA).mono ?_
    rintro e w1 ⟨rfl, hw1⟩
    rw [hw1]
    clear hw1
    go_wp2_with fail
    refine (unhide HM W).mono ?_
    rintro e w1 ⟨rfl, hw1⟩
    rw [hw1]
    clear hw1
    go_wp2_with fail
    go_ret
    exact ⟨rfl, unhide HR⟩
set_option maxHeartbeats 1000000 in
theorem dSetOwner_any (h : DtI lo N W r T p Lv nb ev uv) (hw : Wk B T) (hB : B ≤ 900) (n : Int) (hn : (kl n).wf = true) (uid gid : Int) :
    Calls Tryz.prog 75 #[P0 r, I n, I uid, I gid] W fun e w' => e = .returned (I (setE T n)) ∧ DtI lo N w' r (T.setOwner n uid gid) p Lv nb ev uv ∧ Rx lo W w' := by
  cases hx : T.nd n with
  | none =>
    have HA := hide (at_any h hw hB n hn (.pointer none) (by rw [atV, hx]))
    have HR := hide (⟨h, Rx.refl h.bd.2.1⟩ : _ ∧ _)
    have e1 : setE T n = 1 := by rw [setE, hx]
    have e2 : T.setOwner n uid gid = T := by rw [Tr.setOwner, hx]
    rw [e1, e2]
    clear h hw hx e1 e2
    go_enter Tryz.func75, Tryz.ntmps75
    go_wp2_with fail
    refine (unhide HA).mono ?_
    rintro e w1 ⟨rfl, hw1⟩
    rw [hw1]
    clear hw1
    go_wp2_with fail
    go_ret
    exact ⟨rfl, unhide HR⟩
  | some x =>
    have HA := hide (at_any h hw hB n hn (P0 (nb n)) (by rw [atV, hx]))
    have hb0 := (h.hn n x hx).1
    obtain ⟨-, -, -, c3, c4, -, -, -, -, -, -, -, -, cf⟩ := dcells hb0
    have F2 : Fr [nb n] W ((W.setCell ⟨nb n, 3, none⟩ (I uid)).setCell ⟨nb n, 4, none⟩ (I gid)) := ((Fr.refl [nb n] W).set (a := ⟨nb n, 3, none⟩) (by simp) _).set (a := ⟨nb n, 4, none⟩) (by simp) _
    have h1 := h.set (y := { x with uid := uid, gid := gid }) (u := uv n) hx F2 (by rw [heap_set (heap_set hb0 3 _) 4 _]; simp [dnC, nm1]) rfl
    rw [uv_same] at h1
    have HR := hide h1
    have e1 : setE T n = 0 := by rw [setE, hx]
    have e2 : T.setOwner n uid gid = T.set n (some { x with uid := uid, gid := gid }) := by rw [Tr.setOwner, hx]
    rw [e1, e2]
    have cf3 := cf 3
    have g1 := heap_set hb0 3 (I uid)
    have d4 : (W.setCell ⟨nb n, 3, none⟩ (I uid)).cell? ⟨nb n, 4, none⟩ = some (I x.gid) := by rw [cell_of g1]; simp [dnC]
    have df4 : (W.setCell ⟨nb n, 3, none⟩ (I uid)).frozen? ⟨nb n, 4, none⟩ = false := frozen_of g1 4
    obtain ⟨b, hbb⟩ : ∃ b, b = nb n := ⟨_, rfl⟩
    rw [← hbb] at HA c3 cf3 HR d4 df4
    have Hb := hide hbb
    clear h hw hx e1 e2 cf hbb h1 F2 g1 hb0 c4
    go_enter Tryz.func75, Tryz.ntmps75
    go_wp2_with fail
    refine (unhide HA).mono ?_
    rintro e w1 ⟨rfl, hw1⟩
    rw [hw1]
    clear hw1
    go_wp2_with fail
    go_ret
    exact ⟨rfl, unhide HR⟩
end
end Go.Proofs.YtlngeaacjbdmhaaGreat.Rf

namespace Go.Proofs.YtlngeaacjbdmhaaGreat.Rf
open Go.RowKit Go.Maps
attribute [local go_sem ↓] Go.wp_at_zero Go.wp_at_succ
theorem infoRE : (Tryz.prog.info? 218).map (fun i => (i.zero, i.size, i.bytes)) = some (some (.agg #[.string ByteArray.empty, .int .i64 0]), 2, 24) := by kernel_rfl
theorem addr0 (b off i : Nat) : (⟨b, off, none⟩ : Addr).add i = ⟨b, off + i, none⟩ := by unfold Addr.add; split <;> simp_all
section
variable {lo N : Nat} {W W' : World} {r : Nat} {T : Tr} {p : Nat} {Lv : Value} {nb : Int → Nat} {ev : Int → Value} {uv : Int → Int} {B : Nat}
theorem own_base {lo lo' : Nat} {W : World} {e : TypeId} {s n : Nat} {v : Value} {xs : List Value} (h : W.ownsRow lo e s v n xs) (hb : lo' ≤ lo) : W.ownsRow lo' e s v n xs := by
  obtain ⟨h0, h1⟩ := h
  refine ⟨h0, ?_⟩
  rcases h1 with h1 | ⟨g, cap, cur, h1, h2, h3, h4⟩
  · exact .inl h1
  · exact .inr ⟨g, cap, cur, h1, Nat.le_trans hb h2, h3, h4⟩
theorem copy_run {v : Value} {es : Ents} (hO : Dr lo W v es) (hl : es.length ≤ 1000) :
    ∃ v1 W1, (Builtin.append_ #[137, 137] 137 #[.slice (some ⟨W.heap.size, 0, none⟩) 0 0, v]).run Tryz.prog (W.alloc (.cells #[] 218)) = .ok v1 W1 ∧ W1.ownsRow W.heap.size 218 2 v1 es.length (rowsOf row es) ∧ Below W.heap.size W W1 := by
  obtain ⟨i0, hi, hz0, hz1, hz2⟩ := info_parts infoRE
  have own0 : (W.alloc (.cells #[] 218)).ownsRow W.heap.size 218 2 (.slice (some ⟨W.heap.size, 0, none⟩) 0 0) 0 [] :=
    ⟨rfl, .inr ⟨W.heap.size, 0, #[], rfl, Nat.le_refl _, putAll (w := W) (.cells #[] 218) W.heap.size rfl, Nat.le_refl _, by unfold maxLen; omega, rfl, rfl⟩⟩
  have hB0 : Below W.heap.size W (W.alloc (.cells #[] 218)) := (Below.refl _ W).alloc (Nat.le_refl _) _
  by_cases h0 : es.length = 0
  · have e0 : es = [] := List.length_eq_zero_iff.1 h0
    subst e0
    obtain ⟨-, ⟨rfl, _⟩ | ⟨g, cap, cur, rfl, _, hgg, _⟩⟩ := hO
    · exact ⟨_, _, run_append_owned_none (P := Tryz.prog) (W.alloc (.cells #[] 218)) W.heap.size 137 137 218 i0 2 Tryz.underlying137 hi _ _ _ own0, own0, hB0⟩
    · obtain ⟨v1, W1, r1, own1, gr1, -, -⟩ := run_append_own_at (P := Tryz.prog) (W.alloc (.cells #[] 218)) W.heap.size 137 137 218 i0 (.agg #[.string ByteArray.empty, .int .i64 0]) 2 24 Tryz.underlying137 hi hz0 hz1 hz2 rfl (by decide) _ 0 [] own0 ⟨g, 0, none⟩ 0 cap []
        rfl (by intro j u hj; simp at hj) (by intro u hu; simp at hu) (by unfold maxLen; omega) (by omega) (by simp)
      refine ⟨v1, W1, r1, by simpa [rowsOf] using own1, hB0.trans ⟨gr1.os, gr1.tape, gr1.output, gr1.size, fun j hj => gr1.block j (by simp; omega) ?_⟩⟩
      simp only [Value.ownBlock, ne_eq, Option.some.injEq]; omega
  · obtain ⟨g, cap, cur, rfl, -, hgg, hcap, -, -, hce⟩ := own_open hO h0
    have hgl := lt_of_heap hgg
    obtain ⟨v1, W1, r1, own1, gr1, -, -⟩ := run_append_own_at (P := Tryz.prog) (W.alloc (.cells #[] 218)) W.heap.size 137 137 218 i0 (.agg #[.string ByteArray.empty, .int .i64 0]) 2 24 Tryz.underlying137 hi hz0 hz1 hz2 rfl (by decide) _ 0 [] own0 ⟨g, 0, none⟩ es.length cap (rowsOf row es)
      (by rw [rows_len])
      (by
        intro j u hj
        rw [addr0, Nat.zero_add]
        exact (hB0.cell (p := ⟨g, j, none⟩) hgl).trans (hce j u hj))
      (rows_one _) (by unfold maxLen; omega) (by omega) (by simp)
    refine ⟨v1, W1, r1, by simpa using own1, hB0.trans ⟨gr1.os, gr1.tape, gr1.output, gr1.size, fun j hj => gr1.block j (by simp; omega) ?_⟩⟩
    simp only [Value.ownBlock, ne_eq, Option.some.injEq]; omega
theorem grow_run {lo : Nat} {v : Value} {es : Ents} (hO : Dr lo W v es) (hl : es.length < 1000) (hb : lo ≤ W.heap.size) (s : ByteArray) (n : Int) :
    ∃ v1 W1, (Builtin.append_ #[137, 137] 137 #[v, .slice (some ⟨W.heap.size, 0, none⟩) 1 1]).run Tryz.prog (W.alloc (.cells #[.string s, .int .i64 n] 218)) = .ok v1 W1 ∧ Dr lo W1 v1 (es ++ [(s, n)]) ∧ Below lo W W1 := by
  obtain ⟨i0, hi, hz0, hz1, hz2⟩ := info_parts infoRE
  have hB0 : Below W.heap.size W (W.alloc (.cells #[.string s, .int .i64 n] 218)) := (Below.refl _ W).alloc (Nat.le_refl _) _
  have hnew : (W.alloc (.cells #[.string s, .int .i64 n] 218)).heap[W.heap.size]? = some (.cells #[.string s, .int .i64 n] 218) := putAll _ _ rfl
  have own5 : Dr lo (W.alloc (.cells #[.string s, .int .i64 n] 218)) v es := own_keep hO fun b cur e => hB0.block b (lt_of_heap e)
  obtain ⟨v1, W1, r1, own1, gr1, -, -⟩ := run_append_own_at (P := Tryz.prog) (W.alloc (.cells #[.string s, .int .i64 n] 218)) lo 137 137 218 i0 (.agg #[.string ByteArray.empty, .int .i64 0]) 2 24 Tryz.underlying137 hi hz0 hz1 hz2 rfl (by decide) v es.length (rowsOf row es) own5 ⟨W.heap.size, 0, none⟩ 1 1 (row (s, n)) rfl
    (fun j u hj => by
      rw [Addr.add_lit, Nat.zero_add, cell_of hnew]
      simpa [row] using hj) (by intro u hu; simp [row] at hu; rcases hu with rfl | rfl <;> rfl) (by unfold maxLen; omega) (by omega) (by simp; omega)
  refine ⟨v1, W1, r1, ?_, ?_⟩
  · unfold Dr
    rw [rowsOf_append, List.length_append]
    exact own1
  · have b1 := hB0.mono hb
    refine b1.trans ⟨gr1.os, gr1.tape, gr1.output, gr1.size, fun j hj => gr1.block j (by simp; omega) ?_⟩
    intro e
    obtain ⟨-, ⟨rfl, _⟩ | ⟨g, cap, cur, rfl, hgl, _⟩⟩ := hO
    · simp [Value.ownBlock] at e
    · simp [Value.ownBlock] at e; omega
theorem at_some (h : DtI lo N W r T p Lv nb ev uv) {n : Int} {x : Nd} (hx : T.nd n = some x) (h1 : 1 ≤ n) (h2 : n ≤ (T.made : Int)) (hm : T.made ≤ 900) :
    Calls Tryz.prog 82 #[P0 r, I n] W fun e w' => e = .returned (P0 (nb n)) ∧ w' = W := by
  obtain ⟨-, -, c2, cf⟩ := h.cells
  obtain ⟨a, cap, hLv⟩ := own_form h.hL
  rw [hLv] at c2
  obtain ⟨M, hM⟩ : ∃ M : Nat, M = T.made := ⟨_, rfl⟩
  rw [← hM] at c2
  obtain ⟨k, hk⟩ : ∃ k : Nat, n = (k : Int) + 1 := ⟨(n - 1).toNat, by omega⟩
  have hkM : k < T.made := by omega
  obtain ⟨g, cap', cur, e1, -, hg, -, -, -, hcell⟩ := own_open h.hL (by omega)
  rw [hLv] at e1
  simp only [Value.slice.injEq] at e1
  obtain ⟨rfl, -, rfl⟩ := e1
  have hc := hcell k _ (dptrs_get T nb hkM)
  have e : ptrV T nb k = P0 (nb n) := by
    unfold ptrV
    rw [← hk, hx]
    rfl
  rw [e] at hc
  generalize nb n = b at *
  have k2 : (k : Int) < (M : Int) := by omega
  have k3 : ¬ ((k : Int) + 1 < 1) := by omega
  have k4 : ¬ ((M : Int) < (k : Int) + 1) := by omega
  have k5 : (k : Int) ≤ 900 := by omega
  have k6 : (0 : Int) ≤ (k : Int) := by omega
  subst hk
  replace hM := hide hM
  clear h e hLv hg hcell hm h1 h2 hkM hx
  go_enter Tryz.func82, Tryz.ntmps82
  go_wp2_with fail
  go_ret
  exact ⟨rfl, rfl⟩
def Putd (lo N : Nat) (W W' : World) (r : Nat) (T : Tr) (p : Nat) (Lv : Value) (nb : Int → Nat) (uv : Int → Int) (dir : Int) (s : ByteArray) (n : Int) (y : Nd) : Prop :=
  ∃ ev', DtI lo N W' r (T.give dir s n) p Lv nb ev' (fun k => if k = n then (if y.kind = 1 then dir else uv n) else uv k) ∧ Rx lo W W'
theorem put_end (h : DtI lo N W r T p Lv nb ev uv) (hw : Wk B T) (hB : B ≤ 890) {dir n : Int} {s : ByteArray} {x y : Nd} (hx : T.nd dir = some x) (hy : T.nd n = some y) (hne : dir ≠ n) {V : World} {v2 : Value} (F : Fr [nb dir] W V)
    (hb : V.heap[nb dir]? = some (.cells (dnC dir { x with ins := putE x.ins s n } (uv dir) v2) 139)) (hr : Dr lo V v2 (putE x.ins s n)) :
    ∃ X, X = V.setCell ⟨nb n, 10, none⟩ (I (nm1 n y + 1)) ∧ Hid (Calls Tryz.prog 82 #[P0 r, I n] V fun e w' => e = .returned (P0 (nb n)) ∧ w' = V) ∧
    V.cell? ⟨nb n, 10, none⟩ = some (I (nm1 n y)) ∧ V.frozen? ⟨nb n, 10, none⟩ = false ∧ (-1 ≤ nm1 n y ∧ nm1 n y ≤ 890) ∧ X.cell? ⟨nb n, 1, none⟩ = some (I y.kind) ∧ X.cell? ⟨nb n, 9, none⟩ = some (I (uv n)) ∧ X.frozen? ⟨nb n, 9, none⟩ = false ∧
    Hid (y.kind ≠ 1 → Putd lo N W X r T p Lv nb uv dir s n y) ∧
    Hid (y.kind = 1 → Putd lo N W (X.setCell ⟨nb n, 9, none⟩ (I dir)) r T p Lv nb uv dir s n y) := by
  obtain ⟨h1, R1⟩ := h.turn (y := { x with ins := putE x.ins s n }) hx F hb hr
  have hy1 : (T.set dir (some { x with ins := putE x.ins s n })).nd n = some y := by rw [Tr.set_other _ _ (fun e => hne e.symm)]; exact hy
  have hbn := (h1.hn n y hy1).1
  have hro := (h1.hn n y hy1).2
  simp only [if_neg (fun e => hne e.symm : ¬ n = dir)] at hbn hro
  obtain ⟨-, -, -, -, -, -, -, -, -, -, d10, -, -, df⟩ := dcells hbn
  have g1 := heap_set hbn 10 (I (nm1 n y + 1))
  have hk := hw.key n y hy
  have hT : T.give dir s n = (T.set dir (some { x with ins := putE x.ins s n })).set n (some (y.named dir)) := by
    unfold Tr.give
    rw [hx, hy]
  have hnm : nm1 n (y.named dir) = nm1 n y + 1 := by simp [nm1, Nd.named]; omega
  have hF1 : Fr [nb n] V (V.setCell ⟨nb n, 10, none⟩ (I (nm1 n y + 1))) := (Fr.refl [nb n] V).set (a := ⟨nb n, 10, none⟩) (by simp) _
  have huv : ∀ u, (fun k => if k = n then u else (if k = dir then uv dir else uv k)) = (fun k => if k = n then u else uv k) := fun u => by
    funext k
    by_cases e : k = n
    · simp [e]
    · by_cases e2 : k = dir
      · subst e2; simp
      · simp [e, e2]
  have hkp : ∀ V', Fr [nb n] V V' → Dr lo V' (ev n) y.ins := fun V' F' => hro.keep fun b cur e => F'.blk b (lt_of_heap e) (by
    simp
    rintro rfl
    rw [hbn] at e
    simp at e)
  have hbb := (hw.bnd n y hy).1
  refine ⟨_, rfl, hide (at_some h1 hy1 hk.1 (by simpa [Tr.set] using hk.2) (by have := hw.made; simp [Tr.set]; omega)), d10, df 10, ⟨by unfold nm1; split <;> omega, by unfold nm1; split <;> omega⟩, by rw [cell_of g1]; simp [dnC], by rw [cell_of g1]; simp [dnC], frozen_of g1 9, hide fun hkd => ?_, hide fun hkd => ?_⟩
  · obtain ⟨h2, R2⟩ := h1.turn (y := y.named dir) (u := uv n) (v := ev n) hy1 hF1 (by rw [g1, ← hnm]; simp [dnC, Nd.named]) (hkp _ hF1)
    rw [huv] at h2
    unfold Putd
    rw [hT]
    simp only [if_neg hkd]
    exact ⟨_, h2, R1.trans R2⟩
  · have g2 := heap_set g1 9 (I dir)
    have hF2 := hF1.set (a := ⟨nb n, 9, none⟩) (by simp) (I dir)
    obtain ⟨h2, R2⟩ := h1.turn (y := y.named dir) (u := dir) (v := ev n) hy1 hF2 (by rw [g2, ← hnm]; simp [dnC, Nd.named]) (hkp _ hF2)
    rw [huv] at h2
    unfold Putd
    rw [hT]
    simp only [if_pos hkd]
    exact ⟨_, h2, R1.trans R2⟩
end
end Go.Proofs.YtlngeaacjbdmhaaGreat.Rf
