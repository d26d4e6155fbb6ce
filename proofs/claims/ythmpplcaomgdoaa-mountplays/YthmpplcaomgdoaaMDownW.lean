/-
  The walk of MountDown.
-/
import Derived.Test.YthmpplcaomgdoaaMDownA
import Derived.Deep.CutRange
import Derived.Deep.CutBlock
namespace Go.Proofs.Ythmpplcaomgdoaa.Mt
open Go.RowKit
attribute [local go_sem ↓] Go.wp_at_zero Go.wp_at_succ

theorem wrap_ok {x : Int} (h : -9223372036854775808 ≤ x ∧ x ≤ 9223372036854775807) : IntKind.i64.wrap x = x := by
  rw [IntKind.wrap_i64]; omega
/-- What lies while the law goes on: the place p in block h, the table behind it. -/
structure DS (B : Int) (h : Nat) (w W : World) (pm pn : Int) (t : T) : Prop where
  q : Tq B (h + 1) W (h + 1) t
  p : W.heap[h]? = some (.cells #[I pm, I pn] 29)
  be : Below h w W
theorem DS.sz {B : Int} {h : Nat} {w W : World} {pm pn : Int} {t : T} (s : DS B h w W pm pn t) : h + 1 < W.heap.size := s.q.ls.lt
theorem DS.fm {B B' : Int} {h : Nat} {w W W' : World} {pm pn : Int} {t t' : T} (s : DS B h w W pm pn t) (q : Tq B' (h + 1) W' (h + 1) t') (f : Fm (h + 1) (h + 1) W W') : DS B' h w W' pm pn t' :=
  ⟨q, (f.low h (by omega)).trans s.p, s.be.trans (f.below.mono (by omega))⟩
theorem DS.below {B : Int} {h : Nat} {w W W' : World} {pm pn : Int} {t : T} (s : DS B h w W pm pn t) (g : Below W.heap.size W W') : DS B h w W' pm pn t :=
  ⟨s.q.below g, (g.block h (lt_of_heap s.p)).trans s.p, s.be.trans (g.mono (by have := s.sz; omega))⟩
theorem DS.alloc {B : Int} {h : Nat} {w W : World} {pm pn : Int} {t : T} (s : DS B h w W pm pn t) (o : Obj) : DS B h w (W.alloc o) pm pn t := s.below (below_alloc _ _)
theorem DS.mono {B B' : Int} {h : Nat} {w W : World} {pm pn : Int} {t : T} (s : DS B h w W pm pn t) (hB : B ≤ B') : DS B' h w W pm pn t := ⟨⟨s.q.ls, s.q.wf.mono hB⟩, s.p, s.be⟩
theorem DS.drew {B : Int} {h : Nat} {w W : World} {pm pn : Int} {t : T} (s : DS B h w W pm pn t) : DS B h w W.drew pm pn t := s.below ⟨rfl, rfl, rfl, Nat.le_refl _, fun _ _ => rfl⟩
/-- Another place is laid into p. -/
theorem DS.setP {B : Int} {h : Nat} {w W : World} {pm pn : Int} {t : T} (s : DS B h w W pm pn t) (a b : Int) : DS B h w ((W.setCell ⟨h, 0, none⟩ (I a)).setCell ⟨h, 1, none⟩ (I b)) a b t := by
  have hk : ∀ k, k ≠ h → ((W.setCell ⟨h, 0, none⟩ (I a)).setCell ⟨h, 1, none⟩ (I b)).heap[k]? = W.heap[k]? := fun k hk => (Below.heap_setCell _ _ _ _ hk).trans (Below.heap_setCell _ _ _ _ hk)
  refine ⟨s.q.fm fun k cur ty hc ht => hk k ?_, ?_, (s.be.setCell (p := ⟨h, 0, none⟩) (Nat.le_refl _) _).setCell (p := ⟨h, 1, none⟩) (Nat.le_refl _) _⟩
  · rintro rfl
    rw [s.p] at hc
    simp at hc
    rcases ht with e | e
    · omega
    · rw [e] at hc; simp at hc
  · rw [heap_set (heap_set s.p 0 (I a)) 1 (I b)]; simp
/-- Down, while a place lies in block y. -/
theorem down_D {B : Int} {h : Nat} {w W : World} {pm pn : Int} {t : T} (s : DS B h w W pm pn t) (m n m' n' : Int) (hd : down t.md t.es m n = (m', n')) {y : Nat} {x0 x1 : Value} (hy : W.heap[y]? = some (.cells #[x0, x1] 29)) :
    Calls Try.prog 11 #[.pointer (some ⟨h + 1, 0, none⟩), .agg #[I m, I n]] W fun e w' => e = .returned (.agg #[I m', I n']) ∧ (w'.cell? ⟨y, 0, none⟩ = some x0 ∧ w'.cell? ⟨y, 1, none⟩ = some x1) ∧ Hid (DS B h w w' pm pn t ∧ w'.heap[y]? = some (.cells #[x0, x1] 29)) := by
  refine (down_R s.q m n m' n' hd).mono ?_
  rintro e w' ⟨h1, h2, h3⟩
  have hy' := (h3.block y (lt_of_heap hy)).trans hy
  exact ⟨h1, cells2 hy', s.below h3, hy'⟩
/-- Bind, while a place lies in block y, and a call that came in below. -/
theorem bind_D {B : Int} {h : Nat} {w W : World} {pm pn : Int} {t : T} (s : DS B h w W pm pn t) (hB : B < 1000000) (am an nd : Int) {y : Nat} {x0 x1 : Value} (hy : W.heap[y]? = some (.cells #[x0, x1] 29)) (hyh : h + 1 < y) {b o : Nat} {v : Value} (hb : b < h) (hc : W.cell? ⟨b, o, none⟩ = some v) :
    Calls Try.prog 10 #[.pointer (some ⟨h + 1, 0, none⟩), .agg #[I am, I an], I nd] W fun e w' => e = .returned (.tuple #[I (t.bindN am an), I (bindE t.es am an)]) ∧ (w'.cell? ⟨y, 0, none⟩ = some x0 ∧ w'.cell? ⟨y, 1, none⟩ = some x1 ∧ w'.cell? ⟨b, o, none⟩ = some v) ∧ Hid (DS (B + 1) h w w' pm pn (t.bind am an nd)) := by
  refine (bind_Q s.q hB am an nd).mono ?_
  rintro e w' ⟨h1, h2, h3⟩
  have hy' : w'.heap[y]? = some (.cells #[x0, x1] 29) := h3.blk y _ hy (by omega) (by simp)
  obtain ⟨q0, q1⟩ := cells2 hy'
  exact ⟨h1, ⟨q0, q1, (World.cell?_of_block (h3.low b (by omega))).trans hc⟩, s.fm h2 h3⟩
set_option maxRecDepth 100000 in
set_option maxHeartbeats 4000000 in
theorem down_walk (pa : Option Addr) (len cap : Nat) (pm pn : Int) (w : World) (ha : AsksAt w pa len) (_hm : (kl pm).wf = true) (_hn : (kl pn).wf = true) :
    Calls Try.prog 5 #[.slice pa len cap, pv pm pn] w fun e w' => e = .returned (.bool true) ∧ Below w.heap.size w w' := by
  have hlen : (len : Int) ≤ 9223372036854775807 := by have := ha.1; omega
  have HA := hide ha
  clear ha
  unfold pv
  go_enter Try.func5, Try.ntmps5
  go_wp2_with fail
  refine (new_Q 1 _).mono ?_
  rintro e w1 ⟨rfl, h1, b1⟩
  have hsz : (w.alloc (.cells #[I pm, I pn] 29)).heap.size = w.heap.size + 1 := by simp
  rw [hsz] at h1 b1 ⊢
  have S0 : DS 0 w.heap.size w w1 pm pn ⟨1, 0, []⟩ := by
    exact ⟨h1, (b1.block _ (by omega)).trans (putAll _ _ rfl), (below_alloc w _).trans (b1.mono (by omega))⟩
  have HS := hide S0
  clear h1 b1 S0 hsz
  go_upto_block 0 with fail
  generalize hh : w.heap.size = h at *
  go_cut [] from 6 to 67 (fun wc => ∃ t, DS 30 h w wc pm pn t)
  case first =>
    go_wp2_with fail
    go_loopw [6] (fun v wr => ∃ (k : Nat) (t : T), v = I k ∧ k ≤ 30 ∧ k ≤ len ∧ DS k h w wr pm pn t) (fun v _ => 30 - (intOf v).toNat)
    case atStart => exact ⟨0, _, rfl, by omega, by omega, unhide HS⟩
    case round =>
      clear HS
      obtain ⟨k, t, rfl, hk, hkl, S⟩ := hrel
      by_cases hc : k < len ∧ k < 30
      · obtain ⟨b, off, kd, m, nd, am, an, rfl, hb, A⟩ := (unhide HA).2 k hc.1
        rw [hh] at hb
        have j1 : (k : Int) < (len : Int) := by omega
        have j2 : (k : Int) < 30 := by omega
        have j0 : (0 : Int) ≤ (k : Int) := by omega
        have A1 := A.below hb S.be
        have c0 := A1.c0
        have c1 := A1.c1
        have c2 := A1.c2
        have c3 := A1.c3
        have c4 := A1.c4
        have HA1 := hide A
        have hyh := S.sz
        have HS := hide S
        have Hc0 := hide c0
        have Hc1 := hide c1
        have Hc2 := hide c2
        have HW4 := hide (fun (v : Int) (w : World) => within_any v 4 w (by decide) (by decide))
        clear A A1 S hc c0 c1 c2
        go_upto_region 7 with fail
        go_cut [7] from 28 to 43 (fun s wc => ∃ r1 r2 : Int, (0 ≤ r1 ∧ r1 ≤ 4) ∧ (0 ≤ r2 ∧ r2 ≤ 4) ∧ s = .pointer (some ⟨wr.heap.size, 0, none⟩) ∧ wc.heap[wr.heap.size]? = some (.cells #[I r1, I (1 + r2)] 29) ∧ DS k h w wc pm pn t)
        case first =>
          go_region_held3 (fun w' => w'.cell? ⟨b, off + k * 5 + 3, none⟩ = some (I am) ∧ w'.cell? ⟨b, off + k * 5 + 4, none⟩ = some (I an)) (go_keep)
            (first
              | (go_at_call 28; refine (unhide HW4 _ _).mono ?_; rintro e w' ⟨⟨r, hr, rfl⟩, rfl⟩))
          all_goals
            rename_i r1 h1 _
            rw [wrap_ok (show -9223372036854775808 ≤ 1 + r ∧ 1 + r ≤ 9223372036854775807 by omega)]
            go_wp2_with fail
            go_meet
            case rel => exact ⟨r1, r, h1, hr, rfl, putAll _ _ rfl, ((unhide HS).alloc _).below ⟨rfl, rfl, rfl, Nat.le_refl _, fun _ _ => rfl⟩⟩
        case rest =>
        obtain ⟨r1, r2, h1, h2, rfl, hat, S1⟩ := hcut
        have HS1 := hide S1
        have Hat := hide hat
        obtain ⟨a0, a1⟩ := cells2 hat
        have A2 := (unhide HA1).below hb S1.be
        have d2 := A2.c2
        clear HS Hc0 Hc1 Hc2 c3 c4 S1 hat A2
        have hwc : wr.heap.size ≤ wc.heap.size := by have := lt_of_heap (unhide Hat); omega
        go_upto_region 8 with fail
        go_cut [] from 44 to 53 (fun wd => ∃ t', DS (k + 1) h w wd pm pn t')
        case first =>
          go_region_held3 (fun w' => w'.cell? ⟨wr.heap.size, 0, none⟩ = some (I r1) ∧ w'.cell? ⟨wr.heap.size, 1, none⟩ = some (I (1 + r2)) ∧ w'.cell? ⟨b, off + k * 5 + 2, none⟩ = some (I nd)) (go_keep)
            (first
              | (go_at_call 28; refine (unhide HW4 _ _).mono ?_; rintro e w' ⟨⟨r, hr, rfl⟩, rfl⟩)
              | (go_at_call 10; refine (bind_D (unhide HS1).drew (by omega) _ _ _ (unhide Hat) hyh hb d2).mono ?_; rintro e w' ⟨rfl, ⟨q0, q1, q2⟩, HS2⟩))
          all_goals
            go_wp2_with fail
            go_meet
            case rel => exact ⟨_, unhide HS2⟩
        case rest =>
        obtain ⟨t', S2⟩ := hcut
        have A3 := (unhide HA1).below hb S2.be
        have f0 := A3.c0
        have f1 := A3.c1
        have HS2 := hide S2
        clear HS1 Hat a0 a1 d2 A3 S2
        by_cases k2 : kd = 2
        · subst k2
          go_wp2_with fail
          refine (within_any m 6 _ (by decide) (by decide)).mono ?_
          rintro e w' ⟨⟨r, hr, rfl⟩, rfl⟩
          go_wp2_with fail
          refine (unbind_Q (unhide HS2).q r).mono ?_
          rintro e w4 ⟨rfl, g1, g2⟩
          have HS4 := hide ((unhide HS2).fm g1 g2)
          clear g1 g2 HS2 f0 f1
          go_wp2_with fail
          go_roundw
          case rel => exact ⟨k + 1, _, by go_num, by omega, by omega, by rw [show ((k + 1 : Nat) : Int) = (k : Int) + 1 by omega]; exact unhide HS4⟩
          case measure => simp [intOf]; omega
        · have q2 : (kd == 2) = false := by simp [k2]
          clear k2
          go_wp2_with fail
          go_roundw
          case rel => exact ⟨k + 1, _, by go_num, by omega, by omega, by rw [show ((k + 1 : Nat) : Int) = (k : Int) + 1 by omega]; exact unhide HS2⟩
          case measure => simp [intOf]; omega
      · have HS := hide (S.mono (B' := 30) (by omega))
        clear S
        by_cases hkl2 : k < len
        · obtain rfl : k = 30 := by omega
          have j1 : (30 : Int) < (len : Int) := by omega
          clear hc
          go_wp2_with fail
          go_meet
          case rel => exact ⟨t, unhide HS⟩
        · obtain rfl : k = len := by omega
          clear hc
          go_wp2_with fail
          go_meet
          case rel => exact ⟨t, unhide HS⟩
  case rest =>
  obtain ⟨t, S⟩ := hcut
  have HS := hide S
  obtain ⟨p0, p1⟩ := cells2 S.p
  have pf0 := frozen_of S.p 0
  have pf1 := frozen_of S.p 1
  have HW4 := hide (fun (v : Int) (w : World) => within_any v 4 w (by decide) (by decide))
  clear S
  go_upto_region 11 with fail
  go_cut [] from 68 to 75 (fun wd => ∃ pm' pn', DS 30 h w wd pm' pn' t)
  case first =>
    go_region_with (first
      | (go_at_call 28; refine (unhide HW4 _ _).mono ?_; rintro e w' ⟨⟨r, hr, rfl⟩, rfl⟩))
    all_goals
      go_wp2_with fail
      go_meet
      case rel => exact ⟨_, _, (unhide HS).drew.setP _ _⟩
  case rest =>
  clear HS p0 p1 pf0 pf1
  obtain ⟨pm', pn', S⟩ := hcut
  obtain ⟨p0, p1⟩ := cells2 S.p
  obtain ⟨K, k1, k2, k3, k4⟩ := chain S.q.wf.eld t.es.length pm' pn' (abo_le _ _)
  have hle := S.q.wf.le
  obtain ⟨⟨dm, dn'⟩, hd⟩ : ∃ x, x = dn t.es K pm' pn' := ⟨_, rfl⟩
  have HD := hide (down_R S.q pm' pn' dm dn' (by rw [← k4, ← hd]))
  have HD2 : Hid (down t.md t.es dm dn' = (dm, dn')) := down_stop (by rw [← hd] at k3; exact k3)
  have HK := hide (⟨k2, hd⟩ : (∀ j, j < K → any t.es (isAt (dn t.es j pm' pn').1 (dn t.es j pm' pn').2) = true) ∧ (dm, dn') = dn t.es K pm' pn')
  have HS := hide S
  clear S k2 k3 k4 hd
  go_wp2_with fail
  refine (unhide HD).mono ?_
  rintro e w5 ⟨rfl, g1, g2⟩
  have S5 := ((unhide HS).below g2).alloc (.cells #[I dm, I dn'] 29)
  have hdq : (w5.alloc (.cells #[I dm, I dn'] 29)).heap[w5.heap.size]? = some (.cells #[I dm, I dn'] 29) := putAll _ _ rfl
  obtain ⟨W5, hW5⟩ : ∃ W5, w5.alloc (.cells #[I dm, I dn'] 29) = W5 := ⟨_, rfl⟩
  rw [hW5] at S5 hdq
  obtain ⟨d0, d1⟩ := cells2 hdq
  have hDh := ((unhide HS).below g2).sz
  have HS5 := hide S5
  have Hdq := hide hdq
  clear g1 g2 HD HS p0 p1 S5 hdq
  go_upto_region 13 with fail
  go_cut [83] from 79 to 82 (fun s wd => s = .bool false ∧ DS 30 h w wd pm' pn' t ∧ wd.heap[w5.heap.size]? = some (.cells #[I dm, I dn'] 29))
  case first =>
    go_region_held3 (fun w' => w'.cell? ⟨w5.heap.size, 0, none⟩ = some (I dm) ∧ w'.cell? ⟨w5.heap.size, 1, none⟩ = some (I dn')) (go_keep)
      (first
        | (go_at_call 11; refine (down_D (unhide HS5).drew _ _ _ _ (unhide HD2) (unhide Hdq)).mono ?_; rintro e w' ⟨rfl, ⟨q0, q1⟩, HS6⟩))
    all_goals
      go_wp2_with fail
      go_meet
      case rel => exact ⟨rfl, (unhide HS6).1, (unhide HS6).2⟩
  case rest =>
  obtain ⟨rfl, S6, hq6⟩ := hcut
  obtain ⟨e0, e1⟩ := cells2 hq6
  have hQ : (wc.alloc (.cells #[I dm, I dn'] 29)).heap[wc.heap.size]? = some (.cells #[I dm, I dn'] 29) := putAll _ _ rfl
  have hQh := S6.sz
  have S7 := S6.alloc (.cells #[I dm, I dn'] 29)
  have HS7 := hide S7
  have HQ := hide hQ
  clear HS5 Hdq S6 hq6 S7 hQ d0 d1 hW5
  obtain ⟨Qb, hQb⟩ : ∃ Qb, Qb = wc.heap.size := ⟨_, rfl⟩
  rw [← hQb] at HQ hQh
  go_upto_block 4 with fail
  rw [← hQb]
  clear hQb
  go_loopw [10] (fun v wr => ∃ i j : Nat, v = I i ∧ i + j = K ∧ DS 30 h w wr pm' pn' t ∧ wr.heap[Qb]? = some (.cells #[I (dn t.es j pm' pn').1, I (dn t.es j pm' pn').2] 29)) (fun v _ => 20 - (intOf v).toNat)
  case atStart => exact ⟨0, K, rfl, by omega, unhide HS7, by rw [← (unhide HK).2]; exact unhide HQ⟩
  case round =>
    clear HS7 HQ e0 e1
    obtain ⟨i, j, rfl, hij, S, hQ⟩ := hrel
    obtain ⟨p0, p1⟩ := cells2 S.p
    obtain ⟨q0, q1⟩ := cells2 hQ
    have ji : (i : Int) < 20 := by omega
    cases j with
    | zero =>
      have HS := hide S
      simp only [dn] at q0 q1
      clear S hQ
      go_wp2_with fail
      refine (known_any wr).mono ?_
      rintro e w9 ⟨rfl, b9⟩
      have HB := hide ((unhide HS).below b9).be
      clear b9 HS
      go_wp2_with fail
      go_ret
      exact ⟨rfl, by rw [hh]; exact unhide HB⟩
    | succ j =>
      obtain ⟨k2, -⟩ := unhide HK
      have ha := k2 j (by omega)
      have hgt := dn_gt S.q.wf.eld k2 j (by omega)
      have hst := dn_succ t.es j pm' pn'
      rw [ha] at hst
      simp only [if_true] at hst
      obtain ⟨u1, u2, u3, u4, u5⟩ := up_back S.q.wf ha
      rw [hst] at q0 q1 hgt hQ
      obtain ⟨um, hum⟩ : ∃ um, um = (dn t.es j pm' pn').1 := ⟨_, rfl⟩
      obtain ⟨un, hun⟩ : ∃ un, un = (dn t.es j pm' pn').2 := ⟨_, rfl⟩
      obtain ⟨x, hx⟩ : ∃ x, x = fst t.es (isAt (dn t.es j pm' pn').1 (dn t.es j pm' pn').2) := ⟨_, rfl⟩
      rw [← hx] at u1 u2 u3 u4 u5 q0 q1 hgt hQ
      rw [← hum] at u2
      rw [← hun] at u3
      have HR := hide (fun W (s : DS 30 h w W pm' pn' t) => root_R s.q x.n _ _ u5 u4)
      have HU := hide (fun W (s : DS 30 h w W pm' pn' t) => up_R s.q x.n x.top _ _ _ u2 u3 u1)
      have hne : ¬ x.n = pm' := by simp only [] at hgt; omega
      have HS := hide S
      have HQ := hide hQ
      have Hum := hide (⟨hum, hun⟩ : um = (dn t.es j pm' pn').1 ∧ un = (dn t.es j pm' pn').2)
      clear k2 ha hgt hst u1 u2 u3 u4 u5 hx hum hun S hQ
      simp only [] at q0 q1
      go_wp2_with fail
      refine (unhide HR _ (unhide HS)).mono ?_
      rintro e w6 ⟨rfl, g1, g2⟩
      have S6 := (unhide HS).below g2
      have Q6 := (g2.block _ (lt_of_heap (unhide HQ))).trans (unhide HQ)
      obtain ⟨r0, r1⟩ := cells2 Q6
      have HS6 := hide S6
      have HQ6 := hide Q6
      clear g1 g2 HS HQ S6 Q6 q0 q1 p0 p1
      go_wp2_with fail
      refine (unhide HU _ (unhide HS6)).mono ?_
      rintro e w7 ⟨rfl, g1, g2⟩
      have S7 := ((unhide HS6).below g2).alloc (.cells #[I um, I un] 29)
      have Q7 := (Below.heap_alloc w7 (.cells #[I um, I un] 29) _ (by have := g2.size; have := lt_of_heap (unhide HQ6); omega)).trans ((g2.block _ (lt_of_heap (unhide HQ6))).trans (unhide HQ6))
      have U7 : (w7.alloc (.cells #[I um, I un] 29)).heap[w7.heap.size]? = some (.cells #[I um, I un] 29) := putAll _ _ rfl
      have hQ7 : Qb ≠ w7.heap.size := by have := g2.size; have := lt_of_heap (unhide HQ6); omega
      obtain ⟨W7, hW7⟩ : ∃ W7, w7.alloc (.cells #[I um, I un] 29) = W7 := ⟨_, rfl⟩
      rw [hW7] at S7 Q7 U7
      obtain ⟨s0, s1⟩ := cells2 Q7
      obtain ⟨v0, v1⟩ := cells2 U7
      obtain ⟨X1, X2, ⟨x1, x2⟩, ⟨c0, c1⟩, ⟨f0, f1⟩, qq, hfr, hsx⟩ := store2 Q7 (I um) (I un)
      have S8 : DS 30 h w X2 pm' pn' t := ⟨S7.q.fm fun k cur ty hc ht => hfr.blk k (lt_of_heap hc) (by
          simp only [List.mem_singleton]
          rintro rfl
          rw [Q7] at hc
          simp at hc
          rcases ht with e | e
          · omega
          · rw [e] at hc; simp at hc), (hfr.blk h (lt_of_heap S7.p) (by simp; omega)).trans S7.p, S7.be.trans (hfr.base (by have := S7.sz; omega) (by simp; omega))⟩
      have HS8 := hide S8
      have HQ8 := hide qq
      clear g1 g2 HS6 HQ6 S7 S8 Q7 U7 qq hfr hsx r0 r1 HR HU
      go_wp2_with fail
      go_roundw
      case rel => exact ⟨i + 1, j, by go_num, by omega, unhide HS8, by rw [← (unhide Hum).1, ← (unhide Hum).2]; exact unhide HQ8⟩
      case measure => simp [intOf]; omega
end Go.Proofs.Ythmpplcaomgdoaa.Mt
