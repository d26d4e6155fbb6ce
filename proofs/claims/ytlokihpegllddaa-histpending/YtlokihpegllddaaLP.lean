/-
  HistPending: the law's walk.
-/
import Derived.Test.YtlokihpegllddaaLT
import Derived.Test.YtlokihpegllddaaHV
import Derived.Test.YtlokihpegllddaaHK
namespace Go.Proofs.Ytlokihpegllddaa.Cl
open Go.RowKit Go.Shelf
attribute [local go_sem ↓] Go.wp_at_zero Go.wp_at_succ
attribute [local go_sem ↓] ld40_eq ld33_eq
attribute [local go_sem] ld40_ok ld33_ok

/-- How many calls of each thread are open among the first i: none or one. -/
def Opn (l : List Op) (i : Nat) (c : List Nat) : Prop := c.length = 8 ∧ ∀ t : Nat, c.getD t 0 ≠ 0 → ∃ (j : Nat) (o : Op), j < i ∧ l[j]? = some o ∧ o.thread = (t : Int) ∧ o.tt = -1
theorem Opn.start (l : List Op) : Opn l 0 [0, 0, 0, 0, 0, 0, 0, 0] := ⟨rfl, fun t h => by
  match t with
  | 0 | 1 | 2 | 3 | 4 | 5 | 6 | 7 => simp at h
  | (t + 8) => simp at h⟩
theorem Opn.more {l : List Op} {i : Nat} {c : List Nat} (h : Opn l i c) : Opn l (i + 1) c := ⟨h.1, fun t ht => by
  obtain ⟨j, o, h1, h2⟩ := h.2 t ht
  exact ⟨j, o, by omega, h2⟩⟩
theorem Opn.add {l : List Op} {i : Nat} {c : List Nat} (h : Opn l i c) {o : Op} (ho : l[i]? = some o) {t : Nat} (ht : o.thread = (t : Int)) (htt : o.tt = -1) (v : Nat) (h8 : t < 8) : Opn l (i + 1) (c.set t v) := ⟨by rw [List.length_set]; exact h.1, fun u hu => by
  rw [getD_set c t u v (by rw [h.1]; exact h8)] at hu
  by_cases e : t = u
  · subst e
    exact ⟨i, o, by omega, ho, ht, htt⟩
  · rw [if_neg e] at hu
    obtain ⟨j, o', h1, h2⟩ := h.2 u hu
    exact ⟨j, o', by omega, h2⟩⟩
theorem Opn.zero {l : List Op} (hG : Good l) {i : Nat} {c : List Nat} (h : Opn l i c) {o : Op} (ho : l[i]? = some o) {t : Nat} (ht : o.thread = (t : Int)) : c.getD t 0 = 0 := by
  refine Classical.byContradiction fun hne => ?_
  obtain ⟨j, p, h1, h2, h3, h4⟩ := h.2 t hne
  have := (hG.on j i p o h1 h2 ho (by rw [h3, ht])).1
  omega
set_option maxRecDepth 100000 in
set_option maxHeartbeats 4000000 in
theorem pending_walk (es : List Em) (a : Option Addr) (n cap : Nat) (w : World) (hn : n = es.length) (hc : n ≤ cap) (hm : cap ≤ maxLen) (hI : Es w w.heap.size a es) (hs : ∀ x ∈ es, Sm x) (_u : ∀ x, a = some x → x.spot = none ∨ n = 0) :
    Calls Try.prog 6 #[.slice a n cap] w fun e w' => e = .returned (.bool true) ∧ Below w.heap.size w w' := by
  have q1 : (n : Int) ≤ (cap : Int) := by omega
  have q2 : (cap : Int) ≤ 9223372036854775807 := by unfold maxLen at hm; omega
  obtain ⟨m, qs, hm0, hq0, hI0, hs0, hcase⟩ := cut_events 40 hn hI hs
  have HI := hide hI0
  have HS := hide hs0
  have HM := hide hm0
  clear hn hI hm0 hI0 hc hm hs hs0 _u
  go_enter Try.func6, Try.ntmps6
  go_upto_if 11 with fail
  go_cut [0] from 12 to 13 (fun v wc => v = .slice a m cap ∧ w = wc)
  case first =>
    rcases hcase with ⟨h40, rfl⟩ | ⟨h40, rfl⟩
    · have j40 : (40 : Int) < (n : Int) := by omega
      have j41 : (40 : Int) ≤ (cap : Int) := by omega
      go_wp2_with fail
      go_meet
      case rel => exact ⟨rfl, rfl⟩
    · have j40 : ¬ (40 : Int) < (m : Int) := by omega
      go_wp2_with fail
      go_meet
      case rel => exact ⟨rfl, rfl⟩
  case rest =>
  obtain ⟨rfl, rfl⟩ := hcut
  clear hcase q1
  go_wp2_with fail
  refine (ops_at qs a m cap (unhide HM) (by omega) w (unhide HI) (unhide HS)).mono ?_
  rintro e w1 ⟨a2, n2, cap2, xs, rfl, HX, hn2⟩
  obtain ⟨at2, hat⟩ : ∃ at2, (opsOf (qs.map (·.e))).2.2 = at2 := ⟨_, rfl⟩
  rw [hat]
  clear hat
  by_cases h0 : (opsOf (qs.map (·.e))).2.1 = 0
  · have HG := hide (good_of (qs.map (·.e)))
    obtain ⟨er, her⟩ : ∃ er, (opsOf (qs.map (·.e))).2.1 = er := ⟨_, rfl⟩
    rw [her] at h0
    subst h0
    rw [her]
    clear her
    rw [← (unhide HX).2.2.1] at HG
    obtain ⟨V0, hV0, hVs0, gV0, hBV0⟩ := alloc1 w1 (.cells #[I 0, I 0, I 0, I 0, I 0, I 0, I 0, I 0] 52)
    have HV0 := hide (And.intro gV0 hBV0)
    clear hVs0 gV0 hBV0
    go_wp2_with fail
    clear hV0
    go_loopw [7] (fun s7 wr => ∃ (i : Nat) (c : List Nat), i ≤ n2 ∧ s7 = .int .i64 i ∧ Hid (Opn (xs.map (·.o)) i c) ∧ Below w1.heap.size w1 wr ∧ wr.heap[w1.heap.size]? = some (.cells (bz c) 52)) (fun s7 _ => n2 - (intOf s7).toNat)
    case atStart => exact ⟨0, _, Nat.zero_le _, rfl, hide (Opn.start _), (unhide HV0).2, (unhide HV0).1⟩
    case round =>
      obtain ⟨i, c, hi, rfl, HO, hB, hbz⟩ := hrel
      clear HV0
      by_cases hin : i < n2
      · have j1 : (i : Int) < (n2 : Int) := by omega
        have j0 : (0 : Int) ≤ (i : Int) := by omega
        obtain ⟨x, hx⟩ : ∃ x, xs[i]? = some x := ⟨_, List.getElem?_eq_getElem (by have := (unhide HX).1; omega)⟩
        obtain ⟨g, off, e1, l1, r, og⟩ := (unhide HX).2.1 i x hx
        subst e1
        obtain ⟨A, hA⟩ : ∃ A, A = x.cs := ⟨_, rfl⟩
        obtain ⟨C, hC⟩ : ∃ C, C = x.o.r.cs x.rd x.rn := ⟨_, rfl⟩
        have R1 : ∀ W, Below w1.heap.size w1 W → Has23 W g (off + i * 23) := fun W h => (has_keep (has_of r).1 (h.block g l1)).1
        have R2 : ∀ W, Below w1.heap.size w1 W → at23 W g (off + i * 23) = A := fun W h => by rw [(has_keep (has_of r).1 (h.block g l1)).2, (has_of r).2, hA]
        have h11 := has11_of (W := w1) (g := g) (o := off + i * 23 + 10) (A := x.o.r.cs x.rd x.rn) rfl (fun j v hj => by rw [Nat.add_assoc _ 10 j]; exact r (10 + j) v (om_res x hj))
        have R6 : ∀ W, Below w1.heap.size w1 W → Has11 W g (off + i * 23 + 10) := fun W h => (has11_keep h11.1 (h.block g l1)).1
        have R7 : ∀ W, Below w1.heap.size w1 W → at11 W g (off + i * 23 + 10) = C := fun W h => by rw [(has11_keep h11.1 (h.block g l1)).2, h11.2, hC]
        have c0 : wr.cell? ⟨g, off + i * 23, none⟩ = some (I x.o.thread) := (World.cell?_of_block (hB.block g l1)).trans (r 0 _ rfl)
        have c22 : wr.cell? ⟨g, off + i * 23 + 22, none⟩ = some (I x.o.tt) := (World.cell?_of_block (hB.block g l1)).trans (r 22 _ rfl)
        have htt := (unhide HG).tt i x.o (om_get hx)
        have hth := (unhide HG).th i x.o (om_get hx)
        by_cases h1 : 0 ≤ x.o.tt
        · have HB := hide (And.intro hB hbz)
          clear htt hth hA hC r og h11 R1 R2 R6 R7 hB hbz hx l1
          go_wp2_with fail
          exact ⟨⟨i + 1, c, by omega, by go_num, hide (unhide HO).more, (unhide HB).1, (unhide HB).2⟩, by simp [intOf]; omega⟩
        · have hrt : x.o.tt = -1 ∧ x.o.r = rr0 := by
            rcases htt with h | h
            · exact h
            · have := (unhide HG).fr i x.o (om_get hx); omega
          obtain ⟨t, ht⟩ : ∃ t : Nat, x.o.thread = (t : Int) := ⟨x.o.thread.toNat, by omega⟩
          have t8 : t < 8 := by omega
          have ti0 : (0 : Int) ≤ (t : Int) := by omega
          have ti3 : (t : Int) < 8 := by omega
          rw [ht] at c0
          have hz := (unhide HO).zero (unhide HG) (om_get hx) ht
          have hO2 := hide ((unhide HO).add (om_get hx) ht hrt.1 1 t8)
          have b0 : wr.cell? ⟨w1.heap.size, t, none⟩ = some (I 0) := by rw [cell_of hbz, bz_get (by rw [(unhide HO).1]; exact t8), hz]; rfl
          have b1 := frozen_of hbz t
          obtain ⟨X, hX⟩ : ∃ X, wr.setCell ⟨w1.heap.size, t, none⟩ (I 1) = X := ⟨_, rfl⟩
          have hbX : X.heap[w1.heap.size]? = some (.cells (bz (c.set t 1)) 52) := by
            rw [← hX, heap_set hbz]
            have := bz_set c t 1
            simp only [Int.natCast_one] at this
            rw [this]
          have grX : Gr w1.heap.size wr X := hX ▸ Gr.set _ t wr _
          have hBX : Below w1.heap.size w1 X := hB.trans (grX.below (Nat.le_refl _) hB.size)
          have d0 : X.cell? ⟨g, off + i * 23, none⟩ = some (I (t : Int)) := (World.cell?_of_block (hBX.block g l1)).trans (by have h := r 0 (I x.o.thread) rfl; rw [Nat.add_zero, ht] at h; exact h)
          have d1 : X.cell? ⟨w1.heap.size, t, none⟩ = some (I 1) := by rw [cell_of hbX, bz_get (by rw [List.length_set, (unhide HO).1]; exact t8), getD_set c t t 1 (by rw [(unhide HO).1]; exact t8), if_pos rfl]; rfl
          have q6 := R6 X hBX
          have q7 := R7 X hBX
          have HK := hide (show Calls Try.prog 18 #[.agg C, .agg #[I 0, I 0, .slice none 0 0, .slice none 0 0, I 0, I 0, I 0, I 0, I 0, I 0, I 0]] X fun e w' => e = .returned (.bool true) ∧ Below X.heap.size X w' from by
            rw [hC, hrt.2]
            have o2 : Dq X X.heap.size x.rd rr0.data := by have h := og.2.1; rw [hrt.2] at h; exact (h.low.below hBX (Nat.le_refl _)).low
            have o3 : Nq X X.heap.size x.rn rr0.names := by have h := og.2.2; rw [hrt.2] at h; exact (h.low.below hBX (Nat.le_refl _)).low
            exact ksame_any rr0 x.rd x.rn sl0 sl0 X o2 o3 (Dq.nil _ _) (Nq.nil _ _))
          have tA : A[22]? = some (I (-1)) := by rw [hA]; show some (I x.o.tt) = _; rw [hrt.1]
          have fA : A[21]? = some (I x.o.fr) := by rw [hA]; rfl
          have sA : A.size = 23 := by rw [hA]; rfl
          have HA := hide (⟨sA, fA, tA⟩ : _ ∧ _ ∧ _)
          have HBX := hide (⟨hBX, hbX⟩ : _ ∧ _)
          have HL1 := hide l1
          rw [hrt.1] at c22
          clear htt hth hA hC r og h11 R6 R7 hB hbz hx l1 hrt hz ht hbX grX hBX tA fA sA h1
          go_wp2_with (go_at_call 18; refine (unhide HK).mono ?_; rintro e w2 ⟨rfl, be2⟩; have HB2 := hide (And.intro ((unhide HBX).1.trans (be2.mono (unhide HBX).1.size)) (be_keep be2 (unhide HBX).2)); clear be2)
          go_loopw [8] (fun s8 wr2 => ∃ k2 : Nat, k2 ≤ n2 ∧ s8 = .int .i64 k2 ∧ Below w1.heap.size w1 wr2 ∧ wr2.heap[w1.heap.size]? = some (.cells (bz (c.set t 1)) 52)) (fun s8 _ => n2 - (intOf s8).toNat)
          case atStart => exact ⟨0, Nat.zero_le _, rfl, (unhide HB2).1, (unhide HB2).2⟩
          case round =>
            obtain ⟨k2, hk2, rfl, hB3, hbz3⟩ := hrel
            by_cases hki : k2 < n2
            · have y1 : (k2 : Int) < (n2 : Int) := by omega
              have y0 : (0 : Int) ≤ (k2 : Int) := by omega
              obtain ⟨y, hy⟩ : ∃ y, xs[k2]? = some y := ⟨_, List.getElem?_eq_getElem (by have := (unhide HX).1; omega)⟩
              obtain ⟨g', off', e1, -, r, -⟩ := (unhide HX).2.1 k2 y hy
              simp only [Option.some.injEq, Addr.mk.injEq, and_true] at e1
              obtain ⟨rfl, rfl⟩ := e1
              have l1 := unhide HL1
              have S1 : ∀ W, Below w1.heap.size w1 W → Has23 W g (off + k2 * 23) := fun W h => (has_keep (has_of r).1 (h.block g l1)).1
              obtain ⟨B, hB'⟩ : ∃ B, B = y.cs := ⟨_, rfl⟩
              have S2 : ∀ W, Below w1.heap.size w1 W → at23 W g (off + k2 * 23) = B := fun W h => by rw [(has_keep (has_of r).1 (h.block g l1)).2, (has_of r).2, hB']
              have S5 : ∀ W, (Below wr.heap.size wr W) → Below w1.heap.size w1 W := fun W h => hB3.trans (h.mono hB3.size)
              have T1 : ∀ W, Below wr.heap.size wr W → Has23 W g (off + k2 * 23) := fun W h => S1 W (S5 W h)
              have T2 : ∀ W, Below wr.heap.size wr W → at23 W g (off + k2 * 23) = B := fun W h => S2 W (S5 W h)
              have T3 : ∀ W, Below wr.heap.size wr W → Has23 W g (off + i * 23) := fun W h => R1 W (S5 W h)
              have T4 : ∀ W, Below wr.heap.size wr W → at23 W g (off + i * 23) = A := fun W h => R2 W (S5 W h)
              have HBF := hide (fun (W : World) (h : Below wr.heap.size wr W) => show Calls Try.prog 10 #[.agg A, .agg B] W fun e w' => e = .returned (.bool false) ∧ Below wr.heap.size wr w' from
                (before_l A B x.o.fr (-1) y.o.fr y.o.tt (unhide HA).1 (by rw [hB']; rfl) (unhide HA).2.1 (unhide HA).2.2 (by rw [hB']; rfl) (by rw [hB']; rfl) W).mono fun e w' hh => ⟨hh.1, h.trans (hh.2.mono h.size)⟩)
              have HB3 := hide (And.intro hB3 hbz3)
              have bw : Below wr.heap.size wr wr := Below.refl _ _
              have HRR := hide (And.intro R1 R2)
              clear r hB' hy S1 S2 S5 hB3 hbz3 R1 R2 hi hin
              go_wp2_with fail
              go_region_held3 (fun W => Below wr.heap.size wr W) (first | assumption | exact below_drew (by assumption))
                (first
                  | (go_at_call 10; refine (unhide HBF _ (by first | assumption | exact below_drew (by assumption))).mono ?_; rintro e w6 ⟨rfl, be⟩))
              all_goals go_wp2_with fail
              all_goals exact ⟨⟨k2 + 1, by omega, by go_num, (unhide HB3).1.trans (Below.mono (by assumption) (unhide HB3).1.size), (Below.block (by assumption) _ (lt_of_heap (unhide HB3).2)).trans (unhide HB3).2⟩, by simp [intOf]; omega⟩
            · obtain rfl : k2 = n2 := by omega
              have kk2 : ¬ (k2 : Int) < (k2 : Int) := by omega
              have HB3 := hide (And.intro hB3 hbz3)
              clear hB3 hbz3
              go_wp2_with fail
              exact ⟨⟨i + 1, _, by omega, by go_num, hO2, (unhide HB3).1, (unhide HB3).2⟩, by simp [intOf]; omega⟩
      · obtain rfl : i = n2 := by omega
        have kk3 : ¬ (i : Int) < (i : Int) := by omega
        have HB2 := hide ((unhide HX).2.2.2.1.trans (hB.mono (unhide HX).2.2.2.1.size))
        clear hB hbz
        go_wp2_with (go_at_call 11; refine (known_any _).mono ?_; rintro e w2 ⟨rfl, be2⟩)
        go_ret
        exact ⟨rfl, (unhide HB2).trans (be2.mono (unhide HB2).size)⟩
  · rw [(none_of _ h0).2]
    have HB := hide (unhide HX).2.2.2.1
    clear h0 HX
    go_wp2_with (go_at_call 11; refine (known_any _).mono ?_; rintro e w2 ⟨rfl, be2⟩)
    go_ret
    exact ⟨rfl, (unhide HB).trans (be2.mono (unhide HB).size)⟩
end Go.Proofs.Ytlokihpegllddaa.Cl
