/-
  HistThreads: the law's walk.
-/
import Derived.Test.YtlokihpegllddaaHN
import Derived.Deep.RegionHeld3
import Derived.Deep.QuietTactic
import Derived.BigQuiet
import Derived.Deep.CutRange
import Derived.Deep.CutBlock
import Derived.Sort.AtCall
namespace Go.Proofs.Ytlokihpegllddaa.Cl
open Go.RowKit Go.Shelf
attribute [local go_sem ↓] Go.wp_at_zero Go.wp_at_succ
attribute [local go_sem ↓] ld40_eq
attribute [local go_sem] ld40_ok

/-- The events that a law looks at. -/
theorem cut_events {es : List Em} {n : Nat} {a : Option Addr} {w : World} (M : Nat) (hn : n = es.length) (hI : Es w w.heap.size a es) (hs : ∀ x ∈ es, Sm x) : ∃ (m : Nat) (qs : List Em), m = qs.length ∧ m ≤ M ∧ Es w w.heap.size a qs ∧ (∀ x ∈ qs, Sm x) ∧ ((M < n ∧ m = M) ∨ (¬ M < n ∧ m = n)) := by
  by_cases h : M < n
  · exact ⟨M, es.take M, by rw [List.length_take]; omega, Nat.le_refl _, hI.take M, fun x hx => hs x (List.mem_of_mem_take hx), .inl ⟨h, rfl⟩⟩
  · exact ⟨n, es, hn, by omega, hI, hs, .inr ⟨h, rfl⟩⟩
/-- What Ops answers, told by its place. -/
theorem ops_at (es : List Em) (a : Option Addr) (n cap : Nat) (hn : n = es.length) (hs : n ≤ 1000) (w : World) (hE : Es w w.heap.size a es) (hsm : ∀ x ∈ es, Sm x) :
    Calls Try.prog 8 #[.slice a n cap] w fun e w' => ∃ (a2 : Option Addr) (m cap2 : Nat) (xs : List Om), e = .returned (.tuple #[.slice a2 m cap2, I (opsOf (es.map (·.e))).2.1, I (opsOf (es.map (·.e))).2.2]) ∧ Hid (m = xs.length ∧ Os w' w'.heap.size a2 xs ∧ xs.map (·.o) = (opsOf (es.map (·.e))).1 ∧ Below w.heap.size w w' ∧ (∀ x, a2 = some x → x.spot = none)) ∧ m ≤ n := by
  refine (ops_any es a n cap hn hs w hE hsm).mono ?_
  rintro e w' ⟨xs, v, rfl, ow, hx, hB2⟩
  obtain ⟨a2, cap2, rfl, os, -, -⟩ := ow.form
  have hsp : ∀ x, a2 = some x → x.spot = none := by
    obtain ⟨⟨-, ⟨e1, -⟩ | ⟨g, cap, cur, e1, -⟩⟩, -⟩ := ow
    · simp only [Value.slice.injEq] at e1
      rintro x rfl
      cases e1.1
    · simp only [Value.slice.injEq] at e1
      rintro x rfl
      rw [Option.some.inj e1.1]
  have hl : xs.length ≤ n := by
    by_cases h0 : (opsOf (es.map (·.e))).2.1 = 0
    · have h1 := (count_of _ h0).1
      have h2 : cnt 1 (es.map (·.e)) ≤ (es.map (·.e)).length := List.countP_le_length
      rw [← hx, List.length_map] at h1
      rw [List.length_map] at h2
      omega
    · have h1 := (none_of _ h0).1
      rw [← hx] at h1
      have : xs = [] := by simpa using h1
      subst this
      exact Nat.zero_le _
  exact ⟨a2, xs.length, cap2, xs, rfl, ⟨rfl, os, hx, hB2, hsp⟩, hl⟩
theorem cnt_step (d : Int) {es : List Em} {k : Nat} {x : Em} (h : es[k]? = some x) : cnt d ((es.take (k + 1)).map (·.e)) = cnt d ((es.take k).map (·.e)) + (if x.e.kind = d then 1 else 0) := by
  rw [List.take_add_one, h]
  simp only [cnt, Option.toList, List.map_append, List.countP_append, List.map_cons, List.map_nil, List.countP_cons, List.countP_nil, beq_iff_eq]
  omega
theorem ended_step {l : List Op} {k : Nat} {o : Op} (h : l[k]? = some o) : ended (l.take (k + 1)) = ended (l.take k) + (if 0 ≤ o.tt then 1 else 0) := by
  rw [List.take_add_one, h]
  simp only [ended, Option.toList, List.countP_append, List.countP_cons, List.countP_nil, decide_eq_true_eq]
  omega
set_option maxRecDepth 100000 in
set_option maxHeartbeats 4000000 in
theorem threads_walk (es : List Em) (a : Option Addr) (n cap : Nat) (w : World) (hn : n = es.length) (hc : n ≤ cap) (hm : cap ≤ maxLen) (hI : Es w w.heap.size a es) (hs : ∀ x ∈ es, Sm x) (_u : ∀ x, a = some x → x.spot = none ∨ n = 0) :
    Calls Try.prog 5 #[.slice a n cap] w fun e w' => e = .returned (.bool true) ∧ Below w.heap.size w w' := by
  have q1 : (n : Int) ≤ (cap : Int) := by omega
  have q2 : (cap : Int) ≤ 9223372036854775807 := by unfold maxLen at hm; omega
  obtain ⟨m, qs, hm0, hq0, hI0, hs0, hcase⟩ := cut_events 60 hn hI hs
  have HI := hide hI0
  have HS := hide hs0
  have HM := hide hm0
  clear hn hI hm0 hI0 hc hm hs hs0 _u
  go_enter Try.func5, Try.ntmps5
  go_upto_if 14 with fail
  go_cut [0] from 15 to 16 (fun v wc => v = .slice a m cap ∧ w = wc)
  case first =>
    rcases hcase with ⟨h40, rfl⟩ | ⟨h40, rfl⟩
    · have j40 : (60 : Int) < (n : Int) := by omega
      have j41 : (60 : Int) ≤ (cap : Int) := by omega
      go_wp2_with fail
      go_meet
      case rel => exact ⟨rfl, rfl⟩
    · have j40 : ¬ (60 : Int) < (m : Int) := by omega
      go_wp2_with fail
      go_meet
      case rel => exact ⟨rfl, rfl⟩
  case rest =>
  obtain ⟨rfl, rfl⟩ := hcut
  clear hcase q1
  go_wp2_with fail
  refine (ops_at qs a m cap (unhide HM) (by omega) w (unhide HI) (unhide HS)).mono ?_
  rintro e w1 ⟨a2, n2, cap2, xs, rfl, HX, hn2⟩
  by_cases h0 : (opsOf (qs.map (·.e))).2.1 = 0
  · have HC := hide (count_of _ h0)
    have HG := hide (good_of (qs.map (·.e)))
    obtain ⟨er, her⟩ : ∃ er, (opsOf (qs.map (·.e))).2.1 = er := ⟨_, rfl⟩
    obtain ⟨at2, hat⟩ : ∃ at2, (opsOf (qs.map (·.e))).2.2 = at2 := ⟨_, rfl⟩
    rw [her] at h0
    subst h0
    rw [her, hat]
    clear her hat
    rw [← (unhide HX).2.2.1] at HC HG
    go_wp2_with fail
    go_loopw [6, 7, 9] (fun s6 s7 s9 wr => ∃ k : Nat, k ≤ m ∧ s6 = .int .i64 (cnt 1 ((qs.take k).map (·.e)) : Nat) ∧ s7 = .int .i64 (cnt 2 ((qs.take k).map (·.e)) : Nat) ∧ s9 = .int .i64 k ∧ wr = w1) (fun _ _ s9 _ => m - (intOf s9).toNat)
    case atStart => exact ⟨0, Nat.zero_le _, rfl, rfl, rfl, rfl⟩
    case round =>
      obtain ⟨k, hk, rfl, rfl, rfl, hwr⟩ := hrel
      rw [hwr]
      clear hwr
      by_cases hkm : k < m
      · have j1 : (k : Int) < (m : Int) := by omega
        have j0 : (0 : Int) ≤ (k : Int) := by omega
        obtain ⟨x, hx⟩ : ∃ x, qs[k]? = some x := ⟨_, List.getElem?_eq_getElem (by have := unhide HM; omega)⟩
        have hb1 : cnt 1 ((qs.take k).map (·.e)) ≤ k := Nat.le_trans List.countP_le_length (by simp; omega)
        have hb2 : cnt 2 ((qs.take k).map (·.e)) ≤ k := Nat.le_trans List.countP_le_length (by simp; omega)
        have hc1 := cnt_step 1 hx
        have hc2 := cnt_step 2 hx
        obtain ⟨g, off, e1, -, r, -⟩ := (unhide HI).below (unhide HX).2.2.2.1 rfl k x hx
        subst e1
        have r0 := r 0 _ rfl
        rw [Nat.add_zero] at r0
        generalize cnt 1 ((qs.take k).map (·.e)) = c1 at *
        generalize cnt 2 ((qs.take k).map (·.e)) = c2 at *
        have HC1 := hide hc1
        have HC2 := hide hc2
        clear hc1 hc2 r hx
        by_cases k1 : x.e.kind = 1
        · have t1 : (x.e.kind == 1) = true := by simp [k1]
          have e1 := unhide HC1
          have e2 := unhide HC2
          rw [if_pos k1] at e1
          rw [if_neg (by rw [k1]; decide), Nat.add_zero] at e2
          have E12 := hide (And.intro e1 e2)
          clear k1 e1 e2
          go_wp2_with fail
          exact ⟨⟨k + 1, by omega, by rw [(unhide E12).1]; go_num, by rw [(unhide E12).2]; rfl, by go_num, by first | rfl | trivial⟩, by simp [intOf]; omega⟩
        · have t1 : (x.e.kind == 1) = false := by simp [k1]
          by_cases k2 : x.e.kind = 2
          · have t2 : (x.e.kind == 2) = true := by simp [k2]
            have e1 := unhide HC1
            have e2 := unhide HC2
            rw [if_neg k1, Nat.add_zero] at e1
            rw [if_pos k2] at e2
            have E12 := hide (And.intro e1 e2)
            clear k1 k2 e1 e2
            go_wp2_with fail
            exact ⟨⟨k + 1, by omega, by rw [(unhide E12).1]; rfl, by rw [(unhide E12).2]; go_num, by go_num, by first | rfl | trivial⟩, by simp [intOf]; omega⟩
          · have t2 : (x.e.kind == 2) = false := by simp [k2]
            have e1 := unhide HC1
            have e2 := unhide HC2
            rw [if_neg k1, Nat.add_zero] at e1
            rw [if_neg k2, Nat.add_zero] at e2
            have E12 := hide (And.intro e1 e2)
            clear k1 k2 e1 e2
            go_wp2_with fail
            exact ⟨⟨k + 1, by omega, by rw [(unhide E12).1]; rfl, by rw [(unhide E12).2]; rfl, by go_num, by first | rfl | trivial⟩, by simp [intOf]; omega⟩
      · obtain rfl : k = m := by omega
        have kk : ¬ (k : Int) < (k : Int) := by omega
        have htk : qs.take k = qs := List.take_of_length_le (by have := unhide HM; omega)
        rw [htk]
        have hb1 : cnt 1 (qs.map (·.e)) ≤ k := Nat.le_trans List.countP_le_length (by simp; have := unhide HM; omega)
        have hb2 : cnt 2 (qs.map (·.e)) ≤ k := Nat.le_trans List.countP_le_length (by simp; have := unhide HM; omega)
        generalize cnt 1 (qs.map (·.e)) = c1 at *
        generalize cnt 2 (qs.map (·.e)) = c2 at *
        clear htk hkm
        go_wp2_with fail
        go_loopw [8, 10] (fun s8 s10 wr => ∃ i : Nat, i ≤ n2 ∧ s8 = .int .i64 (ended ((xs.map (·.o)).take i) : Nat) ∧ s10 = .int .i64 i ∧ Below w1.heap.size w1 wr) (fun _ s10 _ => n2 - (intOf s10).toNat)
        case atStart => exact ⟨0, Nat.zero_le _, rfl, rfl, Below.refl _ _⟩
        case round =>
          obtain ⟨i, hi, rfl, rfl, hB⟩ := hrel
          by_cases hin : i < n2
          · have j1 : (i : Int) < (n2 : Int) := by omega
            have j0 : (0 : Int) ≤ (i : Int) := by omega
            obtain ⟨x, hx⟩ : ∃ x, xs[i]? = some x := ⟨_, List.getElem?_eq_getElem (by have := (unhide HX).1; omega)⟩
            have hbe : ended ((xs.map (·.o)).take i) ≤ i := Nat.le_trans List.countP_le_length (by simp; omega)
            have hes := ended_step (om_get hx)
            obtain ⟨g, off, e1, l1, r, -⟩ := (unhide HX).2.1 i x hx
            subst e1
            have R1 : ∀ W, Below w1.heap.size w1 W → Has23 W g (off + i * 23) := fun W h => (has_keep (has_of r).1 (h.block g l1)).1
            obtain ⟨A, hA⟩ : ∃ A, A = x.cs := ⟨_, rfl⟩
            have R2 : ∀ W, Below w1.heap.size w1 W → at23 W g (off + i * 23) = A := fun W h => by rw [(has_keep (has_of r).1 (h.block g l1)).2, (has_of r).2, hA]
            have R3 : ∀ W, Below w1.heap.size w1 W → W.cell? ⟨g, off + i * 23, none⟩ = some (I x.o.thread) := fun W h => (World.cell?_of_block (h.block g l1)).trans (r 0 _ rfl)
            have R4 : ∀ W, Below w1.heap.size w1 W → W.cell? ⟨g, off + i * 23 + 21, none⟩ = some (I x.o.fr) := fun W h => (World.cell?_of_block (h.block g l1)).trans (r 21 _ rfl)
            have R5 : ∀ W, Below w1.heap.size w1 W → W.cell? ⟨g, off + i * 23 + 22, none⟩ = some (I x.o.tt) := fun W h => (World.cell?_of_block (h.block g l1)).trans (r 22 _ rfl)
            have sA : A.size = 23 := by rw [hA]; rfl
            have fA : A[21]? = some (I x.o.fr) := by rw [hA]; rfl
            have tA : A[22]? = some (I x.o.tt) := by rw [hA]; rfl
            have HA := hide (⟨sA, fA, tA⟩ : _ ∧ _ ∧ _)
            have HXI := hide hx
            have htt := (unhide HG).tt i x.o (om_get hx)
            generalize ended ((xs.map (·.o)).take i) = c8 at *
            have HES := hide hes
            have HL1 := hide l1
            have HBI := hide hB
            have v5 := R5 wr hB
            clear hA sA fA tA r hx hes l1
            go_upto_if 61 with fail
            go_cut [8] from 61 to 74 (fun s8 wd => s8 = .int .i64 (ended ((xs.map (·.o)).take (i + 1)) : Nat) ∧ Below w1.heap.size w1 wd)
            case first =>
              by_cases h1 : 0 ≤ x.o.tt
              · have e1 := unhide HES
                rw [if_pos h1] at e1
                have E1 := hide e1
                have h2 : ¬ x.o.tt ≤ x.o.fr := by rcases htt with h | h <;> omega
                clear htt e1
                go_wp2_with fail
                go_region_held3 (fun W => Below w1.heap.size w1 W) (first | assumption | exact below_drew (by assumption)) (fail)
                all_goals go_wp2_with fail
                all_goals
                  go_meet
                  case rel => exact ⟨by rw [unhide E1]; go_num, by first | assumption | exact below_drew (by assumption)⟩
              · have e1 := unhide HES
                rw [if_neg h1, Nat.add_zero] at e1
                have E1 := hide e1
                clear htt e1
                go_wp2_with fail
                go_meet
                case rel => exact ⟨by rw [unhide E1]; rfl, hB⟩
            case rest =>
            obtain ⟨rfl, hBd⟩ := hcut
            have hbe2 : ended ((xs.map (·.o)).take (i + 1)) ≤ i + 1 := Nat.le_trans List.countP_le_length (by simp; omega)
            generalize hc9 : ended ((xs.map (·.o)).take (i + 1)) = c9 at hbe2 ⊢
            have HC9 := hide hc9
            clear hc9
            have HBD := hide hBd
            clear hBd v5
            go_wp2_with fail
            go_loopw [11] (fun s11 wr2 => ∃ k2 : Nat, k2 ≤ i ∧ s11 = .int .i64 k2 ∧ Below w1.heap.size w1 wr2) (fun s11 _ => i - (intOf s11).toNat)
            case atStart => exact ⟨0, Nat.zero_le _, rfl, unhide HBD⟩
            case round =>
              obtain ⟨k2, hk2, rfl, hB2⟩ := hrel
              by_cases hki : k2 < i
              · have y1 : (k2 : Int) < (i : Int) := by omega
                have y0 : (0 : Int) ≤ (k2 : Int) := by omega
                have y2 : (k2 : Int) < (n2 : Int) := by omega
                obtain ⟨y, hy⟩ : ∃ y, xs[k2]? = some y := ⟨_, List.getElem?_eq_getElem (by have := (unhide HX).1; omega)⟩
                obtain ⟨g', off', e1, -, r, -⟩ := (unhide HX).2.1 k2 y hy
                simp only [Option.some.injEq, Addr.mk.injEq, and_true] at e1
                obtain ⟨rfl, rfl⟩ := e1
                have l1 := unhide HL1
                have S1 : ∀ W, Below w1.heap.size w1 W → Has23 W g (off + k2 * 23) := fun W h => (has_keep (has_of r).1 (h.block g l1)).1
                obtain ⟨B, hB'⟩ : ∃ B, B = y.cs := ⟨_, rfl⟩
                have S2 : ∀ W, Below w1.heap.size w1 W → at23 W g (off + k2 * 23) = B := fun W h => by rw [(has_keep (has_of r).1 (h.block g l1)).2, (has_of r).2, hB']
                have S3 : ∀ W, Below w1.heap.size w1 W → W.cell? ⟨g, off + k2 * 23, none⟩ = some (I y.o.thread) := fun W h => (World.cell?_of_block (h.block g l1)).trans (r 0 _ rfl)
                have S4 : ∀ W, Below w1.heap.size w1 W → W.cell? ⟨g, off + k2 * 23 + 21, none⟩ = some (I y.o.fr) := fun W h => (World.cell?_of_block (h.block g l1)).trans (r 21 _ rfl)
                have f1 : ¬ x.o.fr ≤ y.o.fr := by have := (unhide HG).up k2 i y.o x.o hki (om_get hy) (om_get (unhide HXI)); omega
                by_cases ht : x.o.thread = y.o.thread
                · have ht' : (x.o.thread == y.o.thread) = true := by simp [ht]
                  have hon := (unhide HG).on k2 i y.o x.o hki (om_get hy) (om_get (unhide HXI)) ht.symm
                  have hbf : befP y.o.fr y.o.tt x.o.fr x.o.tt = true := by
                    rw [(unhide HG).bef_eq (i := k2) (j := i) (by omega) (om_get hy) (om_get (unhide HXI))]
                    simp [bef, hon.1, hon.2]
                  have HBF := hide (fun (W : World) (h : Below w1.heap.size w1 W) => show Calls Try.prog 10 #[.agg B, .agg A] W fun e w' => e = .returned (.bool true) ∧ Below w1.heap.size w1 w' from by
                    have h3 := before_l B A y.o.fr y.o.tt x.o.fr x.o.tt (by rw [hB']; rfl) (unhide HA).1 (by rw [hB']; rfl) (by rw [hB']; rfl) (unhide HA).2.1 (unhide HA).2.2 W
                    rw [hbf] at h3
                    exact h3.mono fun e w' hh => ⟨hh.1, h.trans (hh.2.mono h.size)⟩)
                  clear r hB' hy ht hon hbf htt hi hin
                  go_wp2_with fail
                  go_region_held3 (fun W => Below w1.heap.size w1 W) (first | assumption | exact below_drew (by assumption))
                    (first
                      | (go_at_call 10; refine (unhide HBF _ (by first | assumption | exact below_drew (by assumption))).mono ?_; rintro e w6 ⟨rfl, be⟩))
                  all_goals go_wp2_with fail
                  all_goals exact ⟨⟨k2 + 1, by omega, by go_num, by first | assumption | exact below_drew (by assumption)⟩, by simp [intOf]; omega⟩
                · have ht' : (x.o.thread == y.o.thread) = false := by simp [ht]
                  have u3 := R3 wr hB2
                  have u4 := R4 wr hB2
                  have z3 := S3 wr hB2
                  have z4 := S4 wr hB2
                  have HB2 := hide hB2
                  clear r hB' hy ht htt R1 R2 R3 R4 R5 S1 S2 S3 S4 hB2 hi hin
                  go_wp2_with fail
                  go_quiet (fail)
                  go_wp2_with fail
                  exact ⟨⟨k2 + 1, by omega, by go_num, below_dn (unhide HB2) _⟩, by simp [intOf]; omega⟩
              · obtain rfl : k2 = i := by omega
                have kk2 : ¬ (k2 : Int) < (k2 : Int) := by omega
                have HB2 := hide hB2
                clear hB2
                go_wp2_with fail
                exact ⟨⟨k2 + 1, by omega, by rw [unhide HC9], by go_num, unhide HB2⟩, by simp [intOf]; omega⟩
          · obtain rfl : i = n2 := by omega
            have hte : (xs.map (·.o)).take i = xs.map (·.o) := List.take_of_length_le (by have := (unhide HX).1; simp; omega)
            rw [hte]
            have h1 := (unhide HC).1
            have h2 := (unhide HC).2
            rw [List.length_map, ← (unhide HX).1] at h1
            rw [h2]
            have kk3 : ¬ (i : Int) < (i : Int) := by omega
            have e1 : ((c1 : Int) == (i : Int)) = true := by simp; omega
            have HB2 := hide ((unhide HX).2.2.2.1.trans (hB.mono (unhide HX).2.2.2.1.size))
            clear hte h1 h2 hB
            go_wp2_with (go_at_call 11; refine (known_any _).mono ?_; rintro e w2 ⟨rfl, be2⟩)
            go_ret
            exact ⟨rfl, (unhide HB2).trans (be2.mono (unhide HB2).size)⟩
  · have hx0 := (unhide HX).2.2.1
    rw [(none_of _ h0).1] at hx0
    have hxs : xs = [] := by simpa using hx0
    have hn0 : n2 = 0 := by have := (unhide HX).1; rw [hxs] at this; simpa using this
    subst hn0
    rw [(none_of _ h0).2]
    have HB := hide (unhide HX).2.2.2.1
    clear h0 hx0 hxs HX
    obtain ⟨at2, hat⟩ : ∃ at2, (opsOf (qs.map (·.e))).2.2 = at2 := ⟨_, rfl⟩
    rw [hat]
    clear hat
    go_wp2_with (go_at_call 11; refine (known_any _).mono ?_; rintro e w2 ⟨rfl, be2⟩)
    go_ret
    exact ⟨rfl, (unhide HB).trans (be2.mono (unhide HB).size)⟩
end Go.Proofs.Ytlokihpegllddaa.Cl
