/-
  The document's Serial.
-/
import Derived.Test.YtlokihpegllddaaHU
import Derived.Deep.RegionHeld3
import Derived.Sort.AtCall
namespace Go.Proofs.Ytlokihpegllddaa.Cl
open Go.RowKit Go.Shelf
attribute [local go_sem ↓] Go.wp_at_zero Go.wp_at_succ
attribute [local go_sem ↓] ld40_eq ld49_eq
attribute [local go_sem] ld40_ok ld49_ok

theorem Good.serial_of {l : List Op} (h : ∀ (i k : Nat) (o p : Op), k < i → l[i]? = some o → l[k]? = some p → bef p o = true) : serial l = true :=
  (serial_iff l).2 fun i o p hi hp => h (i + 1) i p o (by omega) hp hi
theorem om_get {xs : List Om} {i : Nat} {x : Om} (h : xs[i]? = some x) : (xs.map (·.o))[i]? = some x.o := by simp [h]
set_option maxRecDepth 100000 in
set_option maxHeartbeats 4000000 in
theorem rserial_any (xs : List Om) (a : Option Addr) (n c : Nat) (hn : n = xs.length) (hs : n ≤ 1000) (hG : Good (xs.map (·.o))) (w : World) (hO : Os w w.heap.size a xs) :
    Calls Try.prog 14 #[.slice a n c] w fun e w' => e = .returned (.bool (serial (xs.map (·.o)))) ∧ Below w.heap.size w w' := by
  have HO := hide hO
  have HG := hide hG
  have HN := hide hn
  clear hO hG hn
  go_enter Try.func14, Try.ntmps14
  go_wp2_with fail
  go_loopw [3] (fun v wr => ∃ i : Nat, i ≤ n ∧ v = .int .i64 i ∧ Below w.heap.size w wr ∧ ∀ (p q : Nat) (o s : Op), p < q → q < i → (xs.map (·.o))[p]? = some o → (xs.map (·.o))[q]? = some s → bef o s = true) (fun v _ => n - (intOf v).toNat)
  case atStart => exact ⟨0, Nat.zero_le _, rfl, Below.refl _ _, fun p q o s h1 h2 => by omega⟩
  case round =>
    obtain ⟨i, hi, rfl, hB0, hall⟩ := hrel
    have HA := hide hall
    clear hall
    by_cases hin : i < n
    · have j1 : (i : Int) < (n : Int) := by omega
      have j0 : (0 : Int) ≤ (i : Int) := by omega
      obtain ⟨x, hx⟩ : ∃ x, xs[i]? = some x := ⟨_, List.getElem?_eq_getElem (by have := unhide HN; omega)⟩
      obtain ⟨g, off, e1, -⟩ := unhide HO i x hx
      subst e1
      have HX := hide hx
      have HB0 := hide hB0
      clear hx hB0
      go_wp2_with fail
      go_loopw [4] (fun v wr => ∃ k : Nat, k ≤ i ∧ v = .int .i64 k ∧ Below w.heap.size w wr ∧ ∀ (p : Nat) (o : Op), p < k → (xs.map (·.o))[p]? = some o → bef o x.o = true) (fun v _ => i - (intOf v).toNat)
      case atStart => exact ⟨0, Nat.zero_le _, rfl, unhide HB0, fun p o h => by omega⟩
      case round =>
        obtain ⟨k, hk, rfl, hB, hall⟩ := hrel
        have HA2 := hide hall
        clear hall HB0
        by_cases hki : k < i
        · have k1 : (k : Int) < (i : Int) := by omega
          have k0 : (0 : Int) ≤ (k : Int) := by omega
          have k2 : (k : Int) < (n : Int) := by omega
          obtain ⟨y, hy⟩ : ∃ y, xs[k]? = some y := ⟨_, List.getElem?_eq_getElem (by have := unhide HN; omega)⟩
          obtain ⟨g', off', e1, l1, r1, -⟩ := (unhide HO).below hB rfl i x (unhide HX)
          simp only [Option.some.injEq, Addr.mk.injEq, and_true] at e1
          obtain ⟨rfl, rfl⟩ := e1
          obtain ⟨g', off', e1, -, r2, -⟩ := (unhide HO).below hB rfl k y hy
          simp only [Option.some.injEq, Addr.mk.injEq, and_true] at e1
          obtain ⟨rfl, rfl⟩ := e1
          obtain ⟨A, hA⟩ : ∃ A, A = x.cs := ⟨_, rfl⟩
          obtain ⟨B, hB'⟩ : ∃ B, B = y.cs := ⟨_, rfl⟩
          have LA : ∀ W, Below wr.heap.size wr W → Has23 W g (off + i * 23) := fun W h => (has_keep (has_of r1).1 (h.block g (by have := hB.size; omega))).1
          have MA : ∀ W, Below wr.heap.size wr W → at23 W g (off + i * 23) = A := fun W h => by rw [(has_keep (has_of r1).1 (h.block g (by have := hB.size; omega))).2, (has_of r1).2, hA]
          have LB : ∀ W, Below wr.heap.size wr W → Has23 W g (off + k * 23) := fun W h => (has_keep (has_of r2).1 (h.block g (by have := hB.size; omega))).1
          have MB : ∀ W, Below wr.heap.size wr W → at23 W g (off + k * 23) = B := fun W h => by rw [(has_keep (has_of r2).1 (h.block g (by have := hB.size; omega))).2, (has_of r2).2, hB']
          have a21 : A[21]? = some (I x.o.fr) := by rw [hA]; rfl
          have a22 : A[22]? = some (I x.o.tt) := by rw [hA]; rfl
          have b21 : B[21]? = some (I y.o.fr) := by rw [hB']; rfl
          have b22 : B[22]? = some (I y.o.tt) := by rw [hB']; rfl
          have hno : befR x.o.tt y.o.fr = false := (unhide HG).bef_no (Nat.le_of_lt hki) (om_get hy) (om_get (unhide HX))
          have HB1 := hide (fun (W : World) (h : Below wr.heap.size wr W) => show Calls Try.prog 17 #[.agg A, .agg B] W fun e w' => e = .returned (.bool false) ∧ Below wr.heap.size wr w' from hno ▸ (rbefore_l A B x.o.tt y.o.fr a22 b21 W).mono (fun e w' hh => ⟨hh.1, h.trans (hh.2.mono h.size)⟩))
          have HB2 := hide (fun (W : World) (h : Below wr.heap.size wr W) => show Calls Try.prog 17 #[.agg B, .agg A] W fun e w' => e = .returned (.bool (befR y.o.tt x.o.fr)) ∧ Below wr.heap.size wr w' from (rbefore_l B A y.o.tt x.o.fr b22 a21 W).mono (fun e w' hh => ⟨hh.1, h.trans (hh.2.mono h.size)⟩))
          have HY := hide hy
          have HB := hide hB
          have bw : Below wr.heap.size wr wr := Below.refl _ _
          clear hA hB' a21 a22 b21 b22 r1 r2 hno hy hB l1
          obtain ⟨bb, hbb⟩ : ∃ bb, befR y.o.tt x.o.fr = bb := ⟨_, rfl⟩
          rw [hbb] at HB2
          have HBB := hide (show bef y.o x.o = bb from hbb)
          clear hbb
          go_wp2_with fail
          go_region_held3 (fun W => Below wr.heap.size wr W) (first | assumption | exact below_drew (by assumption))
            (first
              | (go_at_call_has 17 (#[Value.agg A, Value.agg B] : Array Value); refine (unhide HB1 _ (by first | assumption | exact below_drew (by assumption))).mono ?_; rintro e w1 ⟨rfl, be1⟩)
              | (go_at_call 17; refine (unhide HB2 _ (by first | assumption | exact below_drew (by assumption))).mono ?_; rintro e w1 ⟨rfl, be1⟩))
          all_goals cases bb with
            | true =>
              go_wp2_with fail
              exact ⟨⟨k + 1, by omega, by go_num, (unhide HB).trans (Below.mono (by assumption) (unhide HB).size), fun p o hp ho => by
                rcases Nat.lt_or_ge p k with h | h
                · exact unhide HA2 p o h ho
                · obtain rfl : p = k := by omega
                  rw [om_get (unhide HY)] at ho
                  obtain rfl := Option.some.inj ho
                  exact unhide HBB⟩, by simp [intOf]; omega⟩
            | false =>
              have HF := hide (show serial (xs.map (·.o)) = false by
                cases hq : serial (xs.map (·.o)) with
                | false => rfl
                | true => exact absurd ((unhide HG).serial_all hq hki (om_get (unhide HY)) (om_get (unhide HX))) (by rw [unhide HBB]; decide))
              go_wp2_with fail
              go_ret
              exact ⟨by rw [unhide HF]; rfl, (unhide HB).trans (Below.mono (by assumption) (unhide HB).size)⟩
        · obtain rfl : k = i := by omega
          have kk : ¬ (k : Int) < (k : Int) := by omega
          have HB := hide hB
          clear hB
          go_wp2_with fail
          exact ⟨⟨k + 1, by omega, by go_num, unhide HB, fun p q o s h1 h2 h3 h4 => by
            rcases Nat.lt_or_ge q k with h | h
            · exact unhide HA p q o s h1 h h3 h4
            · obtain rfl : q = k := by omega
              rw [om_get (unhide HX)] at h4
              obtain rfl := Option.some.inj h4
              exact unhide HA2 p o h1 h3⟩, by simp [intOf]; omega⟩
    · obtain rfl : i = n := by omega
      have kk : ¬ (i : Int) < (i : Int) := by omega
      have HB := hide hB0
      have HF := hide (show serial (xs.map (·.o)) = true from Good.serial_of fun p k o s hk hp hq => unhide HA k p s o hk (by have h1 := (List.getElem?_eq_some_iff.1 hp).1; rw [List.length_map] at h1; have := unhide HN; omega) hq hp)
      clear hB0
      go_wp2_with fail
      go_ret
      exact ⟨by rw [unhide HF]; rfl, unhide HB⟩
end Go.Proofs.Ytlokihpegllddaa.Cl
