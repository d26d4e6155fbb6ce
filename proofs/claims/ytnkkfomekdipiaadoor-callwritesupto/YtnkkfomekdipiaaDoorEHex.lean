/-
  The document's own hex, path.
-/
import Derived.Test.YtnkkfomekdipiaaDoorCPlain
import Derived.Test.YtnkkfomekdipiaaDoorCOps
namespace Go.Proofs.YtnkkfomekdipiaaDoor.Cl
open Go.RowKit
attribute [local go_sem ↓] Go.wp_at_zero Go.wp_at_succ

theorem dig16_cut : ∀ k : Fin 16, dig16.extract k.val (k.val + 1) = bs [hx k.val] := by decide +kernel
set_option maxHeartbeats 400000 in
theorem ehex_any (k : Nat) (hk : k < 16) (w : World) : Calls Tryd.prog 55 #[I (k : Nat)] w fun e w' => e = .returned (S [hx k]) ∧ w' = w := by
  have h1 : (k : Int) < 16 := by omega
  have h0 : (0 : Int) ≤ (k : Int) := by omega
  have h2 := dig16_cut ⟨k, hk⟩
  simp only at h2
  go_enter Tryd.func55, Tryd.ntmps55
  go_wp2_with fail
  go_ret
  exact ⟨rfl, rfl⟩
theorem wrap_sm (z : Int) (h0 : 0 ≤ z) (h1 : z ≤ 65535) : IntKind.i64.wrap z = z := by
  rw [IntKind.wrap_i64]
  omega
theorem str_cut (t : List UInt8) (k : Nat) (hk : k < t.length) : (bs t).extract k (k + 1) = bs [t[k]'hk] := by
  apply ByteArray.ext
  rw [ByteArray.data_extract]
  show t.toArray.extract k (k + 1) = [t[k]].toArray
  rw [List.extract_toArray, List.extract_eq_take_drop, List.drop_eq_getElem_cons hk, show k + 1 - k = 1 by omega]
  rfl
set_option maxRecDepth 100000 in
set_option maxHeartbeats 1000000 in
theorem epath_any (t : List UInt8) (ht : t.length ≤ 50000000000000) (w : World) : Calls Tryd.prog 41 #[S t] w fun e w' => e = .returned (S (plain t)) ∧ Below w.heap.size w w' := by
  have ht2 : (t.length : Int) ≤ 50000000000000 := by omega
  go_enter Tryd.func41, Tryd.ntmps41
  go_wp2_with fail
  go_loopw [3, 4] (fun v i wr => ∃ k : Nat, k ≤ t.length ∧ i = I (k : Nat) ∧ v = S (plain (t.take k)) ∧ Hid (Below w.heap.size w wr)) (fun _ i _ => t.length - (intOf i).toNat)
  case atStart => exact ⟨0, Nat.zero_le _, rfl, rfl, hide (Below.refl _ _)⟩
  case round =>
    obtain ⟨k, hk, rfl, rfl, hB⟩ := hrel
    by_cases hkt : k < t.length
    · have j1 : (k : Int) < (t.length : Int) := by omega
      have j0 : (0 : Int) ≤ (k : Int) := by omega
      have hpl := plain_len (t.take k)
      rw [List.length_take] at hpl
      have htk : t.take (k + 1) = t.take k ++ [t[k]] := by rw [List.take_add_one, List.getElem?_eq_getElem hkt]; rfl
      have hcut := str_cut t k hkt
      obtain ⟨x, hx0⟩ : ∃ x, x = t[k] := ⟨_, rfl⟩
      rw [← hx0] at htk hcut
      have hxc : ∀ hh : k < (bs t).size, ((bs t)[k]'hh).toNat = x.toNat := fun hh => by rw [hx0]; rfl
      have hc2 : x.toNat < 256 := x.toNat_lt
      clear hx0
      have hpk : plain (t.take (k + 1)) = plain (t.take k) ++ esc x := by rw [htk, plain_snoc]
      have hpl2 : (plain (t.take k)).length ≤ 3 * t.length := by omega
      generalize plain (t.take k) = o at *
      have HPK := hide hpk
      clear hpk htk hpl
      cases hp : isPlain x with
      | true =>
        obtain ⟨p1, p2, p3⟩ := plain_t hp
        have he : esc x = [x] := by unfold esc; rw [if_pos hp]
        have HE := hide (show plain (t.take (k + 1)) = o ++ [x] by rw [unhide HPK, he])
        have hadd := add_run o [x] (by simp; omega)
        have q1 : (33 : Int) ≤ (x.toNat : Int) := by omega
        have q2 : (x.toNat : Int) ≤ 126 := by omega
        have q3 : ((x.toNat : Int) == 37) = false := by simp; omega
        have q4 : ((x.toNat : Int) != 37) = true := by simp; omega
        clear p1 p2 p3 he hp hc2 HPK
        go_wp2_with fail
        exact ⟨⟨k + 1, by omega, by go_num, by rw [unhide HE], hB⟩, by simp [intOf]; omega⟩
      | false =>
        have he : esc x = [37, hx (x.toNat / 16), hx (x.toNat % 16)] := by unfold esc; rw [if_neg (by rw [hp]; simp)]
        have HP := hide (plain_f hp)
        obtain ⟨q, hq⟩ : ∃ q, q = x.toNat / 16 := ⟨_, rfl⟩
        obtain ⟨m, hm⟩ : ∃ m, m = x.toNat % 16 := ⟨_, rfl⟩
        rw [← hq, ← hm] at he
        have HE := hide (show plain (t.take (k + 1)) = o ++ [37, hx q, hx m] by rw [unhide HPK, he])
        have a1 := add_run o [37] (by simp; omega)
        have a2 : ∀ w : World, (Op.stringOp .add (bs (o ++ [37])) (bs [hx q])).run Tryd.prog w = .ok (S (o ++ [37, hx q])) w := fun w => by
          have h := add_run (o ++ [37]) [hx q] (by simp; omega) w
          rwa [List.append_assoc] at h
        have a3 : ∀ w : World, (Op.stringOp .add (bs (o ++ [37, hx q])) (bs [hx m])).run Tryd.prog w = .ok (S (o ++ [37, hx q, hx m])) w := fun w => by
          have h := add_run (o ++ [37, hx q]) [hx m] (by simp; omega) w
          rwa [List.append_assoc] at h
        have e1 : bits .and .u8 (x.toNat : Int) 15 = (m : Int) := by rw [hm]; exact u8_and15 ⟨x.toNat, hc2⟩
        have e2 : (x.toNat : Int) / 16 = (q : Int) := by omega
        have e3 : (x.toNat : Int) % 16 = (m : Int) := by omega
        have g1 : (0 : Int) ≤ (q : Int) := by omega
        have g2 : (q : Int) < 16 := by omega
        have g3 : (0 : Int) ≤ (m : Int) := by omega
        have g4 : (m : Int) < 16 := by omega
        have g5 : q < 16 := by omega
        have wq := wrap_sm (q : Int) g1 (by omega)
        have wm := wrap_sm (m : Int) g3 (by omega)
        have g6 : m < 16 := by omega
        clear hq hm he hp hc2 HPK
        rcases unhide HP with p1 | ⟨p1, p2⟩ | ⟨p1, p2, p3⟩
        · have q1 : ¬ (33 : Int) ≤ (x.toNat : Int) := by omega
          clear p1
          go_wp2_with fail
          go_region_held3 (fun _ => True) (trivial)
            (first
              | (go_at_call_has 55 (Value.int IntKind.i64 ((q : Nat) : Int)); refine (ehex_any q g5 _).mono ?_; rintro e W' ⟨rfl, rfl⟩)
              | (go_at_call_has 55 (Value.int IntKind.i64 ((m : Nat) : Int)); refine (ehex_any m g6 _).mono ?_; rintro e W' ⟨rfl, rfl⟩))
          all_goals go_wp2_with fail
          all_goals exact ⟨⟨k + 1, by omega, by go_num, by rw [unhide HE], hide (below_drew (unhide hB))⟩, by simp [intOf]; omega⟩
        · have q1 : (33 : Int) ≤ (x.toNat : Int) := by omega
          have q2 : ¬ (x.toNat : Int) ≤ 126 := by omega
          clear p1 p2
          go_wp2_with fail
          go_region_held3 (fun _ => True) (trivial)
            (first
              | (go_at_call_has 55 (Value.int IntKind.i64 ((q : Nat) : Int)); refine (ehex_any q g5 _).mono ?_; rintro e W' ⟨rfl, rfl⟩)
              | (go_at_call_has 55 (Value.int IntKind.i64 ((m : Nat) : Int)); refine (ehex_any m g6 _).mono ?_; rintro e W' ⟨rfl, rfl⟩))
          all_goals go_wp2_with fail
          all_goals exact ⟨⟨k + 1, by omega, by go_num, by rw [unhide HE], hide (below_drew (unhide hB))⟩, by simp [intOf]; omega⟩
        · have q1 : (33 : Int) ≤ (x.toNat : Int) := by omega
          have q2 : (x.toNat : Int) ≤ 126 := by omega
          have q3 : ((x.toNat : Int) == 37) = true := by simp; omega
          have q4 : ((x.toNat : Int) != 37) = false := by simp; omega
          clear p1 p2 p3
          go_wp2_with fail
          go_region_held3 (fun _ => True) (trivial)
            (first
              | (go_at_call_has 55 (Value.int IntKind.i64 ((q : Nat) : Int)); refine (ehex_any q g5 _).mono ?_; rintro e W' ⟨rfl, rfl⟩)
              | (go_at_call_has 55 (Value.int IntKind.i64 ((m : Nat) : Int)); refine (ehex_any m g6 _).mono ?_; rintro e W' ⟨rfl, rfl⟩))
          all_goals go_wp2_with fail
          all_goals exact ⟨⟨k + 1, by omega, by go_num, by rw [unhide HE], hide (below_drew (unhide hB))⟩, by simp [intOf]; omega⟩
    · obtain rfl : k = t.length := by omega
      have j1 : ¬ (t.length : Int) < (t.length : Int) := by omega
      rw [List.take_length]
      go_wp2_with fail
      go_ret
      exact ⟨rfl, unhide hB⟩
end Go.Proofs.YtnkkfomekdipiaaDoor.Cl
