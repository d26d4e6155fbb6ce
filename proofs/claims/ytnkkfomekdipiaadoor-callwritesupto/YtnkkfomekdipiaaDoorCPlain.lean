/-
  appendPlain: a text as it is told in a line.
-/
import Derived.Test.YtnkkfomekdipiaaDoorCEnc
namespace Go.Proofs.YtnkkfomekdipiaaDoor.Cl
open Go.RowKit
attribute [local go_sem ↓] Go.wp_at_zero Go.wp_at_succ

theorem step_app {P : Program} {w : World} {ops : Array Oper} {o : Oper} {a : Act} {K : Act → World → Prop} {Q : Exit → Act → World → Prop} {E : Prop} (hgd : o.guard = none) (s x : Operand) (t t2 : TypeId)
    (ho : o.op = .call { callee := .builtin .append, args := #[s, x], argTypes := #[t, t2] }) (ty : TypeId) (hty : o.type = ty) (vs vx : Value) (hs : a.eval s = vs) (hx : a.eval x = vx) (v' : Value) (w' : World)
    (hrun : (Builtin.append_ #[t, t2] ty #[vs, vx]).run P w = .ok v' w') (h : K (a.put o.dst v') w') :
    if Region.wanted o (yielded ops a.tmps) = true then Oper.wp P o a w K Q else E := by
  have hw : Region.wanted o (yielded ops a.tmps) = true := by simp [Region.wanted, hgd]
  rw [if_pos hw]
  unfold Oper.wp execOp
  simp only [ho, resolve, invoke, builtin, Sem.run_bind, Sem.run_pure, Result.andThen_ok, List.map_toArray, List.map_cons, List.map_nil, hs, hx, hty, hrun]
  exact h

/-- A digit of sixteen. -/
def hx (k : Nat) : UInt8 := if k < 10 then UInt8.ofNat (48 + k) else UInt8.ofNat (87 + k)
/-- Is a byte told as it is? -/
def isPlain (c : UInt8) : Bool := decide (33 ≤ c.toNat) && decide (c.toNat ≤ 126) && !(c.toNat == 37)
def esc (c : UInt8) : List UInt8 := if isPlain c = true then [c] else [37, hx (c.toNat / 16), hx (c.toNat % 16)]
/-- A text as it is told. -/
def plain (l : List UInt8) : List UInt8 := l.flatMap esc
theorem esc_len (c : UInt8) : (esc c).length ≤ 3 := by unfold esc; split <;> simp
theorem plain_len (l : List UInt8) : (plain l).length ≤ 3 * l.length := by
  induction l with
  | nil => simp [plain]
  | cons c l ih =>
    have := esc_len c
    simp only [plain, List.flatMap_cons, List.length_append, List.length_cons] at *
    omega
theorem plain_snoc (l : List UInt8) (c : UInt8) : plain (l ++ [c]) = plain l ++ esc c := by simp [plain]
theorem plain_app (l m : List UInt8) : plain (l ++ m) = plain l ++ plain m := by simp [plain]
abbrev dig16 : ByteArray := ⟨#[48, 49, 50, 51, 52, 53, 54, 55, 56, 57, 97, 98, 99, 100, 101, 102]⟩
theorem dig_get : ∀ k : Fin 16, (dig16[k.val]'k.isLt).toNat = (hx k.val).toNat := by decide +kernel
theorem u8_and15 : ∀ c : Fin 256, bits .and .u8 (c.val : Int) 15 = ((c.val % 16 : Nat) : Int) := by decide +kernel
theorem plain_t {c : UInt8} (h : isPlain c = true) : 33 ≤ c.toNat ∧ c.toNat ≤ 126 ∧ ¬ c.toNat = 37 := by
  simp [isPlain] at h
  omega
theorem plain_f {c : UInt8} (h : isPlain c = false) : c.toNat < 33 ∨ (33 ≤ c.toNat ∧ 126 < c.toNat) ∨ (33 ≤ c.toNat ∧ c.toNat ≤ 126 ∧ c.toNat = 37) := by
  by_cases h1 : 33 ≤ c.toNat
  · by_cases h2 : c.toNat ≤ 126
    · simp [isPlain, h1, h2] at h
      omega
    · omega
  · omega

set_option maxRecDepth 100000 in
set_option maxHeartbeats 1000000 in
theorem plainS_any (B : Nat) (v : Value) (l t : List UInt8) (w : World) (h : Bw w B v l) (hb : B ≤ w.heap.size) (hl : l.length + 3 * t.length ≤ 140737488355000) :
    Calls Tryd.prog 51 #[v, S t] w fun e w' => ∃ v', e = .returned v' ∧ Bw w' B v' (l ++ plain t) ∧ Kp B w w' := by
  go_enter Tryd.func51, Tryd.ntmps51
  go_wp2_with fail
  go_loopw [0, 9] (fun v i wr => ∃ (k : Nat) (v' : Value), k ≤ t.length ∧ i = .int .i64 k ∧ v = v' ∧ Bw wr B v' (l ++ plain (t.take k)) ∧ Kp B w wr) (fun _ i _ => t.length - (intOf i).toNat)
  case atStart => exact ⟨0, v, Nat.zero_le _, rfl, rfl, by simpa [plain] using h, Kp.refl _ _⟩
  case round =>
    obtain ⟨k, v', hk, rfl, rfl, hw, hK⟩ := hrel
    obtain ⟨av, nv, cv, rfl⟩ := hw.sl
    by_cases hkt : k < t.length
    · have j1 : (k : Int) < (t.length : Int) := by omega
      have j0 : (0 : Int) ≤ (k : Int) := by omega
      have hbw : B ≤ wr.heap.size := Nat.le_trans hb hK.be.size
      have hpl := plain_len (t.take k)
      rw [List.length_take] at hpl
      have htk : t.take (k + 1) = t.take k ++ [t[k]] := by rw [List.take_add_one, List.getElem?_eq_getElem hkt]; rfl
      have j2 : (k : Int) < 4611686018427387904 := by omega
      obtain ⟨x, hx0⟩ : ∃ x, x = t[k] := ⟨_, rfl⟩
      rw [← hx0] at htk
      obtain ⟨c, hc⟩ : ∃ c, c = x.toNat := ⟨_, rfl⟩
      have hxc : ∀ hh : k < (bs t).size, ((bs t)[k]'hh).toNat = c := fun hh => by rw [hc, hx0]; rfl
      have hc2 : c < 256 := hc ▸ x.toNat_lt
      clear hx0
      cases hp : isPlain x with
      | true =>
        obtain ⟨p1, p2, p3⟩ := plain_t hp
        have he : esc x = [x] := by unfold esc; rw [if_pos hp]
        obtain ⟨v2, W2, hrun, hw2, hK2⟩ := hw.new hbw 22 [x] 1 rfl #[.int .u8 x.toNat] rfl (by simp; omega)
        obtain ⟨a2, n2, c2, rfl⟩ := hw2.sl
        have HK := hide (show Bw W2 B (.slice a2 n2 c2) (l ++ plain (t.take (k + 1))) ∧ Kp B w W2 from ⟨by rw [htk, plain_snoc, he, ← List.append_assoc]; exact hw2, hK.trans hK2⟩)
        rw [← hc] at hrun p1 p2 p3
        clear hw hK h hw2 hK2 hbw hl hb hpl htk he hp hc
        have q1 : (33 : Int) ≤ (c : Int) := by omega
        have q2 : (c : Int) ≤ 126 := by omega
        have q3 : ((c : Int) == 37) = false := by simp; omega
        have q4 : ((c : Int) != 37) = true := by simp; omega
        clear p1 p2 p3
        go_wp2_with (at_builtin; refine wpList_app rfl _ _ 22 22 rfl 22 rfl _ _ (by rfl) (by rfl) _ _ hrun ?_)
        exact ⟨⟨k + 1, _, by omega, by go_num, rfl, (unhide HK).1, (unhide HK).2⟩, by simp [intOf]; omega⟩
      | false =>
        have he : esc x = [37, hx (x.toNat / 16), hx (x.toNat % 16)] := by unfold esc; rw [if_neg (by rw [hp]; simp)]
        obtain ⟨v2, W2, hrun0, hw2, hK2⟩ := (show Bw wr.drew B _ _ from hw).new hbw 22 [37, hx (x.toNat / 16), hx (x.toNat % 16)] 3 rfl #[.int .u8 37, .int .u8 (hx (x.toNat / 16)).toNat, .int .u8 (hx (x.toNat % 16)).toNat] rfl (by simp; omega)
        have hrun : (Builtin.append_ #[22, 22] 22 #[.slice av nv cv, .slice (some ⟨wr.heap.size, 0, none⟩) 3 3]).run Tryd.prog (wr.alloc (.cells #[.int .u8 37, .int .u8 (hx (x.toNat / 16)).toNat, .int .u8 (hx (x.toNat % 16)).toNat] 5)).drew = .ok v2 W2 := hrun0
        obtain ⟨a2, n2, c2, rfl⟩ := hw2.sl
        have HK := hide (show Bw W2 B (.slice a2 n2 c2) (l ++ plain (t.take (k + 1))) ∧ Kp B w W2 from ⟨by rw [htk, plain_snoc, he, ← List.append_assoc]; exact hw2, hK.drew.trans hK2⟩)
        clear hrun0
        have HP := hide (plain_f hp)
        rw [← hc] at hrun HP
        obtain ⟨q, hq⟩ : ∃ q, q = c / 16 := ⟨_, rfl⟩
        obtain ⟨m, hm⟩ : ∃ m, m = c % 16 := ⟨_, rfl⟩
        rw [← hq, ← hm] at hrun
        have d1 : ∀ hh : q < dig16.size, (dig16[q]'hh).toNat = (hx q).toNat := fun hh => dig_get ⟨q, by omega⟩
        have d2 : ∀ hh : m < dig16.size, (dig16[m]'hh).toNat = (hx m).toNat := fun hh => dig_get ⟨m, by omega⟩
        have e1 : bits .and .u8 (c : Int) 15 = (m : Int) := by rw [hm]; exact u8_and15 ⟨c, hc2⟩
        have e2 : (c : Int) / 16 = (q : Int) := by omega
        have e3 : (c : Int) % 16 = (m : Int) := by omega
        have g1 : (0 : Int) ≤ (q : Int) := by omega
        have g2 : (q : Int) < 16 := by omega
        have g3 : (0 : Int) ≤ (m : Int) := by omega
        have g4 : (m : Int) < 16 := by omega
        have g5 : q < 16 := by omega
        have g6 : m < 16 := by omega
        clear hq hm
        clear hw hK h hw2 hK2 hbw hl hb hpl htk he hp hc
        rcases unhide HP with p1 | ⟨p1, p2⟩ | ⟨p1, p2, p3⟩
        · have q1 : ¬ (33 : Int) ≤ (c : Int) := by omega
          clear p1
          go_wp2_with fail
          go_region_law (refine step_app (by rfl) _ _ 22 22 (by rfl) 22 (by rfl) _ _ (by rfl) (by rfl) _ _ hrun ?_)
          all_goals go_wp2_with fail
          all_goals exact ⟨⟨k + 1, _, by omega, by go_num, rfl, (unhide HK).1, (unhide HK).2⟩, by simp [intOf]; omega⟩
        · have q1 : (33 : Int) ≤ (c : Int) := by omega
          have q2 : ¬ (c : Int) ≤ 126 := by omega
          clear p1 p2
          go_wp2_with fail
          go_region_law (refine step_app (by rfl) _ _ 22 22 (by rfl) 22 (by rfl) _ _ (by rfl) (by rfl) _ _ hrun ?_)
          all_goals go_wp2_with fail
          all_goals exact ⟨⟨k + 1, _, by omega, by go_num, rfl, (unhide HK).1, (unhide HK).2⟩, by simp [intOf]; omega⟩
        · have q1 : (33 : Int) ≤ (c : Int) := by omega
          have q2 : (c : Int) ≤ 126 := by omega
          have q3 : ((c : Int) == 37) = true := by simp; omega
          have q4 : ((c : Int) != 37) = false := by simp; omega
          clear p1 p2 p3
          go_wp2_with fail
          go_region_law (refine step_app (by rfl) _ _ 22 22 (by rfl) 22 (by rfl) _ _ (by rfl) (by rfl) _ _ hrun ?_)
          all_goals go_wp2_with fail
          all_goals exact ⟨⟨k + 1, _, by omega, by go_num, rfl, (unhide HK).1, (unhide HK).2⟩, by simp [intOf]; omega⟩
    · obtain rfl : k = t.length := by omega
      have ht : t.take t.length = t := List.take_length
      rw [ht] at hw
      have HK := hide (⟨hw, hK⟩ : _ ∧ _)
      clear hw hK h
      go_wp2_with fail
      go_ret
      exact ⟨_, rfl, (unhide HK).1, (unhide HK).2⟩
set_option maxRecDepth 100000 in
set_option maxHeartbeats 1000000 in
theorem plainB_any (B : Nat) (v : Value) (l t : List UInt8) (a : Option Addr) (n cap : Nat) (hn : n = t.length) (w : World) (h : Bw w B v l) (hb : B ≤ w.heap.size) (ht : By w B a t) (hl : l.length + 3 * t.length ≤ 140737488355000) :
    Calls Tryd.prog 53 #[v, .slice a n cap] w fun e w' => ∃ v', e = .returned v' ∧ Bw w' B v' (l ++ plain t) ∧ Kp B w w' := by
  subst hn
  have HT := hide ht
  clear ht
  go_enter Tryd.func53, Tryd.ntmps53
  go_wp2_with fail
  go_loopw [0, 9] (fun v i wr => ∃ (k : Nat) (v' : Value), k ≤ t.length ∧ i = .int .i64 k ∧ v = v' ∧ Bw wr B v' (l ++ plain (t.take k)) ∧ Kp B w wr) (fun _ i _ => t.length - (intOf i).toNat)
  case atStart => exact ⟨0, v, Nat.zero_le _, rfl, rfl, by simpa [plain] using h, Kp.refl _ _⟩
  case round =>
    obtain ⟨k, v', hk, rfl, rfl, hw, hK⟩ := hrel
    obtain ⟨av, nv, cv, rfl⟩ := hw.sl
    by_cases hkt : k < t.length
    · have j1 : (k : Int) < (t.length : Int) := by omega
      have j0 : (0 : Int) ≤ (k : Int) := by omega
      have hbw : B ≤ wr.heap.size := Nat.le_trans hb hK.be.size
      have hpl := plain_len (t.take k)
      rw [List.length_take] at hpl
      have htk : t.take (k + 1) = t.take k ++ [t[k]] := by rw [List.take_add_one, List.getElem?_eq_getElem hkt]; rfl
      have j2 : (k : Int) < 4611686018427387904 := by omega
      obtain ⟨x, hx0⟩ : ∃ x, x = t[k] := ⟨_, rfl⟩
      rw [← hx0] at htk
      obtain ⟨c, hc⟩ : ∃ c, c = x.toNat := ⟨_, rfl⟩
      obtain ⟨ab, ao, rfl, -, hcell0⟩ := ((unhide HT).below hK.be) k x (by rw [hx0]; exact List.getElem?_eq_getElem hkt)
      have hxc : wr.cell? ⟨ab, ao + k, none⟩ = some (.int .u8 c) := by rw [hc]; exact hcell0
      clear hcell0
      have hc2 : c < 256 := hc ▸ x.toNat_lt
      clear hx0
      cases hp : isPlain x with
      | true =>
        obtain ⟨p1, p2, p3⟩ := plain_t hp
        have he : esc x = [x] := by unfold esc; rw [if_pos hp]
        obtain ⟨v2, W2, hrun, hw2, hK2⟩ := hw.new hbw 22 [x] 1 rfl #[.int .u8 x.toNat] rfl (by simp; omega)
        obtain ⟨a2, n2, c2, rfl⟩ := hw2.sl
        have HK := hide (show Bw W2 B (.slice a2 n2 c2) (l ++ plain (t.take (k + 1))) ∧ Kp B w W2 from ⟨by rw [htk, plain_snoc, he, ← List.append_assoc]; exact hw2, hK.trans hK2⟩)
        rw [← hc] at hrun p1 p2 p3
        clear hw hK h hw2 hK2 hbw hl hb hpl htk he hp hc
        have q1 : (33 : Int) ≤ (c : Int) := by omega
        have q2 : (c : Int) ≤ 126 := by omega
        have q3 : ((c : Int) == 37) = false := by simp; omega
        have q4 : ((c : Int) != 37) = true := by simp; omega
        clear p1 p2 p3
        go_wp2_with (at_builtin; refine wpList_app rfl _ _ 22 22 rfl 22 rfl _ _ (by rfl) (by rfl) _ _ hrun ?_)
        exact ⟨⟨k + 1, _, by omega, by go_num, rfl, (unhide HK).1, (unhide HK).2⟩, by simp [intOf]; omega⟩
      | false =>
        have he : esc x = [37, hx (x.toNat / 16), hx (x.toNat % 16)] := by unfold esc; rw [if_neg (by rw [hp]; simp)]
        obtain ⟨v2, W2, hrun0, hw2, hK2⟩ := (show Bw wr.drew B _ _ from hw).new hbw 22 [37, hx (x.toNat / 16), hx (x.toNat % 16)] 3 rfl #[.int .u8 37, .int .u8 (hx (x.toNat / 16)).toNat, .int .u8 (hx (x.toNat % 16)).toNat] rfl (by simp; omega)
        have hrun : (Builtin.append_ #[22, 22] 22 #[.slice av nv cv, .slice (some ⟨wr.heap.size, 0, none⟩) 3 3]).run Tryd.prog (wr.alloc (.cells #[.int .u8 37, .int .u8 (hx (x.toNat / 16)).toNat, .int .u8 (hx (x.toNat % 16)).toNat] 5)).drew = .ok v2 W2 := hrun0
        obtain ⟨a2, n2, c2, rfl⟩ := hw2.sl
        have HK := hide (show Bw W2 B (.slice a2 n2 c2) (l ++ plain (t.take (k + 1))) ∧ Kp B w W2 from ⟨by rw [htk, plain_snoc, he, ← List.append_assoc]; exact hw2, hK.drew.trans hK2⟩)
        clear hrun0
        have HP := hide (plain_f hp)
        rw [← hc] at hrun HP
        obtain ⟨q, hq⟩ : ∃ q, q = c / 16 := ⟨_, rfl⟩
        obtain ⟨m, hm⟩ : ∃ m, m = c % 16 := ⟨_, rfl⟩
        rw [← hq, ← hm] at hrun
        have d1 : ∀ hh : q < dig16.size, (dig16[q]'hh).toNat = (hx q).toNat := fun hh => dig_get ⟨q, by omega⟩
        have d2 : ∀ hh : m < dig16.size, (dig16[m]'hh).toNat = (hx m).toNat := fun hh => dig_get ⟨m, by omega⟩
        have e1 : bits .and .u8 (c : Int) 15 = (m : Int) := by rw [hm]; exact u8_and15 ⟨c, hc2⟩
        have e2 : (c : Int) / 16 = (q : Int) := by omega
        have e3 : (c : Int) % 16 = (m : Int) := by omega
        have g1 : (0 : Int) ≤ (q : Int) := by omega
        have g2 : (q : Int) < 16 := by omega
        have g3 : (0 : Int) ≤ (m : Int) := by omega
        have g4 : (m : Int) < 16 := by omega
        have g5 : q < 16 := by omega
        have g6 : m < 16 := by omega
        clear hq hm
        clear hw hK h hw2 hK2 hbw hl hb hpl htk he hp hc
        rcases unhide HP with p1 | ⟨p1, p2⟩ | ⟨p1, p2, p3⟩
        · have q1 : ¬ (33 : Int) ≤ (c : Int) := by omega
          clear p1
          go_wp2_with fail
          go_region_law (refine step_app (by rfl) _ _ 22 22 (by rfl) 22 (by rfl) _ _ (by rfl) (by rfl) _ _ hrun ?_)
          all_goals go_wp2_with fail
          all_goals exact ⟨⟨k + 1, _, by omega, by go_num, rfl, (unhide HK).1, (unhide HK).2⟩, by simp [intOf]; omega⟩
        · have q1 : (33 : Int) ≤ (c : Int) := by omega
          have q2 : ¬ (c : Int) ≤ 126 := by omega
          clear p1 p2
          go_wp2_with fail
          go_region_law (refine step_app (by rfl) _ _ 22 22 (by rfl) 22 (by rfl) _ _ (by rfl) (by rfl) _ _ hrun ?_)
          all_goals go_wp2_with fail
          all_goals exact ⟨⟨k + 1, _, by omega, by go_num, rfl, (unhide HK).1, (unhide HK).2⟩, by simp [intOf]; omega⟩
        · have q1 : (33 : Int) ≤ (c : Int) := by omega
          have q2 : (c : Int) ≤ 126 := by omega
          have q3 : ((c : Int) == 37) = true := by simp; omega
          have q4 : ((c : Int) != 37) = false := by simp; omega
          clear p1 p2 p3
          go_wp2_with fail
          go_region_law (refine step_app (by rfl) _ _ 22 22 (by rfl) 22 (by rfl) _ _ (by rfl) (by rfl) _ _ hrun ?_)
          all_goals go_wp2_with fail
          all_goals exact ⟨⟨k + 1, _, by omega, by go_num, rfl, (unhide HK).1, (unhide HK).2⟩, by simp [intOf]; omega⟩
    · obtain rfl : k = t.length := by omega
      have ht : t.take t.length = t := List.take_length
      rw [ht] at hw
      have HK := hide (⟨hw, hK⟩ : _ ∧ _)
      clear hw hK h
      go_wp2_with fail
      go_ret
      exact ⟨_, rfl, (unhide HK).1, (unhide HK).2⟩
end Go.Proofs.YtnkkfomekdipiaaDoor.Cl
