/-
  The walk of MountCounts.
-/
import Derived.Test.YthmpplcaomgdoaaMCntA
import Derived.Test.YthmpplcaomgdoaaMSame
import Derived.Deep.CutRange
import Derived.Deep.CutBlock
namespace Go.Proofs.Ythmpplcaomgdoaa.Mt
open Go.RowKit
attribute [local go_sem ↓] Go.wp_at_zero Go.wp_at_succ

/-- What lies while the law goes on. -/
structure CS (B : Int) (h : Nat) (w W : World) (t : T) : Prop where
  q : Tq B h W h t
  be : Below h w W
section
variable {B B' : Int} {h : Nat} {w W W' : World} {t t' : T}
theorem CS.sz (s : CS B h w W t) : h < W.heap.size := s.q.ls.lt
theorem CS.fm (s : CS B h w W t) (q : Tq B' h W' h t') (f : Fm h h W W') : CS B' h w W' t' := ⟨q, s.be.trans f.below⟩
theorem CS.below (s : CS B h w W t) (g : Below W.heap.size W W') : CS B h w W' t := ⟨s.q.below g, s.be.trans (g.mono (by have := s.sz; omega))⟩
theorem CS.alloc (s : CS B h w W t) (o : Obj) : CS B h w (W.alloc o) t := s.below (below_alloc _ _)
theorem CS.drew (s : CS B h w W t) : CS B h w W.drew t := s.below ⟨rfl, rfl, rfl, Nat.le_refl _, fun _ _ => rfl⟩
theorem CS.mono (s : CS B h w W t) (hB : B ≤ B') : CS B' h w W t := ⟨⟨s.q.ls, s.q.wf.mono hB⟩, s.be⟩
/-- The calls, while a place lies in block y. -/
theorem list_C (s : CS B h w W t) : Calls Try.prog 25 #[.pointer (some ⟨h, 0, none⟩)] W fun e w' => ∃ a cap, e = .returned (.slice a (lst t.es).length cap) ∧ Below W.heap.size W w' ∧ Sl w' a (lst t.es) := by
  refine (list_Q s.q).mono ?_
  rintro e w' ⟨v, rfl, h1, h2⟩
  obtain ⟨a, cap, rfl, h3⟩ := Sl.of h1
  exact ⟨a, cap, rfl, h2, h3⟩
theorem above_C (s : CS B h w W t) (m : Int) : Calls Try.prog 15 #[.pointer (some ⟨h, 0, none⟩), I m] W fun e w' => ∃ a cap, e = .returned (.slice a (abv t.es m).length cap) ∧ Below W.heap.size W w' := by
  refine (above_Q s.q m).mono ?_
  rintro e w' ⟨v, rfl, h1, h2⟩
  obtain ⟨a, cap, rfl, h3⟩ := Sl.of h1
  exact ⟨a, cap, rfl, h2⟩
theorem list_Y (s : CS B h w W t) {y : Nat} {x0 x1 : Value} (hy : W.heap[y]? = some (.cells #[x0, x1] 29)) : Calls Try.prog 25 #[.pointer (some ⟨h, 0, none⟩)] W fun e w' => ∃ a cap, e = .returned (.slice a (lst t.es).length cap) ∧ (w'.cell? ⟨y, 0, none⟩ = some x0 ∧ w'.cell? ⟨y, 1, none⟩ = some x1) ∧ Hid (CS B h w w' t ∧ w'.heap[y]? = some (.cells #[x0, x1] 29)) := by
  refine (list_C s).mono ?_
  rintro e w' ⟨a, cap, rfl, h2, h3⟩
  have hy' := (h2.block y (lt_of_heap hy)).trans hy
  exact ⟨a, cap, rfl, cells2 hy', s.below h2, hy'⟩
theorem down_Y (s : CS B h w W t) (m n m' n' : Int) (hd : down t.md t.es m n = (m', n')) {y : Nat} {x0 x1 : Value} (hy : W.heap[y]? = some (.cells #[x0, x1] 29)) :
    Calls Try.prog 11 #[.pointer (some ⟨h, 0, none⟩), .agg #[I m, I n]] W fun e w' => e = .returned (.agg #[I m', I n']) ∧ (w'.cell? ⟨y, 0, none⟩ = some x0 ∧ w'.cell? ⟨y, 1, none⟩ = some x1) ∧ Hid (CS B h w w' t ∧ w'.heap[y]? = some (.cells #[x0, x1] 29)) := by
  refine (down_R s.q m n m' n' hd).mono ?_
  rintro e w' ⟨h1, h2, h3⟩
  have hy' := (h3.block y (lt_of_heap hy)).trans hy
  exact ⟨h1, cells2 hy', s.below h3, hy'⟩
theorem bind_Y (s : CS B h w W t) (hB : B < 1000000) (am an nd : Int) {y : Nat} {x0 x1 : Value} (hy : W.heap[y]? = some (.cells #[x0, x1] 29)) (hyh : h < y) {b o : Nat} {v : Value} (hb : b < h) (hc : W.cell? ⟨b, o, none⟩ = some v) :
    Calls Try.prog 10 #[.pointer (some ⟨h, 0, none⟩), .agg #[I am, I an], I nd] W fun e w' => e = .returned (.tuple #[I (t.bindN am an), I (bindE t.es am an)]) ∧ (w'.cell? ⟨y, 0, none⟩ = some x0 ∧ w'.cell? ⟨y, 1, none⟩ = some x1 ∧ w'.cell? ⟨b, o, none⟩ = some v) ∧ Hid (CS (B + 1) h w w' (t.bind am an nd) ∧ w'.heap[y]? = some (.cells #[x0, x1] 29)) := by
  refine (bind_Q s.q hB am an nd).mono ?_
  rintro e w' ⟨h1, h2, h3⟩
  have hy' : w'.heap[y]? = some (.cells #[x0, x1] 29) := h3.blk y _ hy (by omega) (by simp)
  obtain ⟨q0, q1⟩ := cells2 hy'
  exact ⟨h1, ⟨q0, q1, (World.cell?_of_block (h3.low b (by omega))).trans hc⟩, s.fm h2 h3, hy'⟩
end
set_option maxRecDepth 100000 in
set_option maxHeartbeats 8000000 in
theorem count_walk (pa : Option Addr) (len cap : Nat) (w : World) (ha : AsksAt w pa len) :
    Calls Try.prog 6 #[.slice pa len cap] w fun e w' => e = .returned (.bool true) ∧ Below w.heap.size w w' := by
  have hlen : (len : Int) ≤ 9223372036854775807 := by have := ha.1; omega
  have HA := hide ha
  clear ha
  go_enter Try.func6, Try.ntmps6
  go_wp2_with fail
  refine (new_Q 1 _).mono ?_
  rintro e w1 ⟨rfl, h1, b1⟩
  have HS := hide (⟨h1, b1⟩ : CS 0 w.heap.size w w1 ⟨1, 0, []⟩)
  clear h1 b1
  go_upto_block 0 with fail
  generalize hh : w.heap.size = h at *
  go_cut [4] from 5 to 147 (fun s wc => ∃ t, s = I (t.md + 1) ∧ CS 40 h w wc t)
  case first =>
    go_wp2_with fail
    go_loopw [4, 5] (fun vm v wr => ∃ (k : Nat) (t : T), vm = I (t.md + 1) ∧ v = I k ∧ k ≤ 40 ∧ k ≤ len ∧ CS k h w wr t) (fun _ v _ => 40 - (intOf v).toNat)
    case atStart => exact ⟨0, _, rfl, rfl, by omega, by omega, unhide HS⟩
    case round =>
      clear HS
      obtain ⟨k, t, rfl, rfl, hk, hkl, S⟩ := hrel
      by_cases hc : k < len ∧ k < 40
      · obtain ⟨b, off, kd, m, nd, am, an, rfl, hb, A⟩ := (unhide HA).2 k hc.1
        rw [hh] at hb
        have j1 : (k : Int) < (len : Int) := by omega
        have j2 : (k : Int) < 40 := by omega
        have j0 : (0 : Int) ≤ (k : Int) := by omega
        have hmd := S.q.wf.pos
        have A1 := A.below hb S.be
        have c3 := A1.c3
        have c4 := A1.c4
        have HA1 := hide A
        have hyh := S.sz
        have HS := hide S
        have HW6 := hide (fun (v : Int) (w : World) => within_any v 6 w (by decide) (by decide))
        clear A A1 S hc
        go_upto_region 8 with fail
        go_cut [6] from 31 to 45 (fun s wc => ∃ r1 r2 : Int, s = .pointer (some ⟨wr.heap.size, 0, none⟩) ∧ wc.heap[wr.heap.size]? = some (.cells #[I r1, I r2] 29) ∧ CS k h w wc t)
        case first =>
          go_region_held3 (fun w' => w'.cell? ⟨b, off + k * 5 + 3, none⟩ = some (I am) ∧ w'.cell? ⟨b, off + k * 5 + 4, none⟩ = some (I an)) (go_keep)
            (first
              | (go_at_call 28; refine (unhide HW6 _ _).mono ?_; rintro e w' ⟨⟨r, hr, rfl⟩, rfl⟩))
          all_goals
            go_wp2_with fail
            go_meet
            case rel => exact ⟨_, _, rfl, putAll _ _ rfl, ((unhide HS).alloc _).drew⟩
        case rest =>
          obtain ⟨r1, r2, rfl, hat, S1⟩ := hcut
          have HS1 := hide S1
          have Hat := hide hat
          clear HS c3 c4 S1 hat
          go_wp2_with fail
          refine (list_Y (unhide HS1) (unhide Hat)).mono ?_
          rintro e w3 ⟨a, cp, rfl, ⟨a0, a1⟩, HS3⟩
          have A3 := (unhide HA1).below hb (unhide HS3).1.be
          have c0 := A3.c0
          have c1 := A3.c1
          have c2 := A3.c2
          have hln : (lst t.es).length ≤ 8 := by have := (unhide HS3).1.q.wf.le; simp [lst]; omega
          obtain ⟨n, hn⟩ : ∃ n, n = (lst t.es).length := ⟨_, rfl⟩
          rw [← hn] at hln ⊢
          have Hn := hide hn
          clear HS1 Hat A3 hn
          by_cases k2 : kd = 2
          · subst k2
            go_wp2_with fail
            refine (within_any m 8 _ (by decide) (by decide)).mono ?_
            rintro e w' ⟨⟨r, hr, rfl⟩, rfl⟩
            clear a0 a1 c2
            obtain ⟨HS3', -⟩ := unhide HS3
            replace HS3 := hide HS3'
            clear HS3'
            go_wp2_with fail
            refine (above_C (unhide HS3) r).mono ?_
            rintro e w4 ⟨a4, cp4, rfl, b4⟩
            replace HS3 := hide ((unhide HS3).below b4)
            clear b4
            obtain ⟨x, hx⟩ : ∃ x, x = (abv t.es r).length := ⟨_, rfl⟩
            rw [← hx]
            have Hx := hide hx
            have hx7 : (x : Int) ≤ 1000 := by have := abv_len' t.es r; have := (unhide HS3).q.wf.le; omega
            clear hx
            go_wp2_with fail
            refine (root_R (unhide HS3).q r _ _ rfl rfl).mono ?_
            rintro e w5 ⟨rfl, g1, b5⟩
            replace HS3 := hide ((unhide HS3).below b5)
            clear g1 b5
            obtain ⟨y, hy⟩ : ∃ y, y = rootIs t.es r := ⟨_, rfl⟩
            rw [← hy]
            have Hy := hide hy
            generalize rootTop t.rt t.es r = tp
            clear hy
            go_wp2_with fail
            refine (unbind_Q (unhide HS3).q r).mono ?_
            rintro e w6 ⟨rfl, g1, b6⟩
            have HS6 := hide ((unhide HS3).fm g1 b6)
            have hok := unb_ok (unhide HS3).q.wf r
            rw [← unhide Hx, ← unhide Hy] at hok
            have Hl := hide (fun hz => unb_len (unhide HS3).q.wf (m := r) hz)
            clear g1 b6 HS3 c0 c1
            by_cases hz : unbE t.es r = 0
            · obtain ⟨z1, rfl, z3⟩ := hok.1 hz
              rw [hz]
              obtain ⟨e1, e2⟩ := unhide Hl hz
              rw [← unhide Hn] at e1 e2
              have z3' : ((x : Int) == 0) = true := by simp; omega
              have z1' : (r == 0) = false := by simp [z1]
              have nn : (n : Int) ≤ 8 := by omega
              have n0 : (2 : Int) ≤ (n : Int) := by omega
              have z1n : ¬ r = 0 := z1
              have z1b : (r != 0) = true := by simp [z1]
              clear hok Hl hz z1 z3
              go_wp2_with fail
              refine (list_C (unhide HS6)).mono ?_
              rintro e w7 ⟨a7, cp7, rfl, b7, -⟩
              have HS7 := hide ((unhide HS6).below b7)
              rw [e1]
              clear b7 HS6
              have n1 : ((n - 1 : Nat) : Int) = (n : Int) - 1 := by omega
              go_wp2_with fail
              go_roundw
              case rel => exact ⟨k + 1, _, by rw [unb_md], by go_num, by omega, by omega, (unhide HS7).mono (by omega)⟩
              case measure => simp [intOf]; omega
            · have hze : (unbE t.es r == 0) = false := by simp [hz]
              have hno : ¬ (r ≠ 0 ∧ y = true ∧ x = 0) := fun h => hz (hok.2 h)
              have HS7 := hide (by rw [unb_same hz] at HS6; exact unhide HS6 : CS k h w w6 t)
              generalize unbE t.es r = ue at *
              clear hok Hl HS6
              by_cases z1 : r = 0
              · subst z1
                clear hno
                go_wp2_with fail
                go_roundw
                case rel => exact ⟨k + 1, t, rfl, by go_num, by omega, by omega, (unhide HS7).mono (by omega)⟩
                case measure => simp [intOf]; omega
              · have z1' : (r == 0) = false := by simp [z1]
                have z1b : (r != 0) = true := by simp [z1]
                cases y with
                | false =>
                  clear hno
                  go_wp2_with fail
                  go_roundw
                  case rel => exact ⟨k + 1, t, rfl, by go_num, by omega, by omega, (unhide HS7).mono (by omega)⟩
                  case measure => simp [intOf]; omega
                | true =>
                  have z3' : ((x : Int) == 0) = false := by
                    simp only [beq_eq_false_iff_ne, ne_eq]
                    intro h
                    exact hno ⟨z1, rfl, by omega⟩
                  clear hno
                  go_wp2_with fail
                  go_roundw
                  case rel => exact ⟨k + 1, t, rfl, by go_num, by omega, by omega, (unhide HS7).mono (by omega)⟩
                  case measure => simp [intOf]; omega
          · have q2 : (kd == 2) = false := by simp [k2]
            clear k2 c1
            obtain ⟨HS3', Hat3⟩ := unhide HS3
            have HS4 := hide HS3'
            have Hat4 := hide Hat3
            clear HS3 HS3' Hat3
            go_upto_region 17 with fail
            go_cut [13, 14] from 98 to 108 (fun s1 s2 wd => s1 = I (t.bindN r1 r2) ∧ s2 = I (bindE t.es r1 r2) ∧ CS (k + 1) h w wd (t.bind r1 r2 nd) ∧ wd.heap[wr.heap.size]? = some (.cells #[I r1, I r2] 29))
            case first =>
              go_region_held3 (fun w' => w'.cell? ⟨wr.heap.size, 0, none⟩ = some (I r1) ∧ w'.cell? ⟨wr.heap.size, 1, none⟩ = some (I r2) ∧ w'.cell? ⟨b, off + k * 5 + 2, none⟩ = some (I nd)) (go_keep)
                (first
                  | (go_at_call 10; refine (bind_Y (unhide HS4).drew (by omega) _ _ _ (unhide Hat4) hyh hb c2).mono ?_; rintro e w' ⟨rfl, ⟨q0, q1, q2⟩, HS5⟩))
              all_goals
                go_wp2_with fail
                go_meet
                case rel => exact ⟨rfl, rfl, (unhide HS5).1, (unhide HS5).2⟩
            case rest =>
              obtain ⟨rfl, rfl, S5, hat5⟩ := hcut
              have hw := (unhide HS4).q.wf
              have HS5 := hide S5
              have Hat5 := hide hat5
              obtain ⟨a0, a1⟩ := cells2 hat5
              have nn : (n : Int) ≤ 8 := by omega
              clear S5 hat5 HS4 Hat4 c2 c0
              by_cases hz : bindE t.es r1 r2 = 0
              · obtain ⟨e1, e2, e3⟩ := bind_yes' (nd := nd) hz
                have hlt := bind_down (nd := nd) hw hz
                obtain ⟨⟨dm, dn'⟩, hd⟩ : ∃ x, x = down (t.bind r1 r2 nd).md (t.bind r1 r2 nd).es r1 r2 := ⟨_, rfl⟩
                rw [← hd] at hlt
                have hne : ¬ dm = r1 := by simp only [] at hlt; omega
                rw [hz, e1]
                rw [← unhide Hn] at e3
                have Hd := hide hd.symm
                have He3 := hide e3
                have He2 := hide e2
                obtain ⟨md1, hmd1⟩ : ∃ md1, md1 = t.md + 1 := ⟨_, rfl⟩
                rw [← hmd1]
                have Hmd1 := hide hmd1
                have hmd2 : -1000000 < md1 ∧ md1 < 1000000 := by omega
                have w1 : IntKind.i64.wrap ((n : Int) + 1) = (n : Int) + 1 := by rw [IntKind.wrap_i64]; omega
                have w2 : (((n + 1 : Nat) : Int) != IntKind.i64.wrap ((n : Int) + 1)) = false := by rw [w1]; simp
                have w3 : (((n + 1 : Nat) : Int) != (n : Int) + 1) = false := by simp
                clear hlt hz hw hd e1 e2 e3 hmd hmd1
                go_upto_region 19 with fail
                go_cut [139] from 111 to 138 (fun s wd => s = .bool false ∧ CS (k + 1) h w wd (t.bind r1 r2 nd))
                case first =>
                  refine wp_region_held_drew (S := fun w' => w'.cell? ⟨wr.heap.size, 0, none⟩ = some (I r1) ∧ w'.cell? ⟨wr.heap.size, 1, none⟩ = some (I r2)) (by kernel_rfl) ⟨a0, a1⟩ (fun hHeld => ?_)
                  refine wpAnyH_take (i := 0) (oi := ({ dst := some 111, op := Op.move (Operand.tmp 13), type := 3, pos := "law.go:135", after := #[], guard := none } : Oper)) (v := ?_) rfl (by kernel_rfl) (by kernel_rfl) (by kernel_rfl) (fun _ _ _ h => h) (Or.inl ⟨by rfl, ?_⟩) (by assumption) ?_
                  rotate_left
                  · (intro w hSw; (try dsimp only at hSw); go_simp; all_goals with_reducible rfl)
                  try simp only [Act.put, List.setIfInBounds_toArray, List.set_cons_zero, List.set_cons_succ]
                  refine wpAnyH_take (i := 1) (oi := ({ dst := some 112, op := Op.move (Operand.tmp 4), type := 3, pos := "law.go:135", after := #[], guard := none } : Oper)) (v := ?_) rfl (by kernel_rfl) (by kernel_rfl) (by kernel_rfl) (fun _ _ _ h => h) (Or.inl ⟨by rfl, ?_⟩) (by assumption) ?_
                  rotate_left
                  · (intro w hSw; (try dsimp only at hSw); go_simp; all_goals with_reducible rfl)
                  try simp only [Act.put, List.setIfInBounds_toArray, List.set_cons_zero, List.set_cons_succ]
                  refine wpAnyH_take (i := 2) (oi := ({ dst := some 113, op := Op.binOp BinOp.neq 3 (Operand.tmp 111) (Operand.tmp 112) 3, type := 4, pos := "law.go:135", after := #[{ on := 0, ground := Ground.data }, { on := 1, ground := Ground.data }], guard := none } : Oper)) (v := ?_) rfl (by kernel_rfl) (by kernel_rfl) (by kernel_rfl) (fun _ _ _ h => h) (Or.inl ⟨by rfl, ?_⟩) (by assumption) ?_
                  rotate_left
                  · (intro w hSw; (try dsimp only at hSw); go_simp; all_goals with_reducible rfl)
                  try simp only [Act.put, List.setIfInBounds_toArray, List.set_cons_zero, List.set_cons_succ]
                  refine wpAnyH_take (i := 3) (oi := ({ dst := some 114, op := Op.move (Operand.tmp 113), type := 4, pos := "law.go:135", after := #[{ on := 2, ground := Ground.data }], guard := none } : Oper)) (v := ?_) rfl (by kernel_rfl) (by kernel_rfl) (by kernel_rfl) (fun _ _ _ h => h) (Or.inl ⟨by rfl, ?_⟩) (by assumption) ?_
                  rotate_left
                  · (intro w hSw; (try dsimp only at hSw); go_simp; all_goals with_reducible rfl)
                  try simp only [Act.put, List.setIfInBounds_toArray, List.set_cons_zero, List.set_cons_succ]
                  refine wpAnyH_take (i := 4) (oi := ({ dst := some 115, op := Op.move (Operand.tmp 3), type := 22, pos := "law.go:135", after := #[{ on := 3, ground := Ground.guard }], guard := some (3, false) } : Oper)) (v := ?_) rfl (by kernel_rfl) (by kernel_rfl) (by kernel_rfl) (fun _ _ _ h => h) (Or.inl ⟨by rfl, ?_⟩) (by assumption) ?_
                  rotate_left
                  · (intro w hSw; (try dsimp only at hSw); go_simp; all_goals with_reducible rfl)
                  try simp only [Act.put, List.setIfInBounds_toArray, List.set_cons_zero, List.set_cons_succ]
                  refine wpAnyH_take (i := 7) (oi := ({ dst := some 118, op := Op.move (Operand.tmp 7), type := 35, pos := "law.go:135", after := #[{ on := 3, ground := Ground.guard }], guard := some (3, false) } : Oper)) (v := ?_) rfl (by kernel_rfl) (by kernel_rfl) (by kernel_rfl) (fun _ _ _ h => h) (Or.inl ⟨by rfl, ?_⟩) (by assumption) ?_
                  rotate_left
                  · (intro w hSw; (try dsimp only at hSw); go_simp; all_goals with_reducible rfl)
                  try simp only [Act.put, List.setIfInBounds_toArray, List.set_cons_zero, List.set_cons_succ]
                  refine wpAnyH_take (i := 8) (oi := ({ dst := some 119, op := Op.call { callee := Callee.builtin Builtin.len, args := #[Operand.tmp 118], argTypes := #[35] }, type := 3, pos := "law.go:135", after := #[{ on := 7, ground := Ground.data }, { on := 3, ground := Ground.guard }], guard := some (3, false) } : Oper)) (v := ?_) rfl (by kernel_rfl) (by kernel_rfl) (by kernel_rfl) (fun _ _ _ h => h) (Or.inl ⟨by rfl, ?_⟩) (by assumption) ?_
                  rotate_left
                  · (intro w hSw; (try dsimp only at hSw); go_simp; all_goals with_reducible rfl)
                  try simp only [Act.put, List.setIfInBounds_toArray, List.set_cons_zero, List.set_cons_succ]
                  refine wpAnyH_take (i := 9) (oi := ({ dst := some 120, op := Op.binOp BinOp.add 3 (Operand.tmp 119) (Operand.const (Value.int IntKind.i64 1)) 3, type := 3, pos := "law.go:135", after := #[{ on := 8, ground := Ground.data }, { on := 3, ground := Ground.guard }], guard := some (3, false) } : Oper)) (v := ?_) rfl (by kernel_rfl) (by kernel_rfl) (by kernel_rfl) (fun _ _ _ h => h) (Or.inl ⟨by rfl, ?_⟩) (by assumption) ?_
                  rotate_left
                  · (intro w hSw; (try dsimp only at hSw); go_simp; all_goals with_reducible rfl)
                  try simp only [Act.put, List.setIfInBounds_toArray, List.set_cons_zero, List.set_cons_succ]
                  refine wpAnyH_ready (rs := [5]) (by kernel_rfl) (by simp) (AllReadyH.cons (o := ({ dst := some 116, op := Op.call { callee := Callee.value (Operand.func 25), args := #[Operand.tmp 115], argTypes := #[22] }, type := 35, pos := "law.go:135", after := #[{ on := 4, ground := Ground.data }, { on := 3, ground := Ground.chain }, { on := 3, ground := Ground.guard }], guard := some (3, false) } : Oper)) rfl (fun K hK => ?_) AllReadyH.nil)
                  go_simp
                  refine (list_Y (unhide HS5).drew (unhide Hat5)).mono ?_
                  rintro e w' ⟨a7, cp7, rfl, ⟨q0, q1⟩, HS7⟩; rw [unhide He3]
                  refine hK.out _ _ ⟨q0, q1⟩ (fun hHeld => ?_)
                  clear hK K
                  try simp only [Act.put, List.setIfInBounds_toArray, List.set_cons_zero, List.set_cons_succ]
                  refine wpAnyH_take (i := 6) (oi := ({ dst := some 117, op := Op.call { callee := Callee.builtin Builtin.len, args := #[Operand.tmp 116], argTypes := #[35] }, type := 3, pos := "law.go:135", after := #[{ on := 5, ground := Ground.data }, { on := 3, ground := Ground.guard }], guard := some (3, false) } : Oper)) (v := ?_) rfl (by kernel_rfl) (by kernel_rfl) (by kernel_rfl) (fun _ _ _ h => h) (Or.inl ⟨by rfl, ?_⟩) (by assumption) ?_
                  rotate_left
                  · (intro w hSw; (try dsimp only at hSw); go_simp; all_goals with_reducible rfl)
                  try simp only [Act.put, List.setIfInBounds_toArray, List.set_cons_zero, List.set_cons_succ]
                  refine wpAnyH_take (i := 10) (oi := ({ dst := some 121, op := Op.binOp BinOp.neq 3 (Operand.tmp 117) (Operand.tmp 120) 3, type := 4, pos := "law.go:135", after := #[{ on := 6, ground := Ground.data }, { on := 9, ground := Ground.data }, { on := 3, ground := Ground.guard }], guard := some (3, false) } : Oper)) (v := ?_) rfl (by kernel_rfl) (by kernel_rfl) (by kernel_rfl) (fun _ _ _ h => h) (Or.inl ⟨by rfl, ?_⟩) (by assumption) ?_
                  rotate_left
                  · (intro w hSw; (try dsimp only at hSw); go_simp; all_goals with_reducible rfl)
                  try simp only [Act.put, List.setIfInBounds_toArray, List.set_cons_zero, List.set_cons_succ]
                  refine wpAnyH_take (i := 11) (oi := ({ dst := some 122, op := Op.pick (Operand.tmp 114) (Operand.const (Value.bool true)) (Operand.tmp 121), type := 4, pos := "law.go:135", after := #[{ on := 3, ground := Ground.data }, { on := 10, ground := Ground.data }], guard := none } : Oper)) (v := ?_) rfl (by kernel_rfl) (by kernel_rfl) (by kernel_rfl) (fun _ _ _ h => h) (Or.inl ⟨by rfl, ?_⟩) (by assumption) ?_
                  rotate_left
                  · (intro w hSw; (try dsimp only at hSw); go_simp; all_goals with_reducible rfl)
                  try simp only [Act.put, List.setIfInBounds_toArray, List.set_cons_zero, List.set_cons_succ]
                  refine wpAnyH_take (i := 12) (oi := ({ dst := some 123, op := Op.move (Operand.tmp 122), type := 4, pos := "law.go:135", after := #[{ on := 11, ground := Ground.data }, { on := 5, ground := Ground.chain }], guard := none } : Oper)) (v := ?_) rfl (by kernel_rfl) (by kernel_rfl) (by kernel_rfl) (fun _ _ _ h => h) (Or.inl ⟨by rfl, ?_⟩) (by assumption) ?_
                  rotate_left
                  · (intro w hSw; (try dsimp only at hSw); go_simp; all_goals with_reducible rfl)
                  try simp only [Act.put, List.setIfInBounds_toArray, List.set_cons_zero, List.set_cons_succ]
                  refine wpAnyH_take (i := 13) (oi := ({ dst := some 124, op := Op.move (Operand.tmp 3), type := 22, pos := "law.go:135", after := #[{ on := 12, ground := Ground.guard }], guard := some (12, false) } : Oper)) (v := ?_) rfl (by kernel_rfl) (by kernel_rfl) (by kernel_rfl) (fun _ _ _ h => h) (Or.inl ⟨by rfl, ?_⟩) (by assumption) ?_
                  rotate_left
                  · (intro w hSw; (try dsimp only at hSw); go_simp; all_goals with_reducible rfl)
                  try simp only [Act.put, List.setIfInBounds_toArray, List.set_cons_zero, List.set_cons_succ]
                  refine wpAnyH_take (i := 14) (oi := ({ dst := some 125, op := Op.load 29 (Operand.tmp 6), type := 29, pos := "law.go:135", after := #[{ on := 12, ground := Ground.guard }], guard := some (12, false) } : Oper)) (v := ?_) rfl (by kernel_rfl) (by kernel_rfl) (by kernel_rfl) (fun _ _ _ h => h) (Or.inl ⟨by rfl, ?_⟩) (by assumption) ?_
                  rotate_left
                  · (intro w hSw; (try dsimp only at hSw); go_simp; all_goals with_reducible rfl)
                  try simp only [Act.put, List.setIfInBounds_toArray, List.set_cons_zero, List.set_cons_succ]
                  refine wpAnyH_take (i := 16) (oi := ({ dst := some 127, op := Op.load 29 (Operand.tmp 6), type := 29, pos := "law.go:135", after := #[{ on := 12, ground := Ground.guard }], guard := some (12, false) } : Oper)) (v := ?_) rfl (by kernel_rfl) (by kernel_rfl) (by kernel_rfl) (fun _ _ _ h => h) (Or.inl ⟨by rfl, ?_⟩) (by assumption) ?_
                  rotate_left
                  · (intro w hSw; (try dsimp only at hSw); go_simp; all_goals with_reducible rfl)
                  try simp only [Act.put, List.setIfInBounds_toArray, List.set_cons_zero, List.set_cons_succ]
                  refine wpAnyH_ready (rs := [15]) (by kernel_rfl) (by simp) (AllReadyH.cons (o := ({ dst := some 126, op := Op.call { callee := Callee.value (Operand.func 11), args := #[Operand.tmp 124, Operand.tmp 125], argTypes := #[22, 29] }, type := 29, pos := "law.go:135", after := #[{ on := 13, ground := Ground.data }, { on := 14, ground := Ground.data }, { on := 12, ground := Ground.chain }, { on := 12, ground := Ground.guard }], guard := some (12, false) } : Oper)) rfl (fun K hK => ?_) AllReadyH.nil)
                  go_simp
                  refine (down_Y (unhide HS7).1 _ _ _ _ (unhide Hd) (unhide HS7).2).mono ?_
                  rintro e w'' ⟨rfl, ⟨q2, q3⟩, HS8⟩
                  refine hK.out _ _ ⟨q2, q3⟩ (fun hHeld => ?_)
                  clear hK K
                  try simp only [Act.put, List.setIfInBounds_toArray, List.set_cons_zero, List.set_cons_succ]
                  refine wpAnyH_take (i := 17) (oi := ({ dst := some 128, op := Op.binOp BinOp.eql 29 (Operand.tmp 126) (Operand.tmp 127) 29, type := 4, pos := "law.go:135", after := #[{ on := 15, ground := Ground.data }, { on := 16, ground := Ground.data }, { on := 12, ground := Ground.guard }], guard := some (12, false) } : Oper)) (v := ?_) rfl (by kernel_rfl) (by kernel_rfl) (by kernel_rfl) (fun _ _ _ h => h) (Or.inl ⟨by rfl, ?_⟩) (by assumption) ?_
                  rotate_left
                  · (intro w hSw; (try dsimp only at hSw); go_simp; all_goals with_reducible rfl)
                  try simp only [Act.put, List.setIfInBounds_toArray, List.set_cons_zero, List.set_cons_succ]
                  refine wpAnyH_take (i := 18) (oi := ({ dst := some 129, op := Op.move (Operand.tmp 128), type := 4, pos := "law.go:135", after := #[{ on := 17, ground := Ground.data }, { on := 15, ground := Ground.chain }, { on := 12, ground := Ground.guard }], guard := some (12, false) } : Oper)) (v := ?_) rfl (by kernel_rfl) (by kernel_rfl) (by kernel_rfl) (fun _ _ _ h => h) (Or.inl ⟨by rfl, ?_⟩) (by assumption) ?_
                  rotate_left
                  · (intro w hSw; (try dsimp only at hSw); go_simp; all_goals with_reducible rfl)
                  try simp only [Act.put, List.setIfInBounds_toArray, List.set_cons_zero, List.set_cons_succ]
                  refine wpAnyH_take (i := 19) (oi := ({ dst := some 130, op := Op.move (Operand.tmp 0), type := 38, pos := "law.go:135", after := #[{ on := 18, ground := Ground.guard }], guard := some (18, true) } : Oper)) (v := undef) rfl (by kernel_rfl) (by kernel_rfl) (by kernel_rfl) (fun _ _ _ h => h) (Or.inr ⟨by rfl, rfl⟩) (by assumption) ?_
                  try simp only [Act.put, List.setIfInBounds_toArray, List.set_cons_zero, List.set_cons_succ]
                  refine wpAnyH_take (i := 20) (oi := ({ dst := some 131, op := Op.move (Operand.tmp 5), type := 3, pos := "law.go:135", after := #[{ on := 18, ground := Ground.guard }], guard := some (18, true) } : Oper)) (v := undef) rfl (by kernel_rfl) (by kernel_rfl) (by kernel_rfl) (fun _ _ _ h => h) (Or.inr ⟨by rfl, rfl⟩) (by assumption) ?_
                  try simp only [Act.put, List.setIfInBounds_toArray, List.set_cons_zero, List.set_cons_succ]
                  refine wpAnyH_take (i := 21) (oi := ({ dst := some 132, op := Op.indexAddr 38 (Operand.tmp 130) (Operand.tmp 131), type := 0, pos := "law.go:135", after := #[{ on := 19, ground := Ground.data }, { on := 20, ground := Ground.data }, { on := 18, ground := Ground.guard }], guard := some (18, true) } : Oper)) (v := undef) rfl (by kernel_rfl) (by kernel_rfl) (by kernel_rfl) (fun _ _ _ h => h) (Or.inr ⟨by rfl, rfl⟩) (by assumption) ?_
                  try simp only [Act.put, List.setIfInBounds_toArray, List.set_cons_zero, List.set_cons_succ]
                  refine wpAnyH_take (i := 22) (oi := ({ dst := some 133, op := Op.fieldAddr 42 (Operand.tmp 132) 2, type := 0, pos := "law.go:135", after := #[{ on := 21, ground := Ground.data }, { on := 18, ground := Ground.guard }], guard := some (18, true) } : Oper)) (v := undef) rfl (by kernel_rfl) (by kernel_rfl) (by kernel_rfl) (fun _ _ _ h => h) (Or.inr ⟨by rfl, rfl⟩) (by assumption) ?_
                  try simp only [Act.put, List.setIfInBounds_toArray, List.set_cons_zero, List.set_cons_succ]
                  refine wpAnyH_take (i := 23) (oi := ({ dst := some 134, op := Op.load 3 (Operand.tmp 133), type := 3, pos := "law.go:135", after := #[{ on := 22, ground := Ground.data }, { on := 18, ground := Ground.guard }], guard := some (18, true) } : Oper)) (v := undef) rfl (by kernel_rfl) (by kernel_rfl) (by kernel_rfl) (fun _ _ _ h => h) (Or.inr ⟨by rfl, rfl⟩) (by assumption) ?_
                  try simp only [Act.put, List.setIfInBounds_toArray, List.set_cons_zero, List.set_cons_succ]
                  refine wpAnyH_take (i := 24) (oi := ({ dst := some 135, op := Op.fieldAddr 29 (Operand.tmp 6) 1, type := 0, pos := "law.go:135", after := #[{ on := 18, ground := Ground.guard }], guard := some (18, true) } : Oper)) (v := undef) rfl (by kernel_rfl) (by kernel_rfl) (by kernel_rfl) (fun _ _ _ h => h) (Or.inr ⟨by rfl, rfl⟩) (by assumption) ?_
                  try simp only [Act.put, List.setIfInBounds_toArray, List.set_cons_zero, List.set_cons_succ]
                  refine wpAnyH_take (i := 25) (oi := ({ dst := some 136, op := Op.load 3 (Operand.tmp 135), type := 3, pos := "law.go:135", after := #[{ on := 24, ground := Ground.data }, { on := 18, ground := Ground.guard }], guard := some (18, true) } : Oper)) (v := undef) rfl (by kernel_rfl) (by kernel_rfl) (by kernel_rfl) (fun _ _ _ h => h) (Or.inr ⟨by rfl, rfl⟩) (by assumption) ?_
                  try simp only [Act.put, List.setIfInBounds_toArray, List.set_cons_zero, List.set_cons_succ]
                  refine wpAnyH_take (i := 26) (oi := ({ dst := some 137, op := Op.binOp BinOp.neq 3 (Operand.tmp 134) (Operand.tmp 136) 3, type := 4, pos := "law.go:135", after := #[{ on := 23, ground := Ground.data }, { on := 25, ground := Ground.data }, { on := 18, ground := Ground.guard }], guard := some (18, true) } : Oper)) (v := undef) rfl (by kernel_rfl) (by kernel_rfl) (by kernel_rfl) (fun _ _ _ h => h) (Or.inr ⟨by rfl, rfl⟩) (by assumption) ?_
                  try simp only [Act.put, List.setIfInBounds_toArray, List.set_cons_zero, List.set_cons_succ]
                  refine wpAnyH_take (i := 27) (oi := ({ dst := some 138, op := Op.pick (Operand.tmp 129) (Operand.tmp 137) (Operand.const (Value.bool false)), type := 4, pos := "law.go:135", after := #[{ on := 18, ground := Ground.data }, { on := 26, ground := Ground.data }, { on := 12, ground := Ground.guard }], guard := some (12, false) } : Oper)) (v := ?_) rfl (by kernel_rfl) (by kernel_rfl) (by kernel_rfl) (fun _ _ _ h => h) (Or.inl ⟨by rfl, ?_⟩) (by assumption) ?_
                  rotate_left
                  · (intro w hSw; (try dsimp only at hSw); go_simp; all_goals with_reducible rfl)
                  try simp only [Act.put, List.setIfInBounds_toArray, List.set_cons_zero, List.set_cons_succ]
                  refine wpAnyH_take (i := 28) (oi := ({ dst := some 139, op := Op.pick (Operand.tmp 123) (Operand.const (Value.bool true)) (Operand.tmp 138), type := 4, pos := "law.go:135", after := #[{ on := 12, ground := Ground.data }, { on := 27, ground := Ground.data }], guard := none } : Oper)) (v := ?_) rfl (by kernel_rfl) (by kernel_rfl) (by kernel_rfl) (fun _ _ _ h => h) (Or.inl ⟨by rfl, ?_⟩) (by assumption) ?_
                  rotate_left
                  · (intro w hSw; (try dsimp only at hSw); go_simp; all_goals with_reducible rfl)
                  try simp only [Act.put, List.setIfInBounds_toArray, List.set_cons_zero, List.set_cons_succ]
                  refine wpAnyH_done (by kernel_rfl) ?_ _
                  go_wp2_with fail
                  go_meet
                  case rel => exact ⟨rfl, (unhide HS8).1⟩
                case rest =>
                  obtain ⟨rfl, S8⟩ := hcut
                  have HS8 := hide S8
                  clear S8 HS5 Hat5 a0 a1
                  go_wp2_with fail
                  go_roundw
                  case rel => exact ⟨k + 1, _, by rw [unhide He2, ← unhide Hmd1], by go_num, by omega, by omega, by rw [show ((k + 1 : Nat) : Int) = (k : Int) + 1 by omega]; exact unhide HS8⟩
                  case measure => simp [intOf]; omega
              · have hze : (bindE t.es r1 r2 == 0) = false := by simp [hz]
                rw [bind_same hz] at HS5
                generalize bindE t.es r1 r2 = be at *
                generalize t.bindN r1 r2 = bn at *
                clear hw
                go_wp2_with fail
                refine (list_C (unhide HS5)).mono ?_
                rintro e w7 ⟨a7, cp7, rfl, b7, -⟩
                have HS7 := hide ((unhide HS5).below b7)
                rw [← unhide Hn]
                clear b7 HS5 Hat5 a0 a1
                go_wp2_with fail
                go_roundw
                case rel => exact ⟨k + 1, t, rfl, by go_num, by omega, by omega, by rw [show ((k + 1 : Nat) : Int) = (k : Int) + 1 by omega]; exact unhide HS7⟩
                case measure => simp [intOf]; omega
      · have HS := hide (S.mono (B' := 40) (by omega))
        clear S
        by_cases hkl2 : k < len
        · obtain rfl : k = 40 := by omega
          have j1 : (40 : Int) < (len : Int) := by omega
          clear hc
          go_wp2_with fail
          go_meet
          case rel => exact ⟨t, rfl, unhide HS⟩
        · obtain rfl : k = len := by omega
          clear hc
          go_wp2_with fail
          go_meet
          case rel => exact ⟨t, rfl, unhide HS⟩
  case rest =>
    obtain ⟨t, rfl, S⟩ := hcut
    have hmd := S.q.wf.pos
    have hle := S.q.wf.le
    have HS := hide S
    clear S
    go_wp2_with fail
    refine (list_C (unhide HS)).mono ?_
    rintro e w2 ⟨a, cp, rfl, b2, hsl⟩
    have HS2 := hide ((unhide HS).below b2)
    have HL := hide hsl
    have hln : (lst t.es).length ≤ 8 := by simp [lst]; omega
    have hl1 : 1 ≤ (lst t.es).length := by simp [lst]
    obtain ⟨n, hn⟩ : ∃ n, n = (lst t.es).length := ⟨_, rfl⟩
    rw [← hn] at hln hl1 ⊢
    have Hn := hide hn
    clear b2 hsl HS hn
    go_wp2_with fail
    go_loopw [15, 17] (fun vs v wr => ∃ i : Nat, vs = I (sm t i : Int) ∧ v = I i ∧ i ≤ n ∧ CS 40 h w wr t ∧ Sl wr a (lst t.es)) (fun _ v _ => n - (intOf v).toNat)
    case atStart => exact ⟨0, by simp [sm], rfl, by omega, unhide HS2, unhide HL⟩
    case round =>
      clear HS2 HL
      obtain ⟨i, rfl, rfl, hi, S, hsl⟩ := hrel
      have hsm := sm_le S.q.wf i
      by_cases hin : i < n
      · obtain ⟨x, hx⟩ : ∃ x, (lst t.es)[i]? = some x := ⟨_, List.getElem?_eq_getElem (by have := unhide Hn; omega)⟩
        obtain ⟨g, rfl, c0⟩ := hsl.at' i x hx
        have j1 : (i : Int) < (n : Int) := by omega
        have j0 : (0 : Int) ≤ (i : Int) := by omega
        have hab := abv_len' t.es x
        have HN := hide (sm_next hx)
        have HS := hide S
        have HL := hide hsl
        clear S hsl hx
        generalize hsi : sm t i = si at *
        go_wp2_with fail
        refine (above_C (unhide HS) x).mono ?_
        rintro e w4 ⟨a4, cp4, rfl, b4⟩
        have HS4 := hide ((unhide HS).below b4)
        have HL4 := hide ((unhide HL).below b4)
        clear b4 HS HL c0
        generalize (abv t.es x).length = ab at *
        go_wp2_with fail
        go_roundw
        case rel => exact ⟨i + 1, by rw [unhide HN]; go_num, by go_num, by omega, unhide HS4, unhide HL4⟩
        case measure => simp [intOf]; omega
      · obtain rfl : i = n := by omega
        have hall := sm_all S.q.wf
        rw [← unhide Hn] at hall
        rw [hall]
        have n1 : ((i - 1 : Nat) : Int) = (i : Int) - 1 := by omega
        have n8 : (i : Int) ≤ 8 := by omega
        have HS := hide S
        clear S hsl hall hsm
        go_wp2_with fail
        refine (known_any wr).mono ?_
        rintro e w9 ⟨rfl, b9⟩
        have HB := hide ((unhide HS).below b9).be
        clear b9 HS
        go_wp2_with fail
        go_ret
        exact ⟨rfl, by rw [hh]; exact unhide HB⟩
end Go.Proofs.Ythmpplcaomgdoaa.Mt
