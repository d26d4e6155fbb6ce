/-
  The document's own Decode.
-/
import Derived.Test.YtcopjhidijhlaaaSK
import Derived.Test.YtcopjhidijhlaaaSJ
import Derived.Test.YtcopjhidijhlaaaSReadA
namespace Go.Proofs.Ytcopjhidijhlaaa.Cl
open Go.RowKit
attribute [local go_sem ↓] Go.wp_at_zero Go.wp_at_succ

/-- What lies while the document reads items. -/
structure Dl (w W : World) (b l : List UInt8) (a : Option Addr) (cap : Nat) (v : Value) (ps : List Ip) : Prop where
  be : Below w.heap.size w W
  by' : By W w.heap.size a l
  hc : l.length ≤ cap
  hm : cap ≤ maxLen
  hn : a = none → cap = 0
  row : Ir W w.heap.size v ps
  de : decs 1024 b = fsts ps ++ decs (1024 - ps.length) l
  le : ps.length ≤ 1024
theorem Dl.hB {w W : World} {b l : List UInt8} {a : Option Addr} {cap : Nat} {v : Value} {ps : List Ip} (D : Dl w W b l a cap v ps) : w.heap.size ≤ W.heap.size := D.be.size
theorem Dl.below {w W W' : World} {b l : List UInt8} {a : Option Addr} {cap : Nat} {v : Value} {ps : List Ip} (D : Dl w W b l a cap v ps) (g : Below W.heap.size W W') : Dl w W' b l a cap v ps :=
  ⟨D.be.trans (g.mono D.hB), D.by'.below (g.mono D.hB), D.hc, D.hm, D.hn, D.row.below g, D.de, D.le⟩
/-- What an item's append leaves. -/
def Da (w W' : World) (b l : List UInt8) (v' : Value) (ps : List Ip) (x : It) (d : Value) : Prop :=
  (∃ a n c, v' = .slice a n c) ∧ Ir W' w.heap.size v' (ps ++ [(x, d)]) ∧ Below w.heap.size w W' ∧ (∀ a' cap' l', l' = l.drop (fone l).2 → By W' w.heap.size a' l' → l'.length ≤ cap' → cap' ≤ maxLen → (a' = none → cap' = 0) → Dl w W' b l' a' cap' v' (ps ++ [(x, d)])) ∧
    (l.length ≤ (fone l).2 → fsts (ps ++ [(x, d)]) = decs 1024 b)
theorem Dl.add {w W : World} {b l : List UInt8} {a : Option Addr} {cap : Nat} {v : Value} {ps : List Ip} (D : Dl w W b l a cap v ps) (hps : ps.length < 1024) (hl : l ≠ []) (x : It) (d : Value) (hx : (fone l).1 = x) (hd : Du W W.heap.size (x, d)) (hA : Apt v (x, d)) :
    ∃ v' W', (Builtin.append_ #[30, 30] 30 #[v, .slice (some ⟨W.heap.size, 0, none⟩) 1 1]).run Try.prog (W.alloc (.cells (x.cs d) 29)) = .ok v' W' ∧ Da w W' b l v' ps x d ∧ Below w.heap.size W W' := by
  obtain ⟨v', W', h1, h2, h3⟩ := D.row.new D.hB x d hd hA (by omega)
  have hstep : decs (1024 - ps.length) l = x :: decs (1024 - (ps.length + 1)) (l.drop (fone l).2) := by
    obtain ⟨c, r, rfl⟩ : ∃ c r, l = c :: r := by
      cases l with
      | nil => exact absurd rfl hl
      | cons c r => exact ⟨c, r, rfl⟩
    rw [show 1024 - ps.length = (1024 - (ps.length + 1)) + 1 by omega, decs, hx]
  obtain ⟨a1, c1, e1⟩ := h2.sl
  refine ⟨v', W', h1, ⟨⟨a1, _, c1, e1⟩, h2, D.be.trans h3.be, fun a' cap' l' hl' hb' hc' hm' hn' => ⟨D.be.trans h3.be, hb', hc', hm', hn', h2, ?_, by simp; omega⟩, fun hle => ?_⟩, h3.be⟩
  · rw [D.de, hstep, hl', fsts, fsts, List.map_append, List.append_assoc, List.length_append]
    rfl
  · rw [D.de, hstep, List.drop_eq_nil_of_le hle, decs_nil, fsts, fsts, List.map_append]
    rfl
def slen : Value → Nat
  | .slice _ n _ => n
  | _ => 0
theorem du0 (W : World) (B : Nat) : Du W B (it0, .slice none 0 0) := ⟨none, 0, rfl, By.nil _ _ _, Nat.le_refl _, by unfold maxLen; omega⟩
theorem apt0 (v : Value) (x : It) (d : Value) (h : x.c.data = []) : Apt v (x, d) := fun hn => absurd h hn
def Fd (w w' : World) (e : Ending) (b : List UInt8) : Prop := ∃ v ps, e = .returned v ∧ fsts ps = decs 1024 b ∧ Ir w' w.heap.size v ps ∧ Below w.heap.size w w'
theorem Fd.of {w w' : World} {e : Ending} {b : List UInt8} {v : Value} {ps : List Ip} (h : e = .returned v) (h1 : fsts ps = decs 1024 b) (h2 : Ir w' w.heap.size v ps) (h3 : Below w.heap.size w w') : Fd w w' e b := ⟨v, ps, h, h1, h2, h3⟩
set_option maxRecDepth 100000 in
set_option maxHeartbeats 2000000 in
theorem fdecode_in (b : List UInt8) (a : Option Addr) (n cap : Nat) (hn : n = b.length) (hc : n ≤ cap) (hm : cap ≤ maxLen) (hnn : a = none → cap = 0) (w : World) (hb : By w w.heap.size a b) :
    Calls Try.prog 17 #[.slice a n cap] w fun e w' => Fd w w' e b := by
  have D0 : Dl w w b b a cap (.slice none 0 0) [] := ⟨Below.refl _ _, hb, by omega, hm, hnn, Ir.nil _ _, by simp [fsts], by simp⟩
  have HD0 := hide D0
  have HN := hide hn
  clear D0 hn hc hm hnn hb
  go_enter Try.func17, Try.ntmps17
  go_wp2_with fail
  go_loopw [0, 3] (fun bv ov wr => ∃ (l : List UInt8) (a' : Option Addr) (m cap' : Nat) (v : Value) (ps : List Ip), .slice a' m cap' = bv ∧ v = ov ∧ m = l.length ∧ Dl w wr b l a' cap' v ps) (fun bv _ _ => slen bv)
  case atStart => exact ⟨b, a, n, cap, _, [], rfl, rfl, unhide HN, unhide HD0⟩
  case round =>
    clear HD0 HN
    obtain ⟨l, a', m, cap', v, ps, rfl, rfl, hml, D⟩ := hrel
    obtain ⟨va, z, vc, rfl, hz⟩ : ∃ va z vc, v = .slice va z vc ∧ z = ps.length := by
      obtain ⟨va, vc, e⟩ := D.row.sl
      exact ⟨va, _, vc, e, rfl⟩
    have hps := D.le
    by_cases hm0 : m = 0
    · have j1 : ¬ (0 : Int) < (m : Int) := by omega
      have hl0 : l = [] := List.eq_nil_of_length_eq_zero (by omega)
      have HF := hide (show fsts ps = decs 1024 b from by rw [D.de, hl0, decs_nil, List.append_nil])
      have HD := hide D
      clear D hl0 hml hps hm0 hz
      go_wp2_with fail
      go_ret
      exact Fd.of rfl (unhide HF) (unhide HD).row (unhide HD).be
    · have j1 : (0 : Int) < (m : Int) := by omega
      by_cases hz1 : z = 1024
      · have j2 : ¬ (z : Int) < 1024 := by omega
        have HF := hide (show fsts ps = decs 1024 b from by
          rw [D.de, show 1024 - ps.length = 0 by omega]
          simp [decs])
        have HD := hide D
        clear D hml hps hm0 hz1 hz
        go_wp2_with fail
        go_ret
        exact Fd.of rfl (unhide HF) (unhide HD).row (unhide HD).be
      · have j2 : (z : Int) < 1024 := by omega
        have hps2 : ps.length < 1024 := by omega
        obtain ⟨c, r, rfl⟩ : ∃ c r, l = c :: r := by
          cases l with
          | nil => exact absurd hml hm0
          | cons c r => exact ⟨c, r, rfl⟩
        obtain ⟨g, off, rfl, hgB⟩ := D.by'.head
        have c0 := D.by'.at' (k := 0) rfl
        simp only [Nat.add_zero] at c0
        have hc0 := c.toNat_lt
        have hmc : (m : Int) ≤ (cap' : Int) := by have := D.hc; omega
        have hcm : (cap' : Int) ≤ 9223372036854775807 := by have := D.hm; unfold maxLen at this; omega
        have hdrop : ∀ (k : Nat), By wr w.heap.size (some ⟨g, off + k, none⟩) ((c :: r).drop k) := fun k => D.by'.drop k
        have HLE := hide (show m = (c :: r).length ∧ m ≤ cap' ∧ cap' ≤ maxLen from ⟨hml, by have := D.hc; omega, D.hm⟩)
        clear hz hz1 hm0 hps hml
        rcases (show (c.toNat < 1 ∨ 3 < c.toNat) ∨ (c.toNat = 2 ∨ c.toNat = 3) ∨ c.toNat = 1 by omega) with hk | hk | hk
        · have hfo : fone (c :: r) = (it0, 1) := by simp [fone, show ¬ c.toNat = 1 by omega, show ¬ c.toNat = 2 by omega, show ¬ c.toNat = 3 by omega]
          obtain ⟨v', W', hrun, hda, hbe⟩ := D.add hps2 (by simp) it0 (.slice none 0 0) (by rw [hfo]) (du0 _ _) (apt0 _ _ _ rfl)
          rw [show it0.cs (.slice none 0 0) = Z12 from rfl] at hrun
          obtain ⟨⟨a1, n1, c1, rfl⟩, -, -, hnx, -⟩ := hda
          rw [hfo] at hnx
          have HNX := hide hnx
          have HBY := hide ((hdrop 1).below hbe)
          have hs : 1 ≤ m := by omega
          clear D hps2 hdrop hnx hbe hfo hgB
          rcases hk with hk | hk
          · have j3 : (c.toNat : Int) < 1 := by omega
            clear hk
            by_cases hcap : cap' = 1
            · have hms : m = 1 := by have := unhide HLE; omega
              have hnil : (c :: r).drop (1) = [] := List.drop_eq_nil_of_le (by have := (unhide HLE).1; omega)
              have HNIL := hide hnil
              clear hnil
              subst hcap hms
              go_wp2_with (at_builtin; refine wpList_app rfl _ _ 30 30 rfl 30 rfl _ _ (by rfl) (by rfl) _ _ hrun ?_; clear hrun)
              exact ⟨⟨[], _, _, _, _, _, rfl, rfl, by simp, unhide HNX _ _ [] (unhide HNIL).symm (By.nil _ _ _) (Nat.zero_le _) (by unfold maxLen; omega) (fun e => by cases e)⟩, by simp [slen] <;> omega⟩
            · have hcap2 : ¬ cap' - 1 = 0 := by have := unhide HLE; omega
              go_wp2_with (at_builtin; refine wpList_app rfl _ _ 30 30 rfl 30 rfl _ _ (by rfl) (by rfl) _ _ hrun ?_; clear hrun)
              exact ⟨⟨(c :: r).drop (1), _, _, _, _, _, rfl, rfl, by rw [List.length_drop]; have := (unhide HLE).1; omega, unhide HNX _ _ _ rfl (unhide HBY) (by rw [List.length_drop]; have := unhide HLE; omega) (by have := unhide HLE; omega) (fun e => by cases e)⟩, by simp [slen]; omega⟩
          · have j3 : ¬ (c.toNat : Int) < 1 := by omega
            have j4 : (3 : Int) < (c.toNat : Int) := by omega
            clear hk
            by_cases hcap : cap' = 1
            · have hms : m = 1 := by have := unhide HLE; omega
              have hnil : (c :: r).drop (1) = [] := List.drop_eq_nil_of_le (by have := (unhide HLE).1; omega)
              have HNIL := hide hnil
              clear hnil
              subst hcap hms
              go_wp2_with (at_builtin; refine wpList_app rfl _ _ 30 30 rfl 30 rfl _ _ (by rfl) (by rfl) _ _ hrun ?_; clear hrun)
              exact ⟨⟨[], _, _, _, _, _, rfl, rfl, by simp, unhide HNX _ _ [] (unhide HNIL).symm (By.nil _ _ _) (Nat.zero_le _) (by unfold maxLen; omega) (fun e => by cases e)⟩, by simp [slen] <;> omega⟩
            · have hcap2 : ¬ cap' - 1 = 0 := by have := unhide HLE; omega
              go_wp2_with (at_builtin; refine wpList_app rfl _ _ 30 30 rfl 30 rfl _ _ (by rfl) (by rfl) _ _ hrun ?_; clear hrun)
              exact ⟨⟨(c :: r).drop (1), _, _, _, _, _, rfl, rfl, by rw [List.length_drop]; have := (unhide HLE).1; omega, unhide HNX _ _ _ rfl (unhide HBY) (by rw [List.length_drop]; have := unhide HLE; omega) (by have := unhide HLE; omega) (fun e => by cases e)⟩, by simp [slen]; omega⟩
        · have j3 : ¬ (c.toNat : Int) < 1 := by omega
          have j4 : ¬ (3 : Int) < (c.toNat : Int) := by omega
          have j5 : ((c.toNat : Int) != 1) = true := by simp; omega
          by_cases hm3 : m < 3
          · have j6 : (m : Int) < 3 := by omega
            have hfo : fone (c :: r) = (it0, (c :: r).length) := by
              have hl := (unhide HLE).1
              match r, hl with
              | [], _ => simp [fone, show ¬ c.toNat = 1 by omega, hk]
              | [t], _ => simp [fone, show ¬ c.toNat = 1 by omega, hk]
              | t :: u :: q, hl => simp at hl; omega
            obtain ⟨v', W', hrun, hda, hbe⟩ := D.add hps2 (by simp) it0 (.slice none 0 0) (by rw [hfo]) (du0 _ _) (apt0 _ _ _ rfl)
            rw [show it0.cs (.slice none 0 0) = Z12 from rfl] at hrun
            obtain ⟨⟨a1, n1, c1, rfl⟩, hir, hbb, -, hall⟩ := hda
            rw [hfo] at hall
            have HF := hide (⟨hall (Nat.le_refl _), hir, hbb⟩ : _ ∧ _ ∧ _)
            clear D hps2 hdrop hbe hfo hgB hir hbb hall hk hm3
            go_wp2_with (at_builtin; refine wpList_app rfl _ _ 30 30 rfl 30 rfl _ _ (by rfl) (by rfl) _ _ hrun ?_; clear hrun)
            go_ret
            exact Fd.of rfl (unhide HF).1 (unhide HF).2.1 (unhide HF).2.2
          · have j6 : ¬ (m : Int) < 3 := by omega
            obtain ⟨h1, h2, q, rfl⟩ : ∃ h1 h2 q, r = h1 :: h2 :: q := by
              have hl := (unhide HLE).1
              match r, hl with
              | [], hl => simp at hl; omega
              | [t], hl => simp at hl; omega
              | t :: u :: q, hl => exact ⟨t, u, q, rfl⟩
            have hfo : fone (c :: h1 :: h2 :: q) = (⟨c.toNat, 0, (h1.toNat * 256 + h2.toNat : Nat), cc0⟩, 3) := by simp [fone, show ¬ c.toNat = 1 by omega, hk]
            have hor := or_bits h1.toNat h2.toNat (by have := h1.toNat_lt; omega) h2.toNat_lt
            have u1 := h1.toNat_lt
            have u2 := h2.toNat_lt
            have c1 := D.by'.at' (k := 1) rfl
            have c2 := D.by'.at' (k := 2) rfl
            have Dd := D.below (W' := wr.drew) ⟨rfl, rfl, rfl, Nat.le_refl _, fun _ _ => rfl⟩
            obtain ⟨v', W', hrun0, hda, hbe⟩ := Dd.add hps2 (by simp) ⟨c.toNat, 0, (h1.toNat * 256 + h2.toNat : Nat), cc0⟩ (.slice none 0 0) (by rw [hfo]) ⟨none, 0, rfl, By.nil _ _ _, Nat.le_refl _, by unfold maxLen; omega⟩ (apt0 _ _ _ rfl)
            generalize hNN : h1.toNat * 256 + h2.toNat = NN at *
            have hbits : bits .or .i64 (IntKind.i64.wrap (IntKind.i64.wrap (h1.toNat : Int) * 256)) (IntKind.i64.wrap (h2.toNat : Int)) = ((NN : Nat) : Int) := by
              rw [wrap_small (h1.toNat : Int) (by omega) (by omega), wrap_small ((h1.toNat : Int) * 256) (by omega) (by omega), wrap_small (h2.toNat : Int) (by omega) (by omega)]
              exact hor
            have hrun : (Builtin.append_ #[30, 30] 30 #[.slice va z vc, .slice (some ⟨wr.heap.size, 0, none⟩) 1 1]).run Try.prog (wr.alloc (.cells #[I (c.toNat : Nat), I 0, I (bits .or .i64 (IntKind.i64.wrap (IntKind.i64.wrap (h1.toNat : Int) * 256)) (IntKind.i64.wrap (h2.toNat : Int))), I 0, .string ⟨#[]⟩, .string ⟨#[]⟩, I 0, I 0, I 0, I 0, I 0, .slice none 0 0] 29)).drew = .ok v' W' := by rw [hbits]; exact hrun0
            obtain ⟨⟨a1, n1, cc1, rfl⟩, -, -, hnx, -⟩ := hda
            rw [hfo] at hnx
            have HNX := hide hnx
            have HBY := hide ((hdrop 3).below (show Below w.heap.size wr W' from ⟨hbe.os, hbe.tape, hbe.output, hbe.size, hbe.block⟩))
            have hs : 3 ≤ m := by omega
            have i0 : (0 : Int) < (m : Int) := by omega
            have i1 : (1 : Int) < (m : Int) := by omega
            have i2 : (2 : Int) < (m : Int) := by omega
            have i3 : 1 < m := by omega
            have i4 : 2 < m := by omega
            clear D Dd hps2 hdrop hnx hbe hfo hgB hrun0 hk hm3 hNN hbits hor
            by_cases hcap : cap' = 3
            · have hms : m = 3 := by have := unhide HLE; omega
              have hnil : (c :: h1 :: h2 :: q).drop (3) = [] := List.drop_eq_nil_of_le (by have := (unhide HLE).1; omega)
              have HNIL := hide hnil
              clear hnil
              subst hcap hms
              go_wp2_with fail
              go_region_law (refine step_app' (by rfl) _ _ 30 30 (by rfl) 30 (by rfl) _ _ (by rfl) (by rfl) _ _ hrun ?_)
              all_goals go_wp2_with fail
              all_goals exact ⟨⟨[], _, _, _, _, _, rfl, rfl, by simp, unhide HNX _ _ [] (unhide HNIL).symm (By.nil _ _ _) (Nat.zero_le _) (by unfold maxLen; omega) (fun e => by cases e)⟩, by simp [slen] <;> omega⟩
            · have hcap2 : ¬ cap' - 3 = 0 := by have := unhide HLE; omega
              go_wp2_with fail
              go_region_law (refine step_app' (by rfl) _ _ 30 30 (by rfl) 30 (by rfl) _ _ (by rfl) (by rfl) _ _ hrun ?_)
              all_goals go_wp2_with fail
              all_goals exact ⟨⟨(c :: h1 :: h2 :: q).drop (3), _, _, _, _, _, rfl, rfl, by rw [List.length_drop]; have := (unhide HLE).1; omega, unhide HNX _ _ _ rfl (unhide HBY) (by rw [List.length_drop]; have := unhide HLE; omega) (by have := unhide HLE; omega) (fun e => by cases e)⟩, by simp [slen]; omega⟩
        · have j3 : ¬ (c.toNat : Int) < 1 := by omega
          have j4 : ¬ (3 : Int) < (c.toNat : Int) := by omega
          have j5 : ((c.toNat : Int) != 1) = false := by simp; omega
          by_cases hm2 : m < 2
          · have j6 : (m : Int) < 2 := by omega
            have hfo : fone (c :: r) = (it0, (c :: r).length) := by
              have hl := (unhide HLE).1
              match r, hl with
              | [], _ => simp [fone, hk]
              | t :: q, hl => simp at hl; omega
            obtain ⟨v', W', hrun, hda, hbe⟩ := D.add hps2 (by simp) it0 (.slice none 0 0) (by rw [hfo]) (du0 _ _) (apt0 _ _ _ rfl)
            rw [show it0.cs (.slice none 0 0) = Z12 from rfl] at hrun
            obtain ⟨⟨a1, n1, c1, rfl⟩, hir, hbb, -, hall⟩ := hda
            rw [hfo] at hall
            have HF := hide (⟨hall (Nat.le_refl _), hir, hbb⟩ : _ ∧ _ ∧ _)
            clear D hps2 hdrop hbe hfo hgB hir hbb hall hk hm2
            go_wp2_with (at_builtin; refine wpList_app rfl _ _ 30 30 rfl 30 rfl _ _ (by rfl) (by rfl) _ _ hrun ?_; clear hrun)
            go_ret
            exact Fd.of rfl (unhide HF).1 (unhide HF).2.1 (unhide HF).2.2
          · have j6 : ¬ (m : Int) < 2 := by omega
            obtain ⟨t, q, rfl⟩ : ∃ t q, r = t :: q := by
              have hl := (unhide HLE).1
              match r, hl with
              | [], hl => simp at hl; omega
              | t :: q, hl => exact ⟨t, q, rfl⟩
            have i1 : (1 : Int) < (m : Int) := by omega
            have i3 : 1 < m := by omega
            have i4 : (2 : Int) ≤ (m : Int) := by omega
            have i5 : (2 : Int) ≤ (cap' : Int) := by have := unhide HLE; omega
            have hqm : q.length = m - 2 := by have := (unhide HLE).1; simp at this; omega
            by_cases hwhy : dwhy q = 0
            · have hcap2 : ¬ cap' - 2 = 0 := by
                intro h
                have : q = [] := List.eq_nil_of_length_eq_zero (by have := unhide HLE; omega)
                rw [this] at hwhy
                revert hwhy
                decide +kernel
              have hle : (q9 q).1.length ≤ q.length := by
                have := enc_dec q (by unfold dwhy at hwhy; cases hq : (q9 q).2 <;> simp_all)
                have := congrArg List.length this
                rw [List.length_append] at this
                omega
              have hfo : fone (c :: t :: q) = (⟨1, t.toNat, 0, dcc q⟩, 2 + (q.length - (q9 q).1.length)) := by simp [fone, hk, hwhy]
              have HC := hide (edec_any q (some ⟨g, off + 2, none⟩) (m - 2) (cap' - 2) hqm.symm (by have := unhide HLE; omega) (by have := unhide HLE; omega) (fun e => by cases e) wr ((hdrop 2).mono D.hB))
              have HD := hide D
              have HDR := hide hdrop
              replace hqm := hide hqm
              have HWL := hide (⟨hk, hfo, hwhy, hle, hps2⟩ : _ ∧ _ ∧ _ ∧ _ ∧ _)
              clear D hdrop hm2 hk hfo hwhy hle hps2 hgB
              go_wp2_with fail
              refine (unhide HC).mono ?_
              rintro e W2 ⟨⟨h, -⟩ | ⟨-, vd, rfl, r2⟩, be2⟩
              · exact absurd (unhide HWL).2.2.1 h
              obtain ⟨hk, hfo, hwhy, hle, hps2⟩ := unhide HWL
              obtain ⟨da, dc, rfl, -⟩ := r2.form
              have hdt := bwDt r2
              obtain ⟨W3, hW3, hs3, g3, hB3⟩ := alloc1 W2 (.cells Z0 27)
              obtain ⟨Y1, Y2, Y3, Y4, Y5, Y6, Y7, Y8, Y9, ⟨p1, p2, p3, p4, p5, p6, p7, p8, p9⟩, ⟨t1, t2, t3, t4, t5, t6, t7, t8, t9⟩, ⟨u1, u2, u3, u4, u5, u6, u7, u8, u9⟩, gY, grY⟩ := store9 g3 (I (dcc q).op) (S (dcc q).path) (S (dcc q).dst) (I (dcc q).fd) (I (dcc q).fl) (I (dcc q).mo) (I (dcc q).n) (I (dcc q).m) (.slice da (dcc q).data.length dc)
              have hYB : Below W2.heap.size W2 Y9 := hB3.trans (grY.below (Nat.le_refl _) (by omega))
              have D9 := (unhide HD).below (be2.trans (hYB.mono be2.size))
              have hdt9 := (hdt.below hYB).mono hYB.size
              have c1 := D9.by'.at' (k := 1) rfl
              obtain ⟨e0, e1, e2, e3, e4, e5, e6, e7, e8⟩ := cells9 gY
              have Dd := D9.below (W' := Y9.drew) ⟨rfl, rfl, rfl, Nat.le_refl _, fun _ _ => rfl⟩
              have hdtd := Dt.drew hdt9
              obtain ⟨v', W', hrun0, hda, hbe⟩ := Dd.add hps2 (by simp) ⟨1, t.toNat, 0, dcc q⟩ (.slice da (dcc q).data.length dc) (by rw [hfo]) (Dt.du (p := (⟨1, t.toNat, 0, dcc q⟩, _)) hdtd) (Dd.row.apt hdtd)
              have ut := t.toNat_lt
              have hwt : IntKind.i64.wrap ((t.toNat : Nat) : Int) = ((t.toNat : Nat) : Int) := wrap_small _ (by omega) (by omega)
              obtain ⟨⟨a1, n1, cc1, rfl⟩, -, -, hnx, -⟩ := hda
              rw [hfo] at hnx
              have hby3 := fun k => (unhide HDR k).below (show Below w.heap.size wr W' from ((be2.mono (unhide HD).hB).trans (hYB.mono (Nat.le_trans (unhide HD).hB be2.size))).trans ⟨hbe.os, hbe.tape, hbe.output, hbe.size, hbe.block⟩)
              have hsm : 2 + (q.length - (q9 q).1.length) ≤ m := by have := unhide hqm; omega
              generalize hx : dcc q = x at *
              generalize hs0 : q.length - (q9 q).1.length = s0 at *
              have HBY := hide (hby3 (2 + s0))
              have hrun : (Builtin.append_ #[30, 30] 30 #[.slice va z vc, .slice (some ⟨Y9.heap.size, 0, none⟩) 1 1]).run Try.prog (Y9.alloc (.cells #[I (c.toNat : Nat), I (IntKind.i64.wrap ((t.toNat : Nat) : Int)), I 0, I x.op, S x.path, S x.dst, I x.fd, I x.fl, I x.mo, I x.n, I x.m, .slice da x.data.length dc] 29)).drew = .ok (.slice a1 n1 cc1) W' := by
                rw [hwt, hk]
                exact hrun0
              have HNX := hide hnx
              have k1 : ((2 : Int) + (s0 : Int)) ≤ (m : Int) := by omega
              have k2 : ((2 : Int) + (s0 : Int)) ≤ (cap' : Int) := by omega
              have k3 : (0 : Int) ≤ (s0 : Int) := by omega
              clear hdt hdt9 hdtd r2 hYB D9 Dd hrun0 hwt hnx hby3 be2 hbe HD HDR HC hfo hle hwhy HWL hs3 hB3 grY gY g3 hps2 hk hcap2 hs0 hx hqm c0 j3 j4 j5
              by_cases hcap : cap' = (2 + s0)
              · have hms : m = (2 + s0) := by have := unhide HLE; omega
                have hnil : (c :: t :: q).drop ((2 + s0)) = [] := List.drop_eq_nil_of_le (by have := (unhide HLE).1; omega)
                have HNIL := hide hnil
                clear hnil
                have k4 : (1 : Int) < 2 + (s0 : Int) := by omega
                have k5 : (0 : Int) < 2 + (s0 : Int) := by omega
                have k6 : 1 < 2 + s0 := by omega
                subst hcap hms
                go_wp2_with fail
                go_region_law (refine step_app' (by rfl) _ _ 30 30 (by rfl) 30 (by rfl) _ _ (by rfl) (by rfl) _ _ hrun ?_)
                all_goals go_wp2_with fail
                all_goals exact ⟨⟨[], _, _, _, _, _, rfl, rfl, by simp, unhide HNX _ _ [] (unhide HNIL).symm (By.nil _ _ _) (Nat.zero_le _) (by unfold maxLen; omega) (fun e => by cases e)⟩, by simp [slen] <;> omega⟩
              · have hcap2 : ¬ cap' - (2 + s0) = 0 := by have := unhide HLE; omega
                go_wp2_with fail
                go_region_law (refine step_app' (by rfl) _ _ 30 30 (by rfl) 30 (by rfl) _ _ (by rfl) (by rfl) _ _ hrun ?_)
                all_goals go_wp2_with fail
                all_goals exact ⟨⟨(c :: t :: q).drop ((2 + s0)), _, _, _, _, _, rfl, rfl, by rw [List.length_drop]; have := (unhide HLE).1; omega, unhide HNX _ _ _ rfl (unhide HBY) (by rw [List.length_drop]; have := unhide HLE; omega) (by have := unhide HLE; omega) (fun e => by cases e)⟩, by simp [slen]; omega⟩
            · have hfo : fone (c :: t :: q) = (it0, (c :: t :: q).length) := by simp [fone, hk, hwhy]
              have HDEC : ∀ (aa : Addr) (n0 c0 : Nat), n0 = m - 2 → c0 = cap' - 2 → (q = [] ∨ aa = ⟨g, off + 2, none⟩) → Calls Try.prog 26 #[.slice (some aa) n0 c0] wr fun e w' => e = .returned (.tuple #[.agg Z0, I 0, I (dwhy q)]) ∧ Below wr.heap.size wr w' := fun aa n0 c0 h1 h2 h3 => by
                subst h1 h2
                refine (edec_any q (some aa) (m - 2) (cap' - 2) hqm.symm (by have := unhide HLE; omega) (by have := unhide HLE; omega) (fun e => by cases e) wr (by
                  rcases h3 with h3 | h3
                  · rw [h3]; exact By.nil _ _ _
                  · rw [h3]; exact (hdrop 2).mono D.hB)).mono ?_
                rintro e w' ⟨⟨-, h⟩ | ⟨h, -⟩, hB⟩
                · exact ⟨h, hB⟩
                · exact absurd h hwhy
              have HC := hide HDEC
              have HD := hide (⟨D, hfo, hps2, hqm, hwhy⟩ : _ ∧ _ ∧ _ ∧ _ ∧ _)
              clear D hdrop hm2 hfo hps2 hgB HDEC hqm hwhy hk
              by_cases hcap : cap' = 2
              · have hm2 : m = 2 := by have := unhide HLE; omega
                subst hcap hm2
                have hq0 := hide (show q = [] from List.eq_nil_of_length_eq_zero (by have := (unhide HD).2.2.2.1; omega))
                go_wp2_with fail
                refine (unhide HC _ 0 0 rfl rfl (.inl (unhide hq0))).mono ?_
                rintro e W2 ⟨rfl, be2⟩
                obtain ⟨D, hfo, hps2, -, hwhy⟩ := unhide HD
                obtain ⟨W3, hW3, hs3, g3, hB3⟩ := alloc1 W2 (.cells Z0 27)
                obtain ⟨Y1, Y2, Y3, Y4, Y5, Y6, Y7, Y8, Y9, ⟨p1, p2, p3, p4, p5, p6, p7, p8, p9⟩, ⟨t1, t2, t3, t4, t5, t6, t7, t8, t9⟩, ⟨u1, u2, u3, u4, u5, u6, u7, u8, u9⟩, gY, grY⟩ := store9 g3 (I 0) (.string ⟨#[]⟩) (.string ⟨#[]⟩) (I 0) (I 0) (I 0) (I 0) (I 0) (.slice none 0 0)
                have hYB : Below W2.heap.size W2 Y9 := hB3.trans (grY.below (Nat.le_refl _) (by omega))
                have D9 := D.below (be2.trans (hYB.mono be2.size))
                obtain ⟨v', W', hrun, hda, hbe⟩ := D9.add hps2 (by simp) it0 (.slice none 0 0) (by rw [hfo]) (du0 _ _) (apt0 _ _ _ rfl)
                rw [show it0.cs (.slice none 0 0) = Z12 from rfl] at hrun
                obtain ⟨⟨a1, n1, c1, rfl⟩, hir, hbb, -, hall⟩ := hda
                rw [hfo] at hall
                have HF := hide (⟨hall (Nat.le_refl _), hir, hbb⟩ : _ ∧ _ ∧ _)
                have hw2 : (dwhy q != 0) = true := by simpa using hwhy
                have hw3 : (dwhy q == 0) = false := by simpa using hwhy
                clear D D9 hfo hps2 hwhy be2 hYB hs3 hB3 grY gY g3 hbe hir hbb hall HC HD c0
                generalize dwhy q = dy at *
                go_wp2_with (at_builtin; refine wpList_app rfl _ _ 30 30 rfl 30 rfl _ _ (by rfl) (by rfl) _ _ hrun ?_; clear hrun)
                go_ret
                exact Fd.of rfl (unhide HF).1 (unhide HF).2.1 (unhide HF).2.2
              · have hcap2 : ¬ cap' - 2 = 0 := by have := unhide HLE; omega
                go_wp2_with fail
                refine (unhide HC _ _ _ rfl rfl (.inr rfl)).mono ?_
                rintro e W2 ⟨rfl, be2⟩
                obtain ⟨D, hfo, hps2, -, hwhy⟩ := unhide HD
                obtain ⟨W3, hW3, hs3, g3, hB3⟩ := alloc1 W2 (.cells Z0 27)
                obtain ⟨Y1, Y2, Y3, Y4, Y5, Y6, Y7, Y8, Y9, ⟨p1, p2, p3, p4, p5, p6, p7, p8, p9⟩, ⟨t1, t2, t3, t4, t5, t6, t7, t8, t9⟩, ⟨u1, u2, u3, u4, u5, u6, u7, u8, u9⟩, gY, grY⟩ := store9 g3 (I 0) (.string ⟨#[]⟩) (.string ⟨#[]⟩) (I 0) (I 0) (I 0) (I 0) (I 0) (.slice none 0 0)
                have hYB : Below W2.heap.size W2 Y9 := hB3.trans (grY.below (Nat.le_refl _) (by omega))
                have D9 := D.below (be2.trans (hYB.mono be2.size))
                obtain ⟨v', W', hrun, hda, hbe⟩ := D9.add hps2 (by simp) it0 (.slice none 0 0) (by rw [hfo]) (du0 _ _) (apt0 _ _ _ rfl)
                rw [show it0.cs (.slice none 0 0) = Z12 from rfl] at hrun
                obtain ⟨⟨a1, n1, c1, rfl⟩, hir, hbb, -, hall⟩ := hda
                rw [hfo] at hall
                have HF := hide (⟨hall (Nat.le_refl _), hir, hbb⟩ : _ ∧ _ ∧ _)
                have hw2 : (dwhy q != 0) = true := by simpa using hwhy
                have hw3 : (dwhy q == 0) = false := by simpa using hwhy
                clear D D9 hfo hps2 hwhy be2 hYB hs3 hB3 grY gY g3 hbe hir hbb hall HC HD c0
                generalize dwhy q = dy at *
                go_wp2_with (at_builtin; refine wpList_app rfl _ _ 30 30 rfl 30 rfl _ _ (by rfl) (by rfl) _ _ hrun ?_; clear hrun)
                go_ret
                exact Fd.of rfl (unhide HF).1 (unhide HF).2.1 (unhide HF).2.2
theorem fdecode_any (b : List UInt8) (a : Option Addr) (n cap : Nat) (hn : n = b.length) (hc : n ≤ cap) (hm : cap ≤ maxLen) (hnn : a = none → cap = 0) (w : World) (hb : By w w.heap.size a b) :
    Calls Try.prog 17 #[.slice a n cap] w fun e w' => ∃ v ps, e = .returned v ∧ fsts ps = decs 1024 b ∧ Ir w' w.heap.size v ps ∧ Below w.heap.size w w' := fdecode_in b a n cap hn hc hm hnn w hb
end Go.Proofs.Ytcopjhidijhlaaa.Cl
