/-
  HistNumbers: the law's walk.
-/
import Derived.Test.YtlokihpegllddaaHN
import Derived.Deep.RegionHeld3
import Derived.Sort.AtCall
namespace Go.Proofs.Ytlokihpegllddaa.Cl
open Go.RowKit Go.Shelf
attribute [local go_sem ↓] Go.wp_at_zero Go.wp_at_succ
attribute [local go_sem ↓] ld40_eq
attribute [local go_sem] ld40_ok

theorem ops_nil (W : World) : Calls Try.prog 8 #[.slice none 0 0] W fun e w' => ∃ (a : Option Addr) (cap : Nat), e = .returned (.tuple #[.slice a 0 cap, I 0, I 0]) ∧ Below W.heap.size W w' ∧ (∀ x, a = some x → x.spot = none) := by
  refine (ops_any [] none 0 0 rfl (by decide) W (Es.nil _ _ _) (fun x hx => by cases hx)).mono ?_
  rintro e w' ⟨xs, v, rfl, ow, hx, hB2⟩
  have hxs : xs = [] := by
    have h2 : xs.map (·.o) = [] := hx
    simpa using h2
  subst hxs
  obtain ⟨a, cap, rfl, os, -, -⟩ := ow.form
  have hsp : ∀ x, a = some x → x.spot = none := by
    obtain ⟨⟨-, ⟨e1, -⟩ | ⟨g, cap, cur, e1, -⟩⟩, -⟩ := ow
    · simp only [Value.slice.injEq] at e1
      rintro x rfl
      cases e1.1
    · simp only [Value.slice.injEq] at e1
      rintro x rfl
      rw [Option.some.inj e1.1]
  exact ⟨a, cap, rfl, hB2, hsp⟩
set_option maxRecDepth 100000 in
set_option maxHeartbeats 4000000 in
theorem numbers_walk (W : World) : Calls Try.prog 3 #[] W fun e w' => e = .returned (.bool true) ∧ Below W.heap.size W w' := by
  have HK2 := hide (fun (W : World) (cur : Array Value) (hc : cur = ((esz [(3, 200), (1, 0), (1, 0)]).flatMap rowE).toArray) => ops_lit [(3, 200), (1, 0), (1, 0)] 3 rfl (by decide) W cur hc [] 12 2 rfl)
  have HK3 := hide (fun (W : World) (cur : Array Value) (hc : cur = ((esz [(1, 8)]).flatMap rowE).toArray) => ops_lit [(1, 8)] 1 rfl (by decide) W cur hc [] 12 0 rfl)
  have HK4 := hide (fun (W : World) (cur : Array Value) (hc : cur = ((esz [(0, 0)]).flatMap rowE).toArray) => ops_lit [(0, 0)] 1 rfl (by decide) W cur hc [] 12 0 rfl)
  have HK5 := hide (fun (W : World) (cur : Array Value) (hc : cur = ((esz [(1, 0), (2, 0), (1, 3)]).flatMap rowE).toArray) => ops_lit [(1, 0), (2, 0), (1, 3)] 3 rfl (by decide) W cur hc [opz 0 0 1, opz 3 2 (-1)] 0 0 rfl)
  have HG := hide (show Good [opz 0 0 1, opz 3 2 (-1)] from good_of ((esz [(1, 0), (2, 0), (1, 3)]).map (fun x : Em => x.e)))
  go_enter Try.func3, Try.ntmps3
  go_wp2_with fail
  refine (ops_nil _).mono ?_
  rintro e w1 ⟨a1, cap1, rfl, hB1, hsp1⟩
  have H1 := hide (And.intro hB1 hsp1)
  clear hB1 hsp1
  go_wp2_with fail
  refine (unhide HK2 _ _ rfl).mono ?_
  rintro e w2 ⟨a2, m2, cap2, xs2, rfl, -, -, -, hB2, -⟩
  have H2 := hide ((unhide H1).1.trans (hB2.mono (unhide H1).1.size))
  clear hB2
  go_wp2_with fail
  refine (unhide HK3 _ _ rfl).mono ?_
  rintro e w3 ⟨a3, m3, cap3, xs3, rfl, -, -, -, hB3, -⟩
  have H3 := hide ((unhide H2).trans (hB3.mono (unhide H2).size))
  clear hB3
  go_wp2_with fail
  refine (unhide HK4 _ _ rfl).mono ?_
  rintro e w4 ⟨a4, m4, cap4, xs4, rfl, -, -, -, hB4, -⟩
  have H4 := hide ((unhide H3).trans (hB4.mono (unhide H3).size))
  clear hB4
  go_wp2_with fail
  refine (unhide HK5 _ _ rfl).mono ?_
  rintro e w5 ⟨a, m, cap, xs, rfl, hm, os, hx, hB5, hsp⟩
  have hl : xs.length = 2 := by have := congrArg List.length hx; simpa using this
  have hm2 : m = 2 := by omega
  subst hm2
  have H5 := hide ((unhide H4).trans (hB5.mono (unhide H4).size))
  obtain ⟨x0, hx0⟩ : ∃ x, xs[0]? = some x := ⟨_, List.getElem?_eq_getElem (by omega)⟩
  obtain ⟨x1, hx1⟩ : ∃ x, xs[1]? = some x := ⟨_, List.getElem?_eq_getElem (by omega)⟩
  have ho0 : x0.o = opz 0 0 1 := by have h := om_get hx0; rw [hx] at h; simpa using h.symm
  have ho1 : x1.o = opz 3 2 (-1) := by have h := om_get hx1; rw [hx] at h; simpa using h.symm
  obtain ⟨g, off, e1, l0, r0, -⟩ := os 0 x0 hx0
  subst e1
  obtain ⟨g', off', e1, -, r1, -⟩ := os 1 x1 hx1
  simp only [Option.some.injEq, Addr.mk.injEq, and_true] at e1
  obtain ⟨rfl, rfl⟩ := e1
  rw [Nat.zero_mul, Nat.add_zero] at r0
  rw [Nat.one_mul] at r1
  obtain ⟨A, hA⟩ : ∃ A, A = x0.cs := ⟨_, rfl⟩
  obtain ⟨B, hB'⟩ : ∃ B, B = x1.cs := ⟨_, rfl⟩
  have LA : ∀ W, Below w5.heap.size w5 W → Has23 W g off := fun W h => (has_keep (has_of r0).1 (h.block g l0)).1
  have MA : ∀ W, Below w5.heap.size w5 W → at23 W g off = A := fun W h => by rw [(has_keep (has_of r0).1 (h.block g l0)).2, (has_of r0).2, hA]
  have LB : ∀ W, Below w5.heap.size w5 W → Has23 W g (off + 23) := fun W h => (has_keep (has_of r1).1 (h.block g l0)).1
  have MB : ∀ W, Below w5.heap.size w5 W → at23 W g (off + 23) = B := fun W h => by rw [(has_keep (has_of r1).1 (h.block g l0)).2, (has_of r1).2, hB']
  have sA : A.size = 23 := by rw [hA]; rfl
  have sB : B.size = 23 := by rw [hB']; rfl
  have fA : A[21]? = some (I 0) := by rw [hA]; show some (I x0.o.fr) = _; rw [ho0]
  have tA : A[22]? = some (I 1) := by rw [hA]; show some (I x0.o.tt) = _; rw [ho0]
  have fB : B[21]? = some (I 2) := by rw [hB']; show some (I x1.o.fr) = _; rw [ho1]
  have tB : B[22]? = some (I (-1)) := by rw [hB']; show some (I x1.o.tt) = _; rw [ho1]
  have HAB := hide (fun (W : World) (h : Below w5.heap.size w5 W) => show Calls Try.prog 10 #[.agg A, .agg B] W fun e w' => e = .returned (.bool true) ∧ Below w5.heap.size w5 w' from (before_l A B 0 1 2 (-1) sA sB fA tA fB tB W).mono fun e w' hh => ⟨hh.1, h.trans (hh.2.mono h.size)⟩)
  have HBA := hide (fun (W : World) (h : Below w5.heap.size w5 W) => show Calls Try.prog 10 #[.agg B, .agg A] W fun e w' => e = .returned (.bool false) ∧ Below w5.heap.size w5 w' from (before_l B A 2 (-1) 0 1 sB sA fB tB fA tA W).mono fun e w' hh => ⟨hh.1, h.trans (hh.2.mono h.size)⟩)
  have HAA := hide (fun (W : World) (h : Below w5.heap.size w5 W) => show Calls Try.prog 10 #[.agg A, .agg A] W fun e w' => e = .returned (.bool false) ∧ Below w5.heap.size w5 w' from (before_l A A 0 1 0 1 sA sA fA tA fA tA W).mono fun e w' hh => ⟨hh.1, h.trans (hh.2.mono h.size)⟩)
  have HS := hide (fun (W : World) (h : Below w5.heap.size w5 W) => show Calls Try.prog 9 #[.slice (some ⟨g, off, none⟩) 2 cap] W fun e w' => e = .returned (.bool true) ∧ Below w5.heap.size w5 w' from by
    have h2 := serial_all xs _ 2 cap hl.symm (by decide) (by rw [hx]; exact unhide HG) W (os.on h) hsp
    rw [hx, show serial [opz 0 0 1, opz 3 2 (-1)] = true from rfl] at h2
    exact h2.mono fun e w' hh => ⟨hh.1, h.trans (hh.2.mono h.size)⟩)
  have HS1 := hide (fun (W : World) (h : Below w5.heap.size w5 W) => show Calls Try.prog 9 #[.slice a1 0 cap1] W fun e w' => e = .returned (.bool true) ∧ Below w5.heap.size w5 w' from
    (serial_all [] a1 0 cap1 rfl (by decide) Good.nil W (Os.nil _ _ _) (unhide H1).2).mono fun e w' hh => ⟨hh.1, h.trans (hh.2.mono h.size)⟩)
  have HKN := hide (fun (W : World) (h : Below w5.heap.size w5 W) => show Calls Try.prog 11 #[] W fun e w' => e = .returned (.bool true) ∧ Below w5.heap.size w5 w' from (known_any W).mono fun e w' hh => ⟨hh.1, h.trans (hh.2.mono h.size)⟩)
  have bw : Below w5.heap.size w5 w5 := Below.refl _ _
  clear os hx hB5 hsp hl hx0 hx1 ho0 ho1 r0 r1 hm l0 hA hB' sA sB fA tA fB tB
  go_wp2_with fail
  simp only [List.append]
  go_region_held3 (fun W => Below w5.heap.size w5 W) (first | assumption | exact below_drew (by assumption))
    (first
      | (go_at_call_has 9 (#[Value.slice a1 0 cap1] : Array Value); refine (unhide HS1 _ (by first | assumption | exact below_drew (by assumption))).mono ?_; rintro e w6 ⟨rfl, be⟩)
      | (go_at_call 9; refine (unhide HS _ (by first | assumption | exact below_drew (by assumption))).mono ?_; rintro e w6 ⟨rfl, be⟩)
      | (go_at_call_has 10 (#[Value.agg A, Value.agg B] : Array Value); refine (unhide HAB _ (by first | assumption | exact below_drew (by assumption))).mono ?_; rintro e w6 ⟨rfl, be⟩)
      | (go_at_call_has 10 (#[Value.agg B, Value.agg A] : Array Value); refine (unhide HBA _ (by first | assumption | exact below_drew (by assumption))).mono ?_; rintro e w6 ⟨rfl, be⟩)
      | (go_at_call_has 10 (#[Value.agg A, Value.agg A] : Array Value); refine (unhide HAA _ (by first | assumption | exact below_drew (by assumption))).mono ?_; rintro e w6 ⟨rfl, be⟩)
      | (go_at_call 11; refine (unhide HKN _ (by first | assumption | exact below_drew (by assumption))).mono ?_; rintro e w6 ⟨rfl, be⟩))
  all_goals go_wp2_with fail
  all_goals go_ret
  all_goals exact ⟨rfl, (unhide H5).trans (Below.mono (by assumption) (unhide H5).size)⟩
end Go.Proofs.Ytlokihpegllddaa.Cl
