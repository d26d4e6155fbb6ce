/-
  known: some of chapter 18's runs.
-/
import Derived.Test.YtlokihpegllddaaHMb
import Derived.Test.YtlokihpegllddaaHG
namespace Go.Proofs.Ytlokihpegllddaa.Cl
open Go.RowKit Go.Shelf
attribute [local go_sem ↓] Go.wp_at_zero Go.wp_at_succ
attribute [local go_sem ↓] ld40_eq
attribute [local go_sem] ld40_ok

/-- An event of nothing but a kind and a thread. -/
abbrev evz (kind thread : Int) : Em := ⟨⟨kind, thread, cc0, rr0⟩, sl0, sl0, sl0⟩
theorem evz_sm (k t : Int) : Sm (evz k t) := ⟨by simp, by simp, by simp, by simp, by simp, fun s hs => by simp at hs⟩
theorem evz_eg (k t : Int) (W : World) (h : Nat) : Eg W h (evz k t) := ⟨Dq.nil _ _, Dq.nil _ _, Nq.nil _ _⟩
def rowE (x : Em) : List Value := x.cs.toList
theorem rowsE_get {xs : List Em} {k : Nat} {x : Em} (h : xs[k]? = some x) {j : Nat} {v : Value} (hj : x.cs[j]? = some v) : (xs.flatMap rowE)[k * 22 + j]? = some v := by
  induction xs generalizing k with
  | nil => simp at h
  | cons q ps ih =>
    have hl : (rowE q).length = 22 := rfl
    have hj22 : j < 22 := by
      have := (Array.getElem?_eq_some_iff.1 hj).1
      simpa [Em.cs] using this
    rw [List.flatMap_cons]
    cases k with
    | zero =>
      simp at h
      subst h
      rw [List.getElem?_append_left (by rw [hl]; omega), Nat.zero_mul, Nat.zero_add]
      simpa [rowE] using hj
    | succ k =>
      rw [List.getElem?_append_right (by rw [hl]; omega), hl, show (k + 1) * 22 + j - 22 = k * 22 + j by omega]
      exact ih (by simpa using h)
/-- Events that a law lays. -/
theorem Es.of {W : World} {g : Nat} {cur : Array Value} {es : List Em} (h : W.heap[g]? = some (.cells cur 35)) (hc : cur = (es.flatMap rowE).toArray) (he : ∀ x ∈ es, Eg W W.heap.size x) : Es W W.heap.size (some ⟨g, 0, none⟩) es := fun k x hk =>
  ⟨g, 0, rfl, lt_of_heap h, fun j v hj => by rw [cell_of h, hc, Nat.zero_add]; simpa using rowsE_get hk hj, he x (List.mem_of_getElem? hk)⟩
theorem eg_all (ks : List (Int × Int)) (W : World) (h : Nat) : ∀ x ∈ ks.map (fun p => evz p.1 p.2), Eg W h x := fun x hx => by
  obtain ⟨p, -, rfl⟩ := List.mem_map.1 hx
  exact evz_eg _ _ _ _
theorem sm_all (ks : List (Int × Int)) : ∀ x ∈ ks.map (fun p => evz p.1 p.2), Sm x := fun x hx => by
  obtain ⟨p, -, rfl⟩ := List.mem_map.1 hx
  exact evz_sm _ _
def esz (ks : List (Int × Int)) : List Em := ks.map fun p => evz p.1 p.2
/-- Ops of events that a law lays. -/
theorem ops_lit (ks : List (Int × Int)) (n : Nat) (hn : n = ks.length) (hs : n ≤ 1000) (W : World) (cur : Array Value) (hc : cur = ((esz ks).flatMap rowE).toArray) (l : List Op) (e1 e2 : Int) (ho : opsOf ((esz ks).map (·.e)) = (l, e1, e2)) :
    Calls Try.prog 8 #[.slice (some ⟨W.heap.size, 0, none⟩) n n] (W.alloc (.cells cur 35)) fun e w' => ∃ (a : Option Addr) (m cap : Nat) (xs : List Om), e = .returned (.tuple #[.slice a m cap, I e1, I e2]) ∧ m = xs.length ∧ Os w' w'.heap.size a xs ∧ xs.map (·.o) = l ∧ Below W.heap.size W w' ∧ (∀ x, a = some x → x.spot = none) := by
  have hB : Below W.heap.size W (W.alloc (.cells cur 35)) := (Below.refl _ _).alloc (Nat.le_refl _) _
  have hE : Es (W.alloc (.cells cur 35)) (W.alloc (.cells cur 35)).heap.size (some ⟨W.heap.size, 0, none⟩) (esz ks) := Es.of (heap_alloc_new W _) hc (eg_all ks _ _)
  refine (ops_any (esz ks) (some ⟨W.heap.size, 0, none⟩) n n (by simp [esz, hn]) hs _ hE (sm_all ks)).mono ?_
  rintro e w' ⟨xs, v, rfl, ow, hx, hB2⟩
  obtain ⟨a, cap, rfl, os, -, -⟩ := ow.form
  have hsp : ∀ x, a = some x → x.spot = none := by
    obtain ⟨⟨-, ⟨e1, -⟩ | ⟨g, cap, cur, e1, -⟩⟩, -⟩ := ow
    · simp only [Value.slice.injEq] at e1
      rintro x rfl
      cases e1.1
    · simp only [Value.slice.injEq] at e1
      rintro x rfl
      rw [Option.some.inj e1.1]
  exact ⟨a, xs.length, cap, xs, by rw [ho], rfl, os, by rw [hx, ho], hB.trans (hB2.mono (by simp)), hsp⟩
abbrev opz (thread fr tt : Int) : Op := ⟨thread, cc0, rr0, fr, tt⟩
set_option maxRecDepth 100000 in
set_option maxHeartbeats 2000000 in
theorem known_any (W : World) : Calls Try.prog 11 #[] W fun e w' => e = .returned (.bool true) ∧ Below W.heap.size W w' := by
  have HK1 := hide (fun (W : World) (cur : Array Value) (hc : cur = ((esz [(1, 0), (1, 1), (2, 0)]).flatMap rowE).toArray) => ops_lit [(1, 0), (1, 1), (2, 0)] 3 rfl (by decide) W cur hc [opz 0 0 2, opz 1 1 (-1)] 0 0 rfl)
  have HK2 := hide (fun (W : World) (cur : Array Value) (hc : cur = ((esz [(2, 0)]).flatMap rowE).toArray) => ops_lit [(2, 0)] 1 rfl (by decide) W cur hc [] 12 0 rfl)
  have HG := hide (show Good [opz 0 0 2, opz 1 1 (-1)] from good_of ((esz [(1, 0), (1, 1), (2, 0)]).map (fun x : Em => x.e)))
  go_enter Try.func11, Try.ntmps11
  go_wp2_with fail
  refine (unhide HK1 _ _ rfl).mono ?_
  rintro e w1 ⟨a, m, cap, xs, rfl, hm, os, hx, hB1, hsp⟩
  have hl : xs.length = 2 := by have := congrArg List.length hx; simpa using this
  have hm2 : m = 2 := by omega
  subst hm2
  have HO := hide (⟨os, hx, hB1, hsp, hl⟩ : _ ∧ _ ∧ _ ∧ _ ∧ _)
  clear os hx hB1 hsp hl hm
  go_wp2_with fail
  refine (unhide HK2 _ _ rfl).mono ?_
  rintro e w2 ⟨a2, m2, cap2, xs2, rfl, hm2, -, hx2, hB2, -⟩
  obtain ⟨os, hx, hB1, hsp, hl⟩ := unhide HO
  have os2 := os.on hB2
  obtain ⟨x0, hx0⟩ : ∃ x, xs[0]? = some x := ⟨_, List.getElem?_eq_getElem (by omega)⟩
  obtain ⟨x1, hx1⟩ : ∃ x, xs[1]? = some x := ⟨_, List.getElem?_eq_getElem (by omega)⟩
  have ho0 : x0.o = opz 0 0 2 := by have h := om_get hx0; rw [hx] at h; simpa using h.symm
  have ho1 : x1.o = opz 1 1 (-1) := by have h := om_get hx1; rw [hx] at h; simpa using h.symm
  obtain ⟨g, off, e1, -, r0, -⟩ := os2 0 x0 hx0
  subst e1
  obtain ⟨g', off', e1, -, r1, -⟩ := os2 1 x1 hx1
  simp only [Option.some.injEq, Addr.mk.injEq, and_true] at e1
  obtain ⟨rfl, rfl⟩ := e1
  have c0 : w2.cell? ⟨g, off + 22, none⟩ = some (I 2) := by have h := r0 22 (I x0.o.tt) rfl; rw [ho0] at h; simpa using h
  have c1 : w2.cell? ⟨g, off + 23 + 22, none⟩ = some (I (-1)) := by have h := r1 22 (I x1.o.tt) rfl; rw [ho1] at h; simpa using h
  have HS := hide (serial_all xs _ 2 cap hl.symm (by decide) (by rw [hx]; exact unhide HG) w2 os2 hsp)
  rw [hx, show serial [opz 0 0 2, opz 1 1 (-1)] = false from rfl] at HS
  have HB := hide (hB1.trans (hB2.mono hB1.size))
  clear os hx hB1 hsp hl os2 hx0 hx1 ho0 ho1 r0 r1 hm2 hx2 hB2 HO
  go_wp2_with (go_at_call 9; refine (unhide HS).mono ?_; rintro e w3 ⟨rfl, hB3⟩)
  go_ret
  exact ⟨rfl, (unhide HB).trans (hB3.mono (unhide HB).size)⟩
end Go.Proofs.Ytlokihpegllddaa.Cl
