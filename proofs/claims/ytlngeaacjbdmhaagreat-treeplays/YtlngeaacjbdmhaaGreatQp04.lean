/-
  Rows of entries, one behind the other.
-/
import Derived.Test.YtlngeaacjbdmhaaGreatQp03
import Derived.Deep.RegionLaw
import Derived.Lib.SliceRun
import Derived.Lib.Overlaps
import Derived.Lib.AppendZerosOnto
import Derived.Maps.AppendAt
import Derived.Laws.IdiomCopy
import Derived.Laws.NewBlocks
import Derived.Shelf.RegionOpenPlain
namespace Go.Proofs.YtlngeaacjbdmhaaGreat
open Go.RowKit
def rowsOf {α : Type} (r : α → List Value) (ms : List α) : List Value := ms.flatMap r
theorem rowsOf_length {α : Type} (r : α → List Value) (k : Nat) (hr : ∀ x, (r x).length = k) (ms : List α) : (rowsOf r ms).length = k * ms.length := by
  induction ms with
  | nil => rfl
  | cons x l ih => simp only [rowsOf, List.flatMap_cons, List.length_append, List.length_cons] at *; rw [ih, hr, Nat.mul_succ]; omega
theorem rowsOf_get {α : Type} (r : α → List Value) (k : Nat) (hr : ∀ x, (r x).length = k) (ms : List α) (i f : Nat) (M : α) (hi : ms[i]? = some M) (hf : f < k) : (rowsOf r ms)[k * i + f]? = (r M)[f]? := by
  induction ms generalizing i with
  | nil => simp at hi
  | cons x l ih =>
    simp only [rowsOf, List.flatMap_cons]
    cases i with
    | zero => simp at hi; subst hi; rw [List.getElem?_append_left (by rw [hr]; omega)]; simp
    | succ j =>
      have := ih j (by simpa using hi)
      rw [List.getElem?_append_right (by rw [hr, Nat.mul_succ]; omega), hr, ← this]
      rw [Nat.mul_succ, show k * j + k + f - k = k * j + f by omega]; rfl
theorem rowsOf_append {α : Type} (r : α → List Value) (xs ys : List α) : rowsOf r (xs ++ ys) = rowsOf r xs ++ rowsOf r ys := by simp [rowsOf]
theorem own_ne {W : World} {base : Nat} {e : TypeId} {s n k : Nat} {v : Value} {xs : List Value} {o : Obj} (h : W.ownsRow base e s v n xs) (ho : W.heap[k]? = some o) (hne : ∀ cur, o ≠ .cells cur e (0, 0)) : some k ≠ v.ownBlock := by
  obtain ⟨-, ⟨rfl, hz⟩ | ⟨g, cap, cur, rfl, hgb, hgg, hcap, hcm, hcs, htk⟩⟩ := h
  · simp [Value.ownBlock]
  · simp only [Value.ownBlock, ne_eq, Option.some.injEq]
    rintro rfl
    rw [hgg] at ho
    exact hne cur (Option.some.inj ho).symm
theorem own_keep {W W' : World} {base : Nat} {e : TypeId} {s n : Nat} {v : Value} {xs : List Value} (h : W.ownsRow base e s v n xs) (hb : ∀ (k : Nat) (cur : Array Value), W.heap[k]? = some (Obj.cells cur e (0, 0)) → W'.heap[k]? = W.heap[k]?) : W'.ownsRow base e s v n xs := by
  obtain ⟨h0, h1⟩ := h
  refine ⟨h0, ?_⟩
  rcases h1 with h1 | ⟨g, cap, cur, h1, h2, h3, h4⟩
  · exact .inl h1
  · exact .inr ⟨g, cap, cur, h1, h2, (hb g cur h3).trans h3, h4⟩
theorem own_form {W : World} {base : Nat} {e : TypeId} {s n : Nat} {v : Value} {xs : List Value} (h : W.ownsRow base e s v n xs) : ∃ a cap, v = .slice a n cap := by
  obtain ⟨-, ⟨rfl, hz⟩ | ⟨g, cap, cur, rfl, _⟩⟩ := h
  · exact ⟨none, 0, by rw [hz]⟩
  · exact ⟨_, _, rfl⟩
theorem own_open {W : World} {base : Nat} {e : TypeId} {s n : Nat} {v : Value} {xs : List Value} (h : W.ownsRow base e s v n xs) (hn : n ≠ 0) :
    ∃ g cap cur, v = .slice (some ⟨g, 0, none⟩) n cap ∧ base ≤ g ∧ W.heap[g]? = some (.cells cur e) ∧ n ≤ cap ∧ cap ≤ maxLen ∧ cur.size = cap * s ∧ ∀ (j : Nat) (u : Value), xs[j]? = some u → W.cell? ⟨g, j, none⟩ = some u := by
  obtain ⟨hl, ⟨rfl, hz⟩ | ⟨g, cap, cur, rfl, hgb, hgg, hcap, hcm, hcs, htk⟩⟩ := h
  · exact absurd hz hn
  · refine ⟨g, cap, cur, rfl, hgb, hgg, hcap, hcm, hcs, fun j u hj => ?_⟩
    have hj2 := (List.getElem?_eq_some_iff.1 hj).1
    rw [cell_of hgg, ← hj, ← htk, List.getElem?_take_of_lt (by omega)]
    simp
theorem own_base {W : World} {base base' : Nat} {e : TypeId} {s n : Nat} {v : Value} {xs : List Value} (h : W.ownsRow base' e s v n xs) (hb : base ≤ base') : W.ownsRow base e s v n xs := by
  obtain ⟨h0, h1 | ⟨g, cap, cur, h1, h2, h3⟩⟩ := h
  · exact ⟨h0, .inl h1⟩
  · exact ⟨h0, .inr ⟨g, cap, cur, h1, Nat.le_trans hb h2, h3⟩⟩
theorem own_addr {W : World} {base : Nat} {e : TypeId} {s n m cap : Nat} {a : Option Addr} {xs : List Value} (h : W.ownsRow base e s (.slice a m cap) n xs) : ∃ g, (a = none ∧ m = 0 ∧ cap = 0) ∨ a = some ⟨g, 0, none⟩ := by
  obtain ⟨-, ⟨e1, hz⟩ | ⟨g, cap', cur, e1, _⟩⟩ := h
  · simp only [Value.slice.injEq] at e1; obtain ⟨rfl, rfl, rfl⟩ := e1; exact ⟨0, .inl ⟨rfl, rfl, rfl⟩⟩
  · simp only [Value.slice.injEq] at e1; obtain ⟨rfl, rfl, rfl⟩ := e1; exact ⟨g, .inr rfl⟩
theorem below_grown {base : Nat} {w W W' : World} {e : TypeId} {s n : Nat} {v : Value} {xs : List Value} (hB : Below base w W) (h : W.ownsRow base e s v n xs) (g : W.grownBy W' v.ownBlock) (hb : base ≤ W.heap.size) : Below base w W' := by
  refine ⟨g.os.trans hB.os, g.tape.trans hB.tape, g.output.trans hB.output, ?_, ?_⟩
  · have := g.size; have := hB.size; omega
  · intro k hk
    have h1 : some k ≠ v.ownBlock := by
      intro e
      obtain ⟨-, ⟨rfl, _⟩ | ⟨g', cap, cur, rfl, hgb, _⟩⟩ := h
      · simp [Value.ownBlock] at e
      · simp [Value.ownBlock] at e; omega
    rw [g.block k (by omega) h1]
    exact hB.block k hk
abbrev Ents := List (ByteArray × Int)
def row (p : ByteArray × Int) : List Value := [.string p.1, .int .i64 p.2]
theorem row_length (p : ByteArray × Int) : (row p).length = 2 := rfl
theorem rows_len (es : Ents) : (rowsOf row es).length = es.length * 2 := by rw [rowsOf_length row 2 row_length, Nat.mul_comm]
theorem rows_one (es : Ents) : ∀ u ∈ rowsOf row es, u.oneCell' = true := by
  intro u hu
  simp only [rowsOf, List.mem_flatMap, row] at hu
  obtain ⟨a, _, ha⟩ := hu
  simp at ha
  rcases ha with rfl | rfl <;> rfl
theorem rows_cons (x : ByteArray × Int) (xs : Ents) : rowsOf row (x :: xs) = .string x.1 :: .int .i64 x.2 :: rowsOf row xs := rfl
theorem rows_take : ∀ (xs : Ents) (k : Nat), rowsOf row (xs.take k) = (rowsOf row xs).take (k * 2)
  | xs, 0 => by simp [rowsOf]
  | [], k + 1 => by simp [rowsOf]
  | x :: xs, k + 1 => by
    rw [List.take_succ_cons, rows_cons, rows_cons, rows_take xs k, show (k + 1) * 2 = k * 2 + 1 + 1 by omega, List.take_succ_cons, List.take_succ_cons]
theorem rows_drop : ∀ (xs : Ents) (k : Nat), rowsOf row (xs.drop k) = (rowsOf row xs).drop (k * 2)
  | xs, 0 => by simp
  | [], k + 1 => by simp [rowsOf]
  | x :: xs, k + 1 => by
    rw [List.drop_succ_cons, rows_cons, rows_drop xs k, show (k + 1) * 2 = k * 2 + 1 + 1 by omega, List.drop_succ_cons, List.drop_succ_cons]
theorem rows_at (es : Ents) (i : Nat) (k : ByteArray) (v : Int) (h : es[i]? = some (k, v)) : (rowsOf row es)[i * 2]? = some (.string k) ∧ (rowsOf row es)[i * 2 + 1]? = some (.int .i64 v) := by
  have e0 := rowsOf_get row 2 row_length es i 0 (k, v) h (by omega)
  have e1 := rowsOf_get row 2 row_length es i 1 (k, v) h (by omega)
  rw [show i * 2 = 2 * i + 0 by omega, show 2 * i + 0 + 1 = 2 * i + 1 by omega]
  exact ⟨e0, e1⟩
end Go.Proofs.YtlngeaacjbdmhaaGreat

namespace Go.Proofs.YtlngeaacjbdmhaaGreat
open Go.RowKit
attribute [local go_sem ↓] Go.wp_at_zero Go.wp_at_succ
theorem heap_setCells {b : Nat} {t : TypeId} : ∀ (vs : List Value) (o : Nat) (W : World) (cs : Array Value), W.heap[b]? = some (.cells cs t) → o + vs.length ≤ cs.size →
    ∃ cs' : Array Value, (W.setCells b o vs).heap[b]? = some (.cells cs' t) ∧ cs'.toList = cs.toList.take o ++ vs ++ cs.toList.drop (o + vs.length)
  | [], o, W, cs, h, _ => ⟨cs, h, by simp⟩
  | v :: r, o, W, cs, h, hl => by
    simp only [List.length_cons] at hl
    obtain ⟨cs', h1, h2⟩ := heap_setCells r (o + 1) (W.setCell ⟨b, o, none⟩ v) (cs.setIfInBounds o v) (heap_set h o v) (by simp; omega)
    refine ⟨cs', h1, ?_⟩
    have hlt : o < cs.toList.length := by simp; omega
    have e : (cs.setIfInBounds o v).toList = cs.toList.take o ++ v :: cs.toList.drop (o + 1) := by
      rw [Array.toList_setIfInBounds, List.set_eq_take_append_cons_drop, if_pos hlt]
    have hto : (cs.toList.take o).length = o := by rw [List.length_take]; omega
    rw [h2, e, List.take_append, List.drop_append, hto]
    have hdn : (cs.toList.take o).drop (o + 1 + r.length) = [] := List.drop_eq_nil_of_le (by omega)
    rw [List.take_of_length_le (l := cs.toList.take o) (by omega), hdn]
    rw [show o + 1 - o = 1 by omega, show o + 1 + r.length - o = r.length + 1 by omega, show o + (v :: r).length = o + 1 + r.length by simp; omega]
    simp
theorem heap_setCells_ne {b k : Nat} (hk : k ≠ b) : ∀ (vs : List Value) (o : Nat) (W : World), (W.setCells b o vs).heap[k]? = W.heap[k]?
  | [], _, _ => rfl
  | _ :: r, o, _ => (heap_setCells_ne hk r (o + 1) _).trans (Below.heap_setCell _ _ _ _ hk)
theorem setCells_rest (b : Nat) : ∀ (vs : List Value) (o : Nat) (W : World), (W.setCells b o vs).os = W.os ∧ (W.setCells b o vs).tape = W.tape ∧ (W.setCells b o vs).output = W.output ∧ (W.setCells b o vs).heap.size = W.heap.size
  | [], _, _ => ⟨rfl, rfl, rfl, rfl⟩
  | v :: r, o, W => by
    obtain ⟨h1, h2, h3, h4⟩ := setCells_rest b r (o + 1) (W.setCell ⟨b, o, none⟩ v)
    exact ⟨h1, h2, h3, by rw [World.setCells, h4]; simp [World.setCell]⟩
theorem infoE : (Tryz.prog.info? 256).map (fun i => (i.zero, i.size, i.bytes)) = some (some (.agg #[.string ByteArray.empty, .int .i64 0]), 2, 24) := by kernel_rfl
structure Del (W W' : World) (g : Nat) : Prop where
  os : W'.os = W.os
  tape : W'.tape = W.tape
  output : W'.output = W.output
  size : W'.heap.size = W.heap.size
  blk : ∀ k, k ≠ g → W'.heap[k]? = W.heap[k]?
set_option maxRecDepth 100000 in
set_option maxHeartbeats 1000000 in
theorem delete_any (base g n cap i : Nat) (es : Ents) (w : World) (hn : es.length = n) (hown : w.ownsRow base 256 2 (.slice (some ⟨g, 0, none⟩) n cap) n (rowsOf row es)) (hi : i < n) :
    Calls Tryz.prog 213 #[.slice (some ⟨g, 0, none⟩) n cap, .int .i64 (i : Int), .int .i64 ((i : Int) + 1)] w fun e w' =>
      e = .returned (.slice (some ⟨g, 0, none⟩) (n - 1) cap) ∧ w'.ownsRow base 256 2 (.slice (some ⟨g, 0, none⟩) (n - 1) cap) (n - 1) (rowsOf row (es.take i ++ es.drop (i + 1))) ∧ Del w w' g := by
  obtain ⟨i0, hi0, hz0, hz1, hz2⟩ := info_parts infoE
  obtain ⟨hl0, ⟨e0, _⟩ | ⟨g', cap', cur, e0, hgb, hgg, hcap, hcm, hcs, htk⟩⟩ := hown
  · simp at e0
  simp only [Value.slice.injEq, Option.some.injEq, Addr.mk.injEq] at e0
  obtain ⟨⟨rfl, -, -⟩, -, rfl⟩ := e0
  have hmx := hcm
  unfold maxLen at hmx
  obtain ⟨news, hnews⟩ : ∃ news, news = rowsOf row (es.drop (i + 1)) := ⟨_, rfl⟩
  have hlen : news.length = (n - (i + 1)) * 2 := by rw [hnews, rows_len]; simp [hn]
  have hcur : ∀ (j : Nat) (u : Value), (rowsOf row es)[j]? = some u → cur[j]? = some u := by
    intro j u hj
    have hj2 := (List.getElem?_eq_some_iff.1 hj).1
    rw [← htk] at hj
    rw [List.getElem?_take_of_lt (by omega)] at hj
    simpa using hj
  obtain ⟨A, hA, hsrc⟩ : ∃ A : Addr, (if cap = i + 1 then some (⟨g, 0, none⟩ : Addr) else some ⟨g, (i + 1) * 2, none⟩) = some A ∧ Hid (∀ t u, news[t]? = some u → w.drew.cell? (A.add t) = some u) := by
    by_cases h : cap = i + 1
    · refine ⟨⟨g, 0, none⟩, by simp [h], fun t u hu => ?_⟩
      have h0 : news.length = 0 := by rw [hlen]; omega
      rw [List.length_eq_zero_iff.1 h0] at hu
      simp at hu
    · refine ⟨⟨g, (i + 1) * 2, none⟩, by simp [h], fun t u hu => ?_⟩
      rw [Addr.add_lit]
      show w.cell? _ = _
      rw [cell_of hgg]
      apply hcur
      rw [hnews, rows_drop, List.getElem?_drop] at hu
      exact hu
  have s1 : Hid (news.length = (n - (i + 1)) * 2) := hlen
  have s2 : Hid (∀ u ∈ news, u.oneCell' = true) := by rw [hnews]; exact rows_one _
  have s3 : Hid (∀ t, t < news.length → (w.drew.cell? ⟨g, 0 + i * 2 + t, none⟩).isSome = true ∧ w.drew.frozen? ⟨g, 0 + i * 2 + t, none⟩ = false) := by
    intro t ht
    refine ⟨?_, frozen_of (W := w.drew) hgg _⟩
    have : w.drew.cell? ⟨g, 0 + i * 2 + t, none⟩ = cur[0 + i * 2 + t]? := cell_of hgg _
    rw [this, Array.getElem?_eq_getElem (by omega)]; rfl
  obtain ⟨W1, hW1⟩ : ∃ W1, W1 = w.drew.setCells g (0 + i * 2) news := ⟨_, rfl⟩
  obtain ⟨cs1, c1, c2⟩ := heap_setCells (b := g) (t := 256) news (0 + i * 2) w.drew cur hgg (by omega)
  rw [← hW1] at c1
  have hs1 : cs1.size = cap * 2 := by
    have : cs1.toList.length = cap * 2 := by rw [c2]; simp; omega
    simpa using this
  have hcl : ∀ ty, (Builtin.clear_ #[127] ty #[.slice (some ⟨g, (n - 1) * 2, none⟩) 1 (cap - (n - 1))]).run Tryz.prog W1 = .ok (.tuple #[]) (W1.setCells g ((n - 1) * 2) [.string ⟨#[]⟩, .int .i64 0]) := by
    intro ty
    have hst := run_storeCells_cells (P := Tryz.prog) g ((n - 1) * 2) [.string ⟨#[]⟩, .int .i64 0] 0 W1
      (fun j hj => by simp at hj; rw [cell_of c1, Array.getElem?_eq_getElem (by omega)]; rfl) (fun j _ => frozen_of c1 _) (by intro v hv; simp at hv; rcases hv with rfl | rfl <;> rfl)
    simp only [Nat.add_zero] at hst
    have hzc : (Builtin.zeroCells (Value.agg #[.string ⟨#[]⟩, .int .i64 0]).cells 1).toList = [.string ⟨#[]⟩, .int .i64 0] := by kernel_rfl
    simp [Builtin.clear_, run_underlying Tryz.underlying127, hzc, hst]
  obtain ⟨cs2, d1, d2⟩ := heap_setCells (b := g) (t := 256) [.string ⟨#[]⟩, .int .i64 0] ((n - 1) * 2) W1 cs1 c1 (by simp; omega)
  have r1 := setCells_rest g news (0 + i * 2) w.drew
  have r2 := setCells_rest g [.string ⟨#[]⟩, .int .i64 0] ((n - 1) * 2) W1
  have r3 : ∀ k, k ≠ g → (W1.setCells g ((n - 1) * 2) [.string ⟨#[]⟩, .int .i64 0]).heap[k]? = w.heap[k]? := fun k hk => by
    rw [heap_setCells_ne hk, hW1, heap_setCells_ne hk]; rfl
  have htake : (rowsOf row (es.take i ++ es.drop (i + 1))) = cs2.toList.take ((n - 1) * 2) := by
    have l1 : (cs1.toList.take ((n - 1) * 2)).length = (n - 1) * 2 := by simp; omega
    have l2 : (cur.toList.take (0 + i * 2) ++ news).length = (n - 1) * 2 := by simp; omega
    rw [d2, List.append_assoc, List.take_left' l1, c2, List.take_left' l2, rowsOf_append, rows_take, ← htk, List.take_take, ← hnews]
    rw [show min (i * 2) (n * 2) = 0 + i * 2 by omega]
  have F : Hid ((W1.setCells g ((n - 1) * 2) [.string ⟨#[]⟩, .int .i64 0]).ownsRow base 256 2 (.slice (some ⟨g, 0, none⟩) (n - 1) cap) (n - 1) (rowsOf row (es.take i ++ es.drop (i + 1))) ∧ Del w (W1.setCells g ((n - 1) * 2) [.string ⟨#[]⟩, .int .i64 0]) g) := by
    rw [← hW1] at r1
    refine ⟨⟨?_, .inr ⟨g, cap, cs2, rfl, hgb, d1, by omega, hcm, ?_, htake.symm⟩⟩, ⟨r2.1.trans r1.1, r2.2.1.trans r1.2.1, r2.2.2.1.trans r1.2.2.1, r2.2.2.2.trans r1.2.2.2, r3⟩⟩
    · rw [rows_len]; simp; omega
    · have : cs2.toList.length = cap * 2 := by rw [d2]; simp; omega
      simpa using this
  have hW : Hid (W1 = w.drew.setCells g (0 + i * 2) news) := hW1
  have hic : i ≤ cap := by omega
  have hjc : i + 1 ≤ cap := by omega
  have q1 : (i : Int) < (n : Int) := by omega
  have q2 : (0 : Int) ≤ (i : Int) := by omega
  have q3 : (0 : Int) ≤ (i : Int) + 1 := by omega
  have q4 : (i : Int) + 1 ≤ (n : Int) := by omega
  have e1 : i + (n - (i + 1)) = n - 1 := by omega
  have e2 : n - (n - 1) = 1 := by omega
  clear hW1 c1 c2 d1 d2 r1 r2 r3 htake hgg hcur hnews htk hs1 hl0 hcs hcm
  go_enter Tryz.func213, Tryz.ntmps213
  go_wp2_with fail
  go_region_law (refine step_append_room rfl (.tmp 22) (.tmp 25) 127 rfl 256 i0 2 Tryz.underlying127 hi0 hz1 g 0 i cap (by simp [Act.eval, Act.put]) A (n - (i + 1)) (cap - (i + 1)) news (by simp [Act.eval, Act.put]) s1.out hsrc.out s2.out (by omega) s3.out ?_; rw [← hW.out])
  go_wp2
  go_ret
  exact ⟨rfl, F.out⟩
end Go.Proofs.YtlngeaacjbdmhaaGreat

namespace Go.Proofs.YtlngeaacjbdmhaaGreat
open Go.RowKit
attribute [local go_sem ↓] Go.wp_at_zero Go.wp_at_succ
theorem run_copy2 {P : Program} (w : World) (dT sT ty elem : TypeId) (b o dLen dCap : Nat) (a : Addr) (sLen sCap m : Nat) (cs : List Value)
    (hu : P.underlying dT = some (.slice elem)) (hs : (P.info? elem).map (·.size) = some 2) (hm : m = Nat.min sLen dLen) (hn : cs.length = m * 2)
    (hsrc : ∀ j v, cs[j]? = some v → w.cell? (a.add j) = some v) (hc : ∀ j, j < cs.length → (w.cell? ⟨b, o + j, none⟩).isSome = true) (hf : ∀ j, j < cs.length → w.frozen? ⟨b, o + j, none⟩ = false) (h1 : ∀ v ∈ cs, v.oneCell' = true) :
    (Builtin.copy_ #[dT, sT] ty #[.slice (some ⟨b, o, none⟩) dLen dCap, .slice (some a) sLen sCap]).run P w = .ok (goInt m) (w.setCells b o cs) := by
  have hl := run_loadCells_list (P := P) w a cs hsrc
  have hst := run_storeCells_cells (P := P) b o cs 0 w (by simpa using hc) (by simpa using hf) h1
  rw [hn] at hl
  cases hq : P.info? elem with
  | none => simp [hq] at hs
  | some i =>
    have hi : i.size = 2 := by simpa [hq] using hs
    simp [Builtin.copy_, run_underlying hu, Builtin.lenOf, Builtin.firstCells, sizeOf, typeInfo, hq, hi, ← hm, hl, hst]
theorem wpList_copy_eq {P : Program} (w : World) {ops : Array Oper} {rest : List Oper} {o : Oper} {a : Act} {Q : Exit → Act → World → Prop} (hgd : o.guard = none) (d s : Operand) (t t' : TypeId)
    (ho : o.op = .call { callee := .builtin .copy, args := #[d, s], argTypes := #[t, t'] }) (v u : Value) (hd : a.eval d = v) (hs : a.eval s = u) {v' : Value} {w' : World}
    (hr : (Builtin.copy_ #[t, t'] o.type #[v, u]).run P w = .ok v' w') (h : wpList P ops Q rest (a.put o.dst v') w') : wpList P ops Q (o :: rest) a w :=
  wpList_plain hgd fun _ hK => by
    unfold Oper.wp execOp
    simp only [ho, resolve, invoke, builtin, Sem.run_bind, Sem.run_pure, Result.andThen_ok, List.map_toArray, List.map_cons, List.map_nil, hd, hs, hr]
    exact hK _ _ h
theorem step_copy_eq {P : Program} {ops : Array Oper} {o : Oper} {a : Act} {w : World} {K : Act → World → Prop} {Q : Exit → Act → World → Prop} {E : Prop}
    (hg : o.guard = none) (d x : Operand) (dT sT : TypeId) (hop : o.op = Op.call { callee := Callee.builtin Builtin.copy, args := #[d, x], argTypes := #[dT, sT] })
    (v u : Value) (hd : a.eval d = v) (hx : a.eval x = u) {v' : Value} {w' : World} (hr : (Builtin.copy_ #[dT, sT] o.type #[v, u]).run P w = .ok v' w') (hK : K (a.put o.dst v') w') :
    if Region.wanted o (yielded ops a.tmps) = true then Oper.wp P o a w K Q else E := by
  have hw : Region.wanted o (yielded ops a.tmps) = true := by simp [Region.wanted, hg]
  rw [if_pos hw]
  unfold Oper.wp
  simp [execOp, hop, resolve, invoke, builtin, hd, hx, hr, Result.andThen]
  exact hK
theorem wpList_append_eq {P : Program} {w : World} {ops : Array Oper} {rest : List Oper} {o : Oper} {a : Act} {Q : Exit → Act → World → Prop} (hgd : o.guard = none) (s x : Operand) (t : TypeId)
    (ho : o.op = .call { callee := .builtin .append, args := #[s, x], argTypes := #[t, t] }) (ty : TypeId) (hty : o.type = ty) (vs vx : Value) (hs : a.eval s = vs) (hx : a.eval x = vx) (v' : Value) (w' : World)
    (hrun : (Builtin.append_ #[t, t] ty #[vs, vx]).run P w = .ok v' w') (h : wpList P ops Q rest (a.put o.dst v') w') : wpList P ops Q (o :: rest) a w := by
  refine wpList_plain hgd fun K hK => ?_
  unfold Oper.wp execOp
  simp only [ho, resolve, invoke, builtin, Sem.run_bind, Sem.run_pure, Result.andThen_ok, List.map_toArray, List.map_cons, List.map_nil, hs, hx, hty, hrun]
  exact hK _ _ h
theorem wpList_append_eqz {P : Program} {w : World} {ops : Array Oper} {rest : List Oper} {o : Oper} {a : Act} {Q : Exit → Act → World → Prop} (hgd : o.guard = none) (s x : Operand) (t t2 : TypeId)
    (ho : o.op = .call { callee := .builtin .append, args := #[s, x], argTypes := #[t, t2] }) (ty : TypeId) (hty : o.type = ty) (vs vx : Value) (hs : a.eval s = vs) (hx : a.eval x = vx) (v' : Value) (w' : World)
    (hrun : (Builtin.append_ #[t, t2] ty #[vs, vx]).run P w = .ok v' w') (h : wpList P ops Q rest (a.put o.dst v') w') : wpList P ops Q (o :: rest) a w := by
  refine wpList_plain hgd fun K hK => ?_
  unfold Oper.wp execOp
  simp only [ho, resolve, invoke, builtin, Sem.run_bind, Sem.run_pure, Result.andThen_ok, List.map_toArray, List.map_cons, List.map_nil, hs, hx, hty, hrun]
  exact hK _ _ h
theorem size_E : (Tryz.prog.info? 256).map (·.size) = some 2 := by kernel_rfl
structure Ins (base : Nat) (w w' : World) (v v' : Value) (n : Nat) (es : Ents) : Prop where
  own : w'.ownsRow base 256 2 v' n (rowsOf row es)
  gr : w.grownBy w' v.ownBlock
  at' : v'.ownBlock = v.ownBlock ∨ v'.ownBlock = some w.heap.size
  len : es.length = n
set_option maxRecDepth 100000 in
set_option maxHeartbeats 1000000 in
theorem insert_end (base : Nat) (v : Value) (n : Nat) (es : Ents) (s : ByteArray) (m : Int) (vb : Nat) (w : World) (hn : es.length = n) (hown : w.ownsRow base 256 2 v n (rowsOf row es))
    (hv : w.heap[vb]? = some (.cells #[.string s, .int .i64 m] 256)) (hl : n < 1000) (hbase : base ≤ w.heap.size) :
    Calls Tryz.prog 212 #[v, .int .i64 (n : Int), .slice (some ⟨vb, 0, none⟩) 1 1] w fun e w' => ∃ v', e = .returned v' ∧ Ins base w w' v v' (n + 1) (es ++ [(s, m)]) := by
  obtain ⟨i0, hi0, hz0, hz1, hz2⟩ := info_parts infoE
  obtain ⟨v', w', hr, h1, h2, _, h4⟩ := run_append_own_at (P := Tryz.prog) w base 127 127 256 i0 (.agg #[.string ByteArray.empty, .int .i64 0]) 2 24 Tryz.underlying127 hi0 hz0 hz1 hz2 rfl (by decide) v n (rowsOf row es) hown ⟨vb, 0, none⟩ 1 1 (row (s, m)) rfl
    (fun j u hj => by
      rw [Addr.add_lit, Nat.zero_add, cell_of hv]
      simpa [row] using hj) (by intro u hu; simp [row] at hu; rcases hu with rfl | rfl <;> rfl) (by unfold maxLen; omega) (by omega) hbase
  have hr2 : ∀ ty, (Builtin.append_ #[127, 127] ty #[v, .slice (some ⟨vb, 0, none⟩) 1 1]).run Tryz.prog w = .ok v' w' := fun ty => by rw [← hr]; rfl
  have F : Hid (Ins base w w' v v' (n + 1) (es ++ [(s, m)])) := ⟨by rw [rowsOf_append]; exact h1, h2, h4, by simp [hn]⟩
  have q1 : (n : Int) < 1000 := by omega
  obtain ⟨-, ⟨rfl, hz⟩ | ⟨g, cap, cur, rfl, _, _, hcap, hcm, _⟩⟩ := hown
  · subst hz
    clear h1 h2 h4 hv hr hi0 hz0 hz1 hz2 hn hbase
    go_enter Tryz.func212, Tryz.ntmps212
    go_wp2_with (at_builtin; refine wpList_append_eq rfl _ _ 127 rfl 127 rfl _ _ rfl rfl _ _ (hr2 _) ?_)
    go_ret
    exact ⟨_, rfl, F.out⟩
  · have hmx : (cap : Int) ≤ 9223372036854775807 := by unfold maxLen at hcm; omega
    have q2 : (0 : Int) ≤ (n : Int) := by omega
    have q3 : (n : Int) ≤ (cap : Int) := by omega
    clear h1 h2 h4 hv hr hi0 hz0 hz1 hz2 hn hbase hcm
    by_cases hcn : cap = n
    · subst hcn
      go_enter Tryz.func212, Tryz.ntmps212
      go_wp2_with (at_builtin; refine wpList_append_eq rfl _ _ 127 rfl 127 rfl _ _ rfl rfl _ _ (hr2 _) ?_)
      go_ret
      exact ⟨_, rfl, F.out⟩
    · go_enter Tryz.func212, Tryz.ntmps212
      go_wp2_with (at_builtin; refine wpList_append_eq rfl _ _ 127 rfl 127 rfl _ _ rfl rfl _ _ (hr2 _) ?_)
      go_ret
      exact ⟨_, rfl, F.out⟩
end Go.Proofs.YtlngeaacjbdmhaaGreat

namespace Go.Proofs.YtlngeaacjbdmhaaGreat
open Go.RowKit
attribute [local go_sem ↓] Go.wp_at_zero Go.wp_at_succ
theorem overlaps_no (g vb i M lb cb : Nat) (w : World) {s : ByteArray} {m : Int} {cur : Array Value} (hvb : vb ≠ g) (hv : w.heap[vb]? = some (.cells #[.string s, .int .i64 m] 256)) (hg : w.heap[g]? = some (.cells cur 256)) (hc : cur.size ≠ 0) :
    (callFunc 278 #[.slice (some ⟨vb, 0, none⟩) M M, .slice (some ⟨g, i, none⟩) lb cb]).run Tryz.prog w = .ok (.value (.bool false)) w := by
  rw [run_callFunc_extern Tryz.func278 (by kernel_rfl) (by kernel_rfl) (by kernel_rfl) (e := Extern.SlicesOverlaps.overlaps #[127, 127] #[4]) (by kernel_rfl),
    Lib.run_overlaps_apart w 127 4 256 Tryz.underlying127 2 Tryz.sizeOf256 ⟨vb, 0, none⟩ ⟨g, i, none⟩ M M lb cb hvb 256 256 2 cur.size (by simp [World.shape?, hv]) (by simp [World.shape?, hg]) hc (frozen_of hv _) (frozen_of hv _)]
  rfl
set_option maxRecDepth 100000 in
set_option maxHeartbeats 1000000 in
theorem insert_shift (base g n cap i : Nat) (es : Ents) (s : ByteArray) (m : Int) (vb : Nat) (w : World) (hn : es.length = n) (hown : w.ownsRow base 256 2 (.slice (some ⟨g, 0, none⟩) n cap) n (rowsOf row es)) (hi : i < n) (M : Nat) (hM : M = 1) (hroom : n + M ≤ cap) (hvb : vb ≠ g)
    (hv : w.heap[vb]? = some (.cells #[.string s, .int .i64 m] 256)) (hl : n < 1000) :
    Calls Tryz.prog 212 #[.slice (some ⟨g, 0, none⟩) n cap, .int .i64 (i : Int), .slice (some ⟨vb, 0, none⟩) M M] w fun e w' => ∃ v', e = .returned v' ∧ Ins base w w' (.slice (some ⟨g, 0, none⟩) n cap) v' (n + 1) (es.take i ++ (s, m) :: es.drop i) := by
  obtain ⟨hl0, ⟨e0, _⟩ | ⟨g', cap', cur, e0, hgb, hgg, hcap, hcm, hcs, htk⟩⟩ := hown
  · simp at e0
  simp only [Value.slice.injEq, Option.some.injEq, Addr.mk.injEq] at e0
  obtain ⟨⟨rfl, -, -⟩, -, rfl⟩ := e0
  obtain ⟨news, hnews⟩ : ∃ news, news = rowsOf row (es.drop i) := ⟨_, rfl⟩
  have hlen : news.length = (n - i) * 2 := by rw [hnews, rows_len]; simp [hn]
  have hcur : ∀ (j : Nat) (u : Value), (rowsOf row es)[j]? = some u → cur[j]? = some u := by
    intro j u hj
    have hj2 := (List.getElem?_eq_some_iff.1 hj).1
    rw [← htk] at hj
    rw [List.getElem?_take_of_lt (by omega)] at hj
    simpa using hj
  have hov : ∀ lb cb, (callFunc 278 #[.slice (some ⟨vb, 0, none⟩) M M, .slice (some ⟨g, (i + M) * 2, none⟩) lb cb]).run Tryz.prog w = .ok (.value (.bool false)) w := fun lb cb => overlaps_no g vb _ M lb cb w hvb hv hgg (by omega)
  have hcp1 : ∀ ty dc sc, (Builtin.copy_ #[127, 127] ty #[.slice (some ⟨g, (i + M) * 2, none⟩) (n + M - (i + M)) dc, .slice (some ⟨g, i * 2, none⟩) (n + M - i) sc]).run Tryz.prog w.drew = .ok (goInt (n - i : Nat)) (w.drew.setCells g ((i + M) * 2) news) := fun ty dc sc =>
    run_copy2 w.drew _ _ ty 256 g ((i + M) * 2) (n + M - (i + M)) dc ⟨g, i * 2, none⟩ (n + M - i) sc (n - i) news Tryz.underlying127 size_E (by simp only [Nat.min_def]; split <;> omega) hlen
      (fun j u hj => by
        rw [Addr.add_lit]
        show w.cell? _ = _
        rw [cell_of hgg]
        apply hcur
        rw [hnews, rows_drop, List.getElem?_drop] at hj
        exact hj)
      (fun j hj => by
        have : w.drew.cell? ⟨g, (i + M) * 2 + j, none⟩ = cur[(i + M) * 2 + j]? := cell_of hgg _
        rw [this, Array.getElem?_eq_getElem (by omega)]; rfl)
      (fun j _ => frozen_of (W := w.drew) hgg _) (by rw [hnews]; exact rows_one _)
  obtain ⟨W1, hW1⟩ : ∃ W1, W1 = w.drew.setCells g ((i + M) * 2) news := ⟨_, rfl⟩
  obtain ⟨cs1, c1, c2⟩ := heap_setCells (b := g) (t := 256) news ((i + M) * 2) w.drew cur hgg (by omega)
  rw [← hW1] at c1
  have hs1 : cs1.size = cap * 2 := by
    have : cs1.toList.length = cap * 2 := by rw [c2]; simp; omega
    simpa using this
  have hv1 : W1.heap[vb]? = some (.cells #[.string s, .int .i64 m] 256) := by rw [hW1, heap_setCells_ne hvb]; exact hv
  have hcp2 : ∀ (W : World), (∀ x, W.cell? x = W1.cell? x) → (∀ x, W.frozen? x = W1.frozen? x) → ∀ ty dc, (Builtin.copy_ #[127, 127] ty #[.slice (some ⟨g, i * 2, none⟩) (n + M - i) dc, .slice (some ⟨vb, 0, none⟩) M M]).run Tryz.prog W = .ok (goInt M) (W.setCells g (i * 2) (row (s, m))) := fun W hWc hWf ty dc =>
    run_copy2 W _ _ ty 256 g (i * 2) (n + M - i) dc ⟨vb, 0, none⟩ M M M (row (s, m)) Tryz.underlying127 size_E (by simp only [Nat.min_def]; split <;> omega) (by rw [hM]; rfl)
      (fun j u hj => by rw [Addr.add_lit, hWc, Nat.zero_add, cell_of hv1]; simpa [row] using hj)
      (fun j hj => by
        simp [row] at hj
        rw [hWc, cell_of c1, Array.getElem?_eq_getElem (by omega)]; rfl)
      (fun j _ => by rw [hWf]; exact frozen_of c1 _) (by intro u hu; simp [row] at hu; rcases hu with rfl | rfl <;> rfl)
  obtain ⟨cs2, d1, d2⟩ := heap_setCells (b := g) (t := 256) (row (s, m)) (i * 2) W1 cs1 c1 (by simp [row]; omega)
  have r1 := setCells_rest g news ((i + M) * 2) w.drew
  have r2 := setCells_rest g (row (s, m)) (i * 2) W1
  rw [← hW1] at r1
  have r3 : ∀ k, k ≠ g → (W1.setCells g (i * 2) (row (s, m))).heap[k]? = w.heap[k]? := fun k hk => by
    rw [heap_setCells_ne hk, hW1, heap_setCells_ne hk]; rfl
  have htake : rowsOf row (es.take i ++ (s, m) :: es.drop i) = cs2.toList.take ((n + 1) * 2) := by
    have e1 : cs1.toList.take (i * 2) = rowsOf row (es.take i) := by
      rw [c2, List.append_assoc, List.take_append_of_le_length (by simp; omega), List.take_take, rows_take, ← htk, List.take_take]
      congr 1
      omega
    have e2 : cs1.toList.drop (i * 2 + 2) = news ++ cur.toList.drop ((i + M) * 2 + news.length) := by
      rw [c2, List.append_assoc, List.drop_append_of_le_length (by simp; omega), List.drop_eq_nil_of_le (by simp; omega)]
      rfl
    have e3 : cs2.toList = (rowsOf row (es.take i) ++ row (s, m) ++ news) ++ cur.toList.drop ((i + M) * 2 + news.length) := by
      rw [d2, e1, show i * 2 + (row (s, m)).length = i * 2 + 2 by rfl, e2]
      simp
    have l1 : (rowsOf row (es.take i) ++ row (s, m) ++ news).length = (n + 1) * 2 := by
      simp only [List.length_append, rows_len, List.length_take, hlen, hn, row, List.length_cons, List.length_nil]
      omega
    rw [e3, List.take_left' l1, rowsOf_append, hnews]
    rw [show rowsOf row ((s, m) :: es.drop i) = row (s, m) ++ rowsOf row (es.drop i) by simp [rowsOf]]
    simp
  have F : Hid (Ins base w (W1.setCells g (i * 2) (row (s, m))) (.slice (some ⟨g, 0, none⟩) n cap) (.slice (some ⟨g, 0, none⟩) (n + M) cap) (n + 1) (es.take i ++ (s, m) :: es.drop i)) := by
    have hel : (es.take i ++ (s, m) :: es.drop i).length = n + 1 := by simp; omega
    refine ⟨⟨?_, .inr ⟨g, cap, cs2, by rw [hM], hgb, d1, by omega, hcm, ?_, htake.symm⟩⟩, ⟨r2.1.trans r1.1, r2.2.1.trans r1.2.1, r2.2.2.1.trans r1.2.2.1, by rw [r2.2.2.2, r1.2.2.2]; exact Nat.le_refl _, fun k _ hk => r3 k (fun e => hk (by rw [e]; rfl))⟩, .inl rfl, hel⟩
    · rw [rows_len, hel]
    · have : cs2.toList.length = cap * 2 := by rw [d2]; simp [row]; omega
      simpa using this
  rw [← hW1] at hcp1
  have hmx : cap ≤ 9223372036854775807 := by unfold maxLen at hcm; omega
  have hm0 : 0 < M := by omega
  have mixed : Tryz.prog.follows Departure.mixedOrders = true := by kernel_rfl
  have hz1 : ¬ ((M : Int) = 0) := by omega
  have hz2 : ¬ ((i : Int) = (n : Int)) := by omega
  have hb4 : ¬ (cap = i) := by omega
  have hb2 : ¬ (cap = i + M) := by omega
  have hb1 : (0 : Int) ≤ (i : Int) + (M : Int) := by omega
  have hin : i ≤ n := by omega
  have hw1 : IntKind.i64.wrap ((i : Int) + (M : Int)) = (i : Int) + (M : Int) := by rw [IntKind.wrap_i64]; omega
  have htn : ((i : Int) + (M : Int)).toNat = i + M := by omega
  have hb3 : (i : Int) ≤ (n : Int) + (M : Int) := by omega
  clear c1 c2 d1 d2 r1 r2 r3 htake hgg hcur hnews htk hs1 hl0 hcs hcm hlen hv hv1 hn hW1 hM hl hgb
  go_enter Tryz.func212, Tryz.ntmps212
  go_wp2_with (simp only [hov])
  go_region_law_o (refine step_copy_eq rfl _ _ 127 127 rfl _ _ (by simp [Act.eval, Act.put]) (by simp [Act.eval, Act.put]) (hcp1 _ _ _) ?_)
  go_wp2_with (at_builtin; refine wpList_copy_eq _ rfl _ _ 127 127 rfl _ _ rfl rfl (hcp2 _ (fun _ => rfl) (fun _ => rfl) _ _) ?_)
  go_ret
  exact ⟨_, rfl, F.out⟩
end Go.Proofs.YtlngeaacjbdmhaaGreat
