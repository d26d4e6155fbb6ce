/-
  The contract of slices.Delete of one entry: those behind it move up in their row.
-/
import Derived.Test.YtlngeaacjbdmhaaRows2
import Derived.Deep.RegionLaw
import Derived.Lib.SliceRun
namespace Go.Proofs.Ytlngeaacjbdmhaa
open Go.RowKit
attribute [local go_sem ↓] Go.wp_at_zero Go.wp_at_succ

theorem heap_setCells {b : Nat} {t : TypeId} : ∀ (vs : List Value) (o : Nat) (W : World) (cs : Array Value), W.heap[b]? = some (.cells cs t) → o + vs.length ≤ cs.size →
    ∃ cs' : Array Value, (W.setCells b o vs).heap[b]? = some (.cells cs' t) ∧ cs'.toList = cs.toList.take o ++ vs ++ cs.toList.drop (o + vs.length)
  | [], o, W, cs, h, _ => ⟨cs, h, by simp⟩
  | v :: r, o, W, cs, h, hl => by
    simp only [List.length_cons] at hl
    obtain ⟨cs', h1, h2⟩ := heap_setCells r (o + 1) (W.setCell ⟨b, o, none⟩ v) (cs.setIfInBounds o v) (heap_set h o v) (by simp; omega)
    refine ⟨cs', h1, ?_⟩
    have hlt : o < cs.toList.length := by simp; omega
    have e : (cs.setIfInBounds o v).toList = cs.toList.take o ++ v :: cs.toList.drop (o + 1) := by
      rw [Array.toList_setIfInBounds, List.set_eq_take_append_cons_drop, if_pos hlt]
    have hto : (cs.toList.take o).length = o := by rw [List.length_take]; omega
    rw [h2, e, List.take_append, List.drop_append, hto]
    have hdn : (cs.toList.take o).drop (o + 1 + r.length) = [] := List.drop_eq_nil_of_le (by omega)
    rw [List.take_of_length_le (l := cs.toList.take o) (by omega), hdn]
    rw [show o + 1 - o = 1 by omega, show o + 1 + r.length - o = r.length + 1 by omega, show o + (v :: r).length = o + 1 + r.length by simp; omega]
    simp
theorem heap_setCells_ne {b k : Nat} (hk : k ≠ b) : ∀ (vs : List Value) (o : Nat) (W : World), (W.setCells b o vs).heap[k]? = W.heap[k]?
  | [], _, _ => rfl
  | _ :: r, o, _ => (heap_setCells_ne hk r (o + 1) _).trans (Below.heap_setCell _ _ _ _ hk)
theorem setCells_rest (b : Nat) : ∀ (vs : List Value) (o : Nat) (W : World), (W.setCells b o vs).os = W.os ∧ (W.setCells b o vs).tape = W.tape ∧ (W.setCells b o vs).output = W.output ∧ (W.setCells b o vs).heap.size = W.heap.size
  | [], _, _ => ⟨rfl, rfl, rfl, rfl⟩
  | v :: r, o, W => by
    obtain ⟨h1, h2, h3, h4⟩ := setCells_rest b r (o + 1) (W.setCell ⟨b, o, none⟩ v)
    exact ⟨h1, h2, h3, by rw [World.setCells, h4]; simp [World.setCell]⟩

theorem infoE : (Try.prog.info? 92).map (fun i => (i.zero, i.size, i.bytes)) = some (some (.agg #[.string ByteArray.empty, .int .i64 0]), 2, 24) := by kernel_rfl
/-- One row more is dropped: the world of slices.Delete. -/
structure Del (W W' : World) (g : Nat) : Prop where
  os : W'.os = W.os
  tape : W'.tape = W.tape
  output : W'.output = W.output
  size : W'.heap.size = W.heap.size
  blk : ∀ k, k ≠ g → W'.heap[k]? = W.heap[k]?
set_option maxRecDepth 100000 in
set_option maxHeartbeats 1000000 in
theorem delete_any (base g n cap i : Nat) (es : Ents) (w : World) (hn : es.length = n) (hown : w.ownsRow base 92 2 (.slice (some ⟨g, 0, none⟩) n cap) n (rowsOf row es)) (hi : i < n) :
    Calls Try.prog 46 #[.slice (some ⟨g, 0, none⟩) n cap, .int .i64 (i : Int), .int .i64 ((i : Int) + 1)] w fun e w' =>
      e = .returned (.slice (some ⟨g, 0, none⟩) (n - 1) cap) ∧ w'.ownsRow base 92 2 (.slice (some ⟨g, 0, none⟩) (n - 1) cap) (n - 1) (rowsOf row (es.take i ++ es.drop (i + 1))) ∧ Del w w' g := by
  obtain ⟨i0, hi0, hz0, hz1, hz2⟩ := info_parts infoE
  obtain ⟨hl0, ⟨e0, _⟩ | ⟨g', cap', cur, e0, hgb, hgg, hcap, hcm, hcs, htk⟩⟩ := hown
  · simp at e0
  simp only [Value.slice.injEq, Option.some.injEq, Addr.mk.injEq] at e0
  obtain ⟨⟨rfl, -, -⟩, -, rfl⟩ := e0
  have hmx := hcm
  unfold maxLen at hmx
  obtain ⟨news, hnews⟩ : ∃ news, news = rowsOf row (es.drop (i + 1)) := ⟨_, rfl⟩
  have hlen : news.length = (n - (i + 1)) * 2 := by rw [hnews, rows_len]; simp [hn]
  have hcur : ∀ (j : Nat) (u : Value), (rowsOf row es)[j]? = some u → cur[j]? = some u := by
    intro j u hj
    have hj2 := (List.getElem?_eq_some_iff.1 hj).1
    rw [← htk] at hj
    rw [List.getElem?_take_of_lt (by omega)] at hj
    simpa using hj
  obtain ⟨A, hA, hsrc⟩ : ∃ A : Addr, (if cap = i + 1 then some (⟨g, 0, none⟩ : Addr) else some ⟨g, (i + 1) * 2, none⟩) = some A ∧ Hid (∀ t u, news[t]? = some u → w.drew.cell? (A.add t) = some u) := by
    by_cases h : cap = i + 1
    · refine ⟨⟨g, 0, none⟩, by simp [h], fun t u hu => ?_⟩
      have h0 : news.length = 0 := by rw [hlen]; omega
      rw [List.length_eq_zero_iff.1 h0] at hu
      simp at hu
    · refine ⟨⟨g, (i + 1) * 2, none⟩, by simp [h], fun t u hu => ?_⟩
      rw [Addr.add_lit]
      show w.cell? _ = _
      rw [cell_of hgg]
      apply hcur
      rw [hnews, rows_drop, List.getElem?_drop] at hu
      exact hu
  have s1 : Hid (news.length = (n - (i + 1)) * 2) := hlen
  have s2 : Hid (∀ u ∈ news, u.oneCell' = true) := by rw [hnews]; exact rows_one _
  have s3 : Hid (∀ t, t < news.length → (w.drew.cell? ⟨g, 0 + i * 2 + t, none⟩).isSome = true ∧ w.drew.frozen? ⟨g, 0 + i * 2 + t, none⟩ = false) := by
    intro t ht
    refine ⟨?_, frozen_of (W := w.drew) hgg _⟩
    have : w.drew.cell? ⟨g, 0 + i * 2 + t, none⟩ = cur[0 + i * 2 + t]? := cell_of hgg _
    rw [this, Array.getElem?_eq_getElem (by omega)]; rfl
  obtain ⟨W1, hW1⟩ : ∃ W1, W1 = w.drew.setCells g (0 + i * 2) news := ⟨_, rfl⟩
  obtain ⟨cs1, c1, c2⟩ := heap_setCells (b := g) (t := 92) news (0 + i * 2) w.drew cur hgg (by omega)
  rw [← hW1] at c1
  have hs1 : cs1.size = cap * 2 := by
    have : cs1.toList.length = cap * 2 := by rw [c2]; simp; omega
    simpa using this
  have hcl : ∀ ty, (Builtin.clear_ #[59] ty #[.slice (some ⟨g, (n - 1) * 2, none⟩) 1 (cap - (n - 1))]).run Try.prog W1 = .ok (.tuple #[]) (W1.setCells g ((n - 1) * 2) [.string ⟨#[]⟩, .int .i64 0]) := by
    intro ty
    have hst := run_storeCells_cells (P := Try.prog) g ((n - 1) * 2) [.string ⟨#[]⟩, .int .i64 0] 0 W1
      (fun j hj => by simp at hj; rw [cell_of c1, Array.getElem?_eq_getElem (by omega)]; rfl) (fun j _ => frozen_of c1 _) (by intro v hv; simp at hv; rcases hv with rfl | rfl <;> rfl)
    simp only [Nat.add_zero] at hst
    have hzc : (Builtin.zeroCells (Value.agg #[.string ⟨#[]⟩, .int .i64 0]).cells 1).toList = [.string ⟨#[]⟩, .int .i64 0] := by kernel_rfl
    simp [Builtin.clear_, run_underlying Try.underlying59, hzc, hst]
  obtain ⟨cs2, d1, d2⟩ := heap_setCells (b := g) (t := 92) [.string ⟨#[]⟩, .int .i64 0] ((n - 1) * 2) W1 cs1 c1 (by simp; omega)
  have r1 := setCells_rest g news (0 + i * 2) w.drew
  have r2 := setCells_rest g [.string ⟨#[]⟩, .int .i64 0] ((n - 1) * 2) W1
  have r3 : ∀ k, k ≠ g → (W1.setCells g ((n - 1) * 2) [.string ⟨#[]⟩, .int .i64 0]).heap[k]? = w.heap[k]? := fun k hk => by
    rw [heap_setCells_ne hk, hW1, heap_setCells_ne hk]; rfl
  have htake : (rowsOf row (es.take i ++ es.drop (i + 1))) = cs2.toList.take ((n - 1) * 2) := by
    have l1 : (cs1.toList.take ((n - 1) * 2)).length = (n - 1) * 2 := by simp; omega
    have l2 : (cur.toList.take (0 + i * 2) ++ news).length = (n - 1) * 2 := by simp; omega
    rw [d2, List.append_assoc, List.take_left' l1, c2, List.take_left' l2, rowsOf_append, rows_take, ← htk, List.take_take, ← hnews]
    rw [show min (i * 2) (n * 2) = 0 + i * 2 by omega]
  have F : Hid ((W1.setCells g ((n - 1) * 2) [.string ⟨#[]⟩, .int .i64 0]).ownsRow base 92 2 (.slice (some ⟨g, 0, none⟩) (n - 1) cap) (n - 1) (rowsOf row (es.take i ++ es.drop (i + 1))) ∧ Del w (W1.setCells g ((n - 1) * 2) [.string ⟨#[]⟩, .int .i64 0]) g) := by
    rw [← hW1] at r1
    refine ⟨⟨?_, .inr ⟨g, cap, cs2, rfl, hgb, d1, by omega, hcm, ?_, htake.symm⟩⟩, ⟨r2.1.trans r1.1, r2.2.1.trans r1.2.1, r2.2.2.1.trans r1.2.2.1, r2.2.2.2.trans r1.2.2.2, r3⟩⟩
    · rw [rows_len]; simp; omega
    · have : cs2.toList.length = cap * 2 := by rw [d2]; simp; omega
      simpa using this
  have hW : Hid (W1 = w.drew.setCells g (0 + i * 2) news) := hW1
  have hic : i ≤ cap := by omega
  have hjc : i + 1 ≤ cap := by omega
  have q1 : (i : Int) < (n : Int) := by omega
  have q2 : (0 : Int) ≤ (i : Int) := by omega
  have q3 : (0 : Int) ≤ (i : Int) + 1 := by omega
  have q4 : (i : Int) + 1 ≤ (n : Int) := by omega
  have e1 : i + (n - (i + 1)) = n - 1 := by omega
  have e2 : n - (n - 1) = 1 := by omega
  clear hW1 c1 c2 d1 d2 r1 r2 r3 htake hgg hcur hnews htk hs1 hl0 hcs hcm
  go_enter Try.func46, Try.ntmps46
  go_wp2_with fail
  go_region_law (refine step_append_room rfl (.tmp 22) (.tmp 25) 59 rfl 92 i0 2 Try.underlying59 hi0 hz1 g 0 i cap (by simp [Act.eval, Act.put]) A (n - (i + 1)) (cap - (i + 1)) news (by simp [Act.eval, Act.put]) s1.out hsrc.out s2.out (by omega) s3.out ?_; rw [← hW.out])
  go_wp2
  go_ret
  exact ⟨rfl, F.out⟩
end Go.Proofs.Ytlngeaacjbdmhaa
