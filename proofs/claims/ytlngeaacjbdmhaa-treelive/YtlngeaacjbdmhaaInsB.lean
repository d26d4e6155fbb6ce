/-
  slices.Insert in the middle: in the row itself, where there is room.
-/
import Derived.Test.YtlngeaacjbdmhaaIns
namespace Go.Proofs.Ytlngeaacjbdmhaa
open Go.RowKit
attribute [local go_sem ↓] Go.wp_at_zero Go.wp_at_succ

theorem isSome_setCells (b : Nat) (vs : List Value) (o : Nat) (w : World) (h : ∀ j, j < vs.length → (w.cell? ⟨b, o + j, none⟩).isSome = true) (k : Nat) (hk : (w.cell? ⟨b, k, none⟩).isSome = true) : ((w.setCells b o vs).cell? ⟨b, k, none⟩).isSome = true := by
  by_cases hin : o ≤ k ∧ k < o + vs.length
  · have := World.cell?_setCells_in b vs o w h (k - o) (by omega)
    rw [show o + (k - o) = k by omega] at this
    rw [this]; simp
  · rw [World.cell?_setCells_out b vs o w ⟨b, k, none⟩ (fun _ _ => by show k < o ∨ o + vs.length ≤ k; omega)]
    exact hk
theorem overlaps_no (g vb i M lb cb : Nat) (w : World) {s : ByteArray} {m : Int} {cur : Array Value} (hvb : vb ≠ g) (hv : w.heap[vb]? = some (.cells #[.string s, .int .i64 m] 92)) (hg : w.heap[g]? = some (.cells cur 92)) (hc : cur.size ≠ 0) :
    (callFunc 59 #[.slice (some ⟨vb, 0, none⟩) M M, .slice (some ⟨g, i, none⟩) lb cb]).run Try.prog w = .ok (.value (.bool false)) w := by
  rw [run_callFunc_extern Try.func59 (by kernel_rfl) (by kernel_rfl) (by kernel_rfl) (e := Extern.SlicesOverlaps.overlaps #[59, 59] #[4]) (by kernel_rfl),
    Lib.run_overlaps_apart w 59 4 92 Try.underlying59 2 Try.sizeOf92 ⟨vb, 0, none⟩ ⟨g, i, none⟩ M M lb cb hvb 92 92 2 cur.size (by simp [World.shape?, hv]) (by simp [World.shape?, hg]) hc (frozen_of hv _) (frozen_of hv _)]
  rfl
set_option maxRecDepth 100000 in
set_option maxHeartbeats 1000000 in
theorem insert_shift (base g n cap i : Nat) (es : Ents) (s : ByteArray) (m : Int) (vb : Nat) (w : World) (hn : es.length = n) (hown : w.ownsRow base 92 2 (.slice (some ⟨g, 0, none⟩) n cap) n (rowsOf row es)) (hi : i < n) (M : Nat) (hM : M = 1) (hroom : n + M ≤ cap) (hvb : vb ≠ g)
    (hv : w.heap[vb]? = some (.cells #[.string s, .int .i64 m] 92)) (hl : n < 1000) :
    Calls Try.prog 45 #[.slice (some ⟨g, 0, none⟩) n cap, .int .i64 (i : Int), .slice (some ⟨vb, 0, none⟩) M M] w fun e w' => ∃ v', e = .returned v' ∧ Ins base w w' (.slice (some ⟨g, 0, none⟩) n cap) v' (n + 1) (es.take i ++ (s, m) :: es.drop i) := by
  obtain ⟨hl0, ⟨e0, _⟩ | ⟨g', cap', cur, e0, hgb, hgg, hcap, hcm, hcs, htk⟩⟩ := hown
  · simp at e0
  simp only [Value.slice.injEq, Option.some.injEq, Addr.mk.injEq] at e0
  obtain ⟨⟨rfl, -, -⟩, -, rfl⟩ := e0
  obtain ⟨news, hnews⟩ : ∃ news, news = rowsOf row (es.drop i) := ⟨_, rfl⟩
  have hlen : news.length = (n - i) * 2 := by rw [hnews, rows_len]; simp [hn]
  have hcur : ∀ (j : Nat) (u : Value), (rowsOf row es)[j]? = some u → cur[j]? = some u := by
    intro j u hj
    have hj2 := (List.getElem?_eq_some_iff.1 hj).1
    rw [← htk] at hj
    rw [List.getElem?_take_of_lt (by omega)] at hj
    simpa using hj
  have hov : ∀ lb cb, (callFunc 59 #[.slice (some ⟨vb, 0, none⟩) M M, .slice (some ⟨g, (i + M) * 2, none⟩) lb cb]).run Try.prog w = .ok (.value (.bool false)) w := fun lb cb => overlaps_no g vb _ M lb cb w hvb hv hgg (by omega)
  have hcp1 : ∀ ty dc sc, (Builtin.copy_ #[59, 59] ty #[.slice (some ⟨g, (i + M) * 2, none⟩) (n + M - (i + M)) dc, .slice (some ⟨g, i * 2, none⟩) (n + M - i) sc]).run Try.prog w.drew = .ok (goInt (n - i : Nat)) (w.drew.setCells g ((i + M) * 2) news) := fun ty dc sc =>
    run_copy2 w.drew _ _ ty 92 g ((i + M) * 2) (n + M - (i + M)) dc ⟨g, i * 2, none⟩ (n + M - i) sc (n - i) news Try.underlying59 size_E (by simp only [Nat.min_def]; split <;> omega) hlen
      (fun j u hj => by
        rw [Addr.add_lit]
        show w.cell? _ = _
        rw [cell_of hgg]
        apply hcur
        rw [hnews, rows_drop, List.getElem?_drop] at hj
        exact hj)
      (fun j hj => by
        have : w.drew.cell? ⟨g, (i + M) * 2 + j, none⟩ = cur[(i + M) * 2 + j]? := cell_of hgg _
        rw [this, Array.getElem?_eq_getElem (by omega)]; rfl)
      (fun j _ => frozen_of (W := w.drew) hgg _) (by rw [hnews]; exact rows_one _)
  obtain ⟨W1, hW1⟩ : ∃ W1, W1 = w.drew.setCells g ((i + M) * 2) news := ⟨_, rfl⟩
  obtain ⟨cs1, c1, c2⟩ := heap_setCells (b := g) (t := 92) news ((i + M) * 2) w.drew cur hgg (by omega)
  rw [← hW1] at c1
  have hs1 : cs1.size = cap * 2 := by
    have : cs1.toList.length = cap * 2 := by rw [c2]; simp; omega
    simpa using this
  have hv1 : W1.heap[vb]? = some (.cells #[.string s, .int .i64 m] 92) := by rw [hW1, heap_setCells_ne hvb]; exact hv
  have hcp2 : ∀ (W : World), (∀ x, W.cell? x = W1.cell? x) → (∀ x, W.frozen? x = W1.frozen? x) → ∀ ty dc, (Builtin.copy_ #[59, 59] ty #[.slice (some ⟨g, i * 2, none⟩) (n + M - i) dc, .slice (some ⟨vb, 0, none⟩) M M]).run Try.prog W = .ok (goInt M) (W.setCells g (i * 2) (row (s, m))) := fun W hWc hWf ty dc =>
    run_copy2 W _ _ ty 92 g (i * 2) (n + M - i) dc ⟨vb, 0, none⟩ M M M (row (s, m)) Try.underlying59 size_E (by simp only [Nat.min_def]; split <;> omega) (by rw [hM]; rfl)
      (fun j u hj => by rw [Addr.add_lit, hWc, Nat.zero_add, cell_of hv1]; simpa [row] using hj)
      (fun j hj => by
        simp [row] at hj
        rw [hWc, cell_of c1, Array.getElem?_eq_getElem (by omega)]; rfl)
      (fun j _ => by rw [hWf]; exact frozen_of c1 _) (by intro u hu; simp [row] at hu; rcases hu with rfl | rfl <;> rfl)
  obtain ⟨cs2, d1, d2⟩ := heap_setCells (b := g) (t := 92) (row (s, m)) (i * 2) W1 cs1 c1 (by simp [row]; omega)
  have r1 := setCells_rest g news ((i + M) * 2) w.drew
  have r2 := setCells_rest g (row (s, m)) (i * 2) W1
  rw [← hW1] at r1
  have r3 : ∀ k, k ≠ g → (W1.setCells g (i * 2) (row (s, m))).heap[k]? = w.heap[k]? := fun k hk => by
    rw [heap_setCells_ne hk, hW1, heap_setCells_ne hk]; rfl
  have htake : rowsOf row (es.take i ++ (s, m) :: es.drop i) = cs2.toList.take ((n + 1) * 2) := by
    have e1 : cs1.toList.take (i * 2) = rowsOf row (es.take i) := by
      rw [c2, List.append_assoc, List.take_append_of_le_length (by simp; omega), List.take_take, rows_take, ← htk, List.take_take]
      congr 1
      omega
    have e2 : cs1.toList.drop (i * 2 + 2) = news ++ cur.toList.drop ((i + M) * 2 + news.length) := by
      rw [c2, List.append_assoc, List.drop_append_of_le_length (by simp; omega), List.drop_eq_nil_of_le (by simp; omega)]
      rfl
    have e3 : cs2.toList = (rowsOf row (es.take i) ++ row (s, m) ++ news) ++ cur.toList.drop ((i + M) * 2 + news.length) := by
      rw [d2, e1, show i * 2 + (row (s, m)).length = i * 2 + 2 by rfl, e2]
      simp
    have l1 : (rowsOf row (es.take i) ++ row (s, m) ++ news).length = (n + 1) * 2 := by
      simp only [List.length_append, rows_len, List.length_take, hlen, hn, row, List.length_cons, List.length_nil]
      omega
    rw [e3, List.take_left' l1, rowsOf_append, hnews]
    rw [show rowsOf row ((s, m) :: es.drop i) = row (s, m) ++ rowsOf row (es.drop i) by simp [rowsOf]]
    simp
  have F : Hid (Ins base w (W1.setCells g (i * 2) (row (s, m))) (.slice (some ⟨g, 0, none⟩) n cap) (.slice (some ⟨g, 0, none⟩) (n + M) cap) (n + 1) (es.take i ++ (s, m) :: es.drop i)) := by
    have hel : (es.take i ++ (s, m) :: es.drop i).length = n + 1 := by simp; omega
    refine ⟨⟨?_, .inr ⟨g, cap, cs2, by rw [hM], hgb, d1, by omega, hcm, ?_, htake.symm⟩⟩, ⟨r2.1.trans r1.1, r2.2.1.trans r1.2.1, r2.2.2.1.trans r1.2.2.1, by rw [r2.2.2.2, r1.2.2.2]; exact Nat.le_refl _, fun k _ hk => r3 k (fun e => hk (by rw [e]; rfl))⟩, .inl rfl, hel⟩
    · rw [rows_len, hel]
    · have : cs2.toList.length = cap * 2 := by rw [d2]; simp [row]; omega
      simpa using this
  rw [← hW1] at hcp1
  have hmx : cap ≤ 9223372036854775807 := by unfold maxLen at hcm; omega
  have hm0 : 0 < M := by omega
  have mixed : Try.prog.follows Departure.mixedOrders = true := by kernel_rfl
  have hz1 : ¬ ((M : Int) = 0) := by omega
  have hz2 : ¬ ((i : Int) = (n : Int)) := by omega
  have hb4 : ¬ (cap = i) := by omega
  have hb2 : ¬ (cap = i + M) := by omega
  have hb1 : (0 : Int) ≤ (i : Int) + (M : Int) := by omega
  have hin : i ≤ n := by omega
  have hw1 : IntKind.i64.wrap ((i : Int) + (M : Int)) = (i : Int) + (M : Int) := by rw [IntKind.wrap_i64]; omega
  have htn : ((i : Int) + (M : Int)).toNat = i + M := by omega
  have hb3 : (i : Int) ≤ (n : Int) + (M : Int) := by omega
  clear c1 c2 d1 d2 r1 r2 r3 htake hgg hcur hnews htk hs1 hl0 hcs hcm hlen hv hv1 hn hW1 hM hl hgb
  go_enter Try.func45, Try.ntmps45
  go_wp2_with (simp only [hov])
  go_region_law_o (refine step_copy_eq rfl _ _ 59 59 rfl _ _ (by simp [Act.eval, Act.put]) (by simp [Act.eval, Act.put]) (hcp1 _ _ _) ?_)
  go_wp2_with (at_builtin; refine wpList_copy_eq _ rfl _ _ 59 59 rfl _ _ rfl rfl (hcp2 _ (fun _ => rfl) (fun _ => rfl) _ _) ?_)
  go_ret
  exact ⟨_, rfl, F.out⟩
end Go.Proofs.Ytlngeaacjbdmhaa
