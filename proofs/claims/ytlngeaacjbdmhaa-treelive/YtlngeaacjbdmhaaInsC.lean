/-
  slices.Insert in the middle: into a new row, where there is no room; the contract as a whole.
-/
import Derived.Test.YtlngeaacjbdmhaaInsB
namespace Go.Proofs.Ytlngeaacjbdmhaa
open Go.RowKit
attribute [local go_sem ↓] Go.wp_at_zero Go.wp_at_succ

set_option maxRecDepth 100000 in
set_option maxHeartbeats 1000000 in
theorem insert_grow (base g n cap i : Nat) (es : Ents) (s : ByteArray) (m : Int) (vb : Nat) (w : World) (hn : es.length = n) (hown : w.ownsRow base 92 2 (.slice (some ⟨g, 0, none⟩) n cap) n (rowsOf row es)) (hi : i < n) (M : Nat) (hM : M = 1) (hroom : cap < n + M)
    (hv : w.heap[vb]? = some (.cells #[.string s, .int .i64 m] 92)) (hl : n < 1000) (hbase : base ≤ w.heap.size) :
    Calls Try.prog 45 #[.slice (some ⟨g, 0, none⟩) n cap, .int .i64 (i : Int), .slice (some ⟨vb, 0, none⟩) M M] w fun e w' => ∃ v', e = .returned v' ∧ Ins base w w' (.slice (some ⟨g, 0, none⟩) n cap) v' (n + 1) (es.take i ++ (s, m) :: es.drop i) := by
  obtain ⟨i0, hi0, hz0, hzs, hzb⟩ := info_parts infoE
  obtain ⟨hl0, ⟨e0, _⟩ | ⟨g', cap', cur, e0, hgb, hgg, hcap, hcm, hcs, htk⟩⟩ := hown
  · simp at e0
  simp only [Value.slice.injEq, Option.some.injEq, Addr.mk.injEq] at e0
  obtain ⟨⟨rfl, -, -⟩, -, rfl⟩ := e0
  have hgl := lt_of_heap hgg
  have hvl := lt_of_heap hv
  obtain ⟨news, hnews⟩ : ∃ news, news = rowsOf row (es.drop i) := ⟨_, rfl⟩
  have hlen : news.length = (n - i) * 2 := by rw [hnews, rows_len]; simp [hn]
  obtain ⟨olds, holds⟩ : ∃ olds, olds = rowsOf row (es.take i) := ⟨_, rfl⟩
  have holen : olds.length = i * 2 := by rw [holds, rows_len]; simp [hn]; omega
  have hcur : ∀ (j : Nat) (u : Value), (rowsOf row es)[j]? = some u → cur[j]? = some u := by
    intro j u hj
    have hj2 := (List.getElem?_eq_some_iff.1 hj).1
    rw [← htk] at hj
    rw [List.getElem?_take_of_lt (by omega)] at hj
    simpa using hj
  have hold : (Builtin.firstCells i0.size i (.slice (some ⟨g, 0, none⟩) i cap)).run Try.prog w.drew = .ok olds.toArray w.drew := by
    rw [hzs]
    exact run_firstCells_some w.drew 2 i ⟨g, 0, none⟩ i cap olds (by omega) (fun j u hj => by
      rw [Addr.add_lit, Nat.zero_add]
      show w.cell? _ = _
      rw [cell_of hgg]
      apply hcur
      rw [holds, rows_take] at hj
      rw [List.getElem?_take] at hj
      split at hj
      · exact hj
      · cases hj)
  have hkk : (n : Int) + (M : Int) - (i : Int) = ((n + M - i : Nat) : Int) := by omega
  have hik : i + (n + M - i) = n + M := by omega
  obtain ⟨G, hG⟩ : ∃ G, G = grownCap w (n + M) cap 92 := ⟨_, rfl⟩
  have hGn : n + M ≤ G := by rw [hG]; exact grownCap_ge w _ _ _
  have hGm : G ≤ maxLen := by rw [hG]; exact grownCap_le_maxLen w (n + M) cap 92 (by unfold maxLen; omega)
  obtain ⟨ROW, hROW⟩ : ∃ ROW : Array Value, ROW = olds.toArray ++ Builtin.zeroCells (Value.agg #[.string ByteArray.empty, .int .i64 0]).cells (n + M - i) ++ Builtin.zeroCells (Value.agg #[.string ByteArray.empty, .int .i64 0]).cells (G - (n + M)) := ⟨_, rfl⟩
  have hRs : ROW.size = G * 2 := by
    have hz : (Value.agg #[.string ByteArray.empty, .int .i64 0]).cells.size = 2 := rfl
    rw [hROW]
    simp only [Array.size_append, List.size_toArray, size_zeroCells, hz, holen]
    omega
  have hRt : ROW.toList.take (i * 2) = olds := by
    rw [hROW]
    simp only [Array.toList_append, List.append_assoc]
    rw [← holen]
    exact List.take_left
  have hrz : ∀ ty, (Builtin.append_ #[59, 3] ty #[.slice (some ⟨g, 0, none⟩) i cap, .int .i64 ((n : Int) + (M : Int) - (i : Int))]).run Try.prog w = .ok (.slice (some ⟨w.heap.size, 0, none⟩) (n + M) G) (w.drew.alloc (.cells ROW 92)) := fun ty => by
    have h := Lib.run_append_grow_zeros w 59 3 ty 92 i0 _ .i64 .i64 Try.underlying59 Try.underlying3 hi0 hz0 (some ⟨g, 0, none⟩) i cap olds hold (n + M - i) (by omega) (by omega) (by omega) (by omega) (by rw [hzb]; omega) (by rw [hzb, hik]; exact growslice_fits hroom (by omega))
    rw [hik, ← hG] at h
    rw [hkk, hROW]
    exact h
  obtain ⟨W1, hW1⟩ : ∃ W1, W1 = w.drew.alloc (.cells ROW 92) := ⟨_, rfl⟩
  rw [← hW1] at hrz
  have h1g : W1.heap[w.heap.size]? = some (.cells ROW 92) := by rw [hW1]; exact heap_alloc_new w.drew _
  have h1o : ∀ k, k < w.heap.size → W1.heap[k]? = w.heap[k]? := fun k hk => by rw [hW1]; exact heap_alloc_old w.drew _ hk
  have hv1 : W1.heap[vb]? = some (.cells #[.string s, .int .i64 m] 92) := (h1o _ hvl).trans hv
  have hcpA : ∀ (W : World), (∀ x, W.cell? x = W1.cell? x) → (∀ x, W.frozen? x = W1.frozen? x) → ∀ ty dc, (Builtin.copy_ #[59, 59] ty #[.slice (some ⟨w.heap.size, i * 2, none⟩) (n + M - i) dc, .slice (some ⟨vb, 0, none⟩) M M]).run Try.prog W = .ok (goInt M) (W.setCells w.heap.size (i * 2) (row (s, m))) := fun W hWc hWf ty dc =>
    run_copy2 W _ _ ty 92 w.heap.size (i * 2) (n + M - i) dc ⟨vb, 0, none⟩ M M M (row (s, m)) Try.underlying59 size_E (by simp only [Nat.min_def]; split <;> omega) (by rw [hM]; rfl)
      (fun j u hj => by rw [Addr.add_lit, hWc, Nat.zero_add, cell_of hv1]; simpa [row] using hj)
      (fun j hj => by
        simp [row] at hj
        rw [hWc, cell_of h1g, Array.getElem?_eq_getElem (by omega)]; rfl)
      (fun j _ => by rw [hWf]; exact frozen_of h1g _) (by intro u hu; simp [row] at hu; rcases hu with rfl | rfl <;> rfl)
  obtain ⟨cs1, c1, c2⟩ := heap_setCells (b := w.heap.size) (t := 92) (row (s, m)) (i * 2) W1 ROW h1g (by simp [row]; omega)
  have hs1 : cs1.size = G * 2 := by
    have : cs1.toList.length = G * 2 := by rw [c2]; simp [row]; omega
    simpa using this
  have hgN : g ≠ w.heap.size := by omega
  have hcpB : ∀ (W : World), (∀ x, W.cell? x = (W1.setCells w.heap.size (i * 2) (row (s, m))).cell? x) → (∀ x, W.frozen? x = (W1.setCells w.heap.size (i * 2) (row (s, m))).frozen? x) → ∀ ty dc sc, (Builtin.copy_ #[59, 59] ty #[.slice (some ⟨w.heap.size, (i + M) * 2, none⟩) (n + M - (i + M)) dc, .slice (some ⟨g, i * 2, none⟩) (n - i) sc]).run Try.prog W = .ok (goInt (n - i : Nat)) (W.setCells w.heap.size ((i + M) * 2) news) := fun W hWc hWf ty dc sc =>
    run_copy2 W _ _ ty 92 w.heap.size ((i + M) * 2) (n + M - (i + M)) dc ⟨g, i * 2, none⟩ (n - i) sc (n - i) news Try.underlying59 size_E (by simp only [Nat.min_def]; split <;> omega) hlen
      (fun j u hj => by
        have hg2 : (W1.setCells w.heap.size (i * 2) (row (s, m))).heap[g]? = some (.cells cur 92) := by rw [heap_setCells_ne hgN, h1o _ hgl]; exact hgg
        rw [Addr.add_lit, hWc, cell_of hg2]
        apply hcur
        rw [hnews, rows_drop, List.getElem?_drop] at hj
        exact hj)
      (fun j hj => by rw [hWc, cell_of c1, Array.getElem?_eq_getElem (by omega)]; rfl)
      (fun j _ => by rw [hWf]; exact frozen_of c1 _) (by rw [hnews]; exact rows_one _)
  have htl : ∀ (W : World) (cs2 : Array Value), W.heap[w.heap.size]? = some (.cells cs2 92) → cs2.toList = cs1.toList.take ((i + M) * 2) ++ news ++ cs1.toList.drop ((i + M) * 2 + news.length) → W.os = w.os → W.tape = w.tape → W.output = w.output → w.heap.size ≤ W.heap.size → (∀ k, k < w.heap.size → W.heap[k]? = w.heap[k]?) →
      Ins base w W (.slice (some ⟨g, 0, none⟩) n cap) (.slice (some ⟨w.heap.size, 0, none⟩) (n + M) G) (n + 1) (es.take i ++ (s, m) :: es.drop i) := by
    intro W cs2 d1 d2 o1 o2 o3 o4 o5
    have hel : (es.take i ++ (s, m) :: es.drop i).length = n + 1 := by simp; omega
    have e1 : cs1.toList.take ((i + M) * 2) = rowsOf row (es.take i) ++ row (s, m) := by
      have l1 : (ROW.toList.take (i * 2) ++ row (s, m)).length = (i + M) * 2 := by rw [hRt]; simp [row, holen]; omega
      rw [c2, List.take_left' l1, hRt, holds]
    have l2 : (rowsOf row (es.take i) ++ row (s, m) ++ news).length = (n + 1) * 2 := by
      simp only [List.length_append, rows_len, List.length_take, hlen, hn, row, List.length_cons, List.length_nil]
      omega
    have htake : rowsOf row (es.take i ++ (s, m) :: es.drop i) = cs2.toList.take ((n + 1) * 2) := by
      rw [d2, e1, List.take_left' l2, rowsOf_append, hnews]
      rw [show rowsOf row ((s, m) :: es.drop i) = row (s, m) ++ rowsOf row (es.drop i) by simp [rowsOf]]
      simp
    refine ⟨⟨?_, .inr ⟨w.heap.size, G, cs2, by rw [hM], hbase, d1, by omega, hGm, ?_, htake.symm⟩⟩, ⟨o1, o2, o3, o4, fun k hk _ => o5 k hk⟩, .inr rfl, hel⟩
    · rw [rows_len, hel]
    · have : cs2.toList.length = G * 2 := by rw [d2]; simp; omega
      simpa using this
  have F : Hid (∀ W : World, W = ((((w.alloc (.cells ROW 92)).drew.setCells w.heap.size (i * 2) (row (s, m))).drew).setCells w.heap.size ((i + M) * 2) news) → Ins base w W (.slice (some ⟨g, 0, none⟩) n cap) (.slice (some ⟨w.heap.size, 0, none⟩) (n + M) G) (n + 1) (es.take i ++ (s, m) :: es.drop i)) := by
    rintro W rfl
    have c1' : (((w.alloc (.cells ROW 92)).drew.setCells w.heap.size (i * 2) (row (s, m))).drew).heap[w.heap.size]? = some (.cells cs1 92) := by
      obtain ⟨cs', k1, k2⟩ := heap_setCells (b := w.heap.size) (t := 92) (row (s, m)) (i * 2) (w.alloc (.cells ROW 92)).drew ROW (heap_alloc_new w _) (by simp [row]; omega)
      have : cs' = cs1 := Array.toList_inj.1 (k2.trans c2.symm)
      rw [← this]
      exact k1
    obtain ⟨cs2, d1, d2⟩ := heap_setCells (b := w.heap.size) (t := 92) news ((i + M) * 2) _ cs1 c1' (by omega)
    have r1 := setCells_rest w.heap.size (row (s, m)) (i * 2) (w.alloc (.cells ROW 92)).drew
    have r2 := setCells_rest w.heap.size news ((i + M) * 2) ((w.alloc (.cells ROW 92)).drew.setCells w.heap.size (i * 2) (row (s, m))).drew
    refine htl _ cs2 d1 d2 (r2.1.trans r1.1) (r2.2.1.trans r1.2.1) (r2.2.2.1.trans r1.2.2.1) ?_ fun k hk => ?_
    · rw [r2.2.2.2]
      show _ ≤ ((w.alloc (.cells ROW 92)).drew.setCells w.heap.size (i * 2) (row (s, m))).heap.size
      rw [r1.2.2.2]
      simp
    · rw [heap_setCells_ne (by omega)]
      show ((w.alloc (.cells ROW 92)).drew.setCells w.heap.size (i * 2) (row (s, m))).heap[k]? = _
      rw [heap_setCells_ne (by omega)]
      exact heap_alloc_old w _ hk
  subst hW1
  have hE1 : ∀ x, ((w.alloc (.cells ROW 92)).drew).cell? x = (w.drew.alloc (.cells ROW 92)).cell? x := fun x => rfl
  have hE2 : ∀ x, ((w.alloc (.cells ROW 92)).drew).frozen? x = (w.drew.alloc (.cells ROW 92)).frozen? x := fun x => rfl
  have hF1 : ∀ x, (((w.alloc (.cells ROW 92)).drew.setCells w.heap.size (i * 2) (row (s, m))).drew).cell? x = ((w.drew.alloc (.cells ROW 92)).setCells w.heap.size (i * 2) (row (s, m))).cell? x := fun x => rfl
  have hF2 : ∀ x, (((w.alloc (.cells ROW 92)).drew.setCells w.heap.size (i * 2) (row (s, m))).drew).frozen? x = ((w.drew.alloc (.cells ROW 92)).setCells w.heap.size (i * 2) (row (s, m))).frozen? x := fun x => rfl
  have mixed : Try.prog.follows Departure.mixedOrders = true := by kernel_rfl
  have hm0 : 0 < M := by omega
  have hz1 : ¬ ((M : Int) = 0) := by omega
  have hz2 : ¬ ((i : Int) = (n : Int)) := by omega
  have hz3 : (cap : Int) < (n : Int) + (M : Int) := by omega
  have hG63 : G ≤ 9223372036854775807 := by unfold maxLen at hGm; omega
  have hn63 : (n + M) * 24 ≤ 140737488355328 := by omega
  have hGi : ¬ (G = i) := by omega
  have hGim : ¬ (G = i + M) := by omega
  have hci : ¬ (cap = i) := by omega
  have hb1 : (0 : Int) ≤ (i : Int) + (M : Int) := by omega
  have hin : i ≤ n := by omega
  have hw1 : IntKind.i64.wrap ((i : Int) + (M : Int)) = (i : Int) + (M : Int) := by rw [IntKind.wrap_i64]; omega
  have htn : ((i : Int) + (M : Int)).toNat = i + M := by omega
  have hb3 : (i : Int) ≤ (n : Int) := by omega
  clear hkk hik hold hROW hG hRs hRt htl c1 c2 hs1 hv1 h1g h1o hgg hcur hnews holds holen htk hcs hcm hlen hv hn hM hl hgb hl0 hi0 hz0 hzs hzb hGm hvl hgl hgN hbase
  go_enter Try.func45, Try.ntmps45
  go_wp2_with (first
    | (at_builtin; refine wpList_append_eqz rfl _ _ 59 3 rfl _ rfl _ _ rfl rfl _ _ (hrz _) ?_)
    | (at_builtin; refine wpList_copy_eq _ rfl _ _ 59 59 rfl _ _ rfl rfl (hcpA _ hE1 hE2 _ _) ?_)
    | (at_builtin; refine wpList_copy_eq _ rfl _ _ 59 59 rfl _ _ rfl rfl (hcpB _ (fun _ => rfl) (fun _ => rfl) _ _ _) ?_))
  go_region_law_o (refine step_copy_eq rfl _ _ 59 59 rfl (.slice (some ⟨w.heap.size, (i + M) * 2, none⟩) (n + M - (i + M)) (G - (i + M))) (.slice (some ⟨g, i * 2, none⟩) (n - i) (cap - i)) (by simp [Act.eval, Act.put]) (by simp [Act.eval, Act.put]) (hcpB _ hF1 hF2 3 (G - (i + M)) (cap - i)) ?_)
  go_wp2
  go_ret
  exact ⟨_, rfl, F.out _ rfl⟩
/-- One entry more, wherever it comes to stand. -/
theorem insert_any (base : Nat) (v : Value) (n i : Nat) (es : Ents) (s : ByteArray) (m : Int) (vb : Nat) (w : World) (hn : es.length = n) (hown : w.ownsRow base 92 2 v n (rowsOf row es)) (hi : i ≤ n) (hvb : some vb ≠ v.ownBlock)
    (hv : w.heap[vb]? = some (.cells #[.string s, .int .i64 m] 92)) (hl : n < 1000) (hbase : base ≤ w.heap.size) :
    Calls Try.prog 45 #[v, .int .i64 (i : Int), .slice (some ⟨vb, 0, none⟩) 1 1] w fun e w' => ∃ v', e = .returned v' ∧ Ins base w w' v v' (n + 1) (es.take i ++ (s, m) :: es.drop i) := by
  by_cases he : i = n
  · subst he
    refine (insert_end base v i es s m vb w hn hown hv hl hbase).mono ?_
    rintro e w' ⟨v', rfl, h⟩
    refine ⟨v', rfl, ?_⟩
    rw [← hn, List.take_length, List.drop_length] at *
    exact h
  · have hown2 := hown
    obtain ⟨-, ⟨rfl, hz⟩ | ⟨g, cap, cur, rfl, _, _, h1, _⟩⟩ := hown
    · omega
    · by_cases hr : n + 1 ≤ cap
      · exact insert_shift base g n cap i es s m vb w hn hown2 (by omega) 1 rfl hr (fun e => hvb (by rw [e]; rfl)) hv hl
      · exact insert_grow base g n cap i es s m vb w hn hown2 (by omega) 1 rfl (by omega) hv hl hbase
end Go.Proofs.Ytlngeaacjbdmhaa
