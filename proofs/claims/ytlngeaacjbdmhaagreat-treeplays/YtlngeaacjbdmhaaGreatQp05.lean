/-
  slices.Insert in the middle: into a new row, where there is no room; the contract as a whole.
-/
import Derived.Test.YtlngeaacjbdmhaaGreatQp04
import Derived.Test.YtlngeaacjbdmhaaGreatQp03
namespace Go.Proofs.YtlngeaacjbdmhaaGreat
open Go.RowKit
attribute [local go_sem ↓] Go.wp_at_zero Go.wp_at_succ
set_option maxRecDepth 100000 in
set_option maxHeartbeats 1000000 in
theorem insert_grow (base g n cap i : Nat) (es : Ents) (s : ByteArray) (m : Int) (vb : Nat) (w : World) (hn : es.length = n) (hown : w.ownsRow base 256 2 (.slice (some ⟨g, 0, none⟩) n cap) n (rowsOf row es)) (hi : i < n) (M : Nat) (hM : M = 1) (hroom : cap < n + M)
    (hv : w.heap[vb]? = some (.cells #[.string s, .int .i64 m] 256)) (hl : n < 1000) (hbase : base ≤ w.heap.size) :
    Calls Tryz.prog 212 #[.slice (some ⟨g, 0, none⟩) n cap, .int .i64 (i : Int), .slice (some ⟨vb, 0, none⟩) M M] w fun e w' => ∃ v', e = .returned v' ∧ Ins base w w' (.slice (some ⟨g, 0, none⟩) n cap) v' (n + 1) (es.take i ++ (s, m) :: es.drop i) := by
  obtain ⟨i0, hi0, hz0, hzs, hzb⟩ := info_parts infoE
  obtain ⟨hl0, ⟨e0, _⟩ | ⟨g', cap', cur, e0, hgb, hgg, hcap, hcm, hcs, htk⟩⟩ := hown
  · simp at e0
  simp only [Value.slice.injEq, Option.some.injEq, Addr.mk.injEq] at e0
  obtain ⟨⟨rfl, -, -⟩, -, rfl⟩ := e0
  have hgl := lt_of_heap hgg
  have hvl := lt_of_heap hv
  obtain ⟨news, hnews⟩ : ∃ news, news = rowsOf row (es.drop i) := ⟨_, rfl⟩
  have hlen : news.length = (n - i) * 2 := by rw [hnews, rows_len]; simp [hn]
  obtain ⟨olds, holds⟩ : ∃ olds, olds = rowsOf row (es.take i) := ⟨_, rfl⟩
  have holen : olds.length = i * 2 := by rw [holds, rows_len]; simp [hn]; omega
  have hcur : ∀ (j : Nat) (u : Value), (rowsOf row es)[j]? = some u → cur[j]? = some u := by
    intro j u hj
    have hj2 := (List.getElem?_eq_some_iff.1 hj).1
    rw [← htk] at hj
    rw [List.getElem?_take_of_lt (by omega)] at hj
    simpa using hj
  have hold : (Builtin.firstCells i0.size i (.slice (some ⟨g, 0, none⟩) i cap)).run Tryz.prog w.drew = .ok olds.toArray w.drew := by
    rw [hzs]
    exact run_firstCells_some w.drew 2 i ⟨g, 0, none⟩ i cap olds (by omega) (fun j u hj => by
      rw [Addr.add_lit, Nat.zero_add]
      show w.cell? _ = _
      rw [cell_of hgg]
      apply hcur
      rw [holds, rows_take] at hj
      rw [List.getElem?_take] at hj
      split at hj
      · exact hj
      · cases hj)
  have hkk : (n : Int) + (M : Int) - (i : Int) = ((n + M - i : Nat) : Int) := by omega
  have hik : i + (n + M - i) = n + M := by omega
  obtain ⟨G, hG⟩ : ∃ G, G = grownCap w (n + M) cap 256 := ⟨_, rfl⟩
  have hGn : n + M ≤ G := by rw [hG]; exact grownCap_ge w _ _ _
  have hGm : G ≤ maxLen := by rw [hG]; exact grownCap_le_maxLen w (n + M) cap 256 (by unfold maxLen; omega)
  obtain ⟨ROW, hROW⟩ : ∃ ROW : Array Value, ROW = olds.toArray ++ Builtin.zeroCells (Value.agg #[.string ByteArray.empty, .int .i64 0]).cells (n + M - i) ++ Builtin.zeroCells (Value.agg #[.string ByteArray.empty, .int .i64 0]).cells (G - (n + M)) := ⟨_, rfl⟩
  have hRs : ROW.size = G * 2 := by
    have hz : (Value.agg #[.string ByteArray.empty, .int .i64 0]).cells.size = 2 := rfl
    rw [hROW]
    simp only [Array.size_append, List.size_toArray, size_zeroCells, hz, holen]
    omega
  have hRt : ROW.toList.take (i * 2) = olds := by
    rw [hROW]
    simp only [Array.toList_append, List.append_assoc]
    rw [← holen]
    exact List.take_left
  have hrz : ∀ ty, (Builtin.append_ #[127, 3] ty #[.slice (some ⟨g, 0, none⟩) i cap, .int .i64 ((n : Int) + (M : Int) - (i : Int))]).run Tryz.prog w = .ok (.slice (some ⟨w.heap.size, 0, none⟩) (n + M) G) (w.drew.alloc (.cells ROW 256)) := fun ty => by
    have h := Lib.run_append_grow_zeros w 127 3 ty 256 i0 _ .i64 .i64 Tryz.underlying127 Tryz.underlying3 hi0 hz0 (some ⟨g, 0, none⟩) i cap olds hold (n + M - i) (by omega) (by omega) (by omega) (by omega) (by rw [hzb]; omega) (by rw [hzb, hik]; exact growslice_fits hroom (by omega))
    rw [hik, ← hG] at h
    rw [hkk, hROW]
    exact h
  obtain ⟨W1, hW1⟩ : ∃ W1, W1 = w.drew.alloc (.cells ROW 256) := ⟨_, rfl⟩
  rw [← hW1] at hrz
  have h1g : W1.heap[w.heap.size]? = some (.cells ROW 256) := by rw [hW1]; exact heap_alloc_new w.drew _
  have h1o : ∀ k, k < w.heap.size → W1.heap[k]? = w.heap[k]? := fun k hk => by rw [hW1]; exact heap_alloc_old w.drew _ hk
  have hv1 : W1.heap[vb]? = some (.cells #[.string s, .int .i64 m] 256) := (h1o _ hvl).trans hv
  have hcpA : ∀ (W : World), (∀ x, W.cell? x = W1.cell? x) → (∀ x, W.frozen? x = W1.frozen? x) → ∀ ty dc, (Builtin.copy_ #[127, 127] ty #[.slice (some ⟨w.heap.size, i * 2, none⟩) (n + M - i) dc, .slice (some ⟨vb, 0, none⟩) M M]).run Tryz.prog W = .ok (goInt M) (W.setCells w.heap.size (i * 2) (row (s, m))) := fun W hWc hWf ty dc =>
    run_copy2 W _ _ ty 256 w.heap.size (i * 2) (n + M - i) dc ⟨vb, 0, none⟩ M M M (row (s, m)) Tryz.underlying127 size_E (by simp only [Nat.min_def]; split <;> omega) (by rw [hM]; rfl)
      (fun j u hj => by rw [Addr.add_lit, hWc, Nat.zero_add, cell_of hv1]; simpa [row] using hj)
      (fun j hj => by
        simp [row] at hj
        rw [hWc, cell_of h1g, Array.getElem?_eq_getElem (by omega)]; rfl)
      (fun j _ => by rw [hWf]; exact frozen_of h1g _) (by intro u hu; simp [row] at hu; rcases hu with rfl | rfl <;> rfl)
  obtain ⟨cs1, c1, c2⟩ := heap_setCells (b := w.heap.size) (t := 256) (row (s, m)) (i * 2) W1 ROW h1g (by simp [row]; omega)
  have hs1 : cs1.size = G * 2 := by
    have : cs1.toList.length = G * 2 := by rw [c2]; simp [row]; omega
    simpa using this
  have hgN : g ≠ w.heap.size := by omega
  have hcpB : ∀ (W : World), (∀ x, W.cell? x = (W1.setCells w.heap.size (i * 2) (row (s, m))).cell? x) → (∀ x, W.frozen? x = (W1.setCells w.heap.size (i * 2) (row (s, m))).frozen? x) → ∀ ty dc sc, (Builtin.copy_ #[127, 127] ty #[.slice (some ⟨w.heap.size, (i + M) * 2, none⟩) (n + M - (i + M)) dc, .slice (some ⟨g, i * 2, none⟩) (n - i) sc]).run Tryz.prog W = .ok (goInt (n - i : Nat)) (W.setCells w.heap.size ((i + M) * 2) news) := fun W hWc hWf ty dc sc =>
    run_copy2 W _ _ ty 256 w.heap.size ((i + M) * 2) (n + M - (i + M)) dc ⟨g, i * 2, none⟩ (n - i) sc (n - i) news Tryz.underlying127 size_E (by simp only [Nat.min_def]; split <;> omega) hlen
      (fun j u hj => by
        have hg2 : (W1.setCells w.heap.size (i * 2) (row (s, m))).heap[g]? = some (.cells cur 256) := by rw [heap_setCells_ne hgN, h1o _ hgl]; exact hgg
        rw [Addr.add_lit, hWc, cell_of hg2]
        apply hcur
        rw [hnews, rows_drop, List.getElem?_drop] at hj
        exact hj)
      (fun j hj => by rw [hWc, cell_of c1, Array.getElem?_eq_getElem (by omega)]; rfl)
      (fun j _ => by rw [hWf]; exact frozen_of c1 _) (by rw [hnews]; exact rows_one _)
  have htl : ∀ (W : World) (cs2 : Array Value), W.heap[w.heap.size]? = some (.cells cs2 256) → cs2.toList = cs1.toList.take ((i + M) * 2) ++ news ++ cs1.toList.drop ((i + M) * 2 + news.length) → W.os = w.os → W.tape = w.tape → W.output = w.output → w.heap.size ≤ W.heap.size → (∀ k, k < w.heap.size → W.heap[k]? = w.heap[k]?) →
      Ins base w W (.slice (some ⟨g, 0, none⟩) n cap) (.slice (some ⟨w.heap.size, 0, none⟩) (n + M) G) (n + 1) (es.take i ++ (s, m) :: es.drop i) := by
    intro W cs2 d1 d2 o1 o2 o3 o4 o5
    have hel : (es.take i ++ (s, m) :: es.drop i).length = n + 1 := by simp; omega
    have e1 : cs1.toList.take ((i + M) * 2) = rowsOf row (es.take i) ++ row (s, m) := by
      have l1 : (ROW.toList.take (i * 2) ++ row (s, m)).length = (i + M) * 2 := by rw [hRt]; simp [row, holen]; omega
      rw [c2, List.take_left' l1, hRt, holds]
    have l2 : (rowsOf row (es.take i) ++ row (s, m) ++ news).length = (n + 1) * 2 := by
      simp only [List.length_append, rows_len, List.length_take, hlen, hn, row, List.length_cons, List.length_nil]
      omega
    have htake : rowsOf row (es.take i ++ (s, m) :: es.drop i) = cs2.toList.take ((n + 1) * 2) := by
      rw [d2, e1, List.take_left' l2, rowsOf_append, hnews]
      rw [show rowsOf row ((s, m) :: es.drop i) = row (s, m) ++ rowsOf row (es.drop i) by simp [rowsOf]]
      simp
    refine ⟨⟨?_, .inr ⟨w.heap.size, G, cs2, by rw [hM], hbase, d1, by omega, hGm, ?_, htake.symm⟩⟩, ⟨o1, o2, o3, o4, fun k hk _ => o5 k hk⟩, .inr rfl, hel⟩
    · rw [rows_len, hel]
    · have : cs2.toList.length = G * 2 := by rw [d2]; simp; omega
      simpa using this
  have F : Hid (∀ W : World, W = ((((w.alloc (.cells ROW 256)).drew.setCells w.heap.size (i * 2) (row (s, m))).drew).setCells w.heap.size ((i + M) * 2) news) → Ins base w W (.slice (some ⟨g, 0, none⟩) n cap) (.slice (some ⟨w.heap.size, 0, none⟩) (n + M) G) (n + 1) (es.take i ++ (s, m) :: es.drop i)) := by
    rintro W rfl
    have c1' : (((w.alloc (.cells ROW 256)).drew.setCells w.heap.size (i * 2) (row (s, m))).drew).heap[w.heap.size]? = some (.cells cs1 256) := by
      obtain ⟨cs', k1, k2⟩ := heap_setCells (b := w.heap.size) (t := 256) (row (s, m)) (i * 2) (w.alloc (.cells ROW 256)).drew ROW (heap_alloc_new w _) (by simp [row]; omega)
      have : cs' = cs1 := Array.toList_inj.1 (k2.trans c2.symm)
      rw [← this]
      exact k1
    obtain ⟨cs2, d1, d2⟩ := heap_setCells (b := w.heap.size) (t := 256) news ((i + M) * 2) _ cs1 c1' (by omega)
    have r1 := setCells_rest w.heap.size (row (s, m)) (i * 2) (w.alloc (.cells ROW 256)).drew
    have r2 := setCells_rest w.heap.size news ((i + M) * 2) ((w.alloc (.cells ROW 256)).drew.setCells w.heap.size (i * 2) (row (s, m))).drew
    refine htl _ cs2 d1 d2 (r2.1.trans r1.1) (r2.2.1.trans r1.2.1) (r2.2.2.1.trans r1.2.2.1) ?_ fun k hk => ?_
    · rw [r2.2.2.2]
      show _ ≤ ((w.alloc (.cells ROW 256)).drew.setCells w.heap.size (i * 2) (row (s, m))).heap.size
      rw [r1.2.2.2]
      simp
    · rw [heap_setCells_ne (by omega)]
      show ((w.alloc (.cells ROW 256)).drew.setCells w.heap.size (i * 2) (row (s, m))).heap[k]? = _
      rw [heap_setCells_ne (by omega)]
      exact heap_alloc_old w _ hk
  subst hW1
  have hE1 : ∀ x, ((w.alloc (.cells ROW 256)).drew).cell? x = (w.drew.alloc (.cells ROW 256)).cell? x := fun x => rfl
  have hE2 : ∀ x, ((w.alloc (.cells ROW 256)).drew).frozen? x = (w.drew.alloc (.cells ROW 256)).frozen? x := fun x => rfl
  have hF1 : ∀ x, (((w.alloc (.cells ROW 256)).drew.setCells w.heap.size (i * 2) (row (s, m))).drew).cell? x = ((w.drew.alloc (.cells ROW 256)).setCells w.heap.size (i * 2) (row (s, m))).cell? x := fun x => rfl
  have hF2 : ∀ x, (((w.alloc (.cells ROW 256)).drew.setCells w.heap.size (i * 2) (row (s, m))).drew).frozen? x = ((w.drew.alloc (.cells ROW 256)).setCells w.heap.size (i * 2) (row (s, m))).frozen? x := fun x => rfl
  have mixed : Tryz.prog.follows Departure.mixedOrders = true := by kernel_rfl
  have hm0 : 0 < M := by omega
  have hz1 : ¬ ((M : Int) = 0) := by omega
  have hz2 : ¬ ((i : Int) = (n : Int)) := by omega
  have hz3 : (cap : Int) < (n : Int) + (M : Int) := by omega
  have hG63 : G ≤ 9223372036854775807 := by unfold maxLen at hGm; omega
  have hn63 : (n + M) * 24 ≤ 140737488355328 := by omega
  have hGi : ¬ (G = i) := by omega
  have hGim : ¬ (G = i + M) := by omega
  have hci : ¬ (cap = i) := by omega
  have hb1 : (0 : Int) ≤ (i : Int) + (M : Int) := by omega
  have hin : i ≤ n := by omega
  have hw1 : IntKind.i64.wrap ((i : Int) + (M : Int)) = (i : Int) + (M : Int) := by rw [IntKind.wrap_i64]; omega
  have htn : ((i : Int) + (M : Int)).toNat = i + M := by omega
  have hb3 : (i : Int) ≤ (n : Int) := by omega
  clear hkk hik hold hROW hG hRs hRt htl c1 c2 hs1 hv1 h1g h1o hgg hcur hnews holds holen htk hcs hcm hlen hv hn hM hl hgb hl0 hi0 hz0 hzs hzb hGm hvl hgl hgN hbase
  go_enter Tryz.func212, Tryz.ntmps212
  go_wp2_with (first
    | (at_builtin; refine wpList_append_eqz rfl _ _ 127 3 rfl _ rfl _ _ rfl rfl _ _ (hrz _) ?_)
    | (at_builtin; refine wpList_copy_eq _ rfl _ _ 127 127 rfl _ _ rfl rfl (hcpA _ hE1 hE2 _ _) ?_)
    | (at_builtin; refine wpList_copy_eq _ rfl _ _ 127 127 rfl _ _ rfl rfl (hcpB _ (fun _ => rfl) (fun _ => rfl) _ _ _) ?_))
  go_region_law_o (refine step_copy_eq rfl _ _ 127 127 rfl (.slice (some ⟨w.heap.size, (i + M) * 2, none⟩) (n + M - (i + M)) (G - (i + M))) (.slice (some ⟨g, i * 2, none⟩) (n - i) (cap - i)) (by simp [Act.eval, Act.put]) (by simp [Act.eval, Act.put]) (hcpB _ hF1 hF2 3 (G - (i + M)) (cap - i)) ?_)
  go_wp2
  go_ret
  exact ⟨_, rfl, F.out _ rfl⟩
theorem insert_any (base : Nat) (v : Value) (n i : Nat) (es : Ents) (s : ByteArray) (m : Int) (vb : Nat) (w : World) (hn : es.length = n) (hown : w.ownsRow base 256 2 v n (rowsOf row es)) (hi : i ≤ n) (hvb : some vb ≠ v.ownBlock)
    (hv : w.heap[vb]? = some (.cells #[.string s, .int .i64 m] 256)) (hl : n < 1000) (hbase : base ≤ w.heap.size) :
    Calls Tryz.prog 212 #[v, .int .i64 (i : Int), .slice (some ⟨vb, 0, none⟩) 1 1] w fun e w' => ∃ v', e = .returned v' ∧ Ins base w w' v v' (n + 1) (es.take i ++ (s, m) :: es.drop i) := by
  by_cases he : i = n
  · subst he
    refine (insert_end base v i es s m vb w hn hown hv hl hbase).mono ?_
    rintro e w' ⟨v', rfl, h⟩
    refine ⟨v', rfl, ?_⟩
    rw [← hn, List.take_length, List.drop_length] at *
    exact h
  · have hown2 := hown
    obtain ⟨-, ⟨rfl, hz⟩ | ⟨g, cap, cur, rfl, _, _, h1, _⟩⟩ := hown
    · omega
    · by_cases hr : n + 1 ≤ cap
      · exact insert_shift base g n cap i es s m vb w hn hown2 (by omega) 1 rfl hr (fun e => hvb (by rw [e]; rfl)) hv hl
      · exact insert_grow base g n cap i es s m vb w hn hown2 (by omega) 1 rfl (by omega) hv hl hbase
end Go.Proofs.YtlngeaacjbdmhaaGreat

namespace Go.Proofs.YtlngeaacjbdmhaaGreat
open Go.RowKit
attribute [local go_sem ↓] Go.wp_at_zero Go.wp_at_succ
def Ro (lo : Nat) (W : World) (v : Value) (es : Ents) : Prop := W.ownsRow lo 256 2 v es.length (rowsOf row es)
theorem Ro.below {lo : Nat} {W W' : World} {v : Value} {es : Ents} (h : Ro lo W v es) (g : Below W.heap.size W W') : Ro lo W' v es := own_keep h fun k _ e => g.block k (lt_of_heap e)
theorem Ro.open' {lo : Nat} {W : World} {v : Value} {es : Ents} (h : Ro lo W v es) : (v = .slice none 0 0 ∧ es = []) ∨ ∃ g cap, v = .slice (some ⟨g, 0, none⟩) es.length cap ∧ es.length ≤ cap ∧ cap ≤ maxLen ∧ lo ≤ g ∧ g < W.heap.size ∧ ∀ (i : Nat) (a : ByteArray) (n : Int), es[i]? = some (a, n) → W.cell? ⟨g, i * 2, none⟩ = some (.string a) ∧ W.cell? ⟨g, i * 2 + 1, none⟩ = some (.int .i64 n) := by
  obtain ⟨hl, ⟨rfl, hz⟩ | ⟨g, cap, cur, rfl, hgb, hgg, hcap, hcm, hcs, htk⟩⟩ := h
  · exact .inl ⟨rfl, List.eq_nil_of_length_eq_zero hz⟩
  · refine .inr ⟨g, cap, rfl, hcap, hcm, hgb, lt_of_heap hgg, fun i a n hi => ?_⟩
    obtain ⟨h1, h2⟩ := rows_at es i a n hi
    have hi2 := (List.getElem?_eq_some_iff.1 hi).1
    refine ⟨?_, ?_⟩
    · rw [cell_of hgg, ← h1, ← htk, List.getElem?_take_of_lt (by omega)]; simp
    · rw [cell_of hgg, ← h2, ← htk, List.getElem?_take_of_lt (by omega)]; simp
theorem pos_of {es : Ents} {s : ByteArray} (hs : Srt es) {i : Nat} (hi : i ≤ es.length) (h1 : ∀ k e, k < i → es[k]? = some e → cmpS e.1 s < 0) (h2 : ∀ k e, i ≤ k → es[k]? = some e → ¬ cmpS e.1 s < 0) : pos es s = i := by
  obtain ⟨g1, g2⟩ := hs.pos_split s
  have hp := pos_le es s
  rcases Nat.lt_trichotomy (pos es s) i with h | h | h
  · exfalso
    have hl : pos es s < es.length := by omega
    have := h1 (pos es s) _ h (List.getElem?_eq_getElem hl)
    exact g2 _ (by rw [List.drop_eq_getElem_cons hl]; exact List.mem_cons_self) this
  · exact h
  · exfalso
    have hl : i < es.length := by omega
    refine h2 i _ (Nat.le_refl _) (List.getElem?_eq_getElem hl) (g1 _ ?_)
    have : es[i] = (es.take (pos es s))[i]'(by simp; omega) := by simp
    rw [this]
    exact List.getElem_mem _
def Bd (es : Ents) (s : ByteArray) (x y : Nat) : Prop := (∀ k e, k < x → es[k]? = some e → cmpS e.1 s < 0) ∧ ∀ k e, y ≤ k → es[k]? = some e → ¬ cmpS e.1 s < 0
theorem fwd_of {es : Ents} {s : ByteArray} {x y m : Nat} {a : ByteArray} {n : Int} (hs : Srt es) (hE : es[m]? = some (a, n)) (hI : Bd es s x y) (hc : cmpS a s < 0) : Bd es s (m + 1) y :=
  ⟨fun k e hk he => by
    rcases Nat.lt_or_eq_of_le (Nat.le_of_lt_succ hk) with hk | rfl
    · exact cmpS_trans (hs.get hk he hE) hc
    · rw [hE] at he; cases he; exact hc, hI.2⟩
theorem bwd_of {es : Ents} {s : ByteArray} {x y m : Nat} {a : ByteArray} {n : Int} (hs : Srt es) (hE : es[m]? = some (a, n)) (hI : Bd es s x y) (hc : 0 ≤ cmpS a s) : Bd es s x m :=
  ⟨hI.1, fun k e hk he h' => by
    rcases Nat.lt_or_eq_of_le hk with hk | rfl
    · have h2 : cmpS a s < 0 := cmpS_trans (hs.get hk hE he) h'
      omega
    · rw [hE] at he; cases he; simp at h'; omega⟩
set_option maxRecDepth 100000 in
set_option maxHeartbeats 2000000 in
theorem search_any {lo : Nat} {W : World} {v : Value} {es : Ents} (h : Ro lo W v es) (hs : Srt es) (hn : es.length < 1000) (s : ByteArray) :
    Calls Tryz.prog 274 #[v, .string s, .func (.func 275) #[] #[]] W fun e w' => e = .returned (.tuple #[.int .i64 (pos es s : Nat), .bool (getE es s).isSome]) ∧ Below W.heap.size W w' := by
  obtain ⟨N, hN⟩ : ∃ N, N = es.length := ⟨_, rfl⟩
  obtain ⟨P, hP⟩ : ∃ P, P = pos es s := ⟨_, rfl⟩
  obtain ⟨fin, hfin⟩ : ∃ fin, fin = (getE es s).isSome := ⟨_, rfl⟩
  rw [← hP, ← hfin]
  have n1 : (N : Int) < 1000 := by omega
  have hPl : P ≤ N := by rw [hP, hN]; exact pos_le _ _
  have HH := hide h
  have HS := hide hs
  have HN := hide hN
  have HP := hide hP
  have HF := hide hfin
  rcases h.open' with ⟨rfl, hz⟩ | ⟨g, cap, rfl, hcap, hcm, hlo, hgl, hcells⟩
  · have h0 : N = 0 := by rw [hN, hz]; rfl
    have hp0 : P = 0 := by omega
    have hf0 : fin = false := by rw [hfin, hz]; rfl
    subst hp0 hf0
    clear h hs hN hP hfin hz HH HS HN HP HF h0 hPl n1 hn
    go_enter Tryz.func274, Tryz.ntmps274
    go_wp2_with fail
    go_loopw [9, 10] (fun a b wr => a = .int .i64 0 ∧ b = .int .i64 0 ∧ wr = W) (fun _ _ _ => 0)
    case atStart => exact ⟨rfl, rfl, rfl⟩
    case round =>
      obtain ⟨rfl, rfl, rfl⟩ := hrel
      go_wp2_with fail
      go_ret2
      exact ⟨rfl, Below.refl _ _⟩
  · rw [← hN]
    have hmx : cap ≤ 9223372036854775807 := by unfold maxLen at hcm; omega
    have HC := hide hcells
    have hcN : (N : Int) ≤ (cap : Int) := by omega
    clear h hs hN hP hfin hcells hcm hn
    go_enter Tryz.func274, Tryz.ntmps274
    go_wp2_with fail
    go_loopw [9, 10] (fun a b wr => ∃ x y : Nat, a = .int .i64 (x : Int) ∧ b = .int .i64 (y : Int) ∧ x ≤ y ∧ y ≤ N ∧ Hid (Below W.heap.size W wr) ∧ Hid (Bd es s x y)) (fun a b _ => (intOf b).toNat - (intOf a).toNat)
    case atStart => exact ⟨0, N, rfl, rfl, Nat.zero_le _, Nat.le_refl _, Below.refl _ _, (⟨fun k e hk => absurd hk (Nat.not_lt_zero _), fun k e hk he => by have := (List.getElem?_eq_some_iff.1 he).1; have := unhide HN; omega⟩ : Bd es s 0 N)⟩
    case round =>
      obtain ⟨x, y, rfl, rfl, hxy, hyN, HB, HI⟩ := hrel
      by_cases hlt : x < y
      · obtain ⟨m, hm⟩ : ∃ m : Nat, m = (x + y) / 2 := ⟨_, rfl⟩
        have m1 : x ≤ m := by omega
        have m2 : m < y := by omega
        have hmN : m < es.length := by have := unhide HN; omega
        obtain ⟨⟨a, n⟩, he⟩ : ∃ e, es[m]? = some e := ⟨_, List.getElem?_eq_getElem hmN⟩
        obtain ⟨k1, k2⟩ := unhide HC m a n he
        have hgw := (unhide HB).block g hgl
        have c1 : wr.cell? ⟨g, m * 2, none⟩ = some (.string a) := by rw [cell_same hgw]; exact k1
        have c2 : wr.cell? ⟨g, m * 2 + 1, none⟩ = some (.int .i64 n) := by rw [cell_same hgw]; exact k2
        have hmi : ((x : Int) + (y : Int)) / 2 = (m : Int) := by omega
        have m3 : (m : Int) < (N : Int) := by omega
        have HM := hide hm
        have HE := hide he
        clear k1 k2 hgw he hm hmN
        obtain ⟨c, hc⟩ : ∃ c, c = cmpS a s := ⟨_, rfl⟩
        have HCC := hide hc
        have cmp := fun w => (place1_any a n s w)
        rw [← hc] at cmp
        have H1 := hide cmp
        clear hc cmp hcap HH hlo
        by_cases hyx : c < 0
        · go_wp2_with (go_at_call 275; refine (unhide H1 _).mono ?_; rintro e w' ⟨rfl, rfl⟩)
          go_roundw
          case measure => simp [intOf]; omega
          case rel => exact ⟨m + 1, y, by simp, rfl, by omega, hyN, (unhide HB).alloc (unhide HB).size _, fwd_of (unhide HS) (unhide HE) (unhide HI) (by rw [← unhide HCC]; exact hyx)⟩
        · have hy0 : 0 ≤ c := by omega
          have HY := hide hy0
          have hyb : (decide (c < 0)) = false := by simp; omega
          have HM1 := hide m1
          have HM2 := hide m2
          have HXY := hide hxy
          have HLT := hide hlt
          have hx6 : (x : Int) < 1000 := by omega
          have hy6 : (y : Int) < 1000 := by omega
          have HYN := hide hyN
          clear m1 m2 hxy hlt hyN hy0
          go_wp2_with (go_at_call 275; refine (unhide H1 _).mono ?_; rintro e w' ⟨rfl, rfl⟩)
          go_roundw
          case measure => have := unhide HM2; have := unhide HM1; simp [intOf]; omega
          case rel => exact ⟨x, m, rfl, rfl, unhide HM1, by have := unhide HM2; have := unhide HYN; omega, (unhide HB).alloc (unhide HB).size _, bwd_of (unhide HS) (unhide HE) (unhide HI) (by rw [← unhide HCC]; exact unhide HY)⟩
      · obtain rfl : x = y := by omega
        have hpx : P = x := by rw [unhide HP]; exact pos_of (unhide HS) (by have := unhide HN; omega) (unhide HI).1 (unhide HI).2
        have hfx := ((unhide HS).at_pos s).1
        rw [← unhide HP, ← unhide HF, ← unhide HN, hpx] at hfx
        subst hpx
        clear hlt hxy hcap HH hlo
        by_cases hz : P < N
        · have hmN : P < es.length := by have := unhide HN; omega
          obtain ⟨⟨a, n⟩, he⟩ : ∃ e, es[P]? = some e := ⟨_, List.getElem?_eq_getElem hmN⟩
          obtain ⟨k1, k2⟩ := unhide HC P a n he
          have hgw := (unhide HB).block g hgl
          have c1 : wr.cell? ⟨g, P * 2, none⟩ = some (.string a) := by rw [cell_same hgw]; exact k1
          have c2 : wr.cell? ⟨g, P * 2 + 1, none⟩ = some (.int .i64 n) := by rw [cell_same hgw]; exact k2
          have hz2 : (P : Int) < (N : Int) := by omega
          rw [he] at hfx
          have hdc : decide (a = s) = decide (cmpS a s = 0) := by
            by_cases h : a = s
            · subst h; simp [cmpS_refl]
            · have : ¬ cmpS a s = 0 := fun e => h (cmpS_eq e)
              simp [h, this]
          simp only [hz, decide_true, Bool.true_and, hdc] at hfx
          obtain ⟨c, hc⟩ : ∃ c, c = cmpS a s := ⟨_, rfl⟩
          rw [← hc] at hfx
          have cmp := fun w => (place1_any a n s w)
          rw [← hc] at cmp
          have H1 := hide cmp
          have HFX := hide hfx
          clear hc cmp hfx hdc he hmN k1 k2 hgw
          by_cases hc0 : c = 0
          · subst hc0
            go_wp2_with (go_at_call 275; refine (unhide H1 _).mono ?_; rintro e w' ⟨rfl, rfl⟩)
            go_ret2
            exact ⟨by rw [unhide HFX]; rfl, (unhide HB).alloc (unhide HB).size _⟩
          · go_wp2_with (go_at_call 275; refine (unhide H1 _).mono ?_; rintro e w' ⟨rfl, rfl⟩)
            go_ret2
            exact ⟨by rw [unhide HFX]; simp [hc0], (unhide HB).alloc (unhide HB).size _⟩
        · obtain rfl : P = N := by omega
          simp at hfx
          subst hfx
          clear hz
          go_wp2_with fail
          go_ret2
          exact ⟨rfl, unhide HB⟩
end Go.Proofs.YtlngeaacjbdmhaaGreat

namespace Go.Proofs.YtlngeaacjbdmhaaGreat
open Go.RowKit Go.Maps
def sumF (n : Nat) (f : Nat → Nat) : Nat := match n with | 0 => 0 | n + 1 => sumF n f + f n
theorem sumF_congr {n : Nat} {f g : Nat → Nat} (h : ∀ k, k < n → f k = g k) : sumF n f = sumF n g := by
  induction n with
  | zero => rfl
  | succ n ih => simp only [sumF]; rw [ih fun k hk => h k (by omega), h n (by omega)]
theorem sumF_set {n i : Nat} {f g : Nat → Nat} (hi : i < n) (h : ∀ k, k < n → k ≠ i → f k = g k) : sumF n f + g i = sumF n g + f i := by
  induction n with
  | zero => omega
  | succ n ih =>
    simp only [sumF]
    by_cases e : i = n
    · subst e
      rw [sumF_congr fun k hk => h k (by omega) (by omega)]
      omega
    · have := ih (by omega) fun k hk hne => h k (by omega) hne
      have := h n (by omega) (by omega)
      omega
theorem sumF_le {n i : Nat} {f : Nat → Nat} (hi : i < n) : f i ≤ sumF n f := by
  induction n with
  | zero => omega
  | succ n ih =>
    simp only [sumF]
    by_cases e : i = n
    · subst e; omega
    · have := ih (by omega)
      omega
def cnt1 (o : Option Nd) (n : Int) : Nat := match o with | some x => x.ins.countP (fun e => decide (e.2 = n)) | none => 0
def Tr.cntE (T : Tr) (n : Int) : Nat := sumF (T.made + 1) fun k => cnt1 (T.nd (k : Int)) n
structure Wk (B : Nat) (T : Tr) : Prop where
  key : ∀ n x, T.nd n = some x → 1 ≤ n ∧ n ≤ T.made
  srt : ∀ n x, T.nd n = some x → Srt x.ins
  liv : ∀ n x, T.nd n = some x → ∀ e ∈ x.ins, (T.nd e.2).isSome = true
  made : T.made ≤ B
  bnd : ∀ n x, T.nd n = some x → x.names ≤ B ∧ x.holds ≤ B ∧ x.ins.length ≤ B
  nam : ∀ n x, T.nd n = some x → ∀ e ∈ x.ins, e.1.size ≤ 255
  txt : ∀ n x, T.nd n = some x → x.text.size ≤ 281474976710656
  fil : ∀ n x, T.nd n = some x → 0 ≤ x.file ∧ x.file ≤ B ∧ (x.kind ≠ 2 → x.file = 0)
  knd : ∀ n x, T.nd n = some x → 1 ≤ x.kind ∧ x.kind ≤ 3
  upw : ∀ n x, T.nd n = some x → 0 ≤ x.up ∧ x.up ≤ B
  num : ∀ n x, T.nd n = some x → x.names = T.cntE n + if n = 1 then 1 else 0
  pol : T.pool.fs.length ≤ B
  mst : T.most ≤ 64
theorem Wk.mono {B B' : Nat} {T : Tr} (h : Wk B T) (hb : B ≤ B') : Wk B' T :=
  ⟨h.key, h.srt, h.liv, Nat.le_trans h.made hb, fun n x hn => ⟨Nat.le_trans (h.bnd n x hn).1 hb, Nat.le_trans (h.bnd n x hn).2.1 hb, Nat.le_trans (h.bnd n x hn).2.2 hb⟩, h.nam, h.txt, fun n x hn => ⟨(h.fil n x hn).1, by have := (h.fil n x hn).2.1; omega, (h.fil n x hn).2.2⟩, h.knd, fun n x hn => ⟨(h.upw n x hn).1, by have := (h.upw n x hn).2; omega⟩, h.num, Nat.le_trans h.pol hb, h.mst⟩
theorem Wk.wf {B : Nat} {T : Tr} (h : Wk B T) (hB : B ≤ 900) {n : Int} {x : Nd} (hn : T.nd n = some x) : (kl n).wf = true := wf_of (by have := h.key n x hn; have := h.made; omega)
theorem Wk.ent {B : Nat} {T : Tr} (h : Wk B T) {n : Int} {x : Nd} (hn : T.nd n = some x) {e : Ent} (he : e ∈ x.ins) : ∃ y, T.nd e.2 = some y := Option.isSome_iff_exists.1 (h.liv n x hn e he)
theorem cntE_pos {B : Nat} {T : Tr} (h : Wk B T) {d : Int} {x : Nd} (hd : T.nd d = some x) {e : Ent} (he : e ∈ x.ins) : 0 < T.cntE e.2 := by
  obtain ⟨h1, h2⟩ := h.key d x hd
  have := sumF_le (n := T.made + 1) (i := d.toNat) (f := fun k => cnt1 (T.nd (k : Int)) e.2) (by omega)
  rw [show ((d.toNat : Nat) : Int) = d by omega, hd] at this
  have h3 : 0 < cnt1 (some x) e.2 := by
    simp only [cnt1]
    exact List.countP_pos_iff.2 ⟨e, he, by simp⟩
  simp only [Tr.cntE]
  omega
theorem Wk.sup {B : Nat} {T : Tr} (h : Wk B T) (k : Int) (e : (T.nd k).isSome = true) : 0 ≤ k ∧ k < ((T.made + 1 : Nat) : Int) := by
  obtain ⟨x, hx⟩ := Option.isSome_iff_exists.1 e
  have := h.key k x hx
  omega
end Go.Proofs.YtlngeaacjbdmhaaGreat

namespace Go.Proofs.YtlngeaacjbdmhaaGreat
open Go.RowKit Go.Maps
structure Tx (lo : Nat) (W W' : World) : Prop where
  bel : Below lo W W'
  oth : ∀ (b : Nat) (cs : Array Value) (t : TypeId) (f : Nat × Nat), W.heap[b]? = some (.cells cs t f) → t ≠ 202 → t ≠ 261 → t ≠ 125 → t ≠ 129 → t ≠ 256 → W'.heap[b]? = some (.cells cs t f)
theorem Tx.of_below {lo : Nat} {W W' : World} (h : Below W.heap.size W W') (hb : lo ≤ W.heap.size) : Tx lo W W' := ⟨h.mono hb, fun b _ _ _ hb' _ _ _ _ _ => (h.block b (lt_of_heap hb')).trans hb'⟩
theorem Tx.refl {lo : Nat} {W : World} (hb : lo ≤ W.heap.size) : Tx lo W W := .of_below (Below.refl _ _) hb
theorem Tx.trans {lo : Nat} {u v w : World} (h : Tx lo u v) (g : Tx lo v w) : Tx lo u w := ⟨h.bel.trans g.bel, fun b cs t f e h1 h2 h3 h4 h5 => g.oth b cs t f (h.oth b cs t f e h1 h2 h3 h4 h5) h1 h2 h3 h4 h5⟩
theorem Tx.of_nx {base : Bse} {W W' : World} (h : Nx base W W') : Tx base.lo W W' := ⟨h.bel, fun b cs t f e h1 h2 _ _ _ => h.oth b cs t f e h1 h2⟩
theorem Tx.size {lo : Nat} {W W' : World} (h : Tx lo W W') : W.heap.size ≤ W'.heap.size := h.bel.size
structure Fn (b : Nat) (o : Option Nat) (w w' : World) : Prop where
  os : w'.os = w.os
  tape : w'.tape = w.tape
  output : w'.output = w.output
  size : w.heap.size ≤ w'.heap.size
  blk : ∀ k, k < w.heap.size → k ≠ b → some k ≠ o → w'.heap[k]? = w.heap[k]?
theorem Fn.of_below {b : Nat} {o : Option Nat} {w w' : World} (h : Below w.heap.size w w') : Fn b o w w' := ⟨h.os, h.tape, h.output, h.size, fun k hk _ _ => h.block k hk⟩
theorem Fn.refl (b : Nat) (o : Option Nat) (w : World) : Fn b o w w := .of_below (Below.refl _ _)
theorem Fn.trans {b : Nat} {o : Option Nat} {u v w : World} (h : Fn b o u v) (g : Fn b o v w) : Fn b o u w := ⟨g.os.trans h.os, g.tape.trans h.tape, g.output.trans h.output, Nat.le_trans h.size g.size, fun k hk h1 h2 => (g.blk k (Nat.lt_of_lt_of_le hk h.size) h1 h2).trans (h.blk k hk h1 h2)⟩
theorem Fn.set {b : Nat} {o : Option Nat} {u w : World} (h : Fn b o u w) (i : Nat) (v : Value) : Fn b o u (w.setCell ⟨b, i, none⟩ v) :=
  ⟨h.os, h.tape, h.output, by have := h.size; simp [World.setCell]; exact this, fun k hk h1 h2 => (Below.heap_setCell _ _ _ _ h1).trans (h.blk k hk h1 h2)⟩
theorem Fn.grown {b : Nat} {o : Option Nat} {u w w' : World} (h : Fn b o u w) (g : w.grownBy w' o) : Fn b o u w' :=
  ⟨g.os.trans h.os, g.tape.trans h.tape, g.output.trans h.output, Nat.le_trans h.size g.size, fun k hk h1 h2 => (g.block k (Nat.lt_of_lt_of_le hk h.size) h2).trans (h.blk k hk h1 h2)⟩
theorem Fn.drew {b : Nat} {o : Option Nat} {u w : World} (h : Fn b o u w) : Fn b o u w.drew := ⟨h.os, h.tape, h.output, h.size, h.blk⟩
def ndC (x : Nd) (v : Value) : Array Value := #[I x.kind, I x.mode, I x.uid, I x.gid, I (x.names : Int), I (x.holds : Int), I x.up, v, I x.file, .string x.text]
structure TrI (lo N : Nat) (W : World) (t : Nat) (T : Tr) (q p : Nat) (nb : Int → Nat) (ev : Int → Value) : Prop where
  ht : W.heap[t]? = some (.cells #[I (T.most : Int), I (T.made : Int), .map (some q), P0 p] 125)
  hm : Mp W q (T.made + 1) (fun k => if (T.nd k).isSome = true then some (P0 (nb k)) else none)
  hn : ∀ k x, T.nd k = some x → W.heap[nb k]? = some (.cells (ndC x (ev k)) 129) ∧ Ro lo W (ev k) x.ins
  dn : ∀ j k x y, T.nd j = some x → T.nd k = some y → j ≠ k → nb j ≠ nb k ∧ ((ev j).ownBlock = none ∨ (ev j).ownBlock ≠ (ev k).ownBlock)
  pl : Pl ⟨lo, fun b => b = q⟩ N W p T.pool
  bd : lo ≤ t ∧ lo ≤ q ∧ lo ≤ W.heap.size ∧ ∀ k x, T.nd k = some x → lo ≤ nb k
def Tp (lo N : Nat) (W : World) (t : Nat) (T : Tr) : Prop := ∃ q p nb ev, TrI lo N W t T q p nb ev
theorem Ro.blk {lo : Nat} {W : World} {v : Value} {es : Ents} (h : Ro lo W v es) {g : Nat} (e : v.ownBlock = some g) : lo ≤ g ∧ ∃ cur, W.heap[g]? = some (.cells cur 256) := by
  obtain ⟨-, ⟨rfl, _⟩ | ⟨g', cap, cur, rfl, hgb, hgg, _⟩⟩ := h
  · simp [Value.ownBlock] at e
  · simp [Value.ownBlock] at e
    subst e
    exact ⟨hgb, cur, hgg⟩
theorem Ro.same {lo : Nat} {W W' : World} {v : Value} {es : Ents} (h : Ro lo W v es) (hb : ∀ g, v.ownBlock = some g → W'.heap[g]? = W.heap[g]?) : Ro lo W' v es := by
  obtain ⟨hl, h1 | ⟨g, cap, cur, rfl, hgb, hgg, hr⟩⟩ := h
  · exact ⟨hl, .inl h1⟩
  · exact ⟨hl, .inr ⟨g, cap, cur, rfl, hgb, (hb g rfl).trans hgg, hr⟩⟩
section
variable {lo N : Nat} {W W' : World} {t : Nat} {T : Tr} {q p : Nat} {nb : Int → Nat} {ev : Int → Value}
theorem TrI.cells (h : TrI lo N W t T q p nb ev) : W.cell? ⟨t, 0, none⟩ = some (I (T.most : Int)) ∧ W.cell? ⟨t, 1, none⟩ = some (I (T.made : Int)) ∧ W.cell? ⟨t, 2, none⟩ = some (.map (some q)) ∧ W.cell? ⟨t, 3, none⟩ = some (P0 p) ∧ ∀ i, W.frozen? ⟨t, i, none⟩ = false :=
  ⟨by rw [cell_of h.ht]; rfl, by rw [cell_of h.ht]; rfl, by rw [cell_of h.ht]; rfl, by rw [cell_of h.ht]; rfl, frozen_of h.ht⟩
theorem ndcells {b : Nat} {x : Nd} {v : Value} (h : W.heap[b]? = some (.cells (ndC x v) 129)) : W.cell? ⟨b, 0, none⟩ = some (I x.kind) ∧ W.cell? ⟨b, 1, none⟩ = some (I x.mode) ∧ W.cell? ⟨b, 2, none⟩ = some (I x.uid) ∧ W.cell? ⟨b, 3, none⟩ = some (I x.gid) ∧ W.cell? ⟨b, 4, none⟩ = some (I (x.names : Int)) ∧ W.cell? ⟨b, 5, none⟩ = some (I (x.holds : Int)) ∧ W.cell? ⟨b, 6, none⟩ = some (I x.up) ∧ W.cell? ⟨b, 7, none⟩ = some v ∧ W.cell? ⟨b, 8, none⟩ = some (I x.file) ∧ W.cell? ⟨b, 9, none⟩ = some (.string x.text) ∧ ∀ i, W.frozen? ⟨b, i, none⟩ = false := by
  refine ⟨?_, ?_, ?_, ?_, ?_, ?_, ?_, ?_, ?_, ?_, frozen_of h⟩ <;> (rw [cell_of h]; rfl)
theorem TrI.below (h : TrI lo N W t T q p nb ev) (g : Below W.heap.size W W') : TrI lo N W' t T q p nb ev :=
  ⟨(g.block t (lt_of_heap h.ht)).trans h.ht, h.hm.below g, fun k x hk => ⟨(g.block _ (lt_of_heap (h.hn k x hk).1)).trans (h.hn k x hk).1, (h.hn k x hk).2.below g⟩, h.dn, h.pl.below g, ⟨h.bd.1, h.bd.2.1, Nat.le_trans h.bd.2.2.1 g.size, h.bd.2.2.2⟩⟩
theorem Tp.below (h : Tp lo N W t T) (g : Below W.heap.size W W') : Tp lo N W' t T := let ⟨q, p, nb, ev, h⟩ := h; ⟨q, p, nb, ev, h.below g⟩
theorem Tp.alloc (h : Tp lo N W t T) (o : Obj) : Tp lo N (W.alloc o) t T := h.below ((Below.refl _ W).alloc (Nat.le_refl _) o)
theorem Tp.lo_le (h : Tp lo N W t T) : lo ≤ W.heap.size := let ⟨_, _, _, _, h⟩ := h; h.bd.2.2.1
theorem Tp.keep (h : Tp lo N W t T) (hs : W.heap.size ≤ W'.heap.size) (hm : ∀ (b : Nat) (es : Array MapEntry) (k : Nat), W.heap[b]? = some (.map es k) → W'.heap[b]? = W.heap[b]?)
    (hc : ∀ (b : Nat) (cs : Array Value) (t : TypeId) (f : Nat × Nat), W.heap[b]? = some (.cells cs t f) → t = 202 ∨ t = 261 ∨ t = 125 ∨ t = 129 ∨ t = 256 → W'.heap[b]? = W.heap[b]?) : Tp lo N W' t T := by
  obtain ⟨q, p, nb, ev, h⟩ := h
  refine ⟨q, p, nb, ev, (hc _ _ _ _ h.ht (by simp)).trans h.ht, h.hm.same ?_, fun k x hk => ⟨(hc _ _ _ _ (h.hn k x hk).1 (by simp)).trans (h.hn k x hk).1, (h.hn k x hk).2.same fun g hg => ?_⟩, h.dn, h.pl.keep hs hm fun b cs t f e ht => hc b cs t f e (by rcases ht with ht | ht <;> simp [ht]), ⟨h.bd.1, h.bd.2.1, Nat.le_trans h.bd.2.2.1 hs, h.bd.2.2.2⟩⟩
  · obtain ⟨D, ⟨es, k, h1, _⟩, _⟩ := h.hm
    exact hm q es k h1
  · obtain ⟨_, cur, hc'⟩ := (h.hn k x hk).2.blk hg
    exact hc _ _ _ _ hc' (by simp)
theorem TrI.own (h : TrI lo N W t T q p nb ev) {k : Int} {x : Nd} (hk : T.nd k = some x) {b : Nat} {cs : Array Value} {ty : TypeId} {f : Nat × Nat} (hb : W.heap[b]? = some (.cells cs ty f)) (ht : ty ≠ 256) : some b ≠ (ev k).ownBlock := fun e => by
  obtain ⟨_, cur, hc⟩ := (h.hn k x hk).2.blk e.symm
  rw [hc] at hb
  cases hb
  exact ht rfl
theorem TrI.ownm (h : TrI lo N W t T q p nb ev) {k : Int} {x : Nd} (hk : T.nd k = some x) {b : Nat} {es : Array MapEntry} {c : Nat} (hb : W.heap[b]? = some (.map es c)) : b ≠ nb k ∧ some b ≠ (ev k).ownBlock := by
  refine ⟨fun e => ?_, fun e => ?_⟩
  · rw [e, (h.hn k x hk).1] at hb; cases hb
  · obtain ⟨_, cur, hc⟩ := (h.hn k x hk).2.blk e.symm
    rw [hc] at hb; cases hb
theorem TrI.turn (h : TrI lo N W t T q p nb ev) {n : Int} {x y : Nd} {v : Value} (hx : T.nd n = some x) (F : Fn (nb n) (ev n).ownBlock W W') (hy : W'.heap[nb n]? = some (.cells (ndC y v) 129)) (hr : Ro lo W' v y.ins)
    (hv : v.ownBlock = (ev n).ownBlock ∨ ∃ g, v.ownBlock = some g ∧ W.heap.size ≤ g) : TrI lo N W' t (T.set n (some y)) q p nb (fun k => if k = n then v else ev k) ∧ Tx lo W W' := by
  obtain ⟨hb, hro⟩ := h.hn n x hx
  have hsome : ∀ k, ((T.set n (some y)).nd k).isSome = (T.nd k).isSome := fun k => by
    by_cases e : k = n
    · subst e; simp [Tr.set, hx]
    · simp [Tr.set, e]
  have hkeep : ∀ (b : Nat) (cs : Array Value) (ty : TypeId) (f : Nat × Nat), W.heap[b]? = some (.cells cs ty f) → ty ≠ 129 → ty ≠ 256 → W'.heap[b]? = W.heap[b]? := fun b cs ty f e h1 h2 =>
    F.blk b (lt_of_heap e) (fun e2 => by rw [e2, hb] at e; cases e; exact h1 rfl) (h.own hx e h2)
  have hkm : ∀ (b : Nat) (es : Array MapEntry) (c : Nat), W.heap[b]? = some (.map es c) → W'.heap[b]? = W.heap[b]? := fun b es c e => F.blk b (lt_of_heap e) (h.ownm hx e).1 (h.ownm hx e).2
  have hbel : Below lo W W' := ⟨F.os, F.tape, F.output, F.size, fun k hk => F.blk k (Nat.lt_of_lt_of_le hk h.bd.2.2.1) (fun e => by have := h.bd.2.2.2 n x hx; omega) fun e => by have := (hro.blk e.symm).1; omega⟩
  refine ⟨⟨?_, ?_, ?_, ?_, ?_, ?_⟩, ⟨hbel, fun b cs ty f e _ _ _ h4 h5 => (hkeep b cs ty f e h4 h5).trans e⟩⟩
  · exact (hkeep _ _ _ _ h.ht (by decide) (by decide)).trans h.ht
  · refine (h.hm.same ?_).congr fun k => by rw [hsome]
    obtain ⟨D, ⟨es, k, h1, _⟩, _⟩ := h.hm
    exact hkm q es k h1
  · intro k z hz
    by_cases e : k = n
    · subst e
      rw [Tr.set_same] at hz
      cases hz
      simp only [if_pos]
      exact ⟨hy, hr⟩
    · rw [Tr.set_other _ _ e] at hz
      simp only [if_neg e]
      obtain ⟨d1, d2⟩ := h.dn k n z x hz hx e
      refine ⟨(F.blk _ (lt_of_heap (h.hn k z hz).1) d1 (h.own hx (h.hn k z hz).1 (by decide))).trans (h.hn k z hz).1, (h.hn k z hz).2.same fun g hg => ?_⟩
      obtain ⟨_, cur, hc⟩ := (h.hn k z hz).2.blk hg
      refine F.blk g (lt_of_heap hc) (fun e2 => by rw [e2, hb] at hc; cases hc) ?_
      rcases d2 with d2 | d2
      · rw [hg] at d2; cases d2
      · rw [← hg]; exact d2
  · intro j k z u hz hu hjk
    have old : ∀ i w', T.nd i = some w' → i ≠ n → (ev i).ownBlock = none ∨ (ev i).ownBlock ≠ v.ownBlock := fun i w' hi hin => by
      rcases hv with hv | ⟨g, hv, hg⟩
      · rw [hv]; exact (h.dn i n w' x hi hx hin).2
      · right
        intro e
        obtain ⟨_, cur, hc⟩ := (h.hn i w' hi).2.blk (e.trans hv)
        have := lt_of_heap hc
        omega
    by_cases e : j = n
    · by_cases e2 : k = n
      · exact absurd (e.trans e2.symm) hjk
      · rw [Tr.set_other _ _ e2] at hu
        subst e
        refine ⟨(h.dn j k x u hx hu hjk).1, ?_⟩
        simp only [if_pos, if_neg e2]
        rcases old k u hu e2 with h1 | h1
        · by_cases h2 : v.ownBlock = none
          · exact .inl h2
          · exact .inr fun e3 => h2 (e3.trans h1)
        · exact .inr (Ne.symm h1)
    · rw [Tr.set_other _ _ e] at hz
      by_cases e2 : k = n
      · subst e2
        refine ⟨(h.dn j k z x hz hx hjk).1, ?_⟩
        simp only [if_pos, if_neg e]
        exact old j z hz e
      · rw [Tr.set_other _ _ e2] at hu
        simp only [if_neg e, if_neg e2]
        exact h.dn j k z u hz hu hjk
  · exact h.pl.keep F.size hkm fun b cs ty f e ht => hkeep b cs ty f e (by rcases ht with ht | ht <;> (rw [ht]; decide)) (by rcases ht with ht | ht <;> (rw [ht]; decide))
  · refine ⟨h.bd.1, h.bd.2.1, Nat.le_trans h.bd.2.2.1 F.size, fun k z hz => ?_⟩
    by_cases e : k = n
    · subst e; exact h.bd.2.2.2 k x hx
    · rw [Tr.set_other _ _ e] at hz
      exact h.bd.2.2.2 k z hz
theorem TrI.poolT (h : TrI lo N W t T q p nb ev) {s : S} (P : Pl ⟨lo, fun b => b = q⟩ N W' p s) (nx : Nx ⟨lo, fun b => b = q⟩ W W') : TrI lo N W' t { T with pool := s } q p nb ev ∧ Tx lo W W' := by
  refine ⟨⟨nx.oth _ _ _ _ h.ht (by decide) (by decide), h.hm.same (nx.kp q rfl), fun k x hk => ⟨nx.oth _ _ _ _ (h.hn k x hk).1 (by decide) (by decide), (h.hn k x hk).2.same fun g hg => ?_⟩, h.dn, P, ⟨h.bd.1, h.bd.2.1, Nat.le_trans h.bd.2.2.1 nx.bel.size, h.bd.2.2.2⟩⟩, .of_nx nx⟩
  obtain ⟨_, cur, hc⟩ := (h.hn k x hk).2.blk hg
  exact (nx.oth _ _ _ _ hc (by decide) (by decide)).trans hc.symm
end
theorem htN : Tryz.prog.underlying 123 = some (.map 3 130) := Tryz.underlying123
theorem zeroPN (w : World) : (zeroValue 130).run Tryz.prog w = .ok (.pointer none) w := (zero_of_info (P := Tryz.prog) (t := 130) (v := .pointer none) (n := 1) (by kernel_rfl)).1 w
section
variable {lo N : Nat} {W W' : World} {t : Nat} {T : Tr} {q p : Nat} {nb : Int → Nat} {ev : Int → Value}
theorem TrI.look_ok (h : TrI lo N W t T q p nb ev) {n : Int} (hn : (kl n).wf = true) :
    (Instr.lookup 123 (.map (some q)) (I n) true).run Tryz.prog W = .ok (.tuple #[(if (T.nd n).isSome = true then P0 (nb n) else .pointer none), .bool (T.nd n).isSome]) W := by
  rw [h.hm.look_ok htN (zeroPN _) hn]
  cases (T.nd n).isSome <;> simp
theorem TrI.look (h : TrI lo N W t T q p nb ev) {n : Int} (hn : (kl n).wf = true) :
    (Instr.lookup 123 (.map (some q)) (I n) false).run Tryz.prog W = .ok (if (T.nd n).isSome = true then P0 (nb n) else .pointer none) W := by
  rw [h.hm.look htN (zeroPN _) hn]
  cases (T.nd n).isSome <;> simp
end
end Go.Proofs.YtlngeaacjbdmhaaGreat
