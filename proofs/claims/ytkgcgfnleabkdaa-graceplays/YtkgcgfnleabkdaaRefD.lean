/-
  The document's own Grace: the contract of Defer.
-/
import Derived.Test.YtkgcgfnleabkdaaRefC
namespace Go.Proofs.Ytkgcgfnleabkdaa
open Go.RowKit
attribute [local go_sem ↓] Go.wp_at_zero Go.wp_at_succ

set_option maxHeartbeats 400000 in
theorem rdefer_full (base rb rc n : Nat) (id : Int) (ss : List Int) (ps : List Pr) (w : World) (hG : Rg base w rb rc n ss ps) (hws : 16 ≤ ps.length) :
    Calls Try.prog 22 #[.pointer (some ⟨rb, 0, none⟩), .int .i64 id] w fun e w' => e = .returned (.tuple #[.bool false, .int .i64 13]) ∧ w' = w := by
  obtain ⟨a, cap, h0, h1, hf, hg, ho⟩ := hG.cells
  generalize ps.length = m at *
  have k1 : ¬ (m : Int) < 16 := by omega
  have k2 : (16 : Int) ≤ (m : Int) := by omega
  clear hG ho
  go_enter Try.func22, Try.ntmps22
  go_wp2_with fail
  go_ret2
  exact ⟨rfl, rfl⟩

/-- Is nobody of the first k inside? -/
def nz (ss : List Int) (k : Nat) : Bool := (ss.take k).all (fun s => s == 0)
theorem nz_succ {ss : List Int} {k : Nat} {s : Int} (h : ss[k]? = some s) : nz ss (k + 1) = (nz ss k && (s == 0)) := by
  simp [nz, List.take_add_one, h]
theorem nz_full {ss : List Int} {n : Nat} (hl : ss.length = n) (hn : n ≤ 8) (h0 : ∀ (k : Nat) (s : Int), ss[k]? = some s → 0 ≤ s) : nz ss n = none8 (ins ss) := by
  rw [Bool.eq_iff_iff, none8_iff]
  unfold nz
  rw [List.take_of_length_le (Nat.le_of_eq hl), List.all_eq_true]
  constructor
  · intro h k _
    cases hk : ss[k]? with
    | none => simp [ins, hk]
    | some s =>
      have := h s (List.mem_of_getElem? hk)
      simp at this
      subst this
      simp [ins, hk]
  · intro h s hs
    obtain ⟨k, hk⟩ := List.mem_iff_getElem?.1 hs
    have hkl := (List.getElem?_eq_some_iff.1 hk).1
    have h1 := h k (by omega)
    rw [ins_at hk] at h1
    have h2 := h0 k s hk
    simp at h1 ⊢
    omega
theorem made_false (n : Nat) : madeCells #[.bool false] n = (bl n fun _ => false).toArray := by
  apply Array.ext
  · simp [madeCells, bl]
  · intro i h1 h2
    simp [madeCells, Nat.mod_one, bl]
theorem info4b : (Try.prog.info? 4).map (fun i => (i.zero, i.size, i.bytes)) = some (some (.bool false), 1, 1) := by kernel_rfl
theorem info70 : (Try.prog.info? 70).map (fun i => (i.zero, i.size, i.bytes)) = some (some (.agg #[.int .i64 0, .slice none 0 0]), 2, 32) := by kernel_rfl

theorem rg_append {W W5 : World} {rb rc n : Nat} {base : Nat} {ss : List Int} {ps : List Pr} {o' : Obj} {a : Option Addr} {m cap : Nat} {a' : Option Addr} {m' cap' : Nat} {x : Wt} {g : Nat} (G : Rg base W rb rc n ss ps) (own : W.ownsRow base 70 2 (.slice a m cap) m (rowsOf (Rrow n) ps)) (hg : (W.alloc o').grownBy W5 (Value.slice a m cap).ownBlock)
    (own' : W5.ownsRow base 70 2 (.slice a' m' cap') m' (rowsOf (Rrow n) (ps ++ [(x, g)]))) (hm : (ps ++ [(x, g)]).length = m') (hgx : W.heap[g]? = some (.cells (bl n x.on).toArray 4)) (hgb : base ≤ g) (hnew : ∀ (i : Nat) (y : Wt) (g' : Nat), ps[i]? = some (y, g') → g' ≠ g) (hup : ∀ q, n ≤ q → x.on q = false) :
    Rg base (W5.setCell ⟨rb, 1, none⟩ (.slice a' m' cap')) rb rc n ss (ps ++ [(x, g)]) ∧ W5.heap[rb]? = W.heap[rb]? ∧ RFr base rb rc W (W5.setCell ⟨rb, 1, none⟩ (.slice a' m' cap')) := by
  obtain ⟨a0, cap0, h1, h2⟩ := G.hb
  have hb5 := grown_keep own hg h1 (by simp)
  have hc5 := grown_keep own hg G.hc (by simp)
  subst hm
  have hbs := G.base_le
  have ne : ∀ {k' : Nat} {cur : Array Value} {t : TypeId}, W5.heap[k']? = some (.cells cur t (0, 0)) → t ≠ 67 → k' ≠ rb := by
    rintro k' cur t h3 h4 rfl
    rw [hb5] at h3
    simp at h3
    exact h4 h3.2.symm
  have happ : ∀ (i : Nat) (y : Wt) (g' : Nat), (ps ++ [(x, g)])[i]? = some (y, g') → ps[i]? = some (y, g') ∨ (i = ps.length ∧ y = x ∧ g' = g) := by
    intro i y g' hi
    rw [List.getElem?_append] at hi
    split at hi
    · exact .inl hi
    · rw [List.getElem?_singleton] at hi
      split at hi
      · simp at hi; exact .inr ⟨by omega, hi.1.symm, hi.2.symm⟩
      · simp at hi
  have hw5 : ∀ (i : Nat) (y : Wt) (g' : Nat), (ps ++ [(x, g)])[i]? = some (y, g') → W.heap[g']? = some (.cells (bl n y.on).toArray 4) ∧ base ≤ g' := by
    intro i y g' hi
    rcases happ i y g' hi with hi | ⟨_, rfl, rfl⟩
    · exact G.wh i y g' hi
    · exact ⟨hgx, hgb⟩
  refine ⟨⟨⟨a', cap', ?_, own_keep own' fun k cur hc => Below.heap_setCell _ _ _ _ (ne hc (by decide))⟩, (Below.heap_setCell _ _ _ _ (Ne.symm G.nb)).trans hc5, G.len, G.lo, G.hi, G.kb, G.kc, fun i y g' hi => ?_, fun i j y z g' hi hj => ?_, fun y hy q hq => ?_⟩, hb5.trans h1.symm, ?_⟩
  · rw [heap_set hb5]; simp
  · obtain ⟨q1, q2⟩ := hw5 i y g' hi
    have q3 := grown_keep own hg q1 (by simp)
    exact ⟨(Below.heap_setCell _ _ _ _ (ne q3 (by decide))).trans q3, q2⟩
  · rcases happ i y g' hi with q1 | ⟨q1, q2, q3⟩ <;> rcases happ j z g' hj with r1 | ⟨r1, r2, r3⟩
    · exact G.nd _ _ _ _ _ q1 r1
    · exact absurd r3 (hnew i y g' q1)
    · exact absurd q3 (hnew j z g' r1)
    · rw [q1, r1]
  · rcases List.mem_append.1 hy with hy | hy
    · exact G.up y hy q hq
    · simp at hy; subst hy; exact hup q hq
  · have hB := below_grown (w := W) (base := base) ((Below.refl base W).alloc hbs o') (own_keep (W' := W.alloc o') own fun k cur hc => Below.heap_alloc _ _ _ (lt_of_heap hc)) hg (by simp; omega)
    exact RFr.set ⟨hB.os, hB.tape, hB.output, hB.size, hB.block, fun k o h1 _ _ h4 _ => grown_keep own hg h1 h4⟩ (p := ⟨rb, 1, none⟩) (.inl rfl) G.kb G.kc _

set_option maxRecDepth 100000 in
set_option maxHeartbeats 2000000 in
theorem rdefer_ok (base rb rc n : Nat) (id : Int) (ss : List Int) (ps : List Pr) (w : World) (hG : Rg base w rb rc n ss ps) (hws : ps.length < 16) (h0s : ∀ (k : Nat) (s : Int), ss[k]? = some s → 0 ≤ s) :
    Calls Try.prog 22 #[.pointer (some ⟨rb, 0, none⟩), .int .i64 id] w fun e w' => e = .returned (.tuple #[.bool (none8 (ins ss)), .int .i64 0]) ∧ (∃ g, Rg base w' rb rc n ss (ps ++ [(⟨id, ins ss⟩, g)])) ∧ RFr base rb rc w w' := by
  obtain ⟨a, cap, h0, h1, hf, hg, ho⟩ := hG.cells
  have hn8 := hG.hi
  have hn1 := hG.lo
  have hbl := hG.lt
  have hbs := hG.base_le
  have hmk := fun w => run_make_row' (P := Try.prog) 68 4 (.bool false) 1 Try.underlying68 info4b rfl .i64 .i64 n (by omega) (by omega) w
  rw [made_false n] at hmk
  have HG := hide hG
  have HZ := hide (nz_full hG.len hG.hi h0s)
  have H0 := hide h0s
  clear hG ho h0s
  obtain ⟨m, hm⟩ : ∃ m, ps.length = m := ⟨_, rfl⟩
  rw [hm] at h1
  have k1 : (m : Int) < 16 := by omega
  have HM := hide hm
  clear hm hws
  go_enter Try.func22, Try.ntmps22
  go_wp2_with fail
  obtain ⟨V, hV, hsz, g0, g1, hB⟩ := two0 w (.cells (bl n fun _ => false).toArray 4) (.cells #[.int .i64 id, .slice (some ⟨w.heap.size, 0, none⟩) n n] 70)
  rw [hV]
  clear hV hmk h0 h1 hf hg
  generalize hh : w.heap.size = h at *
  have HH := hide hh
  have g0' : V.heap[h]? = some (.cells (bl n (upto ss 0)).toArray 4) := by rw [g0, upto_zero]
  have K0 := hide g0'
  have K1 := hide g1
  have KB := hide hB
  clear g0 g0' g1 hB hh hsz
  go_loopw [8, 7] (fun i nv wr => ∃ k : Nat, k ≤ n ∧ i = .int .i64 k ∧ nv = .bool (nz ss k) ∧ wr.heap[h]? = some (.cells (bl n (upto ss k)).toArray 4) ∧ wr.heap[h + 1]? = some (.cells #[.int .i64 id, .slice (some ⟨h, 0, none⟩) n n] 70) ∧ Below h w wr) (fun i _ _ => n - (intOf i).toNat)
  case atStart => exact ⟨0, Nat.zero_le _, rfl, rfl, unhide K0, unhide K1, unhide KB⟩
  case round =>
    obtain ⟨k, hk, rfl, rfl, r0, r1, hB1⟩ := hrel
    clear K0 K1 KB
    have hG2 : Rg base wr rb rc n ss ps := (unhide HG).below (by rw [unhide HH]; exact hB1)
    obtain ⟨a2, cap2, h0, h1, hf, hg, ho⟩ := hG2.cells
    have hbx : rb ≠ h ∧ rc ≠ h := by omega
    obtain ⟨hb1, hb2⟩ := hbx
    by_cases hkn : k < n
    · have j1 : (k : Int) < (n : Int) := by omega
      have j0 : (0 : Int) ≤ (k : Int) := by omega
      have j8 : (k : Int) < 8 := by omega
      obtain ⟨s, hs⟩ := hG2.get hkn
      have c1 := hG2.sec hs
      have c2 : wr.cell? ⟨h, k, none⟩ = some (.bool (upto ss k k)) := by rw [cell_of r0, List.getElem?_toArray]; exact bl_get n _ k hkn
      have f2 : ∀ i, wr.frozen? ⟨h, i, none⟩ = false := frozen_of r0
      have c3 : wr.cell? ⟨h + 1, 1, none⟩ = some (.slice (some ⟨h, 0, none⟩) n n) := by rw [cell_of r1]; rfl
      have P0 : (wr.setCell ⟨h, k, none⟩ (.bool (decide (0 < s)))).heap[h]? = some (.cells (bl n (upto ss (k + 1))).toArray 4) := by
        rw [heap_set r0, ← upto_succ hs, ← bl_set]; simp
      have P1 := (Below.heap_setCell wr ⟨h, k, none⟩ (.bool (decide (0 < s))) (h + 1) (by show h + 1 ≠ h; omega)).trans r1
      have PB := hB1.setCell (p := ⟨h, k, none⟩) (by show h ≤ h; omega) (.bool (decide (0 < s)))
      have K0 := hide P0
      have K1 := hide P1
      have KB := hide PB
      have hzs := nz_succ hs
      have HZS := hide hzs
      clear P0 P1 PB r0 r1 hG2 hs ho h1 hzs
      cases hnz : nz ss k
      · go_wp2_with fail
        go_region
        all_goals
          go_wp2_with fail
          go_roundw
        all_goals first
          | exact ⟨k + 1, by omega, by go_num, by rw [unhide HZS, hnz]; rfl, unhide K0, unhide K1, below_drew (unhide KB)⟩
          | (simp [intOf]; omega)
      · go_wp2_with fail
        go_region
        all_goals
          go_wp2_with fail
          go_roundw
        all_goals first
          | exact ⟨k + 1, by omega, by go_num, by rw [unhide HZS, hnz]; simp, unhide K0, unhide K1, below_drew (unhide KB)⟩
          | (simp [intOf]; omega)
    · obtain rfl : k = n := by omega
      rw [upto_full (unhide HG).len] at r0
      have y0 : wr.cell? ⟨h + 1, 0, none⟩ = some (.int .i64 id) := by rw [cell_of r1]; rfl
      have y1 : wr.cell? ⟨h + 1, 1, none⟩ = some (.slice (some ⟨h, 0, none⟩) k k) := by rw [cell_of r1]; rfl
      rw [unhide HM] at h1 ho
      obtain ⟨i0, hi, hz0, hz1, hz2⟩ := info_parts info70
      have ownd : wr.drew.ownsRow base 70 2 (.slice a2 m cap2) m (rowsOf (Rrow k) ps) := own_keep ho fun _ _ _ => rfl
      have own5 := own_keep (W' := wr.drew.alloc (.cells #[.int .i64 id, .slice (some ⟨h, 0, none⟩) k k] 70)) ownd (fun k cur hc => Below.heap_alloc wr.drew _ _ (lt_of_heap hc))
      have hsw : base ≤ wr.heap.size := by have := lt_of_heap r1; omega
      obtain ⟨v', W5, hrun, own7, hgr, -, -⟩ := run_append_own_at (P := Try.prog) (wr.drew.alloc (.cells #[.int .i64 id, .slice (some ⟨h, 0, none⟩) k k] 70)) base 65 65 70 i0 _ 2 32 Try.underlying65 hi hz0 hz1 hz2 rfl (by decide) (.slice a2 m cap2) _ _ own5 ⟨wr.drew.heap.size, 0, none⟩ 1 1 (Rrow k (⟨id, ins ss⟩, h)) rfl (cells_new wr.drew (Rrow k (⟨id, ins ss⟩, h)) 70) (by intro u hu; simp [Rrow] at hu; rcases hu with rfl | rfl <;> rfl) (by unfold maxLen; omega) (by omega) (by simp; exact Nat.le_succ_of_le hsw)
      obtain ⟨g', cp, rfl⟩ := own_form own7
      have own8 : W5.ownsRow base 70 2 (.slice g' (m + 1) cp) (m + 1) (rowsOf (Rrow k) (ps ++ [(⟨id, ins ss⟩, h)])) := by rw [rowsOf_append]; simpa [rowsOf] using own7
      obtain ⟨G5, hb5, F5⟩ := rg_append hG2.drew ownd hgr own8 (by simp [unhide HM]) r0 (by omega) (fun i y g' hi' => by have := lt_of_heap ((unhide HG).wh i y g' hi').1; have := unhide HH; omega) (ins_up (unhide HG).len)
      have q1 : W5.cell? ⟨rb, 1, none⟩ = some (.slice a2 m cap2) := (World.cell?_of_block (w := wr.drew) (a := ⟨rb, 1, none⟩) hb5).trans h1
      have qf : ∀ i, W5.frozen? ⟨rb, i, none⟩ = false := by
        intro i
        have := hf i
        unfold World.frozen? at this ⊢
        rw [hb5]; exact this
      have FF : RFr base rb rc w (W5.setCell ⟨rb, 1, none⟩ (.slice g' (m + 1) cp)) := (RFr.of_below (w := w) (w' := wr.drew) (by rw [unhide HH]; exact below_drew hB1) (by rw [unhide HH]; exact hbs)).trans F5
      have c0x : (wr.alloc (.cells #[.int .i64 id, .slice (some ⟨h, 0, none⟩) k k] 70)).cell? ⟨rb, 1, none⟩ = some (.slice a2 m cap2) := (World.cell?_alloc_past _ _ _ (by have := hG2.lt; exact this.1)).trans h1
      have hzz := unhide HZ
      have HG5 := hide G5
      have HFF := hide FF
      clear own5 own7 own8 ownd hgr G5 F5 FF hG2 ho hb5 r0 r1 HG hsw
      go_wp2_with fail
      go_region_law (refine step_append_eq (by rfl) _ _ 65 (by rfl) 65 (by rfl) _ _ (by rfl) (by rfl) _ _ hrun ?_)
      all_goals
        go_wp2_with fail
        go_ret2
        exact ⟨by simp, ⟨h, unhide HG5⟩, unhide HFF⟩
end Go.Proofs.Ytkgcgfnleabkdaa
