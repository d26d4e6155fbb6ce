/-
  The document's list: Use.
-/
import Derived.Test.YtjcjibjagjiedaaRefC
import Derived.Test.YtjcjibjagjiedaaPure
namespace Go.Proofs.Ytjcjibjagjiedaa
open Go.RowKit
attribute [local go_sem ↓] Go.wp_at_zero Go.wp_at_succ

/-- No key twice. -/
def Uni (es : Ents) : Prop := (es.map (·.1)).Nodup
theorem Uni.nil : Uni [] := by simp [Uni]
theorem dropM_sub (es : Ents) (k : ByteArray) : (dropM es k).Sublist es := by
  induction es with
  | nil => exact List.Sublist.refl _
  | cons p es ih =>
    obtain ⟨x, v⟩ := p
    rw [dropM_cons]
    split
    · exact List.sublist_cons_self _ _
    · exact ih.cons_cons _
theorem Uni.sub {es es' : Ents} (h : Uni es) (hs : es'.Sublist es) : Uni es' := List.Nodup.sublist (hs.map _) h
theorem dropM_no {es : Ents} (h : Uni es) (k : ByteArray) : ∀ p ∈ dropM es k, p.1 ≠ k := by
  induction es with
  | nil => intro p hp; simp [dropM_nil] at hp
  | cons q es ih =>
    obtain ⟨x, v⟩ := q
    unfold Uni at h ih
    simp only [List.map_cons] at h
    obtain ⟨h1, h2⟩ := List.nodup_cons.1 h
    rw [dropM_cons]
    by_cases hx : x = k
    · subst hx
      rw [if_pos rfl]
      rintro p hp rfl
      exact h1 (List.mem_map.2 ⟨p, hp, rfl⟩)
    · rw [if_neg hx]
      intro p hp
      rcases List.mem_cons.1 hp with rfl | hp
      · exact hx
      · exact ih h2 p hp
theorem Uni.endM {es : Ents} (h : Uni es) (k : ByteArray) : Uni (endM es k) := by
  unfold Uni Ytjcjibjagjiedaa.endM
  rw [List.map_append, List.nodup_append]
  refine ⟨h.sub (dropM_sub es k), by simp, ?_⟩
  intro a ha b hb
  simp at hb
  subst hb
  obtain ⟨p, hp, rfl⟩ := List.mem_map.1 ha
  exact dropM_no h _ p hp
theorem era_sub (es : Ents) (i : Nat) : (era es i).Sublist es := by
  unfold era
  conv => rhs; rw [← List.take_append_drop i es]
  refine List.Sublist.append (List.Sublist.refl _) ?_
  rw [show es.drop (i + 1) = (es.drop i).drop 1 by rw [List.drop_drop]]
  exact List.drop_sublist _ _
theorem Fit.endM {t : Nat} {es : Ents} (h : Fit t es) (k : ByteArray) : Fit (t + 1) (endM es k) := by
  have hd := h.drop k
  refine ⟨by unfold Ytjcjibjagjiedaa.endM; have := hd.len; simp; omega, fun p hp => ?_⟩
  rcases List.mem_append.1 hp with hp | hp
  · have := hd.pin p hp; omega
  · simp at hp; subst hp; have := h.pinsb k; simp; omega
theorem use_cases {mo : Int} {es : Ents} {k : ByteArray} : (useS mo es k).2.2.Sublist (endM es k) := by
  unfold useS useV
  split
  · exact List.Sublist.refl _
  · cases vic (endM es k) k with
    | none => exact List.Sublist.refl _
    | some i => exact era_sub _ _
theorem Fit.use {t : Nat} {mo : Int} {es : Ents} (h : Fit t es) (k : ByteArray) : Fit (t + 1) (useS mo es k).2.2 := by
  have hs := use_cases (mo := mo) (es := es) (k := k)
  have he := h.endM k
  exact ⟨by have := hs.length_le; have := he.len; omega, fun p hp => he.pin p (hs.subset hp)⟩
theorem end_last {es : Ents} {k : ByteArray} {j : Nat} {x : ByteArray} {v : Int} (hU : Uni es) (hj : (endM es k)[j]? = some (x, v)) (hl : j + 1 < (endM es k).length) : x ≠ k := by
  have h2 : (Ytjcjibjagjiedaa.endM es k).length = (dropM es k).length + 1 := by simp [Ytjcjibjagjiedaa.endM]
  unfold Ytjcjibjagjiedaa.endM at hj
  rw [List.getElem?_append_left (by omega)] at hj
  exact dropM_no hU k _ (List.mem_of_getElem? hj)
theorem use_hit {t : Nat} {mo : Int} {es : Ents} {k x : ByteArray} {j : Nat} (hU : Uni es) (hF : Fit t es) (hn : ¬ ((endM es k).length : Int) ≤ mo) (hj : (endM es k)[j]? = some (x, 0)) (hl : j + 1 < (endM es k).length) (hN : ∀ p ∈ (endM es k).take j, p.2 ≠ 0) : useS mo es k = (x, true, era (endM es k) j) := by
  have hv : vic (endM es k) k = some j := vic_at hj (fun p hp => by
    have h1 := hN p hp
    have h2 := (hF.endM k).pin p (List.mem_of_mem_take hp)
    have : 0 < p.2 := by omega
    simp [this]) (by omega) (end_last hU hj hl)
  unfold useS useV
  rw [if_neg hn, hv]
  simp [hj]
theorem use_miss {t : Nat} {mo : Int} {es : Ents} {k : ByteArray} (hF : Fit t es) (hn : ¬ ((endM es k).length : Int) ≤ mo) (hN : ∀ p ∈ (endM es k).take ((endM es k).length - 1), p.2 ≠ 0) : useS mo es k = (⟨#[]⟩, false, endM es k) := by
  have hv : vic (endM es k) k = none := vic_none fun p hp => by
    have h2 : (Ytjcjibjagjiedaa.endM es k).length = (dropM es k).length + 1 := by simp [Ytjcjibjagjiedaa.endM]
    have h3 := (hF.endM k).pin p hp
    rcases List.mem_append.1 hp with hp | hp
    · have h1 := hN p (by rw [h2]; unfold Ytjcjibjagjiedaa.endM; rw [List.take_append_of_le_length (by omega)]; simpa using hp)
      have : 0 < p.2 := by omega
      simp [this]
    · simp at hp; subst hp; simp
  unfold useS useV
  rw [if_neg hn, hv]
theorem field63 (x : ByteArray) (v : Int) (w : World) : Sem.run Try.prog (Instr.field 63 (.agg #[.string x, .int .i64 v]) 0) w = .ok (.string x) w := by kernel_rfl

set_option maxRecDepth 100000 in
set_option maxHeartbeats 2000000 in
theorem ruse_any (base b : Nat) (mo : Int) (t : Nat) (es : Ents) (key : ByteArray) (w : World) (h : Rl base w b mo es) (hF : Fit t es) (ht : t ≤ 900) (hU : Uni es) :
    Calls Try.prog 19 #[.pointer (some ⟨b, 0, none⟩), .string key] w fun e w' => e = .returned (.tuple #[.string (useS mo es key).1, .bool (useS mo es key).2.1]) ∧ Rl base w' b mo (useS mo es key).2.2 ∧ RFr base b w w' := by
  have hes : es.length ≤ 1000 := by have := hF.len; omega
  have HF := hide (rfind_any base b mo es key hes w h)
  have hB0 := (Below.refl w.heap.size w).alloc (Nat.le_refl _) (.cells #[.string key, .int .i64 0] 63)
  have hq0 := putAll (w := w) (.cells #[.string key, .int .i64 0] 63) w.heap.size rfl
  have L0 := h.below hB0
  have hbl := h.lt
  have hbs := h.base_le
  have HH := hide h
  have HFit := hide hF
  have HU := hide hU
  have hEl := hide (hF.endM key).len
  clear hF hU
  cases hh : has es key with
  | false =>
    rw [rpos_not hh] at HF
    have L1 := L0.drew
    have hdr : dropM es key = es := by unfold dropM; rw [hh]; rfl
    have hend : endM es key = es ++ [(key, 0)] := by unfold endM; rw [hdr, pins_none hh]
    obtain ⟨a, cap, a0, a1, af, own⟩ := L1.cells
    obtain ⟨a', cap', W5, hrun, d0, df, L5, F5⟩ := rpush_run key 0 L1 hes a1
    rw [← hend] at L5
    have q1 : (w.alloc (.cells #[.string key, .int .i64 0] 63)).drew.heap[w.heap.size]? = some (.cells #[.string key, .int .i64 0] 63) := hq0
    have FX : RFr base b w (W5.setCell ⟨b, 1, none⟩ (.slice a' (es.length + 1) cap')) := ((RFr.of_below hB0 hbs).drew).trans F5
    have c0 : (w.alloc (.cells #[.string key, .int .i64 0] 63)).cell? ⟨w.heap.size, 0, none⟩ = some (.string key) := by rw [cell_of hq0]; rfl
    have c1 : (w.alloc (.cells #[.string key, .int .i64 0] 63)).cell? ⟨w.heap.size, 1, none⟩ = some (.int .i64 0) := by rw [cell_of hq0]; rfl
    have a1w : w.cell? ⟨b, 1, none⟩ = some (.slice a es.length cap) := (World.cell?_alloc_past _ _ _ hbl).symm.trans a1
    have a1x : ((w.alloc (.cells #[.string key, .int .i64 0] 63)).alloc (.cells #[.string key, .int .i64 0] 63)).cell? ⟨b, 1, none⟩ = some (.slice a es.length cap) := (World.cell?_alloc_past _ _ _ (by simp; omega)).trans a1
    clear hh h L1 own q1 a0 af hq0 hB0 L0 hdr hend
    go_enter Try.func19, Try.ntmps19
    go_wp2_with fail
    refine (unhide HF).mono ?_
    rintro e w1 ⟨rfl, rfl⟩
    go_wp2_with fail
    generalize w1.alloc (.cells #[.string key, .int .i64 0] 63) = V at *
    generalize es.length = m at *
    have HLx := hide L5
    have HFx := hide FX
    have hdef := hide (rfl : endM es key = endM es key)
    generalize hE : endM es key = es1 at *
    have HE := hide hE
    clear hE
    clear L5 F5 FX
    go_region_law (refine step_append_eq (by rfl) _ _ 58 (by rfl) 58 (by rfl) _ _ (by rfl) (by rfl) _ _ hrun ?_)
    all_goals
      generalize W5.setCell ⟨b, 1, none⟩ (.slice a' (m + 1) cap') = W6 at *
      obtain ⟨ax, cx, x0, x1, xf, ownx⟩ := (unhide HLx).cells
      obtain ⟨M, hM⟩ : ∃ M, es1.length = M := ⟨_, rfl⟩
      rw [hM] at x1 ownx
      have hM1 : M ≤ 1000 := by have := unhide hEl; omega
      replace hM := hide hM
      have HOx := hide ownx
      clear ownx d0 df hrun
      by_cases hle : (M : Int) ≤ mo
      · have hu : useS mo es key = (⟨#[]⟩, false, es1) := by unfold useS; rw [unhide HE, unhide hM, if_pos hle]
        replace hu := hide hu
        go_wp2_with fail
        go_quiet (fail)
        go_wp2_with fail
        go_ret2
        rw [unhide hu]
        exact ⟨rfl, (unhide HLx).dn _, (unhide HFx).dn _⟩
      · have hle2 : ((M : Int) ≤ mo) = False := by simp; omega
        replace hle := hide hle
        go_wp2_with fail
        go_quiet (fail)
        go_wp2_with fail
        go_loopw [8] (fun iv wr => ∃ j : Nat, j ≤ M - 1 ∧ iv = .int .i64 (j : Int) ∧ Hid (∀ p ∈ es1.take j, p.2 ≠ 0) ∧ wr = W6.drewN nq) (fun iv _ => M - 1 - (intOf iv).toNat)
        case atStart => exact ⟨0, by omega, rfl, hide (by simp), rfl⟩
        case round =>
          obtain ⟨j, hj, rfl, hN, rfl⟩ := hrel
          by_cases hjm : j < M - 1
          · have j0 : (0 : Int) ≤ (j : Int) := by omega
            have j1 : (j : Int) < (M : Int) - 1 := by omega
            have j2 : (j : Int) < (M : Int) := by omega
            obtain ⟨⟨y, v⟩, hy⟩ : ∃ p, es1[j]? = some p := ⟨_, List.getElem?_eq_getElem (by rw [unhide hM]; omega)⟩
            obtain ⟨g, eg, y0, y1, _, _⟩ := own_at (unhide HOx) hy (unhide hM)
            subst eg
            by_cases hv : v = 0
            · subst hv
              have HO := hide (rout_any base b j mo es1 y 0 (W6.drewN nq) ((unhide HLx).dn nq) hy (by rw [unhide hM]; exact hM1))
              have hu := use_hit (unhide HU) (unhide HFit) (mo := mo) (k := key) (x := y) (j := j) (by rw [unhide HE, unhide hM]; have := unhide hle; omega) (by rw [unhide HE]; exact hy) (by rw [unhide HE, unhide hM]; omega) (by rw [unhide HE]; exact unhide hN)
              rw [unhide HE] at hu
              replace hu := hide hu
              have hfld := field63 y 0
              clear hy
              go_wp2_with fail
              refine (unhide HO).mono ?_
              rintro e w8 ⟨rfl, ⟨L8, F8⟩, -, -⟩
              replace L8 := hide L8
              have F9 := hide (((unhide HFx).dn nq).trans F8)
              clear HO F8
              go_wp2_with fail
              go_ret2
              rw [unhide hu]
              exact ⟨rfl, unhide L8, unhide F9⟩
            · have hy2 := hide hy
              clear hy
              go_wp2_with fail
              refine ⟨⟨j + 1, by omega, rfl, hide ?_, trivial⟩, by simp [intOf]; omega⟩
              intro p hp
              rw [List.take_add_one, unhide hy2] at hp
              rcases List.mem_append.1 hp with hp | hp
              · exact unhide hN p hp
              · simp at hp; subst hp; exact hv
          · have j1 : ¬ (j : Int) < (M : Int) - 1 := by omega
            obtain rfl : j = M - 1 := by omega
            have hu := use_miss (unhide HFit) (mo := mo) (k := key) (by rw [unhide HE, unhide hM]; have := unhide hle; omega) (by rw [unhide HE, unhide hM]; exact unhide hN)
            rw [unhide HE] at hu
            replace hu := hide hu
            go_wp2_with fail
            go_ret2
            rw [unhide hu]
            exact ⟨rfl, (unhide HLx).dn _, (unhide HFx).dn _⟩
  | true =>
    obtain ⟨hp, ha⟩ := pins_at hh
    have hdr : dropM es key = era es (ix es key) := by unfold dropM; rw [hh]; rfl
    have hend : endM es key = era es (ix es key) ++ [(key, pins es key)] := by unfold endM; rw [hdr]
    rw [rpos_has hh] at HF
    have HEnd := hide hend
    clear h hh ha hdr hend
    have hil := (List.getElem?_eq_some_iff.1 hp).1
    generalize pins es key = v at *
    generalize ix es key = i at *
    have q : (0 : Int) ≤ (i : Int) := by omega
    have HR := hide (rout_any base b i mo es key v _ L0 hp hes)
    have HQ0 := hide hq0
    have HB0 := hide hB0
    have hle := era_len_le es i
    clear hq0 hB0 L0 hp
    go_enter Try.func19, Try.ntmps19
    go_wp2_with fail
    refine (unhide HF).mono ?_
    rintro e w1 ⟨rfl, rfl⟩
    go_wp2_with fail
    refine (unhide HR).mono ?_
    rintro e w2 ⟨rfl, ⟨L2, F2⟩, hk, hfr⟩
    have q2 : w2.heap[w1.heap.size]? = some (.cells #[.string key, .int .i64 0] 63) := (hk _ (by simp) (by omega)).trans (unhide HQ0)
    have z0 : w2.cell? ⟨w1.heap.size, 0, none⟩ = some (.string key) := by rw [cell_of q2]; rfl
    have z1 : w2.cell? ⟨w1.heap.size, 1, none⟩ = some (.int .i64 0) := by rw [cell_of q2]; rfl
    have zf : ∀ j, w2.frozen? ⟨w1.heap.size, j, none⟩ = false := frozen_of q2
    have hkk : ∀ j, j ≠ w1.heap.size → ((w2.setCell ⟨w1.heap.size, 0, none⟩ (.string key)).setCell ⟨w1.heap.size, 1, none⟩ (.int .i64 v)).drew.heap[j]? = w2.heap[j]? := fun j hj => (Below.heap_setCell _ _ _ _ hj).trans (Below.heap_setCell _ _ _ _ hj)
    obtain ⟨ar, cr, l1, l2⟩ := L2.hb
    have hgne : ∀ k, (Value.slice ar (era es i).length cr).ownBlock = some k → k ≠ w1.heap.size := by
      intro k hk2 e
      subst e
      obtain ⟨_, ⟨e1, _⟩ | ⟨g', cp, cur, e1, _, hgg, _⟩⟩ := l2
      · simp only [Value.slice.injEq] at e1; obtain ⟨rfl, -, -⟩ := e1; simp [Value.ownBlock] at hk2
      · simp only [Value.slice.injEq] at e1
        obtain ⟨rfl, -, -⟩ := e1
        simp [Value.ownBlock] at hk2
        subst hk2
        have e2 : w2.cell? ⟨b, 1, none⟩ = some (.slice (some ⟨w1.heap.size, 0, none⟩) (era es i).length cr) := by rw [cell_of l1]; rfl
        have := hfr _ _ _ e2
        simp at this
        omega
    have L3 : Rl base ((w2.setCell ⟨w1.heap.size, 0, none⟩ (.string key)).setCell ⟨w1.heap.size, 1, none⟩ (.int .i64 v)).drew b mo (era es i) := ⟨⟨ar, cr, (hkk b (by omega)).trans l1, own_keepAt l2 fun j hj => hkk j (hgne j hj)⟩, L2.kb⟩
    have F3 : RFr base b w1 ((w2.setCell ⟨w1.heap.size, 0, none⟩ (.string key)).setCell ⟨w1.heap.size, 1, none⟩ (.int .i64 v)).drew := by
      have F := (RFr.of_below (unhide HB0) hbs).trans F2
      exact ⟨F.os, F.tape, F.output, by have := F.size; simp [World.setCell]; omega, fun j hj => (hkk j (by omega)).trans (F.low j hj), fun j o h1 h2 h3 => (hkk j (by have := lt_of_heap h1; omega)).trans (F.blk j o h1 h2 h3)⟩
    have x1 : ((w2.setCell ⟨w1.heap.size, 0, none⟩ (.string key)).setCell ⟨w1.heap.size, 1, none⟩ (.int .i64 v)).heap[w1.heap.size]? = some (.cells #[.string key, .int .i64 v] 63) := by
      rw [heap_set (heap_set q2 0 _)]; simp
    have HL3 := hide L3
    have HF3 := hide F3
    have HX1 := hide x1
    clear q2 L2 F2 hk HR L3 F3 x1 hkk l1 l2 hgne hfr
    go_wp2_with fail
    generalize (w2.setCell ⟨w1.heap.size, 0, none⟩ (.string key)).setCell ⟨w1.heap.size, 1, none⟩ (.int .i64 v) = V at *
    have L3 := unhide HL3
    have q1 : V.drew.heap[w1.heap.size]? = some (.cells #[.string key, .int .i64 v] 63) := unhide HX1
    obtain ⟨a, cap, a0, a1, af, own⟩ := L3.cells
    obtain ⟨a', cap', W5, hrun, d0, df, L5, F5⟩ := rpush_run key v L3 (by omega) a1
    rw [← unhide HEnd] at L5
    have FX : RFr base b w1 (W5.setCell ⟨b, 1, none⟩ (.slice a' ((era es i).length + 1) cap')) := (unhide HF3).trans F5
    have c0 : V.drew.cell? ⟨w1.heap.size, 0, none⟩ = some (.string key) := by rw [cell_of q1]; rfl
    have c1 : V.drew.cell? ⟨w1.heap.size, 1, none⟩ = some (.int .i64 v) := by rw [cell_of q1]; rfl
    have a1x : (V.alloc (.cells #[.string key, .int .i64 v] 63)).cell? ⟨b, 1, none⟩ = some (.slice a (era es i).length cap) := (World.cell?_alloc_past _ _ _ L3.lt).trans a1
    clear L3 q1 own a0 af z0 z1 zf HL3 HF3 HX1
    generalize (era es i).length = m at *
    have HLx := hide L5
    have HFx := hide FX
    have hdef := hide (rfl : endM es key = endM es key)
    generalize hE : endM es key = es1 at *
    have HE := hide hE
    clear hE
    clear L5 F5 FX
    go_region_law (refine step_append_eq (by rfl) _ _ 58 (by rfl) 58 (by rfl) _ _ (by rfl) (by rfl) _ _ hrun ?_)
    all_goals
      generalize W5.setCell ⟨b, 1, none⟩ (.slice a' (m + 1) cap') = W6 at *
      obtain ⟨ax, cx, x0, x1, xf, ownx⟩ := (unhide HLx).cells
      obtain ⟨M, hM⟩ : ∃ M, es1.length = M := ⟨_, rfl⟩
      rw [hM] at x1 ownx
      have hM1 : M ≤ 1000 := by have := unhide hEl; omega
      replace hM := hide hM
      have HOx := hide ownx
      clear ownx d0 df hrun
      by_cases hle : (M : Int) ≤ mo
      · have hu : useS mo es key = (⟨#[]⟩, false, es1) := by unfold useS; rw [unhide HE, unhide hM, if_pos hle]
        replace hu := hide hu
        go_wp2_with fail
        go_quiet (fail)
        go_wp2_with fail
        go_ret2
        rw [unhide hu]
        exact ⟨rfl, (unhide HLx).dn _, (unhide HFx).dn _⟩
      · have hle2 : ((M : Int) ≤ mo) = False := by simp; omega
        replace hle := hide hle
        go_wp2_with fail
        go_quiet (fail)
        go_wp2_with fail
        go_loopw [8] (fun iv wr => ∃ j : Nat, j ≤ M - 1 ∧ iv = .int .i64 (j : Int) ∧ Hid (∀ p ∈ es1.take j, p.2 ≠ 0) ∧ wr = W6.drewN nq) (fun iv _ => M - 1 - (intOf iv).toNat)
        case atStart => exact ⟨0, by omega, rfl, hide (by simp), rfl⟩
        case round =>
          obtain ⟨j, hj, rfl, hN, rfl⟩ := hrel
          by_cases hjm : j < M - 1
          · have j0 : (0 : Int) ≤ (j : Int) := by omega
            have j1 : (j : Int) < (M : Int) - 1 := by omega
            have j2 : (j : Int) < (M : Int) := by omega
            obtain ⟨⟨y, v⟩, hy⟩ : ∃ p, es1[j]? = some p := ⟨_, List.getElem?_eq_getElem (by rw [unhide hM]; omega)⟩
            obtain ⟨g, eg, y0, y1, _, _⟩ := own_at (unhide HOx) hy (unhide hM)
            subst eg
            by_cases hv : v = 0
            · subst hv
              have HO := hide (rout_any base b j mo es1 y 0 (W6.drewN nq) ((unhide HLx).dn nq) hy (by rw [unhide hM]; exact hM1))
              have hu := use_hit (unhide HU) (unhide HFit) (mo := mo) (k := key) (x := y) (j := j) (by rw [unhide HE, unhide hM]; have := unhide hle; omega) (by rw [unhide HE]; exact hy) (by rw [unhide HE, unhide hM]; omega) (by rw [unhide HE]; exact unhide hN)
              rw [unhide HE] at hu
              replace hu := hide hu
              have hfld := field63 y 0
              clear hy
              go_wp2_with fail
              refine (unhide HO).mono ?_
              rintro e w8 ⟨rfl, ⟨L8, F8⟩, -, -⟩
              replace L8 := hide L8
              have F9 := hide (((unhide HFx).dn nq).trans F8)
              clear HO F8
              go_wp2_with fail
              go_ret2
              rw [unhide hu]
              exact ⟨rfl, unhide L8, unhide F9⟩
            · have hy2 := hide hy
              clear hy
              go_wp2_with fail
              refine ⟨⟨j + 1, by omega, rfl, hide ?_, trivial⟩, by simp [intOf]; omega⟩
              intro p hp
              rw [List.take_add_one, unhide hy2] at hp
              rcases List.mem_append.1 hp with hp | hp
              · exact unhide hN p hp
              · simp at hp; subst hp; exact hv
          · have j1 : ¬ (j : Int) < (M : Int) - 1 := by omega
            obtain rfl : j = M - 1 := by omega
            have hu := use_miss (unhide HFit) (mo := mo) (k := key) (by rw [unhide HE, unhide hM]; have := unhide hle; omega) (by rw [unhide HE, unhide hM]; exact unhide hN)
            rw [unhide HE] at hu
            replace hu := hide hu
            go_wp2_with fail
            go_ret2
            rw [unhide hu]
            exact ⟨rfl, (unhide HLx).dn _, (unhide HFx).dn _⟩
end Go.Proofs.Ytjcjibjagjiedaa
