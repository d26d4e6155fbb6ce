/-
  The contract of Use.
-/
import Derived.Test.YtjcjibjagjiedaaMove
import Derived.Sort.BigQuietIn
namespace Go.Proofs.Ytjcjibjagjiedaa
open Go.RowKit Go.Shelf
attribute [local go_sem] Oper.semAt_some

/-- A region that draws its order and only reads, in a round: one walk in the text's order serves every order. -/
theorem wpIn_round_quiet {l n id : Nat} {P : Program} {Q : Exit → Act → World → Prop} {a : Act} {w : World} {ls : List Oper} (hm : P.follows .mixedOrders = true) (hd : ls.toArray.all noDefer = true) (hB : Region.lexB .any ls.toArray = true)
    (h : wpQuietIn Fence.wide n P ls.toArray (fun w' => ∃ n, w' = w.drewN n) (fun a' => ∀ w', (∃ n, w' = w.drewN n) → Q .normal a' w') ls a) : (Code.region id ls.toArray true).wpIn (Fence.wide.inRound l) n P Q a w := by
  simp only [Region.lexB, Bool.and_eq_true] at hB
  refine wpIn_region_round hm hd (wpAnyIn_of_quiet (C := fun w' => ∃ n, w' = w.drewN n) (Q := fun a' => ∀ w', (∃ n, w' = w.drewN n) → Q .normal a' w') rfl (fun _ w' hw' h => h w' hw') _ _ _ _ ⟨1, rfl⟩ ?_)
  have := wpAnyQIn_lex (F := Fence.wide) (n := n) (C := fun w' => ∃ n, w' = w.drewN n) (md := .any) hB.1 ls 0 (Array.replicate ls.toArray.size false) a (by simp) (by simpa using hB.2) (by simpa using h)
  simpa using this

/-- The entry that goes: the first that is not pinned and is not the key. -/
def vic (es : Ents) (k : ByteArray) : Option Nat := es.findIdx? fun p => !decide (0 < p.2) && !decide (p.1 = k)
theorem vic_at {es : Ents} {k x : ByteArray} {v : Int} {i : Nat} (hi : es[i]? = some (x, v)) (hN : ∀ p ∈ es.take i, (!decide (0 < p.2) && !decide (p.1 = k)) = false) (h1 : ¬ 0 < v) (h2 : x ≠ k) : vic es k = some i := by
  unfold vic
  rw [List.findIdx?_eq_some_iff_getElem]
  obtain ⟨hl, he⟩ := List.getElem?_eq_some_iff.1 hi
  refine ⟨hl, by rw [he]; simp [h1, h2], fun j hj => ?_⟩
  have := hN es[j] (List.mem_take_iff_getElem.2 ⟨j, by omega, rfl⟩)
  simpa using this
theorem vic_none {es : Ents} {k : ByteArray} (hN : ∀ p ∈ es, (!decide (0 < p.2) && !decide (p.1 = k)) = false) : vic es k = none := by
  unfold vic
  rw [List.findIdx?_eq_none_iff]
  exact hN
/-- What lies while Use goes over the entries. -/
structure UJ (w W : World) (r : Loop) (H b : Nat) (es : Ents) (key : ByteArray) (i : Nat) : Prop where
  f : Fl w W r H (H + 2) (H + 1) H b
  no : ∀ p ∈ es.take i, (!decide (0 < p.2) && !decide (p.1 = key)) = false
/-- Where Use answers: the boxes of the list, the key and the two results. -/
structure Bx (W : World) (h b : Nat) (key s : ByteArray) (o : Bool) : Prop where
  b0 : W.heap[h]? = some (.cells #[.pointer (some ⟨b, 0, none⟩)] 22)
  b1 : W.heap[h + 1]? = some (.cells #[.string key] 9)
  b2 : W.heap[h + 2]? = some (.cells #[.string s] 9)
  b3 : W.heap[h + 3]? = some (.cells #[.bool o] 4)
theorem Bx.keep {W W' : World} {h b : Nat} {key s : ByteArray} {o : Bool} (B : Bx W h b key s o) (hk : ∀ k, h ≤ k → k ≤ h + 3 → W'.heap[k]? = W.heap[k]?) : Bx W' h b key s o :=
  ⟨(hk _ (by omega) (by omega)).trans B.b0, (hk _ (by omega) (by omega)).trans B.b1, (hk _ (by omega) (by omega)).trans B.b2, (hk _ (by omega) (by omega)).trans B.b3⟩
theorem Bx.fr {base : Nat} {W W' : World} {h b : Nat} {key s : ByteArray} {o : Bool} (B : Bx W h b key s o) (F : Fr base b W W') (hb : b < h) : Bx W' h b key s o :=
  ⟨F.blk _ _ B.b0 (by omega) (by simp), F.blk _ _ B.b1 (by omega) (by simp), F.blk _ _ B.b2 (by omega) (by simp), F.blk _ _ B.b3 (by omega) (by simp)⟩
theorem Bx.set {W : World} {h b : Nat} {key s : ByteArray} {o : Bool} (B : Bx W h b key s o) (s' : ByteArray) (o' : Bool) : Bx ((W.setCell ⟨h + 2, 0, none⟩ (.string s')).setCell ⟨h + 3, 0, none⟩ (.bool o')) h b key s' o' := by
  refine ⟨?_, ?_, ?_, ?_⟩
  · exact (Below.heap_setCell _ _ _ _ (by simp)).trans ((Below.heap_setCell _ _ _ _ (by simp)).trans B.b0)
  · exact (Below.heap_setCell _ _ _ _ (by simp)).trans ((Below.heap_setCell _ _ _ _ (by simp)).trans B.b1)
  · rw [Below.heap_setCell _ _ _ _ (by simp), heap_set B.b2]; simp
  · rw [heap_set ((Below.heap_setCell _ _ _ _ (by simp)).trans B.b3)]; simp
theorem Bx.cells {W : World} {h b : Nat} {key s : ByteArray} {o : Bool} (B : Bx W h b key s o) : W.cell? ⟨h, 0, none⟩ = some (.pointer (some ⟨b, 0, none⟩)) ∧ W.cell? ⟨h + 1, 0, none⟩ = some (.string key) ∧ W.cell? ⟨h + 2, 0, none⟩ = some (.string s) ∧ W.cell? ⟨h + 3, 0, none⟩ = some (.bool o) ∧ W.frozen? ⟨h + 2, 0, none⟩ = false ∧ W.frozen? ⟨h + 3, 0, none⟩ = false := by
  refine ⟨?_, ?_, ?_, ?_, frozen_of B.b2 0, frozen_of B.b3 0⟩
  · rw [cell_of B.b0]; rfl
  · rw [cell_of B.b1]; rfl
  · rw [cell_of B.b2]; rfl
  · rw [cell_of B.b3]; rfl
/-- A store into two new blocks. -/
theorem Fr.set2 {base b h : Nat} {u w : World} (F : Fr base b u w) (hu : u.heap.size ≤ h) (hb : base ≤ u.heap.size) (x y : Value) : Fr base b u ((w.setCell ⟨h + 2, 0, none⟩ x).setCell ⟨h + 3, 0, none⟩ y) := by
  have hk : ∀ j, j < u.heap.size → ((w.setCell ⟨h + 2, 0, none⟩ x).setCell ⟨h + 3, 0, none⟩ y).heap[j]? = w.heap[j]? := fun j hj => (Below.heap_setCell _ _ _ _ (by simp; omega)).trans (Below.heap_setCell _ _ _ _ (by simp; omega))
  exact ⟨F.os, F.tape, F.output, by have := F.size; simp [World.setCell]; omega, fun j hj => (hk j (by omega)).trans (F.low j hj), fun j o h1 h2 h3 => (hk j (lt_of_heap h1)).trans (F.blk j o h1 h2 h3)⟩
theorem Ls.set2 {base b h : Nat} {W : World} {mo : Int} {es : Ents} {key s : ByteArray} {o : Bool} (L : Ls base W b mo es) (B : Bx W h b key s o) (hb : b < h) (x y : Value) : Ls base ((W.setCell ⟨h + 2, 0, none⟩ x).setCell ⟨h + 3, 0, none⟩ y) b mo es := by
  refine L.keep fun k cur t hc ho => ?_
  have h2 : k ≠ h + 2 := by rintro rfl; rcases ho with ho | rfl; omega; rw [B.b2] at hc; simp at hc
  have h3 : k ≠ h + 3 := by rintro rfl; rcases ho with ho | rfl; omega; rw [B.b3] at hc; simp at hc
  exact (Below.heap_setCell _ _ _ _ h3).trans (Below.heap_setCell _ _ _ _ h2)
theorem endM_len (es : Ents) (k : ByteArray) : (endM es k).length ≤ es.length + 1 := by
  unfold endM dropM
  split
  · have := era_len_le es (ix es k); simp; omega
  · simp
/-- What lies when Use has found the entry that goes. -/
structure US (base : Nat) (w W : World) (H h b : Nat) (mo : Int) (es : Ents) (key : ByteArray) : Prop where
  l : ∃ rd : Loop, rd.state = .done ∧ rd.pending = some .ret ∧ W.heap[H + 2]? = some (.loop rd)
  dd : W.heap[H + 1]? = some (.deferred (some []))
  fr : Fr base b w W
  ls : ∃ i x v, vic es key = some i ∧ es[i]? = some (x, v) ∧ Bx W h b key x true ∧ Ls base W b mo (era es i)

set_option maxRecDepth 100000 in
set_option maxHeartbeats 1000000 in
theorem use_le (base b : Nat) (mo : Int) (es : Ents) (key : ByteArray) (w : World) (hG : Ls base w b mo es) (hes : es.length ≤ 900) (hle : ((endM es key).length : Int) ≤ mo) :
    CallsIn Fence.wide 4 Try.prog 9 #[.pointer (some ⟨b, 0, none⟩), .string key] w fun e w' => e = .returned (.tuple #[.string ⟨#[]⟩, .bool false]) ∧ Ls base w' b mo (endM es key) ∧ Fr base b w w' := by
  have hro : Fence.wide.round = none := rfl
  obtain ⟨V, hV, hsz, g0, g1, g2, g3, hB⟩ := four0 w (.cells #[.pointer (some ⟨b, 0, none⟩)] 22) (.cells #[.string key] 9) (.cells #[.string ⟨#[]⟩] 9) (.cells #[.bool false] 4)
  have B0 : Bx V w.heap.size b key ⟨#[]⟩ false := ⟨g0, g1, g2, g3⟩
  have hbl := hG.lt
  have hbs := hG.base_le
  have L0 := hG.below hB
  obtain ⟨c0, c1, c2, c3, f2, f3⟩ := B0.cells
  have HM := hide (move_any base b mo es key V L0 (by omega))
  have HB0 := hide B0
  have HFV := hide (Fr.of_below (base := base) (b := b) hB hbs)
  have hel := endM_len es key
  generalize endM es key = es1 at *
  clear g0 g1 g2 g3 B0 L0 hG hB
  refine callsIn_of_wp_marks Try.func9 rfl trivial ?_ hro
  simp only [Try.ntmps9, List.size_toArray, List.length_cons, List.length_nil, Nat.reduceAdd, Nat.reduceSub, Array.replicate_succ, Array.replicate_zero, List.push_toArray, List.append_toArray, List.nil_append, List.cons_append]
  gi_wp2_with fail
  refine ⟨trivial, (callsIn_wide.2 (unhide HM)).mono ?_⟩
  rintro e w1 ⟨rfl, L1, F1⟩
  have B1 := (unhide HB0).fr F1 (by omega)
  have HF1 := hide ((unhide HFV).trans F1)
  clear c0 c1 c2 c3 f2 f3 hV hsz HM HB0 HFV F1
  generalize hh : w.heap.size = h at *
  have HH : Hid (w.heap.size = h) := hh
  clear hh
  obtain ⟨c0, c1, c2, c3, f2, f3⟩ := B1.cells
  obtain ⟨a, cap, a0, a1, af, own⟩ := L1.cells
  have HL1 := hide L1
  have HB1 := hide B1
  clear L1 B1 own af
  generalize es1.length = m at *
  gi_wp2_with fail
  gi_big_quiet_th (fail)
  gi_wp2_with fail
  have B2 := (((unhide HB1).keep (W' := w1.drewN nq) (fun _ _ _ => rfl)).set ⟨#[]⟩ false)
  obtain ⟨_, _, d2, d3, _, _⟩ := B2.cells
  refine ⟨.tuple #[.string ⟨#[]⟩, .bool false], by simp [results, Try.results9, go_sem, d2, d3], rfl, ?_, ?_⟩
  · exact ((unhide HL1).dn nq).set2 ((unhide HB1).keep (W' := w1.drewN nq) (fun _ _ _ => rfl)) hbl _ _
  · exact ((unhide HF1).dn nq).set2 (by rw [unhide HH]; exact Nat.le_refl _) (by rw [unhide HH]; exact hbs) _ _
theorem field54 (x : ByteArray) (v : Int) (w : World) : Sem.run Try.prog (Instr.field 54 (.agg #[.string x, .int .i64 v]) 0) w = .ok (.string x) w := by kernel_rfl
/-- What goes where the list is too long. -/
def useV (es : Ents) (k : ByteArray) : ByteArray × Bool × Ents := match vic es k with
  | some i => (((es[i]?).map (·.1)).getD ⟨#[]⟩, true, era es i)
  | none => (⟨#[]⟩, false, es)
set_option maxRecDepth 100000 in
set_option maxHeartbeats 1000000 in
theorem use_gt (base b : Nat) (mo : Int) (es : Ents) (key : ByteArray) (w : World) (hG : Ls base w b mo es) (hes : es.length ≤ 900) (hle : ¬ ((endM es key).length : Int) ≤ mo) :
    CallsIn Fence.wide 4 Try.prog 9 #[.pointer (some ⟨b, 0, none⟩), .string key] w fun e w' => e = .returned (.tuple #[.string (useV (endM es key) key).1, .bool (useV (endM es key) key).2.1]) ∧ Ls base w' b mo (useV (endM es key) key).2.2 ∧ Fr base b w w' := by
  have hro : Fence.wide.round = none := rfl
  obtain ⟨V, hV, hsz, g0, g1, g2, g3, hB⟩ := four0 w (.cells #[.pointer (some ⟨b, 0, none⟩)] 22) (.cells #[.string key] 9) (.cells #[.string ⟨#[]⟩] 9) (.cells #[.bool false] 4)
  have B0 : Bx V w.heap.size b key ⟨#[]⟩ false := ⟨g0, g1, g2, g3⟩
  have hbl := hG.lt
  have hbs := hG.base_le
  have L0 := hG.below hB
  obtain ⟨c0, c1, c2, c3, f2, f3⟩ := B0.cells
  have HM := hide (move_any base b mo es key V L0 (by omega))
  have HB0 := hide B0
  have HFV := hide (Fr.of_below (base := base) (b := b) hB hbs)
  have hel := endM_len es key
  generalize endM es key = es1 at *
  clear g0 g1 g2 g3 B0 L0 hG hB
  refine callsIn_of_wp_marks Try.func9 rfl trivial ?_ hro
  simp only [Try.ntmps9, List.size_toArray, List.length_cons, List.length_nil, Nat.reduceAdd, Nat.reduceSub, Array.replicate_succ, Array.replicate_zero, List.push_toArray, List.append_toArray, List.nil_append, List.cons_append]
  gi_wp2_with fail
  refine ⟨trivial, (callsIn_wide.2 (unhide HM)).mono ?_⟩
  rintro e w1 ⟨rfl, L1, F1⟩
  have B1 := (unhide HB0).fr F1 (by omega)
  have HF1 := hide ((unhide HFV).trans F1)
  clear c0 c1 c2 c3 f2 f3 hV hsz HM HB0 HFV F1
  generalize hh : w.heap.size = h at *
  have HH : Hid (w.heap.size = h) := hh
  clear hh
  obtain ⟨c0, c1, c2, c3, f2, f3⟩ := B1.cells
  obtain ⟨a, cap, a0, a1, af, own⟩ := L1.cells
  have HL1 := hide L1
  have HB1 := hide B1
  obtain ⟨g, ha⟩ := own_addr own
  clear L1 B1 own af
  generalize hm1 : es1.length = m at *
  replace hm1 := hide hm1
  gi_wp2_with fail
  gi_big_quiet_th (fail)
  gi_wp2_with fail
  refine ⟨trivial, (callsIn_wide.2 (byUse_any b _)).mono ?_⟩
  rintro e w' ⟨rfl, rfl⟩
  gi_wp2_with fail
  have L2 := (unhide HL1).dn nq
  have B2 := (unhide HB1).keep (W' := w1.drewN nq) (fun _ _ _ => rfl)
  have F2 := (unhide HF1).dn nq
  have a1' : (w1.drewN nq).cell? ⟨b, 1, none⟩ = some (.slice a m cap) := a1
  clear HL1 HB1 HF1 c0 c1 c2 c3 f2 f3 a0 a1
  rw [show w1.heap.size = (w1.drewN nq).heap.size from rfl]
  generalize w1.drewN nq = w2 at *
  have hV2 := (Below.refl w2.heap.size w2).alloc (Nat.le_refl _) (.cells #[.pointer (some ⟨b, 0, none⟩)] 22)
  have gx := putAll (w := w2) (.cells #[.pointer (some ⟨b, 0, none⟩)] 22) w2.heap.size rfl
  have hsz2 : (w2.alloc (.cells #[.pointer (some ⟨b, 0, none⟩)] 22)).heap.size = w2.heap.size + 1 := by simp
  generalize w2.alloc (.cells #[.pointer (some ⟨b, 0, none⟩)] 22) = V2 at *
  have hb3 := lt_of_heap B2.b3
  have hH2 : b < w2.heap.size := L2.lt
  have hbs2 := L2.base_le
  generalize hH : w2.heap.size = H at *
  have HHH : Hid (w2.heap.size = H) := hH
  refine wpIn_range_ret hro (by omega) (gf := 36) (lb := #[.pointer (some ⟨H, 0, none⟩)]) rfl trivial (enters_of Try.func36 (by kernel_rfl) rfl) ?_
  intro r hF hst hpe htm hps has hbo
  obtain ⟨L1, D1, hB2⟩ := setup V2 r
  rw [hsz2] at L1 D1 ⊢
  generalize ((V2.alloc (.deferred (some []))).alloc (.loop r)) = W1 at L1 D1 hB2 ⊢
  have J0 : UJ w2 W1 r H b es1 key 0 := ⟨⟨L1, D1, (hB2.block _ (by omega)).trans gx, hV2.trans (hB2.mono (by omega))⟩, by simp⟩
  have HL2 := hide L2
  have HB2 := hide B2
  have HF2 := hide F2
  clear L1 D1 hB2 gx hV2 hsz2 L2 B2 F2
  refine (iter_go (H + 2) H b g m cap a W1 (fun i W => UJ w2 W r H b es1 key i) (fun W => US base w W H h b mo es1 key) (by omega) J0 ha (fun i W' J => ⟨by rw [cell_of J.f.xx]; rfl, (World.cell?_of_block (J.f.be.block b (by omega))).trans a1'⟩) ?_).mono ?_
  · intro i W2 J him
    refine yield_ret hF hst hpe htm hps has hbo rfl J.f.l ?_
    clear htm hps has hbo hst hpe J0
    intro rb
    gi_wp2
    refine ⟨J.f.l, ?_⟩
    have F4 := J.f.put rb (by omega)
    have hno := J.no
    generalize W2.putObj (H + 2) (.loop rb) = W4 at *
    have L4 : Ls base W4 b mo es1 := (unhide HL2).below (by rw [unhide HHH]; exact F4.be)
    have B4 : Bx W4 h b key ⟨#[]⟩ false := (unhide HB2).keep fun k _ _ => F4.be.block k (by omega)
    obtain ⟨⟨xk, xv⟩, hx⟩ : ∃ x, es1[i]? = some x := ⟨_, List.getElem?_eq_getElem (by rw [unhide hm1]; exact him)⟩
    obtain ⟨a', cap', _, a1x, _, ownw⟩ := L4.cells
    have hbb := (World.cell?_of_block (a := ⟨b, 1, none⟩) (F4.be.block b (by omega))).trans a1'
    rw [a1x] at hbb
    simp only [Option.some.injEq, Value.slice.injEq] at hbb
    obtain ⟨rfl, -, rfl⟩ := hbb
    have ha' : a' = some ⟨g, 0, none⟩ := by
      rcases ha with ⟨_, hz, _⟩ | e
      · omega
      · exact e
    subst ha'
    obtain ⟨g', eg, c0, c1, cf, _⟩ := own_at ownw hx rfl
    simp only [Option.some.injEq, Addr.mk.injEq, and_true] at eg
    subst eg
    obtain ⟨k0, k1, k2, k3, kf2, kf3⟩ := B4.cells
    have HP := hide (fun n => pinned_any g (i * 2) xv (W4.drewN n) c1)
    have Fd := fun n => (show Fl w2 (W4.drewN n) rb H (H + 2) (H + 1) H b from ⟨F4.l, F4.dd, F4.xx, below_dn F4.be n⟩)
    by_cases hv : 0 < xv
    · rw [show decide (0 < xv) = true by simpa using hv] at HP
      have HJ := hide (fun n => show (W4.drewN n).heap[H + 2]? = some (.loop rb) ∧ UJ w2 ((W4.drewN n).putObj (H + 2) (.loop r)) r H b es1 key (i + 1) from ⟨(Fd n).l, (Fd n).put r (by omega), by
        intro p hp
        rw [List.take_add_one, hx] at hp
        rcases List.mem_append.1 hp with hp | hp
        · exact hno p hp
        · simp at hp; subst hp; simp [hv]⟩)
      clear J F4 L4 B4 hx a1' a1x ha ownw HL2 HB2 HF2 cf hno Fd
      gi_wp2_with fail
      refine wpIn_round_quiet (by kernel_rfl) (by kernel_rfl) (by kernel_rfl) ?_
      have hwf : ∀ f, Fence.wide.fn f := fun _ => trivial
      repeat (gi_big_quiet_step (refine CallsIn.quiet_of_same (callsIn_wide.2 (unhide HP _))))
      clear hwf
      refine wpQuietIn_nil ?_
      intro _ hw'
      obtain ⟨nq, hw''⟩ := hw'
      subst hw''
      gi_wp2_with fail
      exact unhide HJ nq
    · rw [show decide (0 < xv) = false by simpa using hv] at HP
      by_cases he : xk = key
      · have HJ := hide (fun n => show (W4.drewN n).heap[H + 2]? = some (.loop rb) ∧ UJ w2 ((W4.drewN n).putObj (H + 2) (.loop r)) r H b es1 key (i + 1) from ⟨(Fd n).l, (Fd n).put r (by omega), by
          intro p hp
          rw [List.take_add_one, hx] at hp
          rcases List.mem_append.1 hp with hp | hp
          · exact hno p hp
          · simp at hp; subst hp; simp [he]⟩)
        subst he
        clear J F4 L4 B4 hx a1' a1x ha ownw HL2 HB2 HF2 cf hno Fd
        gi_wp2_with fail
        refine wpIn_round_quiet (by kernel_rfl) (by kernel_rfl) (by kernel_rfl) ?_
        have hwf : ∀ f, Fence.wide.fn f := fun _ => trivial
        repeat (gi_big_quiet_step (refine CallsIn.quiet_of_same (callsIn_wide.2 (unhide HP _))))
        clear hwf
        refine wpQuietIn_nil ?_
        intro _ hw'
        obtain ⟨nq, hw''⟩ := hw'
        subst hw''
        gi_wp2_with fail
        exact unhide HJ nq
      · have eb := str_ne he
        have hvic := vic_at hx hno hv he
        have HR := hide (fun n => remove_any base b i mo es1 xk xv (W4.drewN n) (L4.dn n) hx (by rw [unhide hm1]; omega))
        have HB4 := hide (fun n => (B4.keep (W' := W4.drewN n) fun _ _ _ => rfl))
        have HFd := hide Fd
        have HX := hide hx
        have HV := hide hvic
        clear J F4 L4 B4 hx a1' a1x ha ownw HL2 HB2 cf hno Fd hvic
        gi_wp2_with fail
        refine wpIn_round_quiet (by kernel_rfl) (by kernel_rfl) (by kernel_rfl) ?_
        have hwf : ∀ f, Fence.wide.fn f := fun _ => trivial
        repeat (gi_big_quiet_step (refine CallsIn.quiet_of_same (callsIn_wide.2 (unhide HP _))))
        clear hwf
        refine wpQuietIn_nil ?_
        intro _ hw'
        obtain ⟨nq, hw''⟩ := hw'
        subst hw''
        gi_wp2_with fail
        refine ⟨trivial, (callsIn_wide.2 (unhide HR nq)).mono ?_⟩
        rintro e w5 ⟨rfl, L5, F5⟩
        have B5 := (unhide HB4 nq).fr F5 hbl
        obtain ⟨j0, j1, j2, j3, jf2, jf3⟩ := B5.cells
        have HB5 := hide B5
        have HL5 := hide L5
        have HF5 := hide F5
        clear B5 L5 F5 k0 k1 k2 k3 kf2 kf3 c0 c1
        have hfld := field54 xk xv
        gi_wp2_with fail
        have Fd := unhide HFd nq
        have l5 := (unhide HF5).blk _ _ Fd.l (by omega) (by simp)
        have d5 := (unhide HF5).blk _ _ Fd.dd (by omega) (by simp)
        have kp : ∀ {k : Nat}, h + 3 < k → ((w5.setCell ⟨h + 2, 0, none⟩ (.string xk)).setCell ⟨h + 3, 0, none⟩ (.bool true)).heap[k]? = w5.heap[k]? := fun hk => (Below.heap_setCell _ _ _ _ (by simp; omega)).trans (Below.heap_setCell _ _ _ _ (by simp; omega))
        have l6 := (kp (k := H + 2) (by omega)).trans l5
        have d6 := (kp (k := H + 1) (by omega)).trans d5
        have F6 := ((((unhide HF2).trans (.of_below (by rw [unhide HHH]; exact Fd.be) (by rw [unhide HHH]; exact hbs2))).trans (unhide HF5)).set2 (h := h) (by rw [unhide HH]; exact Nat.le_refl _) (by rw [unhide HH]; exact hbs) (.string xk) (.bool true))
        have B6 := (unhide HB5).set xk true
        have L6 := (unhide HL5).set2 (unhide HB5) hbl (.string xk) (.bool true)
        generalize (w5.setCell ⟨h + 2, 0, none⟩ (.string xk)).setCell ⟨h + 3, 0, none⟩ (.bool true) = W6 at *
        have po : ∀ r' : Loop, ∀ k, k ≠ H + 2 → (W6.putObj (H + 2) (.loop r')).heap[k]? = W6.heap[k]? := fun r' k hk => World.putObj_heap_other hk
        refine ⟨l6, ⟨_, rfl, rfl, World.putObj_heap_same (lt_of_heap l6)⟩, (po _ _ (by omega)).trans d6, ?_, i, xk, xv, unhide HV, unhide HX, ?_, ?_⟩
        · have hsu := unhide HH
          exact ⟨F6.os, F6.tape, F6.output, by rw [World.putObj_size]; exact F6.size, fun k hk => (po _ k (by omega)).trans (F6.low k hk), fun k o h1 h2 h3 => (po _ k (by have := lt_of_heap h1; omega)).trans (F6.blk k o h1 h2 h3)⟩
        · exact B6.keep fun k _ _ => po _ k (by omega)
        · exact L6.keep fun k cur t hc _ => (put_other l6 hc (by simp)).trans hc.symm
  · rintro e W2 ⟨rfl, J | J⟩
    · refine ⟨⟨_, rfl⟩, .inl ⟨J.f.l, ?_⟩⟩
      have F6 := J.f.put { r with state := .exhausted } (by omega)
      have hno : vic es1 key = none := vic_none (by have := J.no; rwa [← unhide hm1, List.take_length] at this)
      generalize W2.putObj (H + 2) (.loop { r with state := .exhausted }) = W3 at *
      have L3 : Ls base W3 b mo es1 := (unhide HL2).below (by rw [unhide HHH]; exact F6.be)
      have B3 : Bx W3 h b key ⟨#[]⟩ false := (unhide HB2).keep fun k _ _ => F6.be.block k (by omega)
      have F3 : Fr base b w W3 := (unhide HF2).trans (.of_below (by rw [unhide HHH]; exact F6.be) (by rw [unhide HHH]; exact hbs2))
      obtain ⟨k0, k1, k2, k3, kf2, kf3⟩ := B3.cells
      have HD := hide F6.dd
      have HN := hide hno
      have HL := hide (L3.set2 B3 hbl (.string ⟨#[]⟩) (.bool false))
      have HB := hide (B3.set ⟨#[]⟩ false)
      have HF := hide (F3.set2 (h := h) (by rw [unhide HH]; exact Nat.le_refl _) (by rw [unhide HH]; exact hbs) (.string ⟨#[]⟩) (.bool false))
      clear J J0 F6 htm hps has hbo hst hpe hno L3 B3 F3
      gi_wp2_with fail
      have dd5 : ((W3.setCell ⟨h + 2, 0, none⟩ (.string ⟨#[]⟩)).setCell ⟨h + 3, 0, none⟩ (.bool false)).heap[H + 1]? = some (.deferred (some [])) := (Below.heap_setCell _ _ _ _ (by simp; omega)).trans ((Below.heap_setCell _ _ _ _ (by simp; omega)).trans (unhide HD))
      refine ⟨by simp, .inl ⟨_, _, rfl, run_takeDeferred dd5, ?_⟩⟩
      have L6 := unhide HL
      have B6 := unhide HB
      have F6 := unhide HF
      generalize (W3.setCell ⟨h + 2, 0, none⟩ (.string ⟨#[]⟩)).setCell ⟨h + 3, 0, none⟩ (.bool false) = W6 at *
      have po : ∀ k, k ≠ H + 1 → (W6.putObj (H + 1) (.deferred none)).heap[k]? = W6.heap[k]? := fun k hk => World.putObj_heap_other hk
      have B7 := B6.keep fun k _ _ => po k (by omega)
      obtain ⟨_, _, d2, d3, _, _⟩ := B7.cells
      refine ⟨.tuple #[.string ⟨#[]⟩, .bool false], by simp [results, Try.results9, go_sem, d2, d3], ?_, ?_, ?_⟩
      · simp only [useV, unhide HN]
      · simp only [useV, unhide HN]
        exact L6.keep fun k cur t hc _ => po k (by rintro rfl; rw [dd5] at hc; simp at hc)
      · have hsu := unhide HH
        exact ⟨F6.os, F6.tape, F6.output, by rw [World.putObj_size]; exact F6.size, fun k hk => (po k (by omega)).trans (F6.low k hk), fun k o h1 h2 h3 => (po k (by have := lt_of_heap h1; omega)).trans (F6.blk k o h1 h2 h3)⟩
    · obtain ⟨rd, hd1, hd2, l5⟩ := J.l
      refine ⟨⟨_, rfl⟩, .inr ⟨rd, hd1, hd2, l5, ?_⟩⟩
      obtain ⟨i, x, v, hv, hx, B5, L5⟩ := J.ls
      have po0 : ∀ k, k ≠ H + 2 → (W2.putObj (H + 2) (.loop { rd with state := .exhausted })).heap[k]? = W2.heap[k]? := fun k hk => World.putObj_heap_other hk
      have d5 := (po0 _ (by omega)).trans J.dd
      have B6 := B5.keep fun k _ _ => po0 k (by omega)
      have L6 : Ls base (W2.putObj (H + 2) (.loop { rd with state := .exhausted })) b mo (era es1 i) := L5.keep fun k cur t hc _ => (put_other l5 hc (by simp)).trans hc.symm
      have F5 := J.fr
      have F6 : Fr base b w (W2.putObj (H + 2) (.loop { rd with state := .exhausted })) := by
        have hsu := unhide HH
        exact ⟨F5.os, F5.tape, F5.output, by rw [World.putObj_size]; exact F5.size, fun k hk => (po0 k (by omega)).trans (F5.low k hk), fun k o h1 h2 h3 => (po0 k (by have := lt_of_heap h1; omega)).trans (F5.blk k o h1 h2 h3)⟩
      generalize W2.putObj (H + 2) (.loop { rd with state := .exhausted }) = W3 at *
      have hu : useV es1 key = (x, true, era es1 i) := by simp [useV, hv, hx]
      have HD := hide d5
      have HL := hide L6
      have HB := hide B6
      have HF := hide F6
      have HU := hide hu
      clear J J0 htm hps has hbo hst hpe B5 L5 F5 B6 L6 F6 hv hx hu d5
      gi_wp2_with fail
      refine ⟨by simp, .inl ⟨_, _, rfl, run_takeDeferred (unhide HD), ?_⟩⟩
      have F6 := unhide HF
      have po : ∀ k, k ≠ H + 1 → (W3.putObj (H + 1) (.deferred none)).heap[k]? = W3.heap[k]? := fun k hk => World.putObj_heap_other hk
      have B7 := (unhide HB).keep fun k _ _ => po k (by omega)
      obtain ⟨_, _, d2, d3, _, _⟩ := B7.cells
      refine ⟨.tuple #[.string x, .bool true], by simp [results, Try.results9, go_sem, d2, d3], ?_, ?_, ?_⟩
      · rw [unhide HU]
      · rw [unhide HU]
        exact (unhide HL).keep fun k cur t hc _ => po k (by rintro rfl; rw [unhide HD] at hc; simp at hc)
      · have hsu := unhide HH
        exact ⟨F6.os, F6.tape, F6.output, by rw [World.putObj_size]; exact F6.size, fun k hk => (po k (by omega)).trans (F6.low k hk), fun k o h1 h2 h3 => (po k (by have := lt_of_heap h1; omega)).trans (F6.blk k o h1 h2 h3)⟩
/-- What Use answers, and leaves. -/
def useS (mo : Int) (es : Ents) (k : ByteArray) : ByteArray × Bool × Ents := if ((endM es k).length : Int) ≤ mo then (⟨#[]⟩, false, endM es k) else useV (endM es k) k
theorem use_any (base b : Nat) (mo : Int) (es : Ents) (key : ByteArray) (w : World) (hG : Ls base w b mo es) (hes : es.length ≤ 900) :
    Calls Try.prog 9 #[.pointer (some ⟨b, 0, none⟩), .string key] w fun e w' => e = .returned (.tuple #[.string (useS mo es key).1, .bool (useS mo es key).2.1]) ∧ Ls base w' b mo (useS mo es key).2.2 ∧ Fr base b w w' := by
  unfold useS
  by_cases hle : ((endM es key).length : Int) ≤ mo
  · simp only [hle, if_true]
    exact callsIn_wide.1 (use_le base b mo es key w hG hes hle)
  · simp only [hle, if_false]
    exact callsIn_wide.1 (use_gt base b mo es key w hG hes hle)
end Go.Proofs.Ytjcjibjagjiedaa
