/-
  The document's list: Oldest, Shrink.
-/
import Derived.Test.YtjcjibjagjiedaaRefC
import Derived.Test.YtjcjibjagjiedaaPure
namespace Go.Proofs.Ytjcjibjagjiedaa
open Go.RowKit
attribute [local go_sem ↓] Go.wp_at_zero Go.wp_at_succ

theorem rfield (x : ByteArray) (v : Int) (w : World) : Sem.run Try.prog (Instr.field 63 (.agg #[.string x, .int .i64 v]) 0) w = .ok (.string x) w := by kernel_rfl
theorem shr_full {n : Int} {q : List ByteArray × Ents} (h : n ≤ (q.1.length : Int)) : ∀ l : Ents, l.foldl (stepS n) q = (q.1, q.2 ++ l)
  | [] => by simp
  | p :: l => by
    have e : stepS n q p = (q.1, q.2 ++ [p]) := by unfold stepS; rw [if_neg (by rintro ⟨h1, _⟩; omega)]
    rw [List.foldl_cons, e, shr_full (q := (q.1, q.2 ++ [p])) h l]
    simp
theorem shr_split (n : Int) (es : Ents) (t : Nat) : shr n es = (es.drop t).foldl (stepS n) (shr n (es.take t)) := by
  conv => lhs; rw [shr, ← List.take_append_drop t es, List.foldl_append]
  rfl
theorem Rl.rgrown {base b n : Nat} {W W5 : World} {mo : Int} {es : Ents} {B : Nat} {v : Value} {xs : List Value} {o : Obj} (L : Rl base W b mo es) (own : W.ownsRow B 9 1 v n xs) (hg : (W.alloc o).grownBy W5 v.ownBlock) : Rl base W5 b mo es := by
  refine L.keep fun k cur t hc ho => (grown_keep own hg hc ?_).trans hc.symm
  intro c e
  simp at e
  obtain ⟨rfl, rfl⟩ := e
  rcases ho with rfl | ho
  · obtain ⟨_, _, q, _⟩ := L.hb
    rw [q] at hc; simp at hc
  · simp at ho
theorem RFr.grown {base b n : Nat} {w W W5 : World} {v : Value} {xs : List Value} {o : Obj} (F : RFr base b w W) (hbs : base ≤ w.heap.size) (own : W.ownsRow w.heap.size 9 1 v n xs) (hg : (W.alloc o).grownBy W5 v.ownBlock) : RFr base b w W5 := by
  have hk : ∀ k, k < w.heap.size → W5.heap[k]? = W.heap[k]? := by
    intro k hk
    have hlt : k < W.heap.size := Nat.lt_of_lt_of_le hk F.size
    rw [hg.block k (by simp; omega), Below.heap_alloc _ _ _ hlt]
    intro e
    obtain ⟨-, ⟨rfl, _⟩ | ⟨g', cap, cur, rfl, hb, _⟩⟩ := own
    · simp [Value.ownBlock] at e
    · simp [Value.ownBlock] at e; omega
  have hs := hg.size
  simp at hs
  exact ⟨hg.os.trans F.os, hg.tape.trans F.tape, hg.output.trans F.output, by have := F.size; omega, fun k h => (hk k (by omega)).trans (F.low k h), fun k o h1 h2 h3 => (hk k (lt_of_heap h1)).trans (F.blk k o h1 h2 h3)⟩
theorem own_rfr {base b B n : Nat} {W W' : World} {mo : Int} {es : Ents} {v : Value} {xs : List Value} {t : TypeId} {s : Nat} (F : RFr base b W W') (L : Rl base W b mo es) (ht : t ≠ 63) (ht2 : t ≠ 60) (own : W.ownsRow B t s v n xs) : W'.ownsRow B t s v n xs :=
  own_keep own fun k cur hc => (F.blk k _ hc (by rintro rfl; obtain ⟨_, _, q, _⟩ := L.hb; rw [q] at hc; simp at hc; exact ht2 hc.2.symm) (by intro c e; simp at e; exact ht e.2)).trans hc.symm

set_option maxRecDepth 100000 in
set_option maxHeartbeats 2000000 in
theorem roldest_any (base b : Nat) (mo n : Int) (es : Ents) (w : World) (h : Rl base w b mo es) (hes : es.length ≤ 1000) :
    Calls Try.prog 27 #[.pointer (some ⟨b, 0, none⟩), .int .i64 n] w fun e w' => ∃ a cap, e = .returned (.slice a (olds es n).length cap) ∧ w'.ownsRow w.heap.size 9 1 (.slice a (olds es n).length cap) (olds es n).length (strs (olds es n)) ∧ Below w.heap.size w w' := by
  obtain ⟨i9, hi9, hz0, hz1, hz2⟩ := info_parts info9
  have HH := hide h
  obtain ⟨a, cap, a0, a1, af, own⟩ := h.cells
  have hbl := h.lt
  have HA := hide (fun (W : World) (hW : Below w.heap.size w W) => (World.cell?_of_block (a := ⟨b, 1, none⟩) (hW.block b hbl)).trans a1)
  clear h own a0 af
  generalize hml : es.length = ml at *
  replace hml := hide hml
  go_enter Try.func27, Try.ntmps27
  go_wp2_with fail
  clear a1
  go_loopw [5, 6] (fun ov iv wr => ∃ (i G : Nat) (ga : Option Addr) (gc : Nat), i ≤ ml ∧ G ≤ i ∧ ((i : Int) ≤ n ∨ i = 0) ∧ iv = .int .i64 (i : Int) ∧ ov = .slice ga G gc ∧ Hid (((es.take i).map (·.1)).length = G) ∧ Hid (wr.ownsRow w.heap.size 9 1 (.slice ga G gc) G (strs ((es.take i).map (·.1)))) ∧ Hid (Below w.heap.size w wr)) (fun _ iv _ => ml - (intOf iv).toNat)
  case atStart => exact ⟨0, 0, none, 0, by omega, by omega, .inr rfl, rfl, rfl, hide rfl, hide (World.ownsRow_nil _ _ _ _), hide (Below.refl _ _)⟩
  case round =>
    obtain ⟨i, G, ga, gc, hi, hGi, hin, rfl, rfl, hG, hO, hB⟩ := hrel
    have b1 := unhide HA wr (unhide hB)
    by_cases hil : i < ml
    · have i0 : (0 : Int) ≤ (i : Int) := by omega
      have i1 : (i : Int) < (ml : Int) := by omega
      by_cases hn : (i : Int) < n
      · obtain ⟨⟨x, v⟩, hx⟩ : ∃ p, es[i]? = some p := ⟨_, List.getElem?_eq_getElem (by rw [unhide hml]; exact hil)⟩
        have LW := (unhide HH).below (unhide hB)
        obtain ⟨a', cap', _, a1', _, ownw⟩ := LW.cells
        rw [b1] at a1'
        simp only [Option.some.injEq, Value.slice.injEq] at a1'
        obtain ⟨rfl, -, rfl⟩ := a1'
        obtain ⟨g, rfl, c0, _, _, _⟩ := own_at ownw hx rfl
        have hE := hide (olds_at hx)
        have hsz : w.heap.size ≤ wr.heap.size := (unhide hB).size
        have own2 := own_keep (W' := wr.alloc (.cells #[.string x] 9)) (unhide hO) (fun k cur hc => Below.heap_alloc wr _ _ (lt_of_heap hc))
        have HO := hide own2
        have P1 := hide (cell_one_new wr (.string x) 9)
        have P2 : Hid (∀ u ∈ [Value.string x], u.oneCell' = true) := hide (by intro u hu; simp at hu; subst hu; rfl)
        have P3 : Hid (G + 1 ≤ maxLen) := hide (by unfold maxLen; omega)
        have P4 : Hid ((G + 1) * 16 ≤ 140737488355328) := hide (by omega)
        have P5 : Hid (w.heap.size ≤ (wr.alloc (.cells #[.string x] 9)).heap.size) := hide (by simp; omega)
        clear LW ownw hx hO
        go_wp2_with (first
          | (at_builtin; refine wpList_append_own_at _ rfl _ _ 30 rfl w.heap.size 9 i9 (.string ByteArray.empty) 1 16 Try.underlying30 hi9 hz0 hz1 hz2 rfl (by decide) _ _ _ rfl own2 ⟨wr.heap.size, 0, none⟩ 1 1 [.string x] rfl rfl (unhide P1) (unhide P2) (unhide P3) (unhide P4) (unhide P5) ?_))
        intro v' w7 own7 hgr _ _
        obtain ⟨na', nc', rfl⟩ := own_form own7
        have hB7 : Below w.heap.size w w7 := below_grown ((unhide hB).alloc hsz _) (unhide HO) hgr (by simp; omega)
        have HB7 := hide hB7
        have HO7 := hide own7
        clear own7 hgr hB7 own2 HO b1 c0
        go_wp2_with fail
        refine ⟨⟨i + 1, G + 1, na', nc', by omega, by omega, .inl (by omega), rfl, rfl, hide (by rw [unhide hE, List.length_append, unhide hG]; rfl), hide (by rw [unhide hE]; simpa [strs] using unhide HO7), HB7⟩, by simp [intOf]; omega⟩
      · have hn2 : ((i : Int) < n) = False := by simp; omega
        have hE : (es.take i).map (·.1) = olds es n := olds_stop (by omega) hin
        rw [hE] at hG hO
        go_wp2_with fail
        go_ret
        refine ⟨ga, gc, by rw [unhide hG]; rfl, by rw [unhide hG]; exact unhide hO, unhide hB⟩
    · have i1 : ¬ (i : Int) < (ml : Int) := by omega
      obtain rfl : i = ml := by omega
      have hE : (es.take i).map (·.1) = olds es n := by rw [← unhide hml]; exact olds_end (by rw [unhide hml]; exact hin)
      rw [hE] at hG hO
      go_wp2_with fail
      go_ret
      refine ⟨ga, gc, by rw [unhide hG]; rfl, by rw [unhide hG]; exact unhide hO, unhide hB⟩

set_option maxRecDepth 100000 in
set_option maxHeartbeats 2000000 in
theorem rshrink_any (base b : Nat) (mo n : Int) (es : Ents) (w : World) (h : Rl base w b mo es) (hf : Fit 1000 es) :
    Calls Try.prog 23 #[.pointer (some ⟨b, 0, none⟩), .int .i64 n] w fun e w' => ∃ a cap, e = .returned (.slice a (shr n es).1.length cap) ∧ w'.ownsRow w.heap.size 9 1 (.slice a (shr n es).1.length cap) (shr n es).1.length (strs (shr n es).1) ∧ Rl base w' b mo (shr n es).2 ∧ RFr base b w w' := by
  obtain ⟨i9, hi9, hz0, hz1, hz2⟩ := info_parts info9
  have HH := hide h
  have hbs := h.base_le
  have hlen := hf.len
  have HFit := hide hf
  clear h hf
  go_enter Try.func23, Try.ntmps23
  go_wp2_with fail
  go_loopw [5, 6] (fun ov iv wr => ∃ (i G t : Nat) (ga : Option Addr) (gc : Nat), t ≤ es.length ∧ G + i = t ∧ iv = .int .i64 (i : Int) ∧ ov = .slice ga G gc ∧ Hid ((shr n (es.take t)).1.length = G) ∧ Hid ((shr n (es.take t)).2.length = i) ∧ Hid (Rl base wr b mo ((shr n (es.take t)).2 ++ es.drop t)) ∧ Hid (wr.ownsRow w.heap.size 9 1 (.slice ga G gc) G (strs (shr n (es.take t)).1)) ∧ Hid (RFr base b w wr)) (fun ov iv _ => es.length - ((match ov with | .slice _ m _ => m | _ => 0) + (intOf iv).toNat))
  case atStart => exact ⟨0, 0, 0, none, 0, by omega, rfl, rfl, rfl, hide rfl, hide rfl, HH, hide (World.ownsRow_nil _ _ _ _), hide (RFr.refl _ _ _)⟩
  case round =>
    obtain ⟨i, G, t, ga, gc, ht, hGt, rfl, rfl, hG, hI, L, O, F⟩ := hrel
    obtain ⟨a, cap, a0, a1, af, own⟩ := (unhide L).cells
    have hcl : ((shr n (es.take t)).2 ++ es.drop t).length = i + (es.length - t) := by rw [List.length_append, unhide hI, List.length_drop]
    rw [hcl] at a1 own
    obtain ⟨M, hM⟩ : ∃ M, M = i + (es.length - t) := ⟨_, rfl⟩
    rw [← hM] at a1 own
    replace hcl := hide (hcl.trans hM.symm)
    by_cases hil : t < es.length
    · have i0 : (0 : Int) ≤ (i : Int) := by omega
      have i1 : (i : Int) < (M : Int) := by omega
      by_cases hn : (G : Int) < n
      · obtain ⟨⟨x, v⟩, hx⟩ : ∃ p, es[t]? = some p := ⟨_, List.getElem?_eq_getElem hil⟩
        have hxc : ((shr n (es.take t)).2 ++ es.drop t)[i]? = some (x, v) := by
          rw [List.getElem?_append_right (by rw [unhide hI]; exact Nat.le_refl _), unhide hI, Nat.sub_self, List.getElem?_drop, Nat.add_zero]; exact hx
        obtain ⟨g, rfl, c0, c1, _, _⟩ := own_at own hxc (unhide hcl)
        have hd : es.drop t = (x, v) :: es.drop (t + 1) := by
          obtain ⟨hl, he⟩ := List.getElem?_eq_some_iff.1 hx
          rw [List.drop_eq_getElem_cons hl, he]
        have hss := shr_succ (n := n) hx
        by_cases hv : 0 < v
        · rw [stepS, if_neg (by simp [hv])] at hss
          have L2 := hide (show Rl base wr b mo ((shr n (es.take (t + 1))).2 ++ es.drop (t + 1)) by rw [hss]; have := unhide L; rw [hd] at this; simpa using this)
          replace hss := hide hss
          replace hM := hide hM
          clear hx hxc hd own a0 af L
          go_wp2_with fail
          refine ⟨⟨i + 1, G, t + 1, ga, gc, by omega, by omega, rfl, rfl, hide (by rw [unhide hss]; exact unhide hG), hide (by rw [unhide hss, List.length_append, unhide hI]; rfl), L2, hide (by rw [unhide hss]; exact unhide O), F⟩, by simp [intOf]; omega⟩
        · rw [stepS, if_pos ⟨by rw [unhide hG]; exact hn, hv⟩] at hss
          have he : era ((shr n (es.take t)).2 ++ es.drop t) i = (shr n (es.take (t + 1))).2 ++ es.drop (t + 1) := by
            rw [hss, hd]
            unfold era
            rw [List.take_left' (unhide hI), List.drop_append, List.drop_eq_nil_of_le (by rw [unhide hI]; omega), unhide hI]
            simp
          have HR := hide (rout_any base b i mo _ x v wr (unhide L) hxc (by rw [unhide hcl]; omega))
          rw [he] at HR
          have hv2 : (0 < v) = False := by simp; omega
          have hfld := rfield x v
          replace hss := hide hss
          replace hM := hide hM
          clear hx hxc hd own a0 af he
          go_wp2_with fail
          refine (unhide HR).mono ?_
          rintro e w5 ⟨rfl, ⟨L5, F5⟩, -, -⟩
          have O5 := own_rfr F5 (unhide L) (by decide) (by decide) (unhide O)
          have F6 := (unhide F).trans F5
          have hsz : w.heap.size ≤ w5.heap.size := F6.size
          have own2 := own_keep (W' := w5.alloc (.cells #[.string x] 9)) O5 (fun k cur hc => Below.heap_alloc w5 _ _ (lt_of_heap hc))
          have HL5 := hide L5
          have HF6 := hide F6
          have HO5 := hide O5
          have P1 := hide (cell_one_new w5 (.string x) 9)
          have P2 : Hid (∀ u ∈ [Value.string x], u.oneCell' = true) := hide (by intro u hu; simp at hu; subst hu; rfl)
          have P3 : Hid (G + 1 ≤ maxLen) := hide (by unfold maxLen; omega)
          have P4 : Hid ((G + 1) * 16 ≤ 140737488355328) := hide (by omega)
          have P5 : Hid (w.heap.size ≤ (w5.alloc (.cells #[.string x] 9)).heap.size) := hide (by simp; omega)
          clear L5 F5 F6 O5 HR L O F c0 c1 a1
          go_wp2_with (first
            | (at_builtin; refine wpList_append_own_at _ rfl _ _ 30 rfl w.heap.size 9 i9 (.string ByteArray.empty) 1 16 Try.underlying30 hi9 hz0 hz1 hz2 rfl (by decide) _ _ _ rfl own2 ⟨w5.heap.size, 0, none⟩ 1 1 [.string x] rfl rfl (unhide P1) (unhide P2) (unhide P3) (unhide P4) (unhide P5) ?_))
          intro v' w7 own7 hgr _ _
          obtain ⟨na', nc', rfl⟩ := own_form own7
          have L7 := hide ((unhide HL5).rgrown (unhide HO5) hgr)
          have F7 := hide ((unhide HF6).grown hbs (unhide HO5) hgr)
          have HO7 := hide own7
          clear own7 hgr own2 HO5
          go_wp2_with fail
          refine ⟨⟨i, G + 1, t + 1, na', nc', by omega, by omega, rfl, rfl, hide (by rw [unhide hss, List.length_append, unhide hG]; rfl), hide (by rw [unhide hss]; exact unhide hI), L7, hide (by rw [unhide hss]; simpa [strs] using unhide HO7), F7⟩, by simp [intOf]; omega⟩
      · have hn2 : ((G : Int) < n) = False := by simp; omega
        have hE : shr n es = ((shr n (es.take t)).1, (shr n (es.take t)).2 ++ es.drop t) := by rw [shr_split n es t, shr_full (by rw [unhide hG]; omega)]
        replace hE := hide hE
        replace hM := hide hM
        clear own a0 af
        go_wp2_with fail
        go_ret
        rw [unhide hE]
        refine ⟨ga, gc, by rw [unhide hG]; rfl, by rw [unhide hG]; exact unhide O, unhide L, unhide F⟩
    · have i1 : ¬ (i : Int) < (M : Int) := by omega
      have hte : t = es.length := by omega
      have hE : shr n es = ((shr n (es.take t)).1, (shr n (es.take t)).2 ++ es.drop t) := by rw [hte]; simp
      replace hE := hide hE
      replace hM := hide hM
      clear own a0 af hte
      go_wp2_with fail
      go_ret
      rw [unhide hE]
      refine ⟨ga, gc, by rw [unhide hG]; rfl, by rw [unhide hG]; exact unhide O, unhide L, unhide F⟩
end Go.Proofs.Ytjcjibjagjiedaa
