/-
  The contract of Within.
-/
import Derived.Test.YtlngeaacjbdmhaaAbove
namespace Go.Proofs.Ytlngeaacjbdmhaa
open Go.RowKit Go.Shelf Go.Maps
attribute [local go_sem] Oper.semAt_some

/-- What lies while Within goes upwards; what lies when it has met the Dir. -/
structure WJ (w W : World) (r : Loop) (h t : Nat) (n dir : Int) (ls : List Int) (i : Nat) : Prop where
  l : W.heap[h + 5]? = some (.loop r)
  dd : W.heap[h + 4]? = some (.deferred (some []))
  k0 : W.heap[h]? = some (.cells #[I dir] 3)
  k1 : W.heap[h + 1]? = some (.cells #[.bool false] 4)
  k2 : W.heap[h + 2]? = some (.cells #[P0 t] 23)
  k3 : W.heap[h + 3]? = some (.cells #[I n] 3)
  be : Below h w W
  no : ∀ u ∈ ls.take i, u ≠ dir
structure WS (w W : World) (h : Nat) (dir : Int) (ls : List Int) : Prop where
  f : ∃ rd : Loop, rd.state = .done ∧ rd.pending = some .ret ∧ W.heap[h + 5]? = some (.loop rd)
  dd : W.heap[h + 4]? = some (.deferred (some []))
  k1 : W.heap[h + 1]? = some (.cells #[.bool true] 4)
  be : Below h w W
  yes : dir ∈ ls
theorem WJ.put {w W : World} {r r' : Loop} {h t : Nat} {n dir : Int} {ls : List Int} {i j : Nat} (J : WJ w W r h t n dir ls i) (hj : ∀ u ∈ ls.take j, u ≠ dir) : WJ w (W.putObj (h + 5) (.loop r')) r' h t n dir ls j :=
  ⟨World.putObj_heap_same (lt_of_heap J.l), put_other J.l J.dd (by simp), put_other J.l J.k0 (by simp), put_other J.l J.k1 (by simp), put_other J.l J.k2 (by simp), put_other J.l J.k3 (by simp), ⟨J.be.os, J.be.tape, J.be.output, by rw [World.putObj_size]; exact J.be.size, fun k hk => (World.putObj_heap_other (by omega)).trans (J.be.block k hk)⟩, hj⟩
theorem WJ.drew {w W : World} {r : Loop} {h t : Nat} {n dir : Int} {ls : List Int} {i : Nat} (J : WJ w W r h t n dir ls i) (k : Nat) : WJ w (W.drewN k) r h t n dir ls i := ⟨J.l, J.dd, J.k0, J.k1, J.k2, J.k3, below_dn J.be k, J.no⟩
section
variable {lo N : Nat} {T : Tr} {q p : Nat} {nb : Int → Nat} {ev : Int → Value} {B : Nat}
set_option maxRecDepth 100000 in
set_option maxHeartbeats 1000000 in
theorem within_in {w : World} {t : Nat} (hT : TrI lo N w t T q p nb ev) (hw : Wk B T) (hB : B ≤ 890) {n dir : Int} (hn : (kl n).wf = true) {ls : List Int} (hl : Ab T n ls) :
    CallsIn Fence.wide 4 Try.prog 32 #[P0 t, I n, I dir] w fun e w' => e = .returned (.bool (decide (dir ∈ ls))) ∧ Below w.heap.size w w' := by
  have hro : Fence.wide.round = none := rfl
  have HT := hide hT
  have HW := hide hw
  have HN := hide hn
  have HL := hide hl
  clear hT hw hn hl
  refine callsIn_of_wp_marks Try.func32 rfl trivial ?_ hro
  simp only [Try.ntmps32, List.size_toArray, List.length_cons, List.length_nil, Nat.reduceAdd, Nat.reduceSub, Array.replicate_succ, Array.replicate_zero, List.push_toArray, List.append_toArray, List.nil_append, List.cons_append]
  gi_wp2_with fail
  refine ⟨trivial, (callsIn_wide.2 (above_any t n _)).mono ?_⟩
  rintro e w' ⟨rfl, rfl⟩
  gi_wp2_with fail
  obtain ⟨V, hV, hsz, g0, g1, g2, g3, hBV⟩ := four0 w (.cells #[I dir] 3) (.cells #[.bool false] 4) (.cells #[P0 t] 23) (.cells #[I n] 3)
  rw [hV]
  clear hV
  generalize hh : w.heap.size = h at *
  have HH : Hid (w.heap.size = h) := hh
  refine wpIn_range_ret hro (by omega) (gf := 61) (lb := #[.pointer (some ⟨h + 3, 0, none⟩), .pointer (some ⟨h + 2, 0, none⟩)]) rfl trivial (enters_of Try.func61 (by kernel_rfl) rfl) ?_
  intro r hF hst hpe htm hps has hbo
  obtain ⟨L1, D1, hB2⟩ := setup V r
  rw [hsz] at L1 D1 ⊢
  generalize ((V.alloc (.deferred (some []))).alloc (.loop r)) = W1 at L1 D1 hB2 ⊢
  have J0 : WJ w W1 r h t n dir ls 0 := ⟨L1, D1, (hB2.block _ (by omega)).trans g0, (hB2.block _ (by omega)).trans g1, (hB2.block _ (by omega)).trans g2, (hB2.block _ (by omega)).trans g3, hBV.trans (hB2.mono (by omega)), by simp⟩
  clear L1 D1 hB2 g0 g1 g2 g3 hBV
  refine (above_iter (unhide HT) (unhide HW) hB (h + 5) (h + 3) (h + 2) n (unhide HN) ls (unhide HL) W1 (fun i W => WJ w W r h t n dir ls i) (fun W => WS w W h dir ls) J0 (fun i W' J => ⟨by rw [unhide HH]; exact J.be, by rw [cell_of J.k3]; rfl, by rw [cell_of J.k2]; rfl⟩) (fun i W' k J => J.drew k) ?_).mono ?_
  · intro i W2 u J hu
    refine yield_ret hF hst hpe htm hps has hbo rfl J.l ?_
    clear htm hps has hbo hst hpe J0
    intro rb
    gi_wp2
    refine ⟨J.l, ?_⟩
    have J4 := J.put (r' := rb) J.no
    generalize W2.putObj (h + 5) (.loop rb) = W4 at *
    have i0 : W4.cell? ⟨h, 0, none⟩ = some (I dir) := by rw [cell_of J4.k0]; rfl
    have i1 : W4.cell? ⟨h + 1, 0, none⟩ = some (.bool false) := by rw [cell_of J4.k1]; rfl
    have i1f : W4.frozen? ⟨h + 1, 0, none⟩ = false := frozen_of J4.k1 0
    by_cases he : u = dir
    · subst he
      have FIN : Hid ((W4.setCell ⟨h + 1, 0, none⟩ (.bool true)).heap[h + 5]? = some (.loop rb) ∧ WS w ((W4.setCell ⟨h + 1, 0, none⟩ (.bool true)).putObj (h + 5) (.loop { rb with state := .done, pending := some .ret })) h u ls) := by
        have kp : ∀ {k : Nat} {o : Obj}, W4.heap[k]? = some o → k ≠ h + 1 → (W4.setCell ⟨h + 1, 0, none⟩ (.bool true)).heap[k]? = some o := fun h1 h2 => (Below.heap_setCell _ _ _ _ h2).trans h1
        have l5 := kp J4.l (by omega)
        have q1 : (W4.setCell ⟨h + 1, 0, none⟩ (.bool true)).heap[h + 1]? = some (.cells #[.bool true] 4) := by
          rw [heap_set J4.k1]; simp
        have b5 := J4.be.setCell (p := ⟨h + 1, 0, none⟩) (by simp) (.bool true)
        exact ⟨l5, ⟨_, rfl, rfl, World.putObj_heap_same (lt_of_heap l5)⟩, put_other l5 (kp J4.dd (by omega)) (by simp), put_other l5 q1 (by simp), ⟨b5.os, b5.tape, b5.output, by rw [World.putObj_size]; exact b5.size, fun k hk => (World.putObj_heap_other (by omega)).trans (b5.block k hk)⟩, List.mem_of_getElem? hu⟩
      clear J J4 hu
      gi_wp2_with fail
      exact unhide FIN
    · have hb : (u == dir) = false := by simpa using he
      have HJ := hide (show WJ w (W4.putObj (h + 5) (.loop r)) r h t n dir ls (i + 1) from J4.put (by
        intro x hx
        rw [List.take_add_one, hu] at hx
        rcases List.mem_append.1 hx with hx | hx
        · exact J4.no x hx
        · simp at hx; subst hx; exact he))
      have HL4 := hide J4.l
      clear J J4 hu he
      gi_wp2_with fail
      exact ⟨unhide HL4, unhide HJ⟩
  · rintro e W2 ⟨rfl, J | J⟩
    · refine ⟨⟨_, rfl⟩, .inl ⟨J.l, ?_⟩⟩
      have J6 := J.put (r' := { r with state := .exhausted }) J.no
      generalize W2.putObj (h + 5) (.loop { r with state := .exhausted }) = W3 at J6 ⊢
      have i1 : W3.cell? ⟨h + 1, 0, none⟩ = some (.bool false) := by rw [cell_of J6.k1]; rfl
      have i1f : W3.frozen? ⟨h + 1, 0, none⟩ = false := frozen_of J6.k1 0
      have HJ := hide J6
      clear J J0 J6 htm hps has hbo hst hpe
      gi_wp2_with fail
      have dd5 : (W3.setCell ⟨h + 1, 0, none⟩ (.bool false)).heap[h + 4]? = some (.deferred (some [])) := (Below.heap_setCell _ _ _ _ (by simp)).trans (unhide HJ).dd
      refine ⟨by simp, .inl ⟨_, _, rfl, run_takeDeferred dd5, ?_⟩⟩
      have hb := (unhide HJ).be.setCell (p := ⟨h + 1, 0, none⟩) (by simp) (.bool false)
      have be7 : Below h w ((W3.setCell ⟨h + 1, 0, none⟩ (.bool false)).putObj (h + 4) (.deferred none)) := ⟨hb.os, hb.tape, hb.output, by rw [World.putObj_size]; exact hb.size, fun k hk => (World.putObj_heap_other (by omega)).trans (hb.block k hk)⟩
      have q7 : ((W3.setCell ⟨h + 1, 0, none⟩ (.bool false)).putObj (h + 4) (.deferred none)).heap[h + 1]? = some (.cells #[.bool false] 4) := by
        rw [World.putObj_heap_other (by omega), heap_set (unhide HJ).k1]; simp
      have z7 : ((W3.setCell ⟨h + 1, 0, none⟩ (.bool false)).putObj (h + 4) (.deferred none)).cell? ⟨h + 1, 0, none⟩ = some (.bool false) := by rw [cell_of q7]; rfl
      have hno : decide (dir ∈ ls) = false := by
        rw [decide_eq_false_iff_not]
        intro hm
        exact (unhide HJ).no dir (by rw [List.take_length]; exact hm) rfl
      rw [unhide HH, hno]
      exact ⟨_, by simp [results, Try.results32, go_sem, z7], rfl, be7⟩
    · obtain ⟨rd, hd1, hd2, l5⟩ := J.f
      refine ⟨⟨_, rfl⟩, .inr ⟨rd, hd1, hd2, l5, ?_⟩⟩
      have k6 := put_other (r' := { rd with state := .exhausted }) l5 J.k1 (by simp)
      have d6 := put_other (r' := { rd with state := .exhausted }) l5 J.dd (by simp)
      have b6 : Below h w (W2.putObj (h + 5) (.loop { rd with state := .exhausted })) := ⟨J.be.os, J.be.tape, J.be.output, by rw [World.putObj_size]; exact J.be.size, fun k hk => (World.putObj_heap_other (by omega)).trans (J.be.block k hk)⟩
      generalize W2.putObj (h + 5) (.loop { rd with state := .exhausted }) = W3 at *
      have HK := hide k6
      have HD6 := hide d6
      have HB6 := hide b6
      have HY := hide J.yes
      clear J J0 k6 d6 b6 htm hps has hbo hst hpe l5
      gi_wp2_with fail
      refine ⟨by simp, .inl ⟨_, _, rfl, run_takeDeferred (unhide HD6), ?_⟩⟩
      have hb := unhide HB6
      have be7 : Below h w (W3.putObj (h + 4) (.deferred none)) := ⟨hb.os, hb.tape, hb.output, by rw [World.putObj_size]; exact hb.size, fun k hk => (World.putObj_heap_other (by omega)).trans (hb.block k hk)⟩
      have q7 : (W3.putObj (h + 4) (.deferred none)).heap[h + 1]? = _ := (World.putObj_heap_other (by omega)).trans (unhide HK)
      have z7 : (W3.putObj (h + 4) (.deferred none)).cell? ⟨h + 1, 0, none⟩ = some (.bool true) := by rw [cell_of q7]; rfl
      have hyes : decide (dir ∈ ls) = true := decide_eq_true (unhide HY)
      rw [unhide HH, hyes]
      exact ⟨_, by simp [results, Try.results32, go_sem, z7], rfl, be7⟩
theorem twithin_any {w : World} {t : Nat} (hT : TrI lo N w t T q p nb ev) (hw : Wk B T) (hB : B ≤ 890) {n dir : Int} (hn : (kl n).wf = true) {ls : List Int} (hl : Ab T n ls) :
    Calls Try.prog 32 #[P0 t, I n, I dir] w fun e w' => e = .returned (.bool (decide (dir ∈ ls))) ∧ Below w.heap.size w w' := callsIn_wide.1 (within_in hT hw hB hn hl)
end
end Go.Proofs.Ytlngeaacjbdmhaa
