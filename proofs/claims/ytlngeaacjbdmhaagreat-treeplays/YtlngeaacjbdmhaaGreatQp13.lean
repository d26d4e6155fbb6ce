/-
  The contract of Within.
-/
import Derived.Test.YtlngeaacjbdmhaaGreatQp12
import Derived.Test.YtlngeaacjbdmhaaGreatQp09
namespace Go.Proofs.YtlngeaacjbdmhaaGreat
open Go.RowKit Go.Shelf Go.Maps
attribute [local go_sem] Oper.semAt_some
structure WJ (w W : World) (r : Loop) (h t : Nat) (n dir : Int) (ls : List Int) (i : Nat) : Prop where
  l : W.heap[h + 5]? = some (.loop r)
  dd : W.heap[h + 4]? = some (.deferred (some []))
  k0 : W.heap[h]? = some (.cells #[I dir] 3)
  k1 : W.heap[h + 1]? = some (.cells #[.bool false] 4)
  k2 : W.heap[h + 2]? = some (.cells #[P0 t] 23)
  k3 : W.heap[h + 3]? = some (.cells #[I n] 3)
  be : Below h w W
  no : ∀ u ∈ ls.take i, u ≠ dir
structure WS (w W : World) (h : Nat) (dir : Int) (ls : List Int) : Prop where
  f : ∃ rd : Loop, rd.state = .done ∧ rd.pending = some .ret ∧ W.heap[h + 5]? = some (.loop rd)
  dd : W.heap[h + 4]? = some (.deferred (some []))
  k1 : W.heap[h + 1]? = some (.cells #[.bool true] 4)
  be : Below h w W
  yes : dir ∈ ls
theorem WJ.put {w W : World} {r r' : Loop} {h t : Nat} {n dir : Int} {ls : List Int} {i j : Nat} (J : WJ w W r h t n dir ls i) (hj : ∀ u ∈ ls.take j, u ≠ dir) : WJ w (W.putObj (h + 5) (.loop r')) r' h t n dir ls j :=
  ⟨World.putObj_heap_same (lt_of_heap J.l), put_other J.l J.dd (by simp), put_other J.l J.k0 (by simp), put_other J.l J.k1 (by simp), put_other J.l J.k2 (by simp), put_other J.l J.k3 (by simp), ⟨J.be.os, J.be.tape, J.be.output, by rw [World.putObj_size]; exact J.be.size, fun k hk => (World.putObj_heap_other (by omega)).trans (J.be.block k hk)⟩, hj⟩
theorem WJ.drew {w W : World} {r : Loop} {h t : Nat} {n dir : Int} {ls : List Int} {i : Nat} (J : WJ w W r h t n dir ls i) (k : Nat) : WJ w (W.drewN k) r h t n dir ls i := ⟨J.l, J.dd, J.k0, J.k1, J.k2, J.k3, below_dn J.be k, J.no⟩
section
variable {lo N : Nat} {T : Tr} {q p : Nat} {nb : Int → Nat} {ev : Int → Value} {B : Nat}
set_option maxRecDepth 100000 in
set_option maxHeartbeats 1000000 in
theorem within_in {w : World} {t : Nat} (hT : TrI lo N w t T q p nb ev) (hw : Wk B T) (hB : B ≤ 890) {n dir : Int} (hn : (kl n).wf = true) {ls : List Int} (hl : Ab T n ls) :
    CallsIn Fence.wide 4 Tryz.prog 20 #[P0 t, I n, I dir] w fun e w' => e = .returned (.bool (decide (dir ∈ ls))) ∧ Below w.heap.size w w' := by
  have hro : Fence.wide.round = none := rfl
  have HT := hide hT
  have HW := hide hw
  have HN := hide hn
  have HL := hide hl
  clear hT hw hn hl
  refine callsIn_of_wp_marks Tryz.func20 rfl trivial ?_ hro
  simp only [Tryz.ntmps20, List.size_toArray, List.length_cons, List.length_nil, Nat.reduceAdd, Nat.reduceSub, Array.replicate_succ, Array.replicate_zero, List.push_toArray, List.append_toArray, List.nil_append, List.cons_append]
  gi_wp2_with fail
  refine ⟨trivial, (callsIn_wide.2 (above_any t n _)).mono ?_⟩
  rintro e w' ⟨rfl, rfl⟩
  gi_wp2_with fail
  obtain ⟨V, hV, hsz, g0, g1, g2, g3, hBV⟩ := four0 w (.cells #[I dir] 3) (.cells #[.bool false] 4) (.cells #[P0 t] 23) (.cells #[I n] 3)
  rw [hV]
  clear hV
  generalize hh : w.heap.size = h at *
  have HH : Hid (w.heap.size = h) := hh
  refine wpIn_range_ret hro (by omega) (gf := 142) (lb := #[.pointer (some ⟨h + 3, 0, none⟩), .pointer (some ⟨h + 2, 0, none⟩)]) rfl trivial (enters_of Tryz.func142 (by kernel_rfl) rfl) ?_
  intro r hF hst hpe htm hps has hbo
  obtain ⟨L1, D1, hB2⟩ := setup V r
  rw [hsz] at L1 D1 ⊢
  generalize ((V.alloc (.deferred (some []))).alloc (.loop r)) = W1 at L1 D1 hB2 ⊢
  have J0 : WJ w W1 r h t n dir ls 0 := ⟨L1, D1, (hB2.block _ (by omega)).trans g0, (hB2.block _ (by omega)).trans g1, (hB2.block _ (by omega)).trans g2, (hB2.block _ (by omega)).trans g3, hBV.trans (hB2.mono (by omega)), by simp⟩
  clear L1 D1 hB2 g0 g1 g2 g3 hBV
  refine (above_iter (unhide HT) (unhide HW) hB (h + 5) (h + 3) (h + 2) n (unhide HN) ls (unhide HL) W1 (fun i W => WJ w W r h t n dir ls i) (fun W => WS w W h dir ls) J0 (fun i W' J => ⟨by rw [unhide HH]; exact J.be, by rw [cell_of J.k3]; rfl, by rw [cell_of J.k2]; rfl⟩) (fun i W' k J => J.drew k) ?_).mono ?_
  · intro i W2 u J hu
    refine yield_ret hF hst hpe htm hps has hbo rfl J.l ?_
    clear htm hps has hbo hst hpe J0
    intro rb
    gi_wp2
    refine ⟨J.l, ?_⟩
    have J4 := J.put (r' := rb) J.no
    generalize W2.putObj (h + 5) (.loop rb) = W4 at *
    have i0 : W4.cell? ⟨h, 0, none⟩ = some (I dir) := by rw [cell_of J4.k0]; rfl
    have i1 : W4.cell? ⟨h + 1, 0, none⟩ = some (.bool false) := by rw [cell_of J4.k1]; rfl
    have i1f : W4.frozen? ⟨h + 1, 0, none⟩ = false := frozen_of J4.k1 0
    by_cases he : u = dir
    · subst he
      have FIN : Hid ((W4.setCell ⟨h + 1, 0, none⟩ (.bool true)).heap[h + 5]? = some (.loop rb) ∧ WS w ((W4.setCell ⟨h + 1, 0, none⟩ (.bool true)).putObj (h + 5) (.loop { rb with state := .done, pending := some .ret })) h u ls) := by
        have kp : ∀ {k : Nat} {o : Obj}, W4.heap[k]? = some o → k ≠ h + 1 → (W4.setCell ⟨h + 1, 0, none⟩ (.bool true)).heap[k]? = some o := fun h1 h2 => (Below.heap_setCell _ _ _ _ h2).trans h1
        have l5 := kp J4.l (by omega)
        have q1 : (W4.setCell ⟨h + 1, 0, none⟩ (.bool true)).heap[h + 1]? = some (.cells #[.bool true] 4) := by
          rw [heap_set J4.k1]; simp
        have b5 := J4.be.setCell (p := ⟨h + 1, 0, none⟩) (by simp) (.bool true)
        exact ⟨l5, ⟨_, rfl, rfl, World.putObj_heap_same (lt_of_heap l5)⟩, put_other l5 (kp J4.dd (by omega)) (by simp), put_other l5 q1 (by simp), ⟨b5.os, b5.tape, b5.output, by rw [World.putObj_size]; exact b5.size, fun k hk => (World.putObj_heap_other (by omega)).trans (b5.block k hk)⟩, List.mem_of_getElem? hu⟩
      clear J J4 hu
      gi_wp2_with fail
      exact unhide FIN
    · have hb : (u == dir) = false := by simpa using he
      have HJ := hide (show WJ w (W4.putObj (h + 5) (.loop r)) r h t n dir ls (i + 1) from J4.put (by
        intro x hx
        rw [List.take_add_one, hu] at hx
        rcases List.mem_append.1 hx with hx | hx
        · exact J4.no x hx
        · simp at hx; subst hx; exact he))
      have HL4 := hide J4.l
      clear J J4 hu he
      gi_wp2_with fail
      exact ⟨unhide HL4, unhide HJ⟩
  · rintro e W2 ⟨rfl, J | J⟩
    · refine ⟨⟨_, rfl⟩, .inl ⟨J.l, ?_⟩⟩
      have J6 := J.put (r' := { r with state := .exhausted }) J.no
      generalize W2.putObj (h + 5) (.loop { r with state := .exhausted }) = W3 at J6 ⊢
      have i1 : W3.cell? ⟨h + 1, 0, none⟩ = some (.bool false) := by rw [cell_of J6.k1]; rfl
      have i1f : W3.frozen? ⟨h + 1, 0, none⟩ = false := frozen_of J6.k1 0
      have HJ := hide J6
      clear J J0 J6 htm hps has hbo hst hpe
      gi_wp2_with fail
      have dd5 : (W3.setCell ⟨h + 1, 0, none⟩ (.bool false)).heap[h + 4]? = some (.deferred (some [])) := (Below.heap_setCell _ _ _ _ (by simp)).trans (unhide HJ).dd
      refine ⟨by simp, .inl ⟨_, _, rfl, run_takeDeferred dd5, ?_⟩⟩
      have hb := (unhide HJ).be.setCell (p := ⟨h + 1, 0, none⟩) (by simp) (.bool false)
      have be7 : Below h w ((W3.setCell ⟨h + 1, 0, none⟩ (.bool false)).putObj (h + 4) (.deferred none)) := ⟨hb.os, hb.tape, hb.output, by rw [World.putObj_size]; exact hb.size, fun k hk => (World.putObj_heap_other (by omega)).trans (hb.block k hk)⟩
      have q7 : ((W3.setCell ⟨h + 1, 0, none⟩ (.bool false)).putObj (h + 4) (.deferred none)).heap[h + 1]? = some (.cells #[.bool false] 4) := by
        rw [World.putObj_heap_other (by omega), heap_set (unhide HJ).k1]; simp
      have z7 : ((W3.setCell ⟨h + 1, 0, none⟩ (.bool false)).putObj (h + 4) (.deferred none)).cell? ⟨h + 1, 0, none⟩ = some (.bool false) := by rw [cell_of q7]; rfl
      have hno : decide (dir ∈ ls) = false := by
        rw [decide_eq_false_iff_not]
        intro hm
        exact (unhide HJ).no dir (by rw [List.take_length]; exact hm) rfl
      rw [unhide HH, hno]
      exact ⟨_, by simp [results, Tryz.results20, go_sem, z7], rfl, be7⟩
    · obtain ⟨rd, hd1, hd2, l5⟩ := J.f
      refine ⟨⟨_, rfl⟩, .inr ⟨rd, hd1, hd2, l5, ?_⟩⟩
      have k6 := put_other (r' := { rd with state := .exhausted }) l5 J.k1 (by simp)
      have d6 := put_other (r' := { rd with state := .exhausted }) l5 J.dd (by simp)
      have b6 : Below h w (W2.putObj (h + 5) (.loop { rd with state := .exhausted })) := ⟨J.be.os, J.be.tape, J.be.output, by rw [World.putObj_size]; exact J.be.size, fun k hk => (World.putObj_heap_other (by omega)).trans (J.be.block k hk)⟩
      generalize W2.putObj (h + 5) (.loop { rd with state := .exhausted }) = W3 at *
      have HK := hide k6
      have HD6 := hide d6
      have HB6 := hide b6
      have HY := hide J.yes
      clear J J0 k6 d6 b6 htm hps has hbo hst hpe l5
      gi_wp2_with fail
      refine ⟨by simp, .inl ⟨_, _, rfl, run_takeDeferred (unhide HD6), ?_⟩⟩
      have hb := unhide HB6
      have be7 : Below h w (W3.putObj (h + 4) (.deferred none)) := ⟨hb.os, hb.tape, hb.output, by rw [World.putObj_size]; exact hb.size, fun k hk => (World.putObj_heap_other (by omega)).trans (hb.block k hk)⟩
      have q7 : (W3.putObj (h + 4) (.deferred none)).heap[h + 1]? = _ := (World.putObj_heap_other (by omega)).trans (unhide HK)
      have z7 : (W3.putObj (h + 4) (.deferred none)).cell? ⟨h + 1, 0, none⟩ = some (.bool true) := by rw [cell_of q7]; rfl
      have hyes : decide (dir ∈ ls) = true := decide_eq_true (unhide HY)
      rw [unhide HH, hyes]
      exact ⟨_, by simp [results, Tryz.results20, go_sem, z7], rfl, be7⟩
theorem twithin_any {w : World} {t : Nat} (hT : TrI lo N w t T q p nb ev) (hw : Wk B T) (hB : B ≤ 890) {n dir : Int} (hn : (kl n).wf = true) {ls : List Int} (hl : Ab T n ls) :
    Calls Tryz.prog 20 #[P0 t, I n, I dir] w fun e w' => e = .returned (.bool (decide (dir ∈ ls))) ∧ Below w.heap.size w w' := callsIn_wide.1 (within_in hT hw hB hn hl)
end
end Go.Proofs.YtlngeaacjbdmhaaGreat

namespace Go.Proofs.YtlngeaacjbdmhaaGreat
open Go.RowKit Go.Maps
theorem Ab.along {T T' : Tr} : ∀ {l : List Int} {n : Int}, Ab T n l → (∀ k, k = n ∨ k ∈ l → T'.up k = T.up k) → Ab T' n l
  | [], n, g, h => by
    simp only [Ab] at g ⊢
    rw [h n (.inl rfl)]; exact g
  | u :: l, n, g, h => by
    obtain ⟨g1, g2, g3, g4⟩ := g
    exact ⟨by rw [h n (.inl rfl)]; exact g1, g2, g3, Ab.along g4 fun k hk => h k (.inr (List.mem_cons.2 hk))⟩
theorem Ab.but {T T' : Tr} {n : Int} {ln : List Int} (hn : Ab T' n ln) (h : ∀ k, k ≠ n → T'.up k = T.up k) : ∀ {l : List Int} {k : Int}, Ab T k l → ∃ l', Ab T' k l'
  | [], k, g => by
    by_cases e : k = n
    · subst e; exact ⟨ln, hn⟩
    · simp only [Ab] at g
      exact ⟨[], by simp only [Ab]; rw [h k e]; exact g⟩
  | u :: l, k, g => by
    by_cases e : k = n
    · subst e; exact ⟨ln, hn⟩
    · obtain ⟨g1, g2, g3, g4⟩ := g
      obtain ⟨l', hl'⟩ := Ab.but hn h g4
      exact ⟨u :: l', by rw [h k e]; exact g1, g2, g3, hl'⟩
section
variable {B : Nat} {T : Tr}
theorem Tr.give_rest {dir n : Int} {d x : Nd} (hd : T.nd dir = some d) (hx : T.nd n = some x) (s : ByteArray) : (T.give dir s n).made = T.made ∧ (T.give dir s n).most = T.most ∧ (T.give dir s n).pool = T.pool := by simp [Tr.give, hd, hx, Tr.set]
theorem Wf.give (hw : Wf B T) {dir n : Int} {d x : Nd} {s : ByteArray} (hd : T.nd dir = some d) (hdk : d.kind = 1) (hdn0 : 0 < d.names) (hx : T.nd n = some x) (hxk : x.kind ≠ 1) (hs : getE d.ins s = none) (hz : s.size ≤ 255) : Wf (B + 1) (T.give dir s n) ∧ ∀ k, (T.give dir s n).up k = T.up k := by
  have hdn : dir ≠ n := fun e => by subst e; rw [hd] at hx; cases hx; exact hxk hdk
  have hn1 : n ≠ 1 := fun e => by
    subst e
    obtain ⟨r, g1, g2, _⟩ := hw.root
    rw [hx] at g1; cases g1; exact hxk g2
  have hnd := Tr.give_nd hd hx s
  have hup : ∀ k, (T.give dir s n).up k = T.up k := fun k => by
    simp only [Tr.up, Tr.dir, hnd]
    by_cases e : k = n
    · rw [if_pos e, e, hx]; simp [Nd.named, hxk]
    · rw [if_neg e]
      by_cases e2 : k = dir
      · rw [if_pos e2, e2, hd]; simp [hdk]
      · rw [if_neg e2]
  have old : ∀ k z, (T.give dir s n).nd k = some z → ∃ z0, T.nd k = some z0 ∧ z.kind = z0.kind ∧ (z0.kind = 1 → z.names = z0.names ∧ z.up = z0.up) ∧ z0.names ≤ z.names ∧ z.holds = z0.holds ∧ (z.ins = z0.ins ∨ k = dir) := fun k z h => by
    rw [hnd] at h
    by_cases e : k = n
    · rw [if_pos e] at h; cases h
      exact ⟨x, by rw [e]; exact hx, rfl, fun h' => absurd h' hxk, Nat.le_succ _, rfl, .inl rfl⟩
    · rw [if_neg e] at h
      by_cases e2 : k = dir
      · rw [if_pos e2] at h; cases h
        exact ⟨d, by rw [e2]; exact hd, rfl, fun _ => ⟨rfl, rfl⟩, Nat.le_refl _, rfl, .inr e2⟩
      · rw [if_neg e2] at h
        exact ⟨z, h, rfl, fun _ => ⟨rfl, rfl⟩, Nat.le_refl _, rfl, .inl rfl⟩
  have keep : ∀ u z, T.nd u = some z → ∃ z', (T.give dir s n).nd u = some z' ∧ ∀ e ∈ z.ins, e ∈ z'.ins := fun u z hz => by
    rw [hnd]
    by_cases e : u = n
    · rw [if_pos e]; rw [e, hx] at hz; cases hz
      exact ⟨_, rfl, fun e he => he⟩
    · rw [if_neg e]
      by_cases e2 : u = dir
      · rw [if_pos e2]; rw [e2, hd] at hz; cases hz
        exact ⟨_, rfl, fun e he => putE_mem.2 (.inr he)⟩
      · rw [if_neg e2]; exact ⟨z, hz, fun e he => he⟩
  refine ⟨⟨hw.k.give hd hx hdn hs hz, ?_, fun k z h hk => ?_, fun k z h hk h1 hp => ?_, fun k z h hi => ?_, fun k z h hk => ?_, fun k z h => ?_⟩, hup⟩
  · obtain ⟨r, g1, g2, g3, g4⟩ := hw.root
    obtain ⟨z', w1, _⟩ := keep 1 r g1
    obtain ⟨z0, o1, o2, o3, _⟩ := old 1 z' w1
    rw [g1] at o1; cases o1
    obtain ⟨p1, p2⟩ := o3 g2
    exact ⟨z', w1, o2.trans g2, p1.trans g3, p2.trans g4⟩
  · obtain ⟨z0, o1, o2, o3, _⟩ := old k z h
    have hk0 := o2.symm.trans hk
    rw [(o3 hk0).1]; exact hw.one k z0 o1 hk0
  · obtain ⟨z0, o1, o2, o3, _⟩ := old k z h
    have hk0 := o2.symm.trans hk
    obtain ⟨p1, p2⟩ := o3 hk0
    obtain ⟨u1, d', s', u2, u3⟩ := hw.upd k z0 o1 hk0 h1 (by omega)
    rw [p2]
    obtain ⟨z', w1, w2⟩ := keep _ d' u2
    exact ⟨u1, z', s', w1, w2 _ u3⟩
  · obtain ⟨z0, o1, o2, o3, o4, o5, o6⟩ := old k z h
    rcases o6 with o6 | rfl
    · have := hw.emp k z0 o1 (by rw [← o6]; exact hi)
      exact ⟨o2.trans this.1, by omega⟩
    · rw [hd] at o1; cases o1
      exact ⟨o2.trans hdk, by omega⟩
  · obtain ⟨z0, o1, o2, _⟩ := old k z h
    obtain ⟨l, hl⟩ := hw.chn k z0 o1 (o2.symm.trans hk)
    exact ⟨l, hl.along fun k _ => hup k⟩
  · obtain ⟨z0, o1, o2, o3, o4, o5, _⟩ := old k z h
    have := hw.alv k z0 o1
    omega
theorem Tr.joinE0 {dir n : Int} {s : ByteArray} (h : T.joinE dir s n = 0) : ∃ d x, T.nd dir = some d ∧ d.kind = 1 ∧ T.nd n = some x ∧ x.kind ≠ 1 ∧ right s = true ∧ getE d.ins s = none ∧ 0 < d.names := by
  simp only [Tr.joinE] at h
  cases hx : T.dir dir with
  | none => rw [hx] at h; simp at h
  | some d =>
    cases hy : T.nd n with
    | none => rw [hx, hy] at h; simp at h
    | some x =>
      rw [hx, hy] at h
      simp only at h
      obtain ⟨h1, h2⟩ := Tr.dir_some.1 hx
      by_cases hr : x.kind ≠ 1 ∧ right s = true
      · rw [if_pos hr] at h
        by_cases hf : refusesE d s = 0
        · obtain ⟨g1, g2⟩ := refuses0 hf
          exact ⟨d, x, h1, h2, rfl, hr.1, hr.2, g1, g2⟩
        · rw [if_pos hf] at h; exact absurd h hf
      · rw [if_neg hr] at h; omega
theorem Wf.join (hw : Wf B T) (dir : Int) (s : ByteArray) (n : Int) : Wf (B + 1) (T.join dir s n) := by
  by_cases h : T.joinE dir s n = 0
  · obtain ⟨d, x, h1, h2, h3, h4, h5, h6, h7⟩ := Tr.joinE0 h
    rw [Tr.join, if_pos h]
    exact (hw.give h1 h2 h7 h3 h4 h6 (right_size h5)).1
  · rw [Tr.join, if_neg h]; exact hw.mono (Nat.le_succ B)
theorem Tr.shift_nd {dir to n : Int} {d i x : Nd} {s s2 : ByteArray} (hd : T.nd dir = some d) (hg : getE d.ins s = some n) (hi : T.nd to = some i) (hS : Srt i.ins) (hs2 : getE i.ins s2 = none) (hx : T.nd n = some x) (hx0 : 0 < x.names) (hdn : dir ≠ n) (k : Int) :
    ((T.give to s2 n).take dir s).nd k = if k = n then some { x with up := if x.kind = 1 then to else x.up } else if k = dir then some { d with ins := delE (if dir = to then putE d.ins s2 n else d.ins) s } else if k = to then some { i with ins := putE i.ins s2 n } else T.nd k := by
  have hgn := Tr.give_nd hi hx s2
  have hx1 : (T.give to s2 n).nd n = some (x.named to) := by rw [hgn, if_pos rfl]
  have hd1 : (T.give to s2 n).nd dir = some { d with ins := if dir = to then putE d.ins s2 n else d.ins } := by
    rw [hgn, if_neg hdn]
    by_cases e : dir = to
    · rw [if_pos e, if_pos e]
      rw [e, hi] at hd; cases hd; rfl
    · rw [if_neg e, if_neg e]; exact hd
  have hg1 : getE (if dir = to then putE d.ins s2 n else d.ins) s = some n := by
    by_cases e : dir = to
    · rw [if_pos e]
      rw [e, hi] at hd; cases hd
      rw [putE_get hS hs2]
      split
      · rfl
      · exact hg
    · rw [if_neg e]; exact hg
  rw [Tr.take_nd hd1 hg1 hx1 hdn]
  by_cases e : k = n
  · rw [if_pos e, if_pos e, if_pos (by simp only [Nd.named]; omega)]
    simp [Nd.named]
  · rw [if_neg e, if_neg e]
    by_cases e2 : k = dir
    · rw [if_pos e2, if_pos e2]
    · rw [if_neg e2, if_neg e2, hgn, if_neg e]
theorem Wf.shift (hw : Wf B T) {dir to n : Int} {d i x : Nd} {s s2 : ByteArray} (hd : T.nd dir = some d) (hg : getE d.ins s = some n) (hi : T.nd to = some i) (hik : i.kind = 1) (hin : 0 < i.names) (hs2 : getE i.ins s2 = none) (hz : s2.size ≤ 255) (hx : T.nd n = some x) (htn : to ≠ n) (hch : x.kind = 1 → ∃ l, Ab T to l ∧ n ∉ l) : Wf (B + 1) ((T.give to s2 n).take dir s) := by
  have hmem := getE_some hg
  have hdn : dir ≠ n := fun e => by subst e; exact hw.noself hd hmem
  have hn1 : n ≠ 1 := fun e => by subst e; exact hw.noroot hd hmem
  have hx0 : 0 < x.names := by
    have h1 := cntE_pos hw.k hd hmem
    have h2 := hw.k.num n x hx
    simp only at h1
    omega
  have hSi := hw.k.srt to i hi
  have hSd := hw.k.srt dir d hd
  obtain ⟨hdk, hd0⟩ := hw.emp dir d hd (List.ne_nil_of_mem hmem)
  have hnd := fun k => Tr.shift_nd hd hg hi hSi hs2 hx hx0 hdn k
  have hgn := Tr.give_nd hi hx s2
  have hx1 : (T.give to s2 n).nd n = some (x.named to) := by rw [hgn, if_pos rfl]
  have hd1 : (T.give to s2 n).nd dir = some { d with ins := if dir = to then putE d.ins s2 n else d.ins } := by
    rw [hgn, if_neg hdn]
    by_cases e : dir = to
    · rw [if_pos e, if_pos e]
      rw [e, hi] at hd; cases hd; rfl
    · rw [if_neg e, if_neg e]; exact hd
  have hss : dir = to → s ≠ s2 := fun e e2 => by
    rw [e, hi] at hd; cases hd; rw [e2, hs2] at hg; cases hg
  have hg1 : getE (if dir = to then putE d.ins s2 n else d.ins) s = some n := by
    by_cases e : dir = to
    · have hs' := hss e
      rw [if_pos e]
      rw [e, hi] at hd; cases hd
      rw [putE_get hSi hs2, if_neg hs']
      exact hg
    · rw [if_neg e]; exact hg
  have hWk : Wk (B + 1) ((T.give to s2 n).take dir s) := by
    refine (hw.k.give hi hx htn hs2 hz).take hd1 hg1 hx1 hdn (fun h1 => ?_)
    simp only [Nd.named] at h1
    omega
  -- What lies in dir behind it.
  have hS1 : Srt (if dir = to then putE d.ins s2 n else d.ins) := by
    by_cases e : dir = to
    · rw [if_pos e]; rw [e, hi] at hd; cases hd; exact hSi.put hs2 n
    · rw [if_neg e]; exact hSd
  have hin1 : ∀ s' m, (s', m) ∈ d.ins → m ≠ n → (s', m) ∈ delE (if dir = to then putE d.ins s2 n else d.ins) s := fun s' m hm hmn => by
    refine (delE_mem hS1 hg1).2 ⟨?_, fun e => hmn ?_⟩
    · by_cases e : dir = to
      · rw [if_pos e]; exact putE_mem.2 (.inr hm)
      · rw [if_neg e]; exact hm
    · have := hSd.uniq hm hmem e
      simp at this; exact this.2
  have hto : ∃ z, ((T.give to s2 n).take dir s).nd to = some z ∧ (s2, n) ∈ z.ins := by
    rw [hnd, if_neg htn]
    by_cases e : to = dir
    · rw [if_pos e]
      refine ⟨_, rfl, (delE_mem hS1 hg1).2 ⟨?_, fun h' => hss e.symm h'.symm⟩⟩
      rw [if_pos e.symm]; exact putE_mem.2 (.inl rfl)
    · rw [if_neg e, if_pos rfl]
      exact ⟨_, rfl, putE_mem.2 (.inl rfl)⟩
  have old : ∀ k z, ((T.give to s2 n).take dir s).nd k = some z → ∃ z0, T.nd k = some z0 ∧ z.kind = z0.kind ∧ z.names = z0.names ∧ z.holds = z0.holds ∧ (k ≠ n → z.up = z0.up) ∧ (k = n → z.up = if x.kind = 1 then to else x.up) ∧ (z.ins = z0.ins ∨ (z0.kind = 1 ∧ 0 < z0.names)) := fun k z h => by
    rw [hnd] at h
    by_cases e : k = n
    · rw [if_pos e] at h; cases h
      exact ⟨x, by rw [e]; exact hx, rfl, rfl, rfl, fun h' => absurd e h', fun _ => rfl, .inl rfl⟩
    · rw [if_neg e] at h
      by_cases e2 : k = dir
      · rw [if_pos e2] at h; cases h
        exact ⟨d, by rw [e2]; exact hd, rfl, rfl, rfl, fun _ => rfl, fun h' => absurd h' e, .inr ⟨hdk, hd0⟩⟩
      · rw [if_neg e2] at h
        by_cases e3 : k = to
        · rw [if_pos e3] at h; cases h
          exact ⟨i, by rw [e3]; exact hi, rfl, rfl, rfl, fun _ => rfl, fun h' => absurd h' e, .inr ⟨hik, hin⟩⟩
        · rw [if_neg e3] at h
          exact ⟨z, h, rfl, rfl, rfl, fun _ => rfl, fun h' => absurd h' e, .inl rfl⟩
  have keep : ∀ u z, T.nd u = some z → ∃ z', ((T.give to s2 n).take dir s).nd u = some z' ∧ ∀ s' m, (s', m) ∈ z.ins → m ≠ n → (s', m) ∈ z'.ins := fun u z hz => by
    rw [hnd]
    by_cases e : u = n
    · rw [if_pos e]; rw [e, hx] at hz; cases hz
      exact ⟨_, rfl, fun s' m he _ => he⟩
    · rw [if_neg e]
      by_cases e2 : u = dir
      · rw [if_pos e2]; rw [e2, hd] at hz; cases hz
        exact ⟨_, rfl, hin1⟩
      · rw [if_neg e2]
        by_cases e3 : u = to
        · rw [if_pos e3]; rw [e3, hi] at hz; cases hz
          exact ⟨_, rfl, fun s' m he _ => putE_mem.2 (.inr he)⟩
        · rw [if_neg e3]; exact ⟨z, hz, fun s' m he _ => he⟩
  have hup : ∀ k, k ≠ n → ((T.give to s2 n).take dir s).up k = T.up k := fun k e => by
    simp only [Tr.up, Tr.dir, hnd, if_neg e]
    by_cases e2 : k = dir
    · rw [if_pos e2, e2, hd]; simp [hdk]
    · rw [if_neg e2]
      by_cases e3 : k = to
      · rw [if_pos e3, e3, hi]; simp [hik]
      · rw [if_neg e3]
  have hupn : x.kind = 1 → ((T.give to s2 n).take dir s).up n = to := fun hk => by
    simp only [Tr.up, Tr.dir, hnd, if_true, Option.bind_some]
    simp only [hk, if_true]
    rw [if_neg (by omega)]
  refine ⟨hWk, ?_, fun k z h hk => ?_, fun k z h hk h1 hp => ?_, fun k z h hz => ?_, fun k z h hk => ?_, fun k z h => ?_⟩
  · obtain ⟨r, g1, g2, g3, g4⟩ := hw.root
    obtain ⟨z', w1, _⟩ := keep 1 r g1
    obtain ⟨z0, o1, o2, o3, o4, o5, _⟩ := old 1 z' w1
    rw [g1] at o1; cases o1
    exact ⟨z', w1, o2.trans g2, o3.trans g3, (o5 (Ne.symm hn1)).trans g4⟩
  · obtain ⟨z0, o1, o2, o3, _⟩ := old k z h
    rw [o3]; exact hw.one k z0 o1 (o2.symm.trans hk)
  · obtain ⟨z0, o1, o2, o3, o4, o5, o6, _⟩ := old k z h
    by_cases e : k = n
    · have hk0 : x.kind = 1 := by rw [e, hx] at o1; cases o1; exact o2.symm.trans hk
      rw [o6 e, if_pos hk0, e]
      obtain ⟨z', w1, w2⟩ := hto
      exact ⟨htn, z', s2, w1, w2⟩
    · obtain ⟨u1, d', s', u2, u3⟩ := hw.upd k z0 o1 (o2.symm.trans hk) h1 (by omega)
      rw [o5 e]
      obtain ⟨z', w1, w2⟩ := keep _ d' u2
      exact ⟨u1, z', s', w1, w2 _ _ u3 e⟩
  · obtain ⟨z0, o1, o2, o3, o4, o5, o6, o7⟩ := old k z h
    rcases o7 with o7 | o7
    · have := hw.emp k z0 o1 (by rw [← o7]; exact hz)
      exact ⟨o2.trans this.1, by omega⟩
    · exact ⟨o2.trans o7.1, by omega⟩
  · obtain ⟨z0, o1, o2, _⟩ := old k z h
    obtain ⟨l, hl⟩ := hw.chn k z0 o1 (o2.symm.trans hk)
    by_cases hxk : x.kind = 1
    · obtain ⟨lt, t1, t2⟩ := hch hxk
      have hto0 : to ≠ 0 := by have := hw.k.key to i hi; omega
      have ht' := t1.along (T' := (T.give to s2 n).take dir s) fun k hk => hup k (fun e => by rcases hk with rfl | hk
                                                                                              · exact htn e
                                                                                              · exact t2 (by rw [← e]; exact hk))
      exact Ab.but (ln := to :: lt) ⟨hupn hxk, hto0, htn, ht'⟩ hup hl
    · have hupx : ((T.give to s2 n).take dir s).up n = T.up n := by
        simp only [Tr.up, Tr.dir, hnd, if_true, hx, Option.bind_some]
        simp only [hxk, if_false]
      exact ⟨l, hl.along fun k _ => by
        by_cases e : k = n
        · rw [e]; exact hupx
        · exact hup k e⟩
  · obtain ⟨z0, o1, o2, o3, o4, _⟩ := old k z h
    have := hw.alv k z0 o1
    omega
theorem Wf.ab (hw : Wf B T) (n : Int) : ∃ l, Ab T n l := by
  by_cases h : ∃ x, T.nd n = some x ∧ x.kind = 1
  · obtain ⟨x, h1, h2⟩ := h
    exact hw.chn n x h1 h2
  · exact ⟨[], .inl (Tr.up_no fun x h1 h2 => h ⟨x, h1, h2⟩)⟩
theorem Tr.moveE0 {l : List Int} {dir to : Int} {s s2 : ByteArray} (h : T.moveE l dir s to s2 = 0) : ∃ f i n, T.nd dir = some f ∧ f.kind = 1 ∧ T.nd to = some i ∧ i.kind = 1 ∧ right s2 = true ∧ getE f.ins s = some n ∧ 0 < i.names ∧ (T.kindOf n = 1 → to ≠ n ∧ n ∉ l) ∧ ((∃ old, getE i.ins s2 = some old ∧ (old = n ∨ (old ≠ n ∧ T.yieldsE old (decide (T.kindOf n = 1)) = 0))) ∨ getE i.ins s2 = none) := by
  simp only [Tr.moveE] at h
  cases hx : T.dir dir with
  | none => rw [hx] at h; simp at h
  | some f =>
    cases hy : T.dir to with
    | none => rw [hx, hy] at h; simp at h
    | some i =>
      rw [hx, hy] at h
      simp only at h
      obtain ⟨h1, h2⟩ := Tr.dir_some.1 hx
      obtain ⟨h3, h4⟩ := Tr.dir_some.1 hy
      by_cases hr : right s2 = true
      · rw [if_pos hr] at h
        cases hg : getE f.ins s with
        | none => rw [hg] at h; simp at h
        | some n =>
          rw [hg] at h
          simp only at h
          by_cases hn0 : i.names = 0
          · rw [if_pos hn0] at h; omega
          · rw [if_neg hn0] at h
            by_cases hk : T.kindOf n = 1 ∧ (to = n ∨ n ∈ l)
            · rw [if_pos hk] at h; omega
            · rw [if_neg hk] at h
              refine ⟨f, i, n, h1, h2, h3, h4, hr, hg, by omega, fun hk1 => ⟨fun e => hk ⟨hk1, .inl e⟩, fun e => hk ⟨hk1, .inr e⟩⟩, ?_⟩
              cases ho : getE i.ins s2 with
              | none => exact .inr rfl
              | some old =>
                rw [ho] at h
                simp only at h
                refine .inl ⟨old, rfl, ?_⟩
                by_cases e : old = n
                · exact .inl e
                · rw [if_neg e] at h; exact .inr ⟨e, h⟩
      · rw [if_neg hr] at h; omega
theorem Tr.yields0 {old : Int} {td : Bool} (h : T.yieldsE old td = 0) : T.insOf old = [] := by
  simp only [Tr.yieldsE] at h
  split at h
  · omega
  · split at h
    · omega
    · split at h
      · omega
      · exact List.eq_nil_of_length_eq_zero (by omega)
theorem Wf.move (hw : Wf B T) {l : List Int} (dir : Int) (s : ByteArray) (to : Int) (s2 : ByteArray) (hl : Ab T to l) : Wf (B + 1) (T.move l dir s to s2) := by
  by_cases h : T.moveE l dir s to s2 = 0
  · rw [Tr.move, if_pos h]
    obtain ⟨f, i, n, h1, h2, h3, h4, h5, h6, h7, h8, h9⟩ := Tr.moveE0 h
    obtain ⟨x, hx⟩ := hw.k.ent h1 (getE_some h6)
    simp only at hx
    have hf : getE (T.insOf dir) s = some n := by simp [Tr.insOf, h1, h6]
    have hio : T.insOf to = i.ins := by simp [Tr.insOf, h3]
    have hkx : T.kindOf n = x.kind := by simp [Tr.kindOf, hx]
    rw [hkx] at h8 h9
    have htn : to ≠ n := fun e => by
      have hxi : x = i := by rw [← e, h3] at hx; cases hx; rfl
      exact (h8 (by rw [hxi]; exact h4)).1 e
    have hch : x.kind = 1 → ∃ l, Ab T to l ∧ n ∉ l := fun hk => ⟨l, hl, (h8 hk).2⟩
    simp only [hf, hio]
    rcases h9 with ⟨old, g1, g2⟩ | g1
    · simp only [g1]
      rcases g2 with rfl | ⟨g2, g3⟩
      · rw [if_pos rfl]; exact hw.mono (Nat.le_succ B)
      · rw [if_neg g2]
        obtain ⟨y, hy⟩ := hw.k.ent h3 (getE_some g1)
        simp only at hy
        have hyi : y.ins = [] := by have := Tr.yields0 g3; simpa [Tr.insOf, hy] using this
        have hto : to ≠ old := fun e => by subst e; exact hw.noself h3 (getE_some g1)
        have hdo : dir ≠ old := fun e => by
          rw [← e, h1] at hy; cases hy
          have := getE_some h6
          rw [hyi] at this; simp at this
        have hnd := Tr.take_nd h3 g1 hy hto
        obtain ⟨T1, T2, T3⟩ := hw.take h3 g1 hy hyi
        have hSi := hw.k.srt to i h3
        have e1 : (T.take to s2).nd to = some { i with ins := delE i.ins s2 } := by rw [hnd, if_neg hto, if_pos rfl]
        have e2 : (T.take to s2).nd n = some x := by rw [hnd, if_neg (Ne.symm g2), if_neg (Ne.symm htn)]; exact hx
        have e3 : ∃ f1, (T.take to s2).nd dir = some f1 ∧ getE f1.ins s = some n := by
          rw [hnd, if_neg hdo]
          by_cases e : dir = to
          · rw [if_pos e]
            rw [e, h3] at h1; cases h1
            refine ⟨_, rfl, ?_⟩
            simp only
            rw [delE_get hSi g1, if_neg]
            · exact h6
            · intro e'; rw [e', g1] at h6; cases h6; exact g2 rfl
          · rw [if_neg e]; exact ⟨f, h1, h6⟩
        obtain ⟨f1, e3, e4⟩ := e3
        refine T1.shift e3 e4 e1 h4 h7 (by simp only; rw [delE_get hSi g1, if_pos rfl]) (right_size h5) e2 htn fun hk => ?_
        obtain ⟨l', t1, t2⟩ := hch hk
        exact ⟨l', Ab.congr (fun k => k ≠ old) T2 (fun k hk _ => T3 k hk) hto t1, t2⟩
    · simp only [g1]
      exact hw.shift h1 h6 h3 h4 h7 g1 (right_size h5) hx htn hch
  · rw [Tr.move, if_neg h]; exact hw.mono (Nat.le_succ B)
end
end Go.Proofs.YtlngeaacjbdmhaaGreat
