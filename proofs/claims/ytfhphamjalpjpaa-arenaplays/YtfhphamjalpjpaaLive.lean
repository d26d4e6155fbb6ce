/-
  The contract of Live: the handles of the live slots by number, in a new block.
-/
import Derived.Test.YtfhphamjalpjpaaTaken
namespace Go.Proofs.Ytfhphamjalpjpaa
open Go.RowKit Go.Shelf
attribute [local go_sem] Oper.semAt_some

/-- The handles of the live slots among the first i. -/
def lives (gs : List Slot) : Nat → List Slot
  | 0 => []
  | i + 1 => lives gs i ++ (match gs[i]? with | some (g, _) => if g % 2 = 1 then [((i : Int), g)] else [] | none => [])
theorem lives_yes {gs : List Slot} {i : Nat} {g v : Int} (h : gs[i]? = some (g, v)) (ho : g % 2 = 1) : lives gs (i + 1) = lives gs i ++ [((i : Int), g)] := by
  simp [lives, h, ho]
theorem lives_no {gs : List Slot} {i : Nat} {g v : Int} (h : gs[i]? = some (g, v)) (ho : ¬ g % 2 = 1) : lives gs (i + 1) = lives gs i := by
  simp only [lives, h]
  rw [if_neg ho, List.append_nil]
theorem lives_len (gs : List Slot) (i : Nat) : (lives gs i).length ≤ i := by
  induction i with
  | zero => simp [lives]
  | succ i ih =>
    cases e : gs[i]? with
    | none => simp [lives, e]; omega
    | some s =>
      obtain ⟨g, v⟩ := s
      by_cases ho : g % 2 = 1
      · rw [lives_yes e ho]; simp; omega
      · rw [lives_no e ho]; omega

theorem own_ne {W : World} {base : Nat} {e : TypeId} {s n k : Nat} {v : Value} {xs : List Value} {o : Obj} (h : W.ownsRow base e s v n xs) (ho : W.heap[k]? = some o) (hne : ∀ cur, o ≠ .cells cur e (0, 0)) : some k ≠ v.ownBlock := by
  obtain ⟨-, ⟨rfl, hz⟩ | ⟨g, cap, cur, rfl, hgb, hgg, hcap, hcm, hcs, htk⟩⟩ := h
  · simp [Value.ownBlock]
  · simp only [Value.ownBlock, ne_eq, Option.some.injEq]
    rintro rfl
    rw [hgg] at ho
    exact hne cur (Option.some.inj ho).symm
theorem own_keep {W W' : World} {base : Nat} {e : TypeId} {s n : Nat} {v : Value} {xs : List Value} (h : W.ownsRow base e s v n xs) (hb : ∀ (k : Nat) (cur : Array Value), W.heap[k]? = some (Obj.cells cur e (0, 0)) → W'.heap[k]? = W.heap[k]?) : W'.ownsRow base e s v n xs := by
  obtain ⟨h0, h1⟩ := h
  refine ⟨h0, ?_⟩
  rcases h1 with h1 | ⟨g, cap, cur, h1, h2, h3, h4⟩
  · exact .inl h1
  · exact .inr ⟨g, cap, cur, h1, h2, (hb g cur h3).trans h3, h4⟩
theorem info29 : (Try.prog.info? 29).map (fun i => (i.zero, i.size, i.bytes)) = some (some (.agg #[.int .i64 0, .int .i64 0]), 2, 16) := by kernel_rfl

/-- What lies while Live goes over the slots. -/
structure LJ (w W : World) (r : Loop) (h L D x H b c d n : Nat) (gs : List Slot) (q : List Nat) (st : Int) (i : Nat) : Prop where
  l : W.heap[L]? = some (.loop r)
  dd : W.heap[D]? = some (.deferred (some []))
  xx : W.heap[x]? = some (.cells #[.pointer (some ⟨b, 0, none⟩)] 22)
  ow : ∃ v, W.heap[H]? = some (.cells #[v] 36) ∧ W.ownsRow h 29 2 v (lives gs i).length (rowsOf Slot.row (lives gs i))
  ar : Ar W b c d n gs q st
  be : Below h w W
theorem LJ.of {w W W' : World} {r r' : Loop} {h L D x H b c d n : Nat} {gs : List Slot} {q : List Nat} {st : Int} {i : Nat} (J : LJ w W r h L D x H b c d n gs q st i) (hl : W'.heap[L]? = some (.loop r')) (hb : Below h w W')
    (hk : ∀ k, k < W.heap.size → k ≠ L → W'.heap[k]? = W.heap[k]?) : LJ w W' r' h L D x H b c d n gs q st i := by
  obtain ⟨v, k1, own⟩ := J.ow
  have ne : ∀ {k : Nat} {o : Obj}, W.heap[k]? = some o → o ≠ .loop r → k ≠ L := by
    rintro k o hk1 hk2 rfl
    rw [J.l] at hk1
    exact hk2 (Option.some.inj hk1).symm
  have kp : ∀ {k : Nat} {o : Obj}, W.heap[k]? = some o → o ≠ .loop r → W'.heap[k]? = some o := fun h1 h2 => (hk _ (lt_of_heap h1) (ne h1 h2)).trans h1
  obtain ⟨rs, hr, hlr⟩ := J.ar.hd
  refine ⟨hl, kp J.dd (by simp), kp J.xx (by simp), ⟨v, kp k1 (by simp), own_keep own fun k cur hc => (kp hc (by simp)).trans hc.symm⟩, ?_, hb⟩
  exact J.ar.of ((kp J.ar.hb (by simp)).trans J.ar.hb.symm) ((kp J.ar.hc (by simp)).trans J.ar.hc.symm) ((kp hr (by simp)).trans hr.symm)

/-- One handle more, in whatever block the row lies now. -/
theorem LJ.more {w W W5 : World} {r : Loop} {h L D x H b c d n : Nat} {gs : List Slot} {q : List Nat} {st : Int} {i : Nat} {g u : Int} {v v' : Value} {o : Obj} (J : LJ w W r h L D x H b c d n gs q st i) (hi : gs[i]? = some (g, u)) (ho : g % 2 = 1)
    (k1 : W.heap[H]? = some (.cells #[v] 36)) (own : W.ownsRow h 29 2 v (lives gs i).length (rowsOf Slot.row (lives gs i))) (hg : (W.alloc o).grownBy W5 v.ownBlock) (own' : W5.ownsRow h 29 2 v' ((lives gs i).length + 1) (rowsOf Slot.row (lives gs i) ++ [.int .i64 (i : Int), .int .i64 g])) (hH : h ≤ H) (hW : h ≤ W.heap.size) :
    LJ w (W5.setCell ⟨H, 0, none⟩ v') r h L D x H b c d n gs q st (i + 1) ∧ W5.heap[H]? = some (.cells #[v] 36) := by
  have kp5 : ∀ {k : Nat} {o : Obj}, W.heap[k]? = some o → (∀ cur, o ≠ .cells cur 29 (0, 0)) → W5.heap[k]? = some o := by
    intro k o h1 h2
    have h3 := hg.block k (by simp; exact Nat.lt_succ_of_lt (lt_of_heap h1)) (own_ne own h1 h2)
    rw [Below.heap_alloc _ _ _ (lt_of_heap h1)] at h3
    exact h3.trans h1
  have H5 := kp5 k1 (by simp)
  have kp : ∀ {k : Nat} {o : Obj}, W.heap[k]? = some o → (∀ cur, o ≠ .cells cur 29 (0, 0)) → k ≠ H → (W5.setCell ⟨H, 0, none⟩ v').heap[k]? = some o :=
    fun h1 h2 h3 => (Below.heap_setCell _ _ _ _ h3).trans (kp5 h1 h2)
  have ne : ∀ {k : Nat} {o : Obj}, W.heap[k]? = some o → (∀ cur, o ≠ .cells cur 36 (0, 0)) → k ≠ H := by
    rintro k o h1 h2 rfl
    rw [k1] at h1
    exact h2 _ (Option.some.inj h1).symm
  obtain ⟨rs, hr, hlr⟩ := J.ar.hd
  have ell : (lives gs (i + 1)).length = (lives gs i).length + 1 := by rw [lives_yes hi ho]; simp
  have erw : rowsOf Slot.row (lives gs (i + 1)) = rowsOf Slot.row (lives gs i) ++ [.int .i64 (i : Int), .int .i64 g] := by rw [lives_yes hi ho]; simp [rowsOf, Slot.row]
  have hbe : Below h w W5 := by
    refine ⟨hg.os.trans J.be.os, hg.tape.trans J.be.tape, hg.output.trans J.be.output, ?_, ?_⟩
    · have := hg.size; have := J.be.size; simp at *; omega
    · intro k hk
      have h1 : some k ≠ v.ownBlock := by
        obtain ⟨-, ⟨rfl, hz⟩ | ⟨g', cap, cur, rfl, hgb, _⟩⟩ := own
        · simp [Value.ownBlock]
        · simp only [Value.ownBlock, ne_eq, Option.some.injEq]; omega
      rw [hg.block k (by simp; omega) h1, Below.heap_alloc _ _ _ (by omega)]
      exact J.be.block k hk
  refine ⟨⟨kp J.l (by simp) (ne J.l (by simp)), kp J.dd (by simp) (ne J.dd (by simp)), kp J.xx (by simp) (ne J.xx (by simp)), ⟨v', ?_, ?_⟩, ?_, hbe.setCell (p := ⟨H, 0, none⟩) hH _⟩, H5⟩
  · rw [heap_set H5]; simp
  · rw [ell, erw]
    refine own_keep own' fun k cur hc => Below.heap_setCell _ _ _ _ ?_
    rintro rfl
    rw [H5] at hc
    simp at hc
  · have e1 : ∀ {k : Nat} {o : Obj}, W.heap[k]? = some o → (∀ cur, o ≠ .cells cur 29 (0, 0)) → (∀ cur, o ≠ .cells cur 36 (0, 0)) → (W5.setCell ⟨H, 0, none⟩ v').heap[k]? = W.heap[k]? := fun h1 h2 h3 => (kp h1 h2 (ne h1 h3)).trans h1.symm
    exact J.ar.of (e1 J.ar.hb (by simp) (by simp)) (e1 J.ar.hc (by simp) (by simp)) (e1 hr (by simp) (by simp))
theorem two (w : World) (o1 o2 : Obj) : ∃ V : World, ((w.alloc o1).alloc o2).drew = V ∧ V.heap.size = w.heap.size + 2 ∧ V.heap[w.heap.size]? = some o1 ∧ V.heap[w.heap.size + 1]? = some o2 ∧ Below w.heap.size w V := by
  refine ⟨_, rfl, by simp, ?_, ?_, ?_⟩
  · show ((w.alloc o1).alloc o2).heap[w.heap.size]? = some o1
    rw [Below.heap_alloc _ _ _ (by simp)]; exact putAll _ _ rfl
  · exact putAll _ _ (by simp)
  · have h := ((Below.refl w.heap.size w).alloc (Nat.le_refl _) o1).alloc (by simp) o2
    exact ⟨h.os, h.tape, h.output, h.size, h.block⟩

set_option maxRecDepth 100000 in
set_option maxHeartbeats 1000000 in
theorem live_in (b c d n : Nat) (gs : List Slot) (q : List Nat) (st : Int) (w : World) (hA : Ar w b c d n gs q st) (hnn : ∀ (i : Nat) (g v : Int), gs[i]? = some (g, v) → 0 ≤ g) :
    CallsIn Fence.wide 4 Try.prog 16 #[.pointer (some ⟨b, 0, none⟩)] w fun e w' => ∃ v, e = .returned v ∧ w'.ownsRow w.heap.size 29 2 v (lives gs n).length (rowsOf Slot.row (lives gs n)) ∧ Below w.heap.size w w' := by
  have hro : Fence.wide.round = none := rfl
  obtain ⟨a0, a1, a2, af⟩ := hA.cells
  have hql := hA.qle
  have hn64 := hA.hi
  have hbl := hA.lt
  obtain ⟨m, hm⟩ : ∃ m, n - q.length = m := ⟨_, rfl⟩
  have hmk : ∀ w : World, (Instr.makeSlice 36 (.int .i64 0) (.int .i64 (m : Int))).run Try.prog w = .ok (.slice (some ⟨w.heap.size, 0, none⟩) 0 m) (w.alloc (.cells (madeCells #[.int .i64 0, .int .i64 0] (m * 2)) 29)) := fun w => run_make_struct 36 29 (.agg #[.int .i64 0, .int .i64 0]) 2 16 Try.underlying36 info29 .i64 .i64 0 m (Nat.zero_le _) (by omega) (by omega) w
  have em : IntKind.i64.wrap ((n : Int) - (q.length : Int)) = (m : Int) := by rw [IntKind.wrap_i64]; omega
  have em3 : IntKind.i64.wrap (m : Int) = (m : Int) := by rw [IntKind.wrap_i64]; omega
  have em2 : (n : Int) - (q.length : Int) = (m : Int) := by omega
  have HA := hide hA
  have HN := hide hnn
  refine callsIn_of_wp_marks Try.func16 rfl trivial ?_ hro
  simp only [Try.ntmps16, List.size_toArray, List.length_cons, List.length_nil, Nat.reduceAdd, Nat.reduceSub, Array.replicate_succ, Array.replicate_zero, List.push_toArray, List.append_toArray, List.nil_append, List.cons_append]
  gi_wp2_with fail
  gi_region
  · obtain ⟨V, hV, hsz, g0, g1, hB⟩ := two w (.cells (madeCells #[.int .i64 0, .int .i64 0] (m * 2)) 29) (.cells #[.slice (some ⟨w.heap.size, 0, none⟩) 0 m] 36)
    rw [hV]
    clear hV hmk em em2 em3 a0 a1 a2 af hA hnn
    have own0 : V.ownsRow w.heap.size 29 2 (.slice (some ⟨w.heap.size, 0, none⟩) 0 m) (lives gs 0).length (rowsOf Slot.row (lives gs 0)) :=
      ⟨rfl, .inr ⟨w.heap.size, m, _, rfl, by omega, g0, Nat.zero_le _, by unfold maxLen; omega, size_madeCells _ _, rfl⟩⟩
    have A1 := (unhide HA).below hB
    have k1 := g1
    clear g0 g1
    generalize hh : w.heap.size = h at *
    have HH : Hid (w.heap.size = h) := hh
    clear hh
    generalize (Value.slice (some ⟨h, 0, none⟩) 0 m) = v0 at *
    obtain ⟨H, hH⟩ : ∃ H, h + 1 = H := ⟨_, rfl⟩
    rw [hH] at k1 ⊢
    have hH1 : h ≤ H := by omega
    have hH2 : H < h + 2 := by omega
    clear hH
    gi_wp2_with fail
    refine ⟨trivial, (callsIn_wide.2 (taken_any b _)).mono ?_⟩
    rintro e w' ⟨rfl, rfl⟩
    gi_wp2_with fail
    have hB1 := (Below.refl V.heap.size V).alloc (Nat.le_refl _) (.cells #[.pointer (some ⟨b, 0, none⟩)] 22)
    have X1 := putAll (w := V) (.cells #[.pointer (some ⟨b, 0, none⟩)] 22) (h + 2) hsz.symm
    have S1 : (V.alloc (.cells #[.pointer (some ⟨b, 0, none⟩)] 22)).heap.size = h + 3 := by simp [hsz]
    replace k1 := (hB1.block H (by omega)).trans k1
    replace own0 := own_keep (W' := V.alloc (.cells #[.pointer (some ⟨b, 0, none⟩)] 22)) own0 (fun k cur hc => hB1.block k (lt_of_heap hc))
    replace A1 := A1.below hB1
    replace hB := hB.trans (hB1.mono (by omega))
    generalize (V.alloc (.cells #[.pointer (some ⟨b, 0, none⟩)] 22)) = V1 at *
    clear hB1 hsz
    refine wpIn_range_own hro (by omega) (gf := 31) (lb := #[.pointer (some ⟨h + 2, 0, none⟩)]) rfl trivial (enters_of Try.func31 (by kernel_rfl) rfl) ?_
    intro r hF hst hpe htm hps has hbo
    rw [S1]
    have L1 : ((V1.alloc (.deferred (some []))).alloc (.loop r)).heap[h + 4]? = some (.loop r) := putAll _ _ (by simp [S1])
    have D1 : ((V1.alloc (.deferred (some []))).alloc (.loop r)).heap[h + 3]? = some (.deferred (some [])) := (Below.heap_alloc _ _ _ (by simp [S1])).trans (putAll _ _ (by simp [S1]))
    have hB2 : Below V1.heap.size V1 ((V1.alloc (.deferred (some []))).alloc (.loop r)) := ((Below.refl _ _).alloc (Nat.le_refl _) _).alloc (by simp) _
    generalize ((V1.alloc (.deferred (some []))).alloc (.loop r)) = W1 at L1 D1 hB2 ⊢
    have J0 : LJ w W1 r h (h + 4) (h + 3) (h + 2) H b c d n gs q st 0 :=
      ⟨L1, D1, (hB2.block _ (by omega)).trans X1, ⟨v0, (hB2.block _ (by omega)).trans k1, own_keep own0 (fun k cur hc => hB2.block k (lt_of_heap hc))⟩, A1.below hB2, hB.trans (hB2.mono (by omega))⟩
    clear L1 D1 hB2 X1 k1 own0 A1 hB S1
    refine (taken_go (h + 4) (h + 2) b c d n gs q st W1 (fun i W => LJ w W r h (h + 4) (h + 3) (h + 2) H b c d n gs q st i) J0 (fun i W' J => ⟨J.ar, by rw [cell_of J.xx]; rfl⟩) (unhide HN) (fun i W' g v J hg ho => ⟨J.l, J.dd, J.xx, by rw [lives_no hg ho]; exact J.ow, J.ar, J.be⟩) ?_).mono ?_
    · intro i W2 g u J hg ho
      refine yield_own hF hst hpe htm hps has hbo rfl J.l ?_
      have hil := lives_len gs i
      have hin : i < n := J.ar.klt hg
      clear htm hps has hbo hst hpe J0
      intro rb
      gi_wp2
      have hB3 : Below W2.heap.size W2 (W2.alloc (hObj (i : Int) g)) := (Below.refl _ _).alloc (Nat.le_refl _) _
      have kh := putAll (w := W2) (hObj (i : Int) g) W2.heap.size rfl
      have hs2 := J.be.size
      have Jl := lt_of_heap J.l
      refine ⟨(hB3.block _ Jl).trans J.l, ?_⟩
      have hl4 : ((W2.alloc (hObj (i : Int) g)).putObj (h + 4) (.loop rb)).heap[h + 4]? = some (.loop rb) := World.putObj_heap_same (by simp; omega)
      have J4 : LJ w ((W2.alloc (hObj (i : Int) g)).putObj (h + 4) (.loop rb)) rb h (h + 4) (h + 3) (h + 2) H b c d n gs q st i := by
        refine J.of hl4 ?_ (fun k hk hne => (World.putObj_heap_other hne).trans (hB3.block k hk))
        have hb := J.be.trans (hB3.mono (by have := J.be.size; omega))
        exact ⟨hb.os, hb.tape, hb.output, by rw [World.putObj_size]; exact hb.size, fun k hk => (World.putObj_heap_other (by omega)).trans (hb.block k hk)⟩
      have kh4 : ((W2.alloc (hObj (i : Int) g)).putObj (h + 4) (.loop rb)).heap[W2.heap.size]? = some (hObj (i : Int) g) := (World.putObj_heap_other (by omega)).trans kh
      generalize ((W2.alloc (hObj (i : Int) g)).putObj (h + 4) (.loop rb)) = W4 at *
      clear hl4 hB3 kh
      obtain ⟨v, k4, own4⟩ := J4.ow
      have hs4 : h ≤ W4.heap.size := by have := lt_of_heap J4.l; omega
      have e0 : W4.cell? ⟨H, 0, none⟩ = some v := by rw [cell_of k4]; rfl
      obtain ⟨y0, y1, yf⟩ := hcells kh4
      obtain ⟨i0, hi, hz0, hz1, hz2⟩ := info_parts info29
      refine wpIn_mono (Q := fun e _ w1 => e = Exit.normal ∧ ∃ v' w5, w5.ownsRow h 29 2 v' ((lives gs i).length + 1) (rowsOf Slot.row (lives gs i) ++ [.int .i64 (i : Int), .int .i64 g]) ∧ (W4.alloc (hObj (i : Int) g)).grownBy w5 v.ownBlock ∧ w1 = w5.setCell ⟨H, 0, none⟩ v') ?_ ?_
      · have own5 := own_keep (W' := W4.alloc (hObj (i : Int) g)) own4 (fun k cur hc => Below.heap_alloc _ _ _ (lt_of_heap hc))
        have HK4 := hide k4
        have HJ4 := hide J4
        have HG := hide hg
        generalize lives gs i = xs at *
        have HO4 := hide own4
        clear J J4 hg own4 k4
        gi_wp2_with (first
          | (gi_at_builtin; refine wpListIn_append_own _ rfl _ _ 36 rfl h 29 i0 (.agg #[.int .i64 0, .int .i64 0]) 2 16 Try.underlying36 hi hz0 hz1 hz2 rfl (by decide) _ _ _ rfl own5 ⟨W4.heap.size, 0, none⟩ 1 1 [.int .i64 (i : Int), .int .i64 g] rfl rfl ?c1 ?c2 ?c3 ?c4 ?c5 ?_))
        case c1 =>
          intro j u hj
          match j, hj with
          | 0, hj => simp at hj; subst hj; simp [Addr.add]
          | 1, hj => simp at hj; subst hj; simp [Addr.add]
        case c2 => intro u hu; simp at hu; rcases hu with rfl | rfl <;> rfl
        case c3 => unfold maxLen; omega
        case c4 => omega
        case c5 => simp; omega
        intro v' w5 own6 hgr _
        have k5 : w5.heap[H]? = some (.cells #[v] 36) := by
          have h3 := hgr.block H (by simp; exact Nat.lt_succ_of_lt (lt_of_heap (unhide HK4))) (own_ne (unhide HO4) (unhide HK4) (by simp))
          rw [Below.heap_alloc _ _ _ (lt_of_heap (unhide HK4))] at h3
          exact h3.trans (unhide HK4)
        have e1 : w5.cell? ⟨H, 0, none⟩ = some v := by rw [cell_of k5]; rfl
        have ef : w5.frozen? ⟨H, 0, none⟩ = false := frozen_of k5 0
        have HGR := hide hgr
        obtain ⟨g', cap, rfl⟩ : ∃ g' cap, v' = .slice (some ⟨g', 0, none⟩) (xs.length + 1) cap := by
          obtain ⟨-, ⟨rfl, hz⟩ | ⟨g', cap, cur, rfl, _⟩⟩ := own6
          · omega
          · exact ⟨g', cap, rfl⟩
        have HO6 := hide own6
        clear own6 hgr k5 own5
        gi_wp2_with fail
        exact ⟨.slice (some ⟨g', 0, none⟩) (xs.length + 1) cap, w5, unhide HO6, unhide HGR, rfl⟩
      · rintro e a1 w1 ⟨rfl, v', w5, own6, hgr, rfl⟩
        obtain ⟨J5, k5⟩ := J4.more hg ho k4 own4 hgr own6 hH1 hs4
        refine ⟨rfl, J5.l, trivial, ?_⟩
        have hl6 : ((w5.setCell ⟨H, 0, none⟩ v').putObj (h + 4) (.loop r)).heap[h + 4]? = some (.loop r) := World.putObj_heap_same (lt_of_heap J5.l)
        refine J5.of hl6 ?_ (fun k hk hne => World.putObj_heap_other hne)
        have hb := J5.be
        exact ⟨hb.os, hb.tape, hb.output, by rw [World.putObj_size]; exact hb.size, fun k hk => (World.putObj_heap_other (by omega)).trans (hb.block k hk)⟩
    · rintro e W2 ⟨rfl, J⟩
      refine ⟨⟨_, rfl⟩, J.l, ?_⟩
      have po : ∀ k, k ≠ h + 4 → (W2.putObj (h + 4) (.loop { r with state := .exhausted })).heap[k]? = W2.heap[k]? := fun k hk => World.putObj_heap_other hk
      have hl6 : (W2.putObj (h + 4) (.loop { r with state := .exhausted })).heap[h + 4]? = some (.loop { r with state := .exhausted }) := World.putObj_heap_same (lt_of_heap J.l)
      have J6 := J.of hl6 ⟨J.be.os, J.be.tape, J.be.output, by rw [World.putObj_size]; exact J.be.size, fun k hk => (po k (by omega)).trans (J.be.block k hk)⟩ (fun k _ hne => po k hne)
      generalize W2.putObj (h + 4) (.loop { r with state := .exhausted }) = W3 at J6 ⊢
      obtain ⟨v, k6, own6⟩ := J6.ow
      have e0 : W3.cell? ⟨H, 0, none⟩ = some v := by rw [cell_of k6]; rfl
      have H6 := hide own6
      have HD6 := hide J6.dd
      have HB6 := hide J6.be
      clear J J0 J6 k6 own6 po hl6 htm hps has hbo hst hpe
      gi_wp2_with fail
      refine ⟨by simp, .inl ⟨_, _, rfl, run_takeDeferred (unhide HD6), ?_⟩⟩
      have own7 := own_keep (W' := W3.putObj (h + 3) (.deferred none)) (unhide H6) (fun k cur hc => World.putObj_heap_other (by rintro rfl; rw [unhide HD6] at hc; simp at hc))
      have hb := unhide HB6
      have be7 : Below h w (W3.putObj (h + 3) (.deferred none)) := ⟨hb.os, hb.tape, hb.output, by rw [World.putObj_size]; exact hb.size, fun k hk => (World.putObj_heap_other (by omega)).trans (hb.block k hk)⟩
      rw [unhide HH]
      exact ⟨v, by simp [results, Try.results16, go_sem], v, rfl, own7, be7⟩
  · obtain ⟨V, hV, hsz, g0, g1, hB⟩ := two w (.cells #[.slice (some ⟨w.heap.size + 1, 0, none⟩) 0 m] 36) (.cells (madeCells #[.int .i64 0, .int .i64 0] (m * 2)) 29)
    rw [hV]
    clear hV hmk em em2 em3 a0 a1 a2 af hA hnn
    have own0 : V.ownsRow w.heap.size 29 2 (.slice (some ⟨w.heap.size + 1, 0, none⟩) 0 m) (lives gs 0).length (rowsOf Slot.row (lives gs 0)) :=
      ⟨rfl, .inr ⟨w.heap.size + 1, m, _, rfl, by omega, g1, Nat.zero_le _, by unfold maxLen; omega, size_madeCells _ _, rfl⟩⟩
    have A1 := (unhide HA).below hB
    have k1 := g0
    clear g0 g1
    generalize hh : w.heap.size = h at *
    have HH : Hid (w.heap.size = h) := hh
    clear hh
    generalize (Value.slice (some ⟨h + 1, 0, none⟩) 0 m) = v0 at *
    have hH1 : h ≤ h := by omega
    have hH2 : h < h + 2 := by omega
    gi_wp2_with fail
    refine ⟨trivial, (callsIn_wide.2 (taken_any b _)).mono ?_⟩
    rintro e w' ⟨rfl, rfl⟩
    gi_wp2_with fail
    have hB1 := (Below.refl V.heap.size V).alloc (Nat.le_refl _) (.cells #[.pointer (some ⟨b, 0, none⟩)] 22)
    have X1 := putAll (w := V) (.cells #[.pointer (some ⟨b, 0, none⟩)] 22) (h + 2) hsz.symm
    have S1 : (V.alloc (.cells #[.pointer (some ⟨b, 0, none⟩)] 22)).heap.size = h + 3 := by simp [hsz]
    replace k1 := (hB1.block h (by omega)).trans k1
    replace own0 := own_keep (W' := V.alloc (.cells #[.pointer (some ⟨b, 0, none⟩)] 22)) own0 (fun k cur hc => hB1.block k (lt_of_heap hc))
    replace A1 := A1.below hB1
    replace hB := hB.trans (hB1.mono (by omega))
    generalize (V.alloc (.cells #[.pointer (some ⟨b, 0, none⟩)] 22)) = V1 at *
    clear hB1 hsz
    refine wpIn_range_own hro (by omega) (gf := 31) (lb := #[.pointer (some ⟨h + 2, 0, none⟩)]) rfl trivial (enters_of Try.func31 (by kernel_rfl) rfl) ?_
    intro r hF hst hpe htm hps has hbo
    rw [S1]
    have L1 : ((V1.alloc (.deferred (some []))).alloc (.loop r)).heap[h + 4]? = some (.loop r) := putAll _ _ (by simp [S1])
    have D1 : ((V1.alloc (.deferred (some []))).alloc (.loop r)).heap[h + 3]? = some (.deferred (some [])) := (Below.heap_alloc _ _ _ (by simp [S1])).trans (putAll _ _ (by simp [S1]))
    have hB2 : Below V1.heap.size V1 ((V1.alloc (.deferred (some []))).alloc (.loop r)) := ((Below.refl _ _).alloc (Nat.le_refl _) _).alloc (by simp) _
    generalize ((V1.alloc (.deferred (some []))).alloc (.loop r)) = W1 at L1 D1 hB2 ⊢
    have J0 : LJ w W1 r h (h + 4) (h + 3) (h + 2) h b c d n gs q st 0 :=
      ⟨L1, D1, (hB2.block _ (by omega)).trans X1, ⟨v0, (hB2.block _ (by omega)).trans k1, own_keep own0 (fun k cur hc => hB2.block k (lt_of_heap hc))⟩, A1.below hB2, hB.trans (hB2.mono (by omega))⟩
    clear L1 D1 hB2 X1 k1 own0 A1 hB S1
    refine (taken_go (h + 4) (h + 2) b c d n gs q st W1 (fun i W => LJ w W r h (h + 4) (h + 3) (h + 2) h b c d n gs q st i) J0 (fun i W' J => ⟨J.ar, by rw [cell_of J.xx]; rfl⟩) (unhide HN) (fun i W' g v J hg ho => ⟨J.l, J.dd, J.xx, by rw [lives_no hg ho]; exact J.ow, J.ar, J.be⟩) ?_).mono ?_
    · intro i W2 g u J hg ho
      refine yield_own hF hst hpe htm hps has hbo rfl J.l ?_
      have hil := lives_len gs i
      have hin : i < n := J.ar.klt hg
      clear htm hps has hbo hst hpe J0
      intro rb
      gi_wp2
      have hB3 : Below W2.heap.size W2 (W2.alloc (hObj (i : Int) g)) := (Below.refl _ _).alloc (Nat.le_refl _) _
      have kh := putAll (w := W2) (hObj (i : Int) g) W2.heap.size rfl
      have hs2 := J.be.size
      have Jl := lt_of_heap J.l
      refine ⟨(hB3.block _ Jl).trans J.l, ?_⟩
      have hl4 : ((W2.alloc (hObj (i : Int) g)).putObj (h + 4) (.loop rb)).heap[h + 4]? = some (.loop rb) := World.putObj_heap_same (by simp; omega)
      have J4 : LJ w ((W2.alloc (hObj (i : Int) g)).putObj (h + 4) (.loop rb)) rb h (h + 4) (h + 3) (h + 2) h b c d n gs q st i := by
        refine J.of hl4 ?_ (fun k hk hne => (World.putObj_heap_other hne).trans (hB3.block k hk))
        have hb := J.be.trans (hB3.mono (by have := J.be.size; omega))
        exact ⟨hb.os, hb.tape, hb.output, by rw [World.putObj_size]; exact hb.size, fun k hk => (World.putObj_heap_other (by omega)).trans (hb.block k hk)⟩
      have kh4 : ((W2.alloc (hObj (i : Int) g)).putObj (h + 4) (.loop rb)).heap[W2.heap.size]? = some (hObj (i : Int) g) := (World.putObj_heap_other (by omega)).trans kh
      generalize ((W2.alloc (hObj (i : Int) g)).putObj (h + 4) (.loop rb)) = W4 at *
      clear hl4 hB3 kh
      obtain ⟨v, k4, own4⟩ := J4.ow
      have hs4 : h ≤ W4.heap.size := by have := lt_of_heap J4.l; omega
      have e0 : W4.cell? ⟨h, 0, none⟩ = some v := by rw [cell_of k4]; rfl
      obtain ⟨y0, y1, yf⟩ := hcells kh4
      obtain ⟨i0, hi, hz0, hz1, hz2⟩ := info_parts info29
      refine wpIn_mono (Q := fun e _ w1 => e = Exit.normal ∧ ∃ v' w5, w5.ownsRow h 29 2 v' ((lives gs i).length + 1) (rowsOf Slot.row (lives gs i) ++ [.int .i64 (i : Int), .int .i64 g]) ∧ (W4.alloc (hObj (i : Int) g)).grownBy w5 v.ownBlock ∧ w1 = w5.setCell ⟨h, 0, none⟩ v') ?_ ?_
      · have own5 := own_keep (W' := W4.alloc (hObj (i : Int) g)) own4 (fun k cur hc => Below.heap_alloc _ _ _ (lt_of_heap hc))
        have HK4 := hide k4
        have HJ4 := hide J4
        have HG := hide hg
        generalize lives gs i = xs at *
        have HO4 := hide own4
        clear J J4 hg own4 k4
        gi_wp2_with (first
          | (gi_at_builtin; refine wpListIn_append_own _ rfl _ _ 36 rfl h 29 i0 (.agg #[.int .i64 0, .int .i64 0]) 2 16 Try.underlying36 hi hz0 hz1 hz2 rfl (by decide) _ _ _ rfl own5 ⟨W4.heap.size, 0, none⟩ 1 1 [.int .i64 (i : Int), .int .i64 g] rfl rfl ?c1 ?c2 ?c3 ?c4 ?c5 ?_))
        case c1 =>
          intro j u hj
          match j, hj with
          | 0, hj => simp at hj; subst hj; simp [Addr.add]
          | 1, hj => simp at hj; subst hj; simp [Addr.add]
        case c2 => intro u hu; simp at hu; rcases hu with rfl | rfl <;> rfl
        case c3 => unfold maxLen; omega
        case c4 => omega
        case c5 => simp; omega
        intro v' w5 own6 hgr _
        have k5 : w5.heap[h]? = some (.cells #[v] 36) := by
          have h3 := hgr.block h (by simp; exact Nat.lt_succ_of_lt (lt_of_heap (unhide HK4))) (own_ne (unhide HO4) (unhide HK4) (by simp))
          rw [Below.heap_alloc _ _ _ (lt_of_heap (unhide HK4))] at h3
          exact h3.trans (unhide HK4)
        have e1 : w5.cell? ⟨h, 0, none⟩ = some v := by rw [cell_of k5]; rfl
        have ef : w5.frozen? ⟨h, 0, none⟩ = false := frozen_of k5 0
        have HGR := hide hgr
        obtain ⟨g', cap, rfl⟩ : ∃ g' cap, v' = .slice (some ⟨g', 0, none⟩) (xs.length + 1) cap := by
          obtain ⟨-, ⟨rfl, hz⟩ | ⟨g', cap, cur, rfl, _⟩⟩ := own6
          · omega
          · exact ⟨g', cap, rfl⟩
        have HO6 := hide own6
        clear own6 hgr k5 own5
        gi_wp2_with fail
        exact ⟨.slice (some ⟨g', 0, none⟩) (xs.length + 1) cap, w5, unhide HO6, unhide HGR, rfl⟩
      · rintro e a1 w1 ⟨rfl, v', w5, own6, hgr, rfl⟩
        obtain ⟨J5, k5⟩ := J4.more hg ho k4 own4 hgr own6 hH1 hs4
        refine ⟨rfl, J5.l, trivial, ?_⟩
        have hl6 : ((w5.setCell ⟨h, 0, none⟩ v').putObj (h + 4) (.loop r)).heap[h + 4]? = some (.loop r) := World.putObj_heap_same (lt_of_heap J5.l)
        refine J5.of hl6 ?_ (fun k hk hne => World.putObj_heap_other hne)
        have hb := J5.be
        exact ⟨hb.os, hb.tape, hb.output, by rw [World.putObj_size]; exact hb.size, fun k hk => (World.putObj_heap_other (by omega)).trans (hb.block k hk)⟩
    · rintro e W2 ⟨rfl, J⟩
      refine ⟨⟨_, rfl⟩, J.l, ?_⟩
      have po : ∀ k, k ≠ h + 4 → (W2.putObj (h + 4) (.loop { r with state := .exhausted })).heap[k]? = W2.heap[k]? := fun k hk => World.putObj_heap_other hk
      have hl6 : (W2.putObj (h + 4) (.loop { r with state := .exhausted })).heap[h + 4]? = some (.loop { r with state := .exhausted }) := World.putObj_heap_same (lt_of_heap J.l)
      have J6 := J.of hl6 ⟨J.be.os, J.be.tape, J.be.output, by rw [World.putObj_size]; exact J.be.size, fun k hk => (po k (by omega)).trans (J.be.block k hk)⟩ (fun k _ hne => po k hne)
      generalize W2.putObj (h + 4) (.loop { r with state := .exhausted }) = W3 at J6 ⊢
      obtain ⟨v, k6, own6⟩ := J6.ow
      have e0 : W3.cell? ⟨h, 0, none⟩ = some v := by rw [cell_of k6]; rfl
      have H6 := hide own6
      have HD6 := hide J6.dd
      have HB6 := hide J6.be
      clear J J0 J6 k6 own6 po hl6 htm hps has hbo hst hpe
      gi_wp2_with fail
      refine ⟨by simp, .inl ⟨_, _, rfl, run_takeDeferred (unhide HD6), ?_⟩⟩
      have own7 := own_keep (W' := W3.putObj (h + 3) (.deferred none)) (unhide H6) (fun k cur hc => World.putObj_heap_other (by rintro rfl; rw [unhide HD6] at hc; simp at hc))
      have hb := unhide HB6
      have be7 : Below h w (W3.putObj (h + 3) (.deferred none)) := ⟨hb.os, hb.tape, hb.output, by rw [World.putObj_size]; exact hb.size, fun k hk => (World.putObj_heap_other (by omega)).trans (hb.block k hk)⟩
      rw [unhide HH]
      exact ⟨v, by simp [results, Try.results16, go_sem], v, rfl, own7, be7⟩

theorem live_all (b c d n : Nat) (gs : List Slot) (q : List Nat) (st : Int) (w : World) (hA : Ar w b c d n gs q st) (hnn : ∀ (i : Nat) (g v : Int), gs[i]? = some (g, v) → 0 ≤ g) :
    Calls Try.prog 16 #[.pointer (some ⟨b, 0, none⟩)] w fun e w' => ∃ v, e = .returned v ∧ w'.ownsRow w.heap.size 29 2 v (lives gs n).length (rowsOf Slot.row (lives gs n)) ∧ Below w.heap.size w w' :=
  callsIn_wide.1 (live_in b c d n gs q st w hA hnn)
end Go.Proofs.Ytfhphamjalpjpaa
