/-
  The contract of Keys.
-/
import Derived.Test.YtbmcnfdciogmjaaKeysA
namespace Go.Proofs.Ytbmcnfdciogmjaa
open Go.RowKit Go.Sort
attribute [local go_sem ↓] Go.wp_at_zero Go.wp_at_succ

theorem info9 : (Try.prog.info? 9).map (fun i => (i.zero, i.size, i.bytes)) = some (some (.string ByteArray.empty), 1, 16) := by kernel_rfl
theorem info_parts {e : TypeId} {z : Value} {size bytes : Nat} (hinfo : (Try.prog.info? e).map (fun i => (i.zero, i.size, i.bytes)) = some (some z, size, bytes)) : ∃ i, Try.prog.info? e = some i ∧ i.zero = some z ∧ i.size = size ∧ i.bytes = bytes := by
  obtain ⟨i, hi, hzz⟩ := Option.map_eq_some_iff.1 hinfo
  simp only [Prod.mk.injEq] at hzz
  exact ⟨i, hi, hzz.1, hzz.2.1, hzz.2.2⟩
theorem own_keep {W W' : World} {base : Nat} {e : TypeId} {s n : Nat} {v : Value} {xs : List Value} (h : W.ownsRow base e s v n xs) (hb : ∀ (k : Nat) (cur : Array Value), W.heap[k]? = some (Obj.cells cur e (0, 0)) → W'.heap[k]? = W.heap[k]?) : W'.ownsRow base e s v n xs := by
  obtain ⟨h0, h1⟩ := h
  refine ⟨h0, ?_⟩
  rcases h1 with h1 | ⟨g, cap, cur, h1, h2, h3, h4⟩
  · exact .inl h1
  · exact .inr ⟨g, cap, cur, h1, h2, (hb g cur h3).trans h3, h4⟩
theorem below_grown {B : Nat} {u w w' : World} {e : TypeId} {s n : Nat} {v : Value} {xs : List Value} (hB : Below B u w) (ho : w.ownsRow B e s v n xs) (hg : w.grownBy w' v.ownBlock) (hs : B ≤ w.heap.size) : Below B u w' := by
  refine ⟨hg.os.trans hB.os, hg.tape.trans hB.tape, hg.output.trans hB.output, Nat.le_trans hB.size hg.size, fun k hk => (hg.block k (by omega) fun e => ?_).trans (hB.block k hk)⟩
  have := (ho.lt k e.symm).1
  omega
def nodeV (x : E) : Value := .string x.key
def lenOf : Value → Nat
  | .slice _ n _ => n
  | _ => 0
theorem own_len {W : World} {base : Nat} {e : TypeId} {s n : Nat} {v : Value} {xs : List Value} (h : W.ownsRow base e s v n xs) : lenOf v = n := by
  rcases h.2 with ⟨rfl, hz⟩ | ⟨g, cap, cur, rfl, _⟩
  · rw [hz]; rfl
  · rfl
def intOf : Value → Int
  | .int _ x => x
  | _ => 0

set_option maxRecDepth 100000 in
set_option maxHeartbeats 1000000 in
theorem keys_any (base bt bh n : Nat) (ch : Nat → List E) (m : Pairs) (w : World) (h : Tb base w bt bh n ch m) :
    Calls Try.prog 15 #[.pointer (some ⟨bt, 0, none⟩)] w fun e w' => ∃ g cap, e = .returned (.slice (some ⟨g, 0, none⟩) m.length cap) ∧ w'.ownsRow w.heap.size 9 1 (.slice (some ⟨g, 0, none⟩) m.length cap) m.length ((ordered m).map encStr) ∧ Below w.heap.size w w' := by
  obtain ⟨i0, hi, hz0, hz1, hz2⟩ := info_parts info9
  have hml := h.mlen
  have hmk : ∀ w : World, (Instr.makeSlice 35 (.int .i64 0) (.int .i64 (m.length : Int))).run Try.prog w = .ok (.slice (some ⟨w.heap.size, 0, none⟩) 0 m.length) (w.alloc (.cells (madeCells #[.string ByteArray.empty] (m.length * 1)) 9)) :=
    fun w => run_make_struct 35 9 _ 1 16 Try.underlying35 info9 .i64 .i64 0 m.length (by omega) (by omega) (by omega) w
  obtain ⟨h0, h1, hf⟩ := h.cells
  have HT := hide h
  have hlo := h.lo
  have hlt := h.own_lt (k := bt) (.inl rfl)
  have h0a : ∀ o, (w.alloc o).cell? ⟨bt, 0, none⟩ = some (.slice (some ⟨bh, 0, none⟩) n n) := fun o => (cell_same (Below.heap_alloc _ _ _ hlt) _).trans h0
  have hhi := h.hi
  have hms : (madeCells #[.string ByteArray.empty] (m.length * 1)).size = m.length * 1 := size_madeCells _ _
  generalize madeCells #[.string ByteArray.empty] (m.length * 1) = M at *
  have HM := hide hms
  clear h hf hms
  generalize hmll : m.length = ml at *
  replace hmll := hide hmll
  go_enter Try.func15, Try.ntmps15
  go_wp2_with fail
  go_loopw [3, 16] (fun v c wr => ∃ i : Nat, i ≤ n ∧ c = .int .i64 (i : Int) ∧ Hid (wr.ownsRow w.heap.size 9 1 v (cat ch i).length ((cat ch i).map nodeV)) ∧ Hid (v ≠ .slice none 0 0) ∧ Hid (Below w.heap.size w wr)) (fun _ c _ => n - (intOf c).toNat)
  case atStart =>
    refine ⟨0, Nat.zero_le _, rfl, hide ?_, hide (by simp), hide ((Below.refl _ w).alloc (Nat.le_refl _) _)⟩
    exact World.ownsRow_made w M ml (Nat.le_refl _) (by unfold maxLen; omega) (unhide HM)
  case round =>
    obtain ⟨i, hin, rfl, hO, hN, hB⟩ := hrel
    clear h0a h0 h1
    have HT1 := hide ((unhide HT).below (unhide hB))
    obtain ⟨c0, c1, cf⟩ := (unhide HT1).cells
    by_cases hi2 : i < n
    · have q1 : (i : Int) < (n : Int) := by omega
      have q0 : (0 : Int) ≤ (i : Int) := by omega
      have hp := (unhide HT1).path i hi2
      have k2 := hp.1.k2
      simp only [headE] at k2
      rw [nx_eq] at k2
      clear hp
      generalize hno : nxo (ch i) = no at *
      replace hno := hide hno
      go_wp2_with fail
      have hlen : (cat ch (i + 1)).length ≤ ml := by rw [← unhide hmll, ← (unhide HT).cat_len]; exact cat_le ch hi2
      rw [cat_succ, List.length_append] at hlen
      go_loopw [3, 5] (fun v e wr => ∃ A R : List E, e = nx R ∧ Hid (ch i = A ++ R) ∧ Hid (wr.ownsRow w.heap.size 9 1 v ((cat ch i).length + A.length) ((cat ch i ++ A).map nodeV)) ∧ Hid (v ≠ .slice none 0 0) ∧ Hid (Below w.heap.size w wr)) (fun v _ _ => 1000 - lenOf v)
      case atStart =>
        refine ⟨[], ch i, ?_, hide rfl, hide (by simpa using unhide hO), hN, hB⟩
        rw [nx_eq, unhide hno]
      case round =>
        obtain ⟨A, R, rfl, hA, hO2, hN2, hB2⟩ := hrel
        clear c0 c1 cf k2
        have HT2 := hide ((unhide HT).below (unhide hB2))
        have hp := (unhide HT2).path i hi2
        rw [unhide hA] at hp
        have hpR := Path.append (a := headE bh i :: A) hp
        have hl3 : (cat ch i).length + (A.length + R.length) ≤ ml := by
          have := congrArg List.length (unhide hA)
          rw [List.length_append] at this
          omega
        clear hp
        cases R with
        | nil =>
          simp only [nx]
          clear hpR
          go_wp2_with fail
          have hA2 := unhide hA
          rw [List.append_nil] at hA2
          refine ⟨⟨i + 1, by omega, rfl, hide ?_, hN2, hB2⟩, by simp [intOf]; omega⟩
          rw [cat_succ, hA2, List.length_append]
          exact unhide hO2
        | cons x R =>
          simp only [nx]
          have k0 := hpR.1.k0
          have k2 := hpR.1.k2
          rw [nx_eq] at k2
          have hxl := hpR.1.lt
          clear hpR
          generalize hnR : nxo R = oR at *
          replace hnR := hide hnR
          have hs2 : w.heap.size ≤ (wr.alloc (.cells #[.string x.key] 9)).heap.size := by have := (unhide hB2).size; simp; omega
          have own2 := own_keep (W' := wr.alloc (.cells #[.string x.key] 9)) (unhide hO2) (fun j cur hc => Below.heap_alloc _ _ _ (lt_of_heap hc))
          have hB4 := hide ((unhide hB2).alloc (unhide hB2).size (.cells #[.string x.key] 9))
          have HO := hide own2
          have hlv := hide (own_len (unhide hO2))
          simp only [List.length_cons] at hl3
          clear hO2
          generalize hc1 : (cat ch i).length + A.length = cn at *
          replace hc1 := hide hc1
          generalize hxs : (cat ch i ++ A).map nodeV = xs at *
          replace hxs := hide hxs
          have hcn : cn < 64 := by have := unhide hc1; omega
          go_wp2_with (first
            | (at_builtin; refine wpList_append_own_at _ rfl _ _ 35 rfl w.heap.size 9 i0 (.string ByteArray.empty) 1 16 Try.underlying35 hi hz0 hz1 hz2 rfl (by decide) _ _ _ rfl own2 ⟨wr.heap.size, 0, none⟩ 1 1 [.string x.key] rfl rfl ?c1 ?c2 ?c3 ?c4 ?c5 ?_))
          case c1 =>
            intro j u hj
            match j, hj with
            | 0, hj => simp at hj; subst hj; simp [Addr.add]
          case c2 => intro u hu; simp at hu; subst hu; rfl
          case c3 => unfold maxLen; omega
          case c4 => omega
          case c5 => exact hs2
          intro v' w5 own5 hgr hnil _
          have hB5 := hide (below_grown (unhide hB4) (unhide HO) hgr hs2)
          have hN5 : Hid (v' ≠ .slice none 0 0) := hide hnil
          have HT5 := (unhide HT).below (unhide hB5)
          have hp5 := HT5.path i hi2
          rw [unhide hA] at hp5
          have hpR5 := Path.append (a := headE bh i :: A) hp5
          have z2 := hpR5.1.k2
          rw [nx_eq, unhide hnR] at z2
          have hl5 := hide (own_len own5)
          have HO5 : Hid (w5.ownsRow w.heap.size 9 1 v' ((cat ch i).length + (A ++ [x]).length) ((cat ch i ++ (A ++ [x])).map nodeV)) := by
            have e1 : (cat ch i).length + (A ++ [x]).length = cn + 1 := by have := unhide hc1; simp; omega
            have e2 : (cat ch i ++ (A ++ [x])).map nodeV = xs ++ [.string x.key] := by rw [← List.append_assoc, List.map_append, unhide hxs]; rfl
            rw [e1, e2]; exact hide own5
          clear own5 hgr own2 hnil HT5 hp5 hpR5 k0 k2
          go_wp2_with fail
          refine ⟨⟨A ++ [x], R, ?_, ?_, HO5, hN5, hB5⟩, ?_⟩
          · rw [← unhide hnR]; cases R <;> rfl
          · exact hide (by rw [unhide hA]; simp)
          · rw [unhide hl5, unhide hlv]; omega
    · obtain rfl : i = n := by omega
      have hcl := (unhide HT).cat_len
      rw [unhide hmll] at hcl
      have hsrt := hide (unhide HT).sorted
      rcases (unhide hO).2 with ⟨hnil, _⟩ | ⟨g, cap, cur, rfl, hrest⟩
      · exact absurd hnil (unhide hN)
      clear hrest
      rw [hcl] at hO
      have hb := (unhide hB).size
      have K := hide (sort_own (base := w.heap.size) (w := wr) (g := g) (cap := cap) (ss := (cat ch i).map (fun x => kb x.key)) (by
        have := unhide hO
        rw [List.length_map, hcl, List.map_map]
        rw [show (encStr ∘ fun x : E => kb x.key) = nodeV from funext fun x => enc_kb x.key]
        exact this) (by rw [List.length_map, hcl]; omega))
      rw [List.length_map, unhide hsrt, hcl] at K
      have q : ¬ (i : Int) < (i : Int) := by omega
      rw [hcl]
      go_wp2_with fail
      refine (unhide K).mono ?_
      rintro e w3 ⟨rfl, hO3, hg3⟩
      have hB3 := hide (below_grown (unhide hB) (unhide hO) hg3 hb)
      replace hO3 := hide hO3
      clear hg3
      go_wp2_with fail
      go_ret
      exact ⟨g, cap, rfl, unhide hO3, unhide hB3⟩
end Go.Proofs.Ytbmcnfdciogmjaa
