/-
  The contracts of Read, Write and Cut.
-/
import Derived.Test.YtiedobpgfhmidaaOpsB
import Derived.Test.YtiedobpgfhmidaaWrite
namespace Go.Proofs.Ytiedobpgfhmidaa
open Go.RowKit Go.Maps

theorem wf_bounds {x : Int} (h : (Lit.int .i64 x).wf = true) : -9223372036854775808 ≤ x ∧ x ≤ 9223372036854775807 := by
  simp [Lit.wf] at h
  exact h
set_option maxRecDepth 100000 in
set_option maxHeartbeats 1000000 in
theorem write_any {base : Bse} {n : Nat} {W : World} {p : Nat} {s : S} (h : Pl base n W p s) {f : Int} (hf : (kl f).wf = true) (a : Int) (ha : (kl a).wf = true) (ad : Option Addr) (m cap : Nat) (g : Nat → Int) (hi : In W ad m cap g) :
    Calls Try.prog 44 #[P0 p, I f, I a, .slice ad m cap] W fun e w' => e = .returned (I (writeE s f a m)) ∧ Pl base n w' p (writeS s f a m g) ∧ Nx base W w' := by
  have h' := h
  obtain ⟨fb, cb, mb, h⟩ := h
  obtain ⟨c0, c1, c2, cf⟩ := h.cells
  have hl := h.look hf
  have hb := h.bs
  simp only [writeE, writeS]
  cases e : s.get f with
  | none =>
    rw [e] at hl
    simp only [Option.isSome_none, Bool.false_eq_true, if_false] at hl
    simp only []
    replace h' := hide h'
    clear h
    go_enter Try.func44, Try.ntmps44
    go_wp2_with fail
    go_ret
    exact ⟨rfl, unhide h', Nx.refl hb⟩
  | some x =>
    rw [e] at hl
    simp only [Option.isSome_some, if_true] at hl
    simp only []
    have hx := h.hx f x e
    by_cases h1 : a < 0
    · rw [if_pos h1, if_pos h1]
      replace h' := hide h'
      clear h hx
      go_enter Try.func44, Try.ntmps44
      go_wp2_with fail
      go_ret
      exact ⟨rfl, unhide h', Nx.refl hb⟩
    · rw [if_neg h1, if_neg h1]
      by_cases h2 : m = 0
      · rw [if_pos h2, if_pos h2]
        replace h' := hide h'
        clear h hx
        subst h2
        have h3 : 0 ≤ a := by omega
        clear h1
        go_enter Try.func44, Try.ntmps44
        go_wp2_with fail
        go_ret
        exact ⟨rfl, unhide h', Nx.refl hb⟩
      · rw [if_neg h2, if_neg h2]
        have h3 : 0 ≤ a := by omega
        have h4 : ((m : Int) == 0) = false := by simpa using h2
        have a1 := (wf_bounds ha).2
        by_cases h5 : 1024 < a + (m : Int)
        · rw [if_pos h5, if_pos h5]
          have h6 : 1024 - a < (m : Int) := by omega
          replace h' := hide h'
          clear h hx h1 h2 h5
          go_enter Try.func44, Try.ntmps44
          go_wp2_with fail
          go_ret
          exact ⟨rfl, unhide h', Nx.refl hb⟩
        · rw [if_neg h5, if_neg h5]
          have h6 : ¬ 1024 - a < (m : Int) := by omega
          obtain ⟨sb, so, rfl, hs, hcap⟩ := hi (by omega)
          obtain ⟨q, rfl⟩ : ∃ q : Nat, a = (q : Int) := ⟨a.toNat, by omega⟩
          have q1 : (q : Int) ≤ 1024 := by omega
          have m1 : (m : Int) ≤ 1024 := by omega
          have hqm : q + m ≤ 1024 := by omega
          have hm0 : 0 < m := by omega
          obtain ⟨L, hL⟩ : ∃ L : Nat, L = x.lacks (q : Int).toNat m := ⟨_, rfl⟩
          have hLc : L ≤ 64 := by rw [hL]; exact cnt_le _ _
          obtain ⟨l, hll⟩ : ∃ l : Nat, l = s.left := ⟨_, rfl⟩
          have hl256 : l ≤ 256 := by have := h.tot; have := h.nn; omega
          have l1 : (l : Int) ≤ 256 := by omega
          have L1 : (L : Int) ≤ 64 := by omega
          rw [← hll] at c0
          rw [← hL, ← hll]
          have H := hide h
          have HX := hide hx
          have HS := hide hs
          have HE := hide e
          replace h' := hide h'
          replace hL := hide hL
          replace hll := hide hll
          clear h hx hs e h1 h2 h5
          by_cases h7 : l < L
          · rw [if_pos h7, if_pos h7]
            have h8 : (l : Int) < (L : Int) := by omega
            go_enter Try.func44, Try.ntmps44
            go_wp2_with fail
            refine (lacks_any (unhide HX) q m hm0 hqm _ (by omega)).mono ?_
            rintro e w1 ⟨rfl, B1⟩
            rw [show x.lacks q m = L from (by rw [unhide hL, Int.toNat_natCast])]
            obtain ⟨d0, d1, d2, df⟩ := ((unhide H).below B1).cells
            rw [← unhide hll] at d0
            go_wp2_with fail
            go_ret
            exact ⟨rfl, (unhide h').below B1, .of_below B1 hb⟩
          · rw [if_neg h7, if_neg h7]
            have h8 : ¬ (l : Int) < (L : Int) := by omega
            go_enter Try.func44, Try.ntmps44
            go_wp2_with fail
            refine (lacks_any (unhide HX) q m hm0 hqm _ (by omega)).mono ?_
            rintro e w1 ⟨rfl, B1⟩
            rw [show x.lacks q m = L from (by rw [unhide hL, Int.toNat_natCast])]
            have H1 := (unhide H).below B1
            obtain ⟨d0, d1, d2, df⟩ := H1.cells
            rw [← unhide hll] at d0
            have HB1 := hide B1
            have HH1 := hide H1
            clear B1 H1
            go_wp2_with fail
            have H1 := unhide HH1
            have e := unhide HE
            have hne := H1.ne e
            have hX1 := H1.hx f x e
            obtain ⟨w2, hw2⟩ : ∃ w2, w2 = w1.setCell ⟨p, 0, none⟩ (Value.int IntKind.i64 ((l : Int) - (L : Int))) := ⟨_, rfl⟩
            rw [← hw2]
            have F2 : Fr [p] w1 w2 := by rw [hw2]; exact (Fr.refl _ w1).set (by simp) _
            have hp2 : w2.heap[p]? = some (.cells #[I (((l - L : Nat) : Nat) : Int), I s.fs.length, .map (some fb)] 91) := by
              rw [hw2, heap_set H1.hp, show ((l - L : Nat) : Int) = (l : Int) - (L : Int) by omega]
              rfl
            have hX2 := hX1.fr F2 (by simpa using hne.1) (by simpa using hne.2.1)
            have hS1 : Bs w1 sb so m g := (unhide HS).fr (S := []) (.of_below (unhide HB1)) (by simp)
            have hsp : sb ≠ p := by
              rintro rfl
              have h0 := hS1 0 hm0
              rw [cell_of H1.hp] at h0
              match so + 0, h0 with
              | 0, h0 => simp at h0
              | 1, h0 => simp at h0
              | 2, h0 => simp at h0
              | k + 3, h0 => simp at h0
            have hS2 : Bs w2 sb so m g := hS1.fr F2 (by simpa using hsp)
            refine (cwrite_any hX2 q m hm0 hqm sb so cap g hS2 hcap).mono ?_
            rintro e3 w3 ⟨rfl, hX3, F3⟩
            go_wp2_with fail
            go_ret
            have FF : Fr [p, cb f, mb f] w1 w3 := (F2.mono (by simp)).trans (F3.mono (by simp))
            have hp3 : w3.heap[p]? = some (.cells #[I (((l - L : Nat) : Nat) : Int), I s.fs.length, .map (some fb)] 91) := by
              rw [F3.blk p (lt_of_heap hp2) (by simp [hne.1.symm, hne.2.1.symm])]
              exact hp2
            have hlk : x.lacks q m = L := by rw [unhide hL, Int.toNat_natCast]
            have hus := F.used_write x (a := q) g hm0
            obtain ⟨P3, N3⟩ := H1.turn e FF hp3 hX3 (by rw [hus, hlk, ← unhide hll]; omega)
            refine ⟨rfl, ⟨fb, cb, mb, ?_⟩, (Nx.of_below (unhide HB1) hb).trans N3⟩
            rw [Int.toNat_natCast]
            exact P3
end Go.Proofs.Ytiedobpgfhmidaa
