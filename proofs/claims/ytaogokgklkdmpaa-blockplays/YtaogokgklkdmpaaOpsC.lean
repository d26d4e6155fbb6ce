/-
  The contracts of Read, Write and Cut.
-/
import Derived.Test.YtaogokgklkdmpaaOpsB
namespace Go.Proofs.Ytaogokgklkdmpaa
open Go.RowKit Go.Maps

theorem wf_bounds {x : Int} (h : (Lit.int .i64 x).wf = true) : -9223372036854775808 ≤ x ∧ x ≤ 9223372036854775807 := by
  simp [Lit.wf] at h
  exact h
theorem cread_N {W : World} {c m : Nat} {x : F} (h : Fl W c m x) (n : Nat) (A N : Int) (hN : N = (n : Int)) (ha : 0 < n → 0 ≤ A ∧ A.toNat + n ≤ x.size) (hn : n ≤ 1024) :
    Calls Try.prog 34 #[P0 c, I A, I N] W fun e w' => e = .returned (.slice (some ⟨W.heap.size, 0, none⟩) n n) ∧ w'.heap[W.heap.size]? = some (.cells (lst x.byte A.toNat n).toArray 5) ∧ Below W.heap.size W w' := by
  subst hN
  exact cread_any h A.toNat n A (fun h0 => ⟨by have := ha h0; omega, (ha h0).2⟩) hn
set_option maxHeartbeats 1000000 in
theorem read_any {base n : Nat} {W : World} {p : Nat} {s : S} (h : Pl base n W p s) {f : Int} (hf : (kl f).wf = true) (a k : Int) (ha : (kl a).wf = true) :
    Calls Try.prog 16 #[P0 p, I f, I a, I k] W fun e w' => ∃ v, e = .returned (.tuple #[v, I (readE (s.get f) a k)]) ∧ Sl W.heap.size w' v (byteO (s.get f)) a.toNat (readM (s.get f) a k) ∧ Below W.heap.size W w' := by
  obtain ⟨fb, cb, mb, h⟩ := h
  obtain ⟨c0, c1, c2, cf⟩ := h.cells
  have hl := h.look hf
  cases e : s.get f with
  | none =>
    rw [e] at hl
    simp only [Option.isSome_none, Bool.false_eq_true, if_false] at hl
    simp only [readE, readM, byteO]
    clear h
    go_enter Try.func16, Try.ntmps16
    go_wp2_with fail
    go_ret2
    exact ⟨_, rfl, .inl ⟨rfl, rfl⟩, Below.refl _ _⟩
  | some x =>
    have hx := h.hx f x e
    obtain ⟨k0, k1, kf⟩ := hx.cells
    rw [e] at hl
    simp only [Option.isSome_some, if_true] at hl
    simp only [readE, readM, byteO]
    have hmost := hx.ok.most
    have HX := hide hx
    clear h e hx
    have a1 : a ≤ 9223372036854775807 := (wf_bounds ha).2
    by_cases hr : a < 0 ∨ k < 0
    · rw [if_pos hr, if_pos hr]
      by_cases h1 : a < 0
      · clear hr
        go_enter Try.func16, Try.ntmps16
        go_wp2_with fail
        go_ret2
        exact ⟨_, rfl, .inl ⟨rfl, rfl⟩, Below.refl _ _⟩
      · have h2 : k < 0 := hr.resolve_left h1
        have h3 : 0 ≤ a := by omega
        clear hr
        go_enter Try.func16, Try.ntmps16
        go_wp2_with fail
        go_ret2
        exact ⟨_, rfl, .inl ⟨rfl, rfl⟩, Below.refl _ _⟩
    · rw [if_neg hr, if_neg hr]
      have h1 : 0 ≤ a := by omega
      have h2 : 0 ≤ k := by omega
      clear hr
      obtain ⟨z, hz⟩ : ∃ z : Nat, z = x.size := ⟨_, rfl⟩
      rw [← hz] at k0 hmost
      have z1 : (z : Int) ≤ 1024 := by omega
      replace hz := hide hz
      go_enter Try.func16, Try.ntmps16
      go_wp2_with fail
      all_goals (refine (cread_N (unhide HX) (min k.toNat (x.size - a.toNat)) _ _ (by have := unhide hz; omega) (by have := unhide hz; omega) (by have := unhide hz; omega)).mono ?_; rintro e w1 ⟨rfl, g1, B1⟩; go_wp2_with fail; go_ret2; exact ⟨_, rfl, .inr ⟨_, Nat.le_refl _, rfl, g1⟩, B1⟩)
set_option maxHeartbeats 1000000 in
theorem write_any {base n : Nat} {W : World} {p : Nat} {s : S} (h : Pl base n W p s) {f : Int} (hf : (kl f).wf = true) (a : Int) (ha : (kl a).wf = true) (ad : Option Addr) (m cap : Nat) (g : Nat → Int) (hi : In W ad m cap g) :
    Calls Try.prog 11 #[P0 p, I f, I a, .slice ad m cap] W fun e w' => e = .returned (I (writeE s f a m)) ∧ Pl base n w' p (writeS s f a m g) ∧ Nx base W w' := by
  have h' := h
  obtain ⟨fb, cb, mb, h⟩ := h
  obtain ⟨c0, c1, c2, cf⟩ := h.cells
  have hl := h.look hf
  have hb := h.bs
  simp only [writeE, writeS]
  cases e : s.get f with
  | none =>
    rw [e] at hl
    simp only [Option.isSome_none, Bool.false_eq_true, if_false] at hl
    simp only []
    replace h' := hide h'
    clear h
    go_enter Try.func11, Try.ntmps11
    go_wp2_with fail
    go_ret
    exact ⟨rfl, unhide h', Nx.refl hb⟩
  | some x =>
    rw [e] at hl
    simp only [Option.isSome_some, if_true] at hl
    simp only []
    have hx := h.hx f x e
    by_cases h1 : a < 0
    · rw [if_pos h1, if_pos h1]
      replace h' := hide h'
      clear h hx
      go_enter Try.func11, Try.ntmps11
      go_wp2_with fail
      go_ret
      exact ⟨rfl, unhide h', Nx.refl hb⟩
    · rw [if_neg h1, if_neg h1]
      by_cases h2 : m = 0
      · rw [if_pos h2, if_pos h2]
        replace h' := hide h'
        clear h hx
        subst h2
        have h3 : 0 ≤ a := by omega
        clear h1
        go_enter Try.func11, Try.ntmps11
        go_wp2_with fail
        go_ret
        exact ⟨rfl, unhide h', Nx.refl hb⟩
      · rw [if_neg h2, if_neg h2]
        have h3 : 0 ≤ a := by omega
        have h4 : ((m : Int) == 0) = false := by simpa using h2
        have a1 := (wf_bounds ha).2
        by_cases h5 : 1024 < a + (m : Int)
        · rw [if_pos h5, if_pos h5]
          have h6 : 1024 - a < (m : Int) := by omega
          replace h' := hide h'
          clear h hx h1 h2 h5
          go_enter Try.func11, Try.ntmps11
          go_wp2_with fail
          go_ret
          exact ⟨rfl, unhide h', Nx.refl hb⟩
        · rw [if_neg h5, if_neg h5]
          have h6 : ¬ 1024 - a < (m : Int) := by omega
          obtain ⟨sb, so, rfl, hs, hcap⟩ := hi (by omega)
          obtain ⟨q, rfl⟩ : ∃ q : Nat, a = (q : Int) := ⟨a.toNat, by omega⟩
          have q1 : (q : Int) ≤ 1024 := by omega
          have m1 : (m : Int) ≤ 1024 := by omega
          have hqm : q + m ≤ 1024 := by omega
          have hm0 : 0 < m := by omega
          obtain ⟨L, hL⟩ : ∃ L : Nat, L = x.lacks (q : Int).toNat m := ⟨_, rfl⟩
          have hLc : L ≤ 64 := by rw [hL]; exact cnt_le _ _
          obtain ⟨l, hll⟩ : ∃ l : Nat, l = s.left := ⟨_, rfl⟩
          have hl256 : l ≤ 256 := by have := h.tot; have := h.nn; omega
          have l1 : (l : Int) ≤ 256 := by omega
          have L1 : (L : Int) ≤ 64 := by omega
          rw [← hll] at c0
          rw [← hL, ← hll]
          have H := hide h
          have HX := hide hx
          have HS := hide hs
          have HE := hide e
          replace h' := hide h'
          replace hL := hide hL
          replace hll := hide hll
          clear h hx hs e h1 h2 h5
          by_cases h7 : l < L
          · rw [if_pos h7, if_pos h7]
            have h8 : (l : Int) < (L : Int) := by omega
            go_enter Try.func11, Try.ntmps11
            go_wp2_with fail
            refine (lacks_any (unhide HX) q m hm0 hqm _ (by omega)).mono ?_
            rintro e w1 ⟨rfl, B1⟩
            rw [show x.lacks q m = L from (by rw [unhide hL, Int.toNat_natCast])]
            obtain ⟨d0, d1, d2, df⟩ := ((unhide H).below B1).cells
            rw [← unhide hll] at d0
            go_wp2_with fail
            go_ret
            exact ⟨rfl, (unhide h').below B1, .of_below B1 hb⟩
          · rw [if_neg h7, if_neg h7]
            have h8 : ¬ (l : Int) < (L : Int) := by omega
            go_enter Try.func11, Try.ntmps11
            go_wp2_with fail
            refine (lacks_any (unhide HX) q m hm0 hqm _ (by omega)).mono ?_
            rintro e w1 ⟨rfl, B1⟩
            rw [show x.lacks q m = L from (by rw [unhide hL, Int.toNat_natCast])]
            have H1 := (unhide H).below B1
            obtain ⟨d0, d1, d2, df⟩ := H1.cells
            rw [← unhide hll] at d0
            have HB1 := hide B1
            have HH1 := hide H1
            clear B1 H1
            go_wp2_with fail
            have H1 := unhide HH1
            have e := unhide HE
            have hne := H1.ne e
            have hX1 := H1.hx f x e
            obtain ⟨w2, hw2⟩ : ∃ w2, w2 = w1.setCell ⟨p, 0, none⟩ (Value.int IntKind.i64 ((l : Int) - (L : Int))) := ⟨_, rfl⟩
            rw [← hw2]
            have F2 : Fr [p] w1 w2 := by rw [hw2]; exact (Fr.refl _ w1).set (by simp) _
            have hp2 : w2.heap[p]? = some (.cells #[I (((l - L : Nat) : Nat) : Int), I s.fs.length, .map (some fb)] 53) := by
              rw [hw2, heap_set H1.hp, show ((l - L : Nat) : Int) = (l : Int) - (L : Int) by omega]
              rfl
            have hX2 := hX1.fr F2 (by simpa using hne.1) (by simpa using hne.2.1)
            have hS1 : Bs w1 sb so m g := (unhide HS).fr (S := []) (.of_below (unhide HB1)) (by simp)
            have hsp : sb ≠ p := by
              rintro rfl
              have h0 := hS1 0 hm0
              rw [cell_of H1.hp] at h0
              match so + 0, h0 with
              | 0, h0 => simp at h0
              | 1, h0 => simp at h0
              | 2, h0 => simp at h0
              | k + 3, h0 => simp at h0
            have hS2 : Bs w2 sb so m g := hS1.fr F2 (by simpa using hsp)
            refine (cwrite_any hX2 q m hm0 hqm sb so cap g hS2 hcap).mono ?_
            rintro e3 w3 ⟨rfl, hX3, F3⟩
            go_wp2_with fail
            go_ret
            have FF : Fr [p, cb f, mb f] w1 w3 := (F2.mono (by simp)).trans (F3.mono (by simp))
            have hp3 : w3.heap[p]? = some (.cells #[I (((l - L : Nat) : Nat) : Int), I s.fs.length, .map (some fb)] 53) := by
              rw [F3.blk p (lt_of_heap hp2) (by simp [hne.1.symm, hne.2.1.symm])]
              exact hp2
            have hlk : x.lacks q m = L := by rw [unhide hL, Int.toNat_natCast]
            have hus := F.used_write x (a := q) g hm0
            obtain ⟨P3, N3⟩ := H1.turn e FF hp3 hX3 (by rw [hus, hlk, ← unhide hll]; omega)
            refine ⟨rfl, ⟨fb, cb, mb, ?_⟩, (Nx.of_below (unhide HB1) hb).trans N3⟩
            rw [Int.toNat_natCast]
            exact P3
set_option maxHeartbeats 1000000 in
theorem cut_any {base n : Nat} {W : World} {p : Nat} {s : S} (h : Pl base n W p s) {f : Int} (hf : (kl f).wf = true) (z : Int) :
    Calls Try.prog 12 #[P0 p, I f, I z] W fun e w' => e = .returned (I (cutE (s.get f) z)) ∧ Pl base n w' p (cutS s f z) ∧ Nx base W w' := by
  have h' := h
  obtain ⟨fb, cb, mb, h⟩ := h
  obtain ⟨c0, c1, c2, cf⟩ := h.cells
  have hl := h.look hf
  have hb := h.bs
  simp only [cutE, cutS]
  cases e : s.get f with
  | none =>
    rw [e] at hl
    simp only [Option.isSome_none, Bool.false_eq_true, if_false] at hl
    simp only []
    replace h' := hide h'
    clear h
    go_enter Try.func12, Try.ntmps12
    go_wp2_with fail
    go_ret
    exact ⟨rfl, unhide h', Nx.refl hb⟩
  | some x =>
    rw [e] at hl
    simp only [Option.isSome_some, if_true] at hl
    simp only []
    have hx := h.hx f x e
    by_cases h1 : z < 0
    · rw [if_pos h1, if_pos h1]
      replace h' := hide h'
      clear h hx
      go_enter Try.func12, Try.ntmps12
      go_wp2_with fail
      go_ret
      exact ⟨rfl, unhide h', Nx.refl hb⟩
    · rw [if_neg h1, if_neg h1]
      by_cases h2 : 1024 < z
      · rw [if_pos h2, if_pos h2]
        replace h' := hide h'
        clear h hx
        have h3 : 0 ≤ z := by omega
        clear h1
        go_enter Try.func12, Try.ntmps12
        go_wp2_with fail
        go_ret
        exact ⟨rfl, unhide h', Nx.refl hb⟩
      · rw [if_neg h2, if_neg h2]
        obtain ⟨q, rfl⟩ : ∃ q : Nat, z = (q : Int) := ⟨z.toNat, by omega⟩
        have hq : q ≤ 1024 := by omega
        have q1 : (q : Int) ≤ 1024 := by omega
        rw [Int.toNat_natCast]
        obtain ⟨k0, k1, kf⟩ := hx.cells
        have hlen := fun ty => hx.hm.len ht55 (n := 64) (by omega) (bk_sup hx.ok.sup) ty
        rw [bk_cnt] at hlen
        obtain ⟨u, hu⟩ : ∃ u : Nat, u = cnt 64 x.has := ⟨_, rfl⟩
        rw [← hu] at hlen
        have hu1 : u ≤ 64 := by rw [hu]; exact cnt_le _ _
        have HX := hide hx
        have H := hide h
        have HE := hide e
        have HU := hide hu
        clear h hx e h' h1 h2 hu
        go_enter Try.func12, Try.ntmps12
        go_wp2_with fail
        refine (ccut_any (unhide HX) q hq).mono ?_
        rintro e w1 ⟨rfl, X1, F1⟩
        have hh := unhide H
        have e := unhide HE
        have hne := hh.ne e
        have hp1 : w1.heap[p]? = some (.cells #[I s.left, I s.fs.length, .map (some fb)] 53) := by
          rw [F1.blk p (lt_of_heap hh.hp) (by simp [hne.1.symm, hne.2.1.symm])]
          exact hh.hp
        obtain ⟨l, hll⟩ : ∃ l : Nat, l = s.left := ⟨_, rfl⟩
        rw [← hll] at hp1
        obtain ⟨j0, j1, jf⟩ := X1.cells
        have d0 : w1.cell? ⟨p, 0, none⟩ = some (I l) := by rw [cell_of hp1]; rfl
        have df : ∀ i, w1.frozen? ⟨p, i, none⟩ = false := frozen_of hp1
        have hlen2 : ∀ ty, (Builtin.len_ #[55] ty #[.map (some (mb f))]).run Try.prog w1.drew = .ok (I (cnt 64 (x.cut q).has)) w1.drew := fun ty => (X1.hm.drew).len ht55 (n := 64) (by omega) (bk_sup X1.ok.sup) ty |>.trans (by rw [bk_cnt])
        obtain ⟨v, hv⟩ : ∃ v : Nat, v = cnt 64 (x.cut q).has := ⟨_, rfl⟩
        rw [← hv] at hlen2
        have hv1 : v ≤ 64 := by rw [hv]; exact cnt_le _ _
        have hl256 : l ≤ 256 := by have := hh.tot; have := hh.nn; omega
        have l1 : (l : Int) ≤ 256 := by omega
        have v1 : (v : Int) ≤ 64 := by omega
        have u1 : (u : Int) ≤ 64 := by omega
        have hvu : v ≤ u := by rw [hv, unhide HU]; exact F.used_cut x q
        have hvu1 : (v : Int) ≤ (u : Int) := by omega
        have hnc := hne.1
        have HX1 := hide X1
        have HF1 := hide F1
        have HP1 := hide hp1
        have HV := hide hv
        have HL := hide hll
        clear X1 F1 hp1 hv hll hh e hne hlen hl c0 c1 c2 cf k0 k1 kf
        go_wp2_with fail
        go_region
        obtain ⟨w2, hw2⟩ : ∃ w2, w2 = (w1.setCell ⟨p, 0, none⟩ (Value.int IntKind.i64 ((l : Int) + ((u : Int) - (v : Int))))).drew := ⟨_, rfl⟩
        rw [← hw2]
        replace hw2 := hide hw2
        go_wp2_with fail
        go_ret
        have hh := unhide H
        have e := unhide HE
        have hne := hh.ne e
        have F2 : Fr [p] w1 w2 := by rw [unhide hw2]; exact ((Fr.refl _ w1).set (by simp) _).drew
        have FF : Fr [p, cb f, mb f] W w2 := ((unhide HF1).mono (by simp)).trans (F2.mono (by simp))
        have hp2 : w2.heap[p]? = some (.cells #[I ((l + (u - v) : Nat) : Int), I s.fs.length, .map (some fb)] 53) := by
          have := heap_set (unhide HP1) 0 (Value.int IntKind.i64 ((l : Int) + ((u : Int) - (v : Int))))
          rw [unhide hw2, show ((l + (u - v) : Nat) : Int) = (l : Int) + ((u : Int) - (v : Int)) by omega]
          exact this
        have hu : x.used = u := (unhide HU).symm
        have hv : (x.cut q).used = v := (unhide HV).symm
        obtain ⟨P3, N3⟩ := hh.turn e FF hp2 ((unhide HX1).fr F2 (by simpa using hne.1) (by simpa using hne.2.1)) (by rw [hu, hv, ← unhide HL]; omega)
        refine ⟨rfl, ⟨fb, cb, mb, ?_⟩, N3⟩
        rw [hu, hv, ← unhide HL]
        exact P3
end Go.Proofs.Ytaogokgklkdmpaa
