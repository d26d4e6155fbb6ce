/-
  The contracts of Read, Write and Cut.
-/
import Derived.Test.YtlngeaacjbdmhaaGreatQp03
import Derived.Test.YtlngeaacjbdmhaaGreatQp02
import Derived.Test.YtlngeaacjbdmhaaGreatQp32
import Derived.Test.YtlngeaacjbdmhaaGreatQp16
import Derived.Lib.SlBytesConst
namespace Go.Proofs.YtlngeaacjbdmhaaGreat
open Go.RowKit Go.Maps
theorem wf_bounds {x : Int} (h : (Lit.int .i64 x).wf = true) : -9223372036854775808 ≤ x ∧ x ≤ 9223372036854775807 := by
  simp [Lit.wf] at h
  exact h
theorem cread_N {W : World} {c m : Nat} {x : F} (h : Fl W c m x) (n : Nat) (A N : Int) (hN : N = (n : Int)) (ha : 0 < n → 0 ≤ A ∧ A.toNat + n ≤ x.size) (hn : n ≤ 1024) :
    Calls Tryz.prog 225 #[P0 c, I A, I N] W fun e w' => e = .returned (.slice (some ⟨W.heap.size, 0, none⟩) n n) ∧ w'.heap[W.heap.size]? = some (.cells (lst x.byte A.toNat n).toArray 5) ∧ Below W.heap.size W w' := by
  subst hN
  exact cread_any h A.toNat n A (fun h0 => ⟨by have := ha h0; omega, (ha h0).2⟩) hn
set_option maxRecDepth 100000 in
set_option maxHeartbeats 1000000 in
theorem read_any {base : Bse} {n : Nat} {W : World} {p : Nat} {s : S} (h : Pl base n W p s) {f : Int} (hf : (kl f).wf = true) (a k : Int) (ha : (kl a).wf = true) :
    Calls Tryz.prog 146 #[P0 p, I f, I a, I k] W fun e w' => ∃ v, e = .returned (.tuple #[v, I (readE (s.get f) a k)]) ∧ Sl W.heap.size w' v (byteO (s.get f)) a.toNat (readM (s.get f) a k) ∧ Below W.heap.size W w' := by
  obtain ⟨fb, cb, mb, h⟩ := h
  obtain ⟨c0, c1, c2, cf⟩ := h.cells
  have hl := h.look hf
  cases e : s.get f with
  | none =>
    rw [e] at hl
    simp only [Option.isSome_none, Bool.false_eq_true, if_false] at hl
    simp only [readE, readM, byteO]
    clear h
    go_enter Tryz.func146, Tryz.ntmps146
    go_wp2_with fail
    go_ret2
    exact ⟨_, rfl, .inl ⟨rfl, rfl⟩, Below.refl _ _⟩
  | some x =>
    have hx := h.hx f x e
    obtain ⟨k0, k1, kf⟩ := hx.cells
    rw [e] at hl
    simp only [Option.isSome_some, if_true] at hl
    simp only [readE, readM, byteO]
    have hmost := hx.ok.most
    have HX := hide hx
    clear h e hx
    have a1 : a ≤ 9223372036854775807 := (wf_bounds ha).2
    by_cases hr : a < 0 ∨ k < 0
    · rw [if_pos hr, if_pos hr]
      by_cases h1 : a < 0
      · clear hr
        go_enter Tryz.func146, Tryz.ntmps146
        go_wp2_with fail
        go_ret2
        exact ⟨_, rfl, .inl ⟨rfl, rfl⟩, Below.refl _ _⟩
      · have h2 : k < 0 := hr.resolve_left h1
        have h3 : 0 ≤ a := by omega
        clear hr
        go_enter Tryz.func146, Tryz.ntmps146
        go_wp2_with fail
        go_ret2
        exact ⟨_, rfl, .inl ⟨rfl, rfl⟩, Below.refl _ _⟩
    · rw [if_neg hr, if_neg hr]
      have h1 : 0 ≤ a := by omega
      have h2 : 0 ≤ k := by omega
      clear hr
      obtain ⟨z, hz⟩ : ∃ z : Nat, z = x.size := ⟨_, rfl⟩
      rw [← hz] at k0 hmost
      have z1 : (z : Int) ≤ 1024 := by omega
      replace hz := hide hz
      go_enter Tryz.func146, Tryz.ntmps146
      go_wp2_with fail
      all_goals (refine (cread_N (unhide HX) (min k.toNat (x.size - a.toNat)) _ _ (by have := unhide hz; omega) (by have := unhide hz; omega) (by have := unhide hz; omega)).mono ?_; rintro e w1 ⟨rfl, g1, B1⟩; go_wp2_with fail; go_ret2; exact ⟨_, rfl, .inr ⟨_, Nat.le_refl _, rfl, g1⟩, B1⟩)
set_option maxRecDepth 100000 in
set_option maxHeartbeats 1000000 in
theorem write_any {base : Bse} {n : Nat} {W : World} {p : Nat} {s : S} (h : Pl base n W p s) {f : Int} (hf : (kl f).wf = true) (a : Int) (ha : (kl a).wf = true) (ad : Option Addr) (m cap : Nat) (g : Nat → Int) (hi : In W ad m cap g) :
    Calls Tryz.prog 136 #[P0 p, I f, I a, .slice ad m cap] W fun e w' => e = .returned (I (writeE s f a m)) ∧ Pl base n w' p (writeS s f a m g) ∧ Nx base W w' := by
  have h' := h
  obtain ⟨fb, cb, mb, h⟩ := h
  obtain ⟨c0, c1, c2, cf⟩ := h.cells
  have hl := h.look hf
  have hb := h.bs
  simp only [writeE, writeS]
  cases e : s.get f with
  | none =>
    rw [e] at hl
    simp only [Option.isSome_none, Bool.false_eq_true, if_false] at hl
    simp only []
    replace h' := hide h'
    clear h
    go_enter Tryz.func136, Tryz.ntmps136
    go_wp2_with fail
    go_ret
    exact ⟨rfl, unhide h', Nx.refl hb⟩
  | some x =>
    rw [e] at hl
    simp only [Option.isSome_some, if_true] at hl
    simp only []
    have hx := h.hx f x e
    by_cases h1 : a < 0
    · rw [if_pos h1, if_pos h1]
      replace h' := hide h'
      clear h hx
      go_enter Tryz.func136, Tryz.ntmps136
      go_wp2_with fail
      go_ret
      exact ⟨rfl, unhide h', Nx.refl hb⟩
    · rw [if_neg h1, if_neg h1]
      by_cases h2 : m = 0
      · rw [if_pos h2, if_pos h2]
        replace h' := hide h'
        clear h hx
        subst h2
        have h3 : 0 ≤ a := by omega
        clear h1
        go_enter Tryz.func136, Tryz.ntmps136
        go_wp2_with fail
        go_ret
        exact ⟨rfl, unhide h', Nx.refl hb⟩
      · rw [if_neg h2, if_neg h2]
        have h3 : 0 ≤ a := by omega
        have h4 : ((m : Int) == 0) = false := by simpa using h2
        have a1 := (wf_bounds ha).2
        by_cases h5 : 1024 < a + (m : Int)
        · rw [if_pos h5, if_pos h5]
          have h6 : 1024 - a < (m : Int) := by omega
          replace h' := hide h'
          clear h hx h1 h2 h5
          go_enter Tryz.func136, Tryz.ntmps136
          go_wp2_with fail
          go_ret
          exact ⟨rfl, unhide h', Nx.refl hb⟩
        · rw [if_neg h5, if_neg h5]
          have h6 : ¬ 1024 - a < (m : Int) := by omega
          obtain ⟨sb, so, rfl, hs, hcap⟩ := hi (by omega)
          obtain ⟨q, rfl⟩ : ∃ q : Nat, a = (q : Int) := ⟨a.toNat, by omega⟩
          have q1 : (q : Int) ≤ 1024 := by omega
          have m1 : (m : Int) ≤ 1024 := by omega
          have hqm : q + m ≤ 1024 := by omega
          have hm0 : 0 < m := by omega
          obtain ⟨L, hL⟩ : ∃ L : Nat, L = x.lacks (q : Int).toNat m := ⟨_, rfl⟩
          have hLc : L ≤ 64 := by rw [hL]; exact cnt_le _ _
          obtain ⟨l, hll⟩ : ∃ l : Nat, l = s.left := ⟨_, rfl⟩
          have hl256 : l ≤ 256 := by have := h.tot; have := h.nn; omega
          have l1 : (l : Int) ≤ 256 := by omega
          have L1 : (L : Int) ≤ 64 := by omega
          rw [← hll] at c0
          rw [← hL, ← hll]
          have H := hide h
          have HX := hide hx
          have HS := hide hs
          have HE := hide e
          replace h' := hide h'
          replace hL := hide hL
          replace hll := hide hll
          clear h hx hs e h1 h2 h5
          by_cases h7 : l < L
          · rw [if_pos h7, if_pos h7]
            have h8 : (l : Int) < (L : Int) := by omega
            go_enter Tryz.func136, Tryz.ntmps136
            go_wp2_with fail
            refine (lacks_any (unhide HX) q m hm0 hqm _ (by omega)).mono ?_
            rintro e w1 ⟨rfl, B1⟩
            rw [show x.lacks q m = L from (by rw [unhide hL, Int.toNat_natCast])]
            obtain ⟨d0, d1, d2, df⟩ := ((unhide H).below B1).cells
            rw [← unhide hll] at d0
            go_wp2_with fail
            go_ret
            exact ⟨rfl, (unhide h').below B1, .of_below B1 hb⟩
          · rw [if_neg h7, if_neg h7]
            have h8 : ¬ (l : Int) < (L : Int) := by omega
            go_enter Tryz.func136, Tryz.ntmps136
            go_wp2_with fail
            refine (lacks_any (unhide HX) q m hm0 hqm _ (by omega)).mono ?_
            rintro e w1 ⟨rfl, B1⟩
            rw [show x.lacks q m = L from (by rw [unhide hL, Int.toNat_natCast])]
            have H1 := (unhide H).below B1
            obtain ⟨d0, d1, d2, df⟩ := H1.cells
            rw [← unhide hll] at d0
            have HB1 := hide B1
            have HH1 := hide H1
            clear B1 H1
            go_wp2_with fail
            have H1 := unhide HH1
            have e := unhide HE
            have hne := H1.ne e
            have hX1 := H1.hx f x e
            obtain ⟨w2, hw2⟩ : ∃ w2, w2 = w1.setCell ⟨p, 0, none⟩ (Value.int IntKind.i64 ((l : Int) - (L : Int))) := ⟨_, rfl⟩
            rw [← hw2]
            have F2 : Fr [p] w1 w2 := by rw [hw2]; exact (Fr.refl _ w1).set (by simp) _
            have hp2 : w2.heap[p]? = some (.cells #[I (((l - L : Nat) : Nat) : Int), I s.fs.length, .map (some fb)] 202) := by
              rw [hw2, heap_set H1.hp, show ((l - L : Nat) : Int) = (l : Int) - (L : Int) by omega]
              rfl
            have hX2 := hX1.fr F2 (by simpa using hne.1) (by simpa using hne.2.1)
            have hS1 : Bs w1 sb so m g := (unhide HS).fr (S := []) (.of_below (unhide HB1)) (by simp)
            have hsp : sb ≠ p := by
              rintro rfl
              have h0 := hS1 0 hm0
              rw [cell_of H1.hp] at h0
              match so + 0, h0 with
              | 0, h0 => simp at h0
              | 1, h0 => simp at h0
              | 2, h0 => simp at h0
              | k + 3, h0 => simp at h0
            have hS2 : Bs w2 sb so m g := hS1.fr F2 (by simpa using hsp)
            refine (cwrite_any hX2 q m hm0 hqm sb so cap g hS2 hcap).mono ?_
            rintro e3 w3 ⟨rfl, hX3, F3⟩
            go_wp2_with fail
            go_ret
            have FF : Fr [p, cb f, mb f] w1 w3 := (F2.mono (by simp)).trans (F3.mono (by simp))
            have hp3 : w3.heap[p]? = some (.cells #[I (((l - L : Nat) : Nat) : Int), I s.fs.length, .map (some fb)] 202) := by
              rw [F3.blk p (lt_of_heap hp2) (by simp [hne.1.symm, hne.2.1.symm])]
              exact hp2
            have hlk : x.lacks q m = L := by rw [unhide hL, Int.toNat_natCast]
            have hus := F.used_write x (a := q) g hm0
            obtain ⟨P3, N3⟩ := H1.turn e FF hp3 hX3 (by rw [hus, hlk, ← unhide hll]; omega)
            refine ⟨rfl, ⟨fb, cb, mb, ?_⟩, (Nx.of_below (unhide HB1) hb).trans N3⟩
            rw [Int.toNat_natCast]
            exact P3
set_option maxRecDepth 100000 in
set_option maxHeartbeats 1000000 in
theorem cut_any {base : Bse} {n : Nat} {W : World} {p : Nat} {s : S} (h : Pl base n W p s) {f : Int} (hf : (kl f).wf = true) (z : Int) :
    Calls Tryz.prog 140 #[P0 p, I f, I z] W fun e w' => e = .returned (I (cutE (s.get f) z)) ∧ Pl base n w' p (cutS s f z) ∧ Nx base W w' := by
  have h' := h
  obtain ⟨fb, cb, mb, h⟩ := h
  obtain ⟨c0, c1, c2, cf⟩ := h.cells
  have hl := h.look hf
  have hb := h.bs
  simp only [cutE, cutS]
  cases e : s.get f with
  | none =>
    rw [e] at hl
    simp only [Option.isSome_none, Bool.false_eq_true, if_false] at hl
    simp only []
    replace h' := hide h'
    clear h
    go_enter Tryz.func140, Tryz.ntmps140
    go_wp2_with fail
    go_ret
    exact ⟨rfl, unhide h', Nx.refl hb⟩
  | some x =>
    rw [e] at hl
    simp only [Option.isSome_some, if_true] at hl
    simp only []
    have hx := h.hx f x e
    by_cases h1 : z < 0
    · rw [if_pos h1, if_pos h1]
      replace h' := hide h'
      clear h hx
      go_enter Tryz.func140, Tryz.ntmps140
      go_wp2_with fail
      go_ret
      exact ⟨rfl, unhide h', Nx.refl hb⟩
    · rw [if_neg h1, if_neg h1]
      by_cases h2 : 1024 < z
      · rw [if_pos h2, if_pos h2]
        replace h' := hide h'
        clear h hx
        have h3 : 0 ≤ z := by omega
        clear h1
        go_enter Tryz.func140, Tryz.ntmps140
        go_wp2_with fail
        go_ret
        exact ⟨rfl, unhide h', Nx.refl hb⟩
      · rw [if_neg h2, if_neg h2]
        obtain ⟨q, rfl⟩ : ∃ q : Nat, z = (q : Int) := ⟨z.toNat, by omega⟩
        have hq : q ≤ 1024 := by omega
        have q1 : (q : Int) ≤ 1024 := by omega
        rw [Int.toNat_natCast]
        obtain ⟨k0, k1, kf⟩ := hx.cells
        have hlen := fun ty => hx.hm.len ht55 (n := 64) (by omega) (bk_sup hx.ok.sup) ty
        rw [bk_cnt] at hlen
        obtain ⟨u, hu⟩ : ∃ u : Nat, u = cnt 64 x.has := ⟨_, rfl⟩
        rw [← hu] at hlen
        have hu1 : u ≤ 64 := by rw [hu]; exact cnt_le _ _
        have HX := hide hx
        have H := hide h
        have HE := hide e
        have HU := hide hu
        clear h hx e h' h1 h2 hu
        go_enter Tryz.func140, Tryz.ntmps140
        go_wp2_with fail
        refine (ccut_any (unhide HX) q hq).mono ?_
        rintro e w1 ⟨rfl, X1, F1⟩
        have hh := unhide H
        have e := unhide HE
        have hne := hh.ne e
        have hp1 : w1.heap[p]? = some (.cells #[I s.left, I s.fs.length, .map (some fb)] 202) := by
          rw [F1.blk p (lt_of_heap hh.hp) (by simp [hne.1.symm, hne.2.1.symm])]
          exact hh.hp
        obtain ⟨l, hll⟩ : ∃ l : Nat, l = s.left := ⟨_, rfl⟩
        rw [← hll] at hp1
        obtain ⟨j0, j1, jf⟩ := X1.cells
        have d0 : w1.cell? ⟨p, 0, none⟩ = some (I l) := by rw [cell_of hp1]; rfl
        have df : ∀ i, w1.frozen? ⟨p, i, none⟩ = false := frozen_of hp1
        have hlen2 : ∀ ty, (Builtin.len_ #[259] ty #[.map (some (mb f))]).run Tryz.prog w1.drew = .ok (I (cnt 64 (x.cut q).has)) w1.drew := fun ty => (X1.hm.drew).len ht55 (n := 64) (by omega) (bk_sup X1.ok.sup) ty |>.trans (by rw [bk_cnt])
        obtain ⟨v, hv⟩ : ∃ v : Nat, v = cnt 64 (x.cut q).has := ⟨_, rfl⟩
        rw [← hv] at hlen2
        have hv1 : v ≤ 64 := by rw [hv]; exact cnt_le _ _
        have hl256 : l ≤ 256 := by have := hh.tot; have := hh.nn; omega
        have l1 : (l : Int) ≤ 256 := by omega
        have v1 : (v : Int) ≤ 64 := by omega
        have u1 : (u : Int) ≤ 64 := by omega
        have hvu : v ≤ u := by rw [hv, unhide HU]; exact F.used_cut x q
        have hvu1 : (v : Int) ≤ (u : Int) := by omega
        have hnc := hne.1
        have HX1 := hide X1
        have HF1 := hide F1
        have HP1 := hide hp1
        have HV := hide hv
        have HL := hide hll
        clear X1 F1 hp1 hv hll hh e hne hlen hl c0 c1 c2 cf k0 k1 kf
        go_wp2_with fail
        go_region
        obtain ⟨w2, hw2⟩ : ∃ w2, w2 = (w1.setCell ⟨p, 0, none⟩ (Value.int IntKind.i64 ((l : Int) + ((u : Int) - (v : Int))))).drew := ⟨_, rfl⟩
        rw [← hw2]
        replace hw2 := hide hw2
        go_wp2_with fail
        go_ret
        have hh := unhide H
        have e := unhide HE
        have hne := hh.ne e
        have F2 : Fr [p] w1 w2 := by rw [unhide hw2]; exact ((Fr.refl _ w1).set (by simp) _).drew
        have FF : Fr [p, cb f, mb f] W w2 := ((unhide HF1).mono (by simp)).trans (F2.mono (by simp))
        have hp2 : w2.heap[p]? = some (.cells #[I ((l + (u - v) : Nat) : Int), I s.fs.length, .map (some fb)] 202) := by
          have := heap_set (unhide HP1) 0 (Value.int IntKind.i64 ((l : Int) + ((u : Int) - (v : Int))))
          rw [unhide hw2, show ((l + (u - v) : Nat) : Int) = (l : Int) + ((u : Int) - (v : Int)) by omega]
          exact this
        have hu : x.used = u := (unhide HU).symm
        have hv : (x.cut q).used = v := (unhide HV).symm
        obtain ⟨P3, N3⟩ := hh.turn e FF hp2 ((unhide HX1).fr F2 (by simpa using hne.1) (by simpa using hne.2.1)) (by rw [hu, hv, ← unhide HL]; omega)
        refine ⟨rfl, ⟨fb, cb, mb, ?_⟩, N3⟩
        rw [hu, hv, ← unhide HL]
        exact P3
end Go.Proofs.YtlngeaacjbdmhaaGreat

namespace Go.Proofs.YtlngeaacjbdmhaaGreat
open Go.RowKit Go.Maps
def str (f : Nat → Int) (a n : Nat) : ByteArray := strOfNums ((List.range n).map fun j => f (a + j))
theorem str_congr {f g : Nat → Int} {a b n : Nat} (h : ∀ j, j < n → f (a + j) = g (b + j)) : str f a n = str g b n := by
  unfold str
  congr 1
  exact List.map_congr_left fun j hj => h j (List.mem_range.1 hj)
theorem conv_bs {W : World} {sb so n : Nat} {g : Nat → Int} (h : Bs W sb so n g) (cap : Nat) : (convert 34 9 (.slice (some ⟨sb, so, none⟩) n cap)).run Tryz.prog W = .ok (.string (str g 0 n)) W := by
  refine run_convert_bytes_arg W 34 5 Tryz.underlying34 Tryz.underlying5 sb so n cap _ (by simp) ?_ 9 Tryz.underlying9
  intro i hi
  rw [h i hi]
  simp [hi]
theorem conv_nil (l c : Nat) (W : World) : (convert 34 9 (.slice none l c)).run Tryz.prog W = .ok (.string ByteArray.empty) W := run_convert_bytes_nil W 34 5 Tryz.underlying34 Tryz.underlying5 l c 9 Tryz.underlying9
theorem Bs.of_row {W : World} {g : Nat} {f : Nat → Int} {a m : Nat} (h : W.heap[g]? = some (.cells (lst f a m).toArray 5)) : Bs W g 0 m (fun j => f (a + j)) := fun j hj => by
  rw [cell_of h, Nat.zero_add]
  simp only [List.getElem?_toArray]
  exact lst_get' hj
theorem conv_sl {lo : Nat} {W : World} {v : Value} {f : Nat → Int} {a m : Nat} (h : Sl lo W v f a m) : (convert 34 9 v).run Tryz.prog W = .ok (.string (str f a m)) W := by
  rcases h with ⟨rfl, rfl⟩ | ⟨g, _, rfl, hg⟩
  · exact conv_nil _ _ _
  · rw [conv_bs (Bs.of_row hg)]
    congr 2
    exact str_congr fun j _ => by simp
theorem In.keep {W W' : World} {a : Option Addr} {n cap : Nat} {g : Nat → Int} (h : In W a n cap g) (k : ∀ b : Nat, b < W.heap.size → W'.heap[b]? = W.heap[b]?) : In W' a n cap g := fun hn => by
  obtain ⟨sb, so, h1, h2, h3⟩ := h hn
  exact ⟨sb, so, h1, fun j hj => (cell_same (k sb (h2.lt hn)) _).trans (h2 j hj), h3⟩
theorem In.below {W W' : World} {a : Option Addr} {n cap : Nat} {g : Nat → Int} (h : In W a n cap g) (k : Below W.heap.size W W') : In W' a n cap g := h.keep k.block
theorem In.take {W : World} {a : Option Addr} {n cap m : Nat} {g : Nat → Int} (h : In W a n cap g) (hm : m ≤ n) : In W a m cap g := fun h0 => by
  obtain ⟨sb, so, h1, h2, h3⟩ := h (by omega)
  exact ⟨sb, so, h1, fun j hj => h2 j (by omega), by omega⟩
theorem In.base {base : Nat} {w W : World} {a : Option Addr} {n cap : Nat} {g : Nat → Int} (h : In w a n cap g) (hb : base = w.heap.size) (k : Below base w W) : In W a n cap g := by
  subst hb
  exact h.below k
theorem row_src {W : World} {sb so n : Nat} {g : Nat → Int} (h : Bs W sb so n g) : ∀ j v, (lst g 0 n)[j]? = some v → W.cell? ((⟨sb, so, none⟩ : Addr).add j) = some v := by
  intro j v hv
  rw [lst_get] at hv
  split at hv
  · rename_i hj
    rw [Addr.add_mid, h j hj, ← hv, Nat.zero_add]
  · cases hv
theorem In.at {W : World} {a : Option Addr} {n cap : Nat} {g : Nat → Int} (h : In W a n cap g) {j : Nat} (hj : j < n) : ∃ sb so, a = some ⟨sb, so, none⟩ ∧ W.cell? ⟨sb, so + j, none⟩ = some (U (g j)) := by
  obtain ⟨sb, so, h1, h2, _⟩ := h (by omega)
  exact ⟨sb, so, h1, h2 j hj⟩
end Go.Proofs.YtlngeaacjbdmhaaGreat

namespace Go.Proofs.YtlngeaacjbdmhaaGreat.Rb
open Go.RowKit Go.Maps
theorem row_bs {W : World} {base : Nat} {g m cap : Nat} {f : Nat → Int} {a : Nat} (h : W.ownsRow base 5 1 (.slice (some ⟨g, 0, none⟩) m cap) m (lst f a m)) : Bs W g 0 m (fun j => f (a + j)) := by
  rcases own_at h with ⟨h1, _⟩ | ⟨g', cap', cur, h1, _, h3, h4, _, h5, h6⟩
  · cases h1
  · cases h1
    intro j hj
    rw [cell_of h3, Nat.zero_add]
    have e := congrArg (fun l => l[j]?) h6
    simp only [List.getElem?_take, if_pos hj] at e
    rw [lst_get' hj] at e
    simpa using e
theorem row_str {W : World} {base : Nat} {v : Value} {m : Nat} {f : Nat → Int} {a : Nat} (h : W.ownsRow base 5 1 v m (lst f a m)) : (convert 34 9 v).run Tryz.prog W = .ok (.string (str f a m)) W := by
  rcases own_at h with ⟨rfl, rfl, _⟩ | ⟨g, cap, cur, rfl, _⟩
  · exact conv_nil _ _ _
  · rw [conv_bs (row_bs h)]
    congr 2
    exact str_congr fun j _ => by simp
theorem lst_push (f : Nat → Int) (a m : Nat) : lst f a m ++ [U (f (a + m))] = lst f a (m + 1) := by simp [lst, List.range_succ]
set_option maxRecDepth 100000 in
set_option maxHeartbeats 2000000 in
theorem rread_any {base lim n : Nat} {W : World} {q : Nat} {s : S} (h : Rq base lim n W q s) (f a k : Int) (hf : (kl f).wf = true) (hl : s.fs.length ≤ 1000000) (E : Int) (hE : readE (s.get f) a k = E) (M : Nat) (hM : readM (s.get f) a k = M) :
    Calls Tryz.prog 147 #[P0 q, I f, I a, I k] W fun e w' => ∃ v, e = .returned (.tuple #[v, I E]) ∧ Hid ((convert 34 9 v).run Tryz.prog w' = .ok (.string (str (byteO (s.get f)) a.toNat M)) w') ∧ Hid (Below W.heap.size W w') := by
  obtain ⟨Lv, fb, bv, h⟩ := h
  subst hE
  subst hM
  cases e : s.get f with
  | none =>
    have he : ofV s fb f = .pointer none := by simp only [ofV, e]
    simp only [readE, readM, byteO]
    go_enter Tryz.func147, Tryz.ntmps147
    go_wp2_with fail
    refine (of_any h f hf hl).mono ?_
    rintro e w1 ⟨rfl, rfl⟩
    rw [he]
    go_wp2_with fail
    go_ret2
    exact ⟨_, rfl, hide (conv_nil _ _ _), hide (Below.refl _ _)⟩
  | some x =>
    have he : ofV s fb f = P0 (fb (f.toNat - 1)) := by simp only [ofV, e]
    have hx := h.hx _ x (Sget_at e)
    simp only [readE, readM, byteO]
    by_cases a0 : a < 0
    · simp only [if_pos (Or.inl a0 : a < 0 ∨ k < 0)]
      clear hx
      go_enter Tryz.func147, Tryz.ntmps147
      go_wp2_with fail
      refine (of_any h f hf hl).mono ?_
      rintro e w1 ⟨rfl, rfl⟩
      rw [he]
      go_wp2_with fail
      go_ret2
      exact ⟨_, rfl, hide (conv_nil _ _ _), hide (Below.refl _ _)⟩
    · by_cases k0 : k < 0
      · simp only [if_pos (Or.inr k0 : a < 0 ∨ k < 0)]
        clear hx
        go_enter Tryz.func147, Tryz.ntmps147
        go_wp2_with fail
        refine (of_any h f hf hl).mono ?_
        rintro e w1 ⟨rfl, rfl⟩
        rw [he]
        go_wp2_with fail
        go_ret2
        exact ⟨_, rfl, hide (conv_nil _ _ _), hide (Below.refl _ _)⟩
      · simp only [if_neg (show ¬ (a < 0 ∨ k < 0) by omega)]
        obtain ⟨A, rfl⟩ := Int.eq_ofNat_of_zero_le (show 0 ≤ a by omega)
        obtain ⟨K, rfl⟩ := Int.eq_ofNat_of_zero_le (show 0 ≤ k by omega)
        simp only [Int.toNat_natCast]
        obtain ⟨c0, _, _⟩ := hx.cells
        obtain ⟨c, hc⟩ : ∃ c, c = fb (f.toNat - 1) := ⟨_, rfl⟩
        rw [← hc] at c0 he hx
        obtain ⟨va, vcap, hbv, _⟩ := own_val hx.hb
        rw [hbv] at c0
        obtain ⟨z, hz⟩ : ∃ z : Nat, z = x.size := ⟨_, rfl⟩
        have hz1 : z ≤ 1024 := by rw [hz]; exact hx.ok.most
        have hrow := hx.hb
        rw [hbv, ← hz] at hrow
        rw [← hz] at c0 ⊢
        obtain ⟨M, hM⟩ : ∃ M : Nat, M = min K (z - A) := ⟨_, rfl⟩
        rw [← hM]
        have M1 : M ≤ K := by omega
        have M2 : M ≤ z - A := by omega
        have M3 : M = K ∨ (M < K ∧ M = z - A) := by omega
        have z2 : (z : Int) ≤ 1024 := by omega
        have hcl := lt_of_heap hx.hc
        obtain ⟨i0, hi, hz0, hzz1, hzz2⟩ := info_parts info5
        have HR := hide hrow
        have H := hide h
        have HE := hide he
        clear hrow hbv hx h he hM hz e hc
        go_enter Tryz.func147, Tryz.ntmps147
        go_wp2_with fail
        refine (of_any (unhide H) f hf hl).mono ?_
        rintro e w1 ⟨rfl, rfl⟩
        rw [unhide HE]
        go_wp2_with fail
        go_loopw [11, 12] (fun v i wr => ∃ j : Nat, j ≤ M ∧ i = I (j : Int) ∧ Hid (wr.ownsRow w1.heap.size 5 1 v j (lst x.byte A j)) ∧ Hid (Below w1.heap.size w1 wr)) (fun _ i _ => M - (intOf i).toNat)
        case atStart => exact ⟨0, by omega, rfl, hide (World.ownsRow_nil _ _ _ _), hide (Below.refl _ _)⟩
        case round =>
          obtain ⟨j, hj, rfl, hO, hB⟩ := hrel
          obtain ⟨oa, ocap, hv, _⟩ := own_val (unhide hO)
          subst hv
          have d0 : wr.cell? ⟨c, 0, none⟩ = some (.slice va z vcap) := (cell_same ((unhide hB).block c hcl) 0).trans c0
          by_cases hjM : j < M
          · obtain ⟨g, cap2, e1, _, hcell, _⟩ := own_cell (unhide HR) (show A + j < z by omega)
            cases e1
            rw [lst_get' (show A + j < z by omega), Nat.zero_add] at hcell
            have d1 : wr.cell? ⟨g, A + j, none⟩ = some (U (x.byte (A + j))) := (cell_same ((unhide hB).block g (lt_of_cell hcell)) _).trans hcell
            obtain ⟨y, hy⟩ : ∃ y, y = x.byte (A + j) := ⟨_, rfl⟩
            rw [← hy] at d1
            replace hy := hide hy
            have HO := hide ((unhide hO).alloc (.cells #[U y] 5))
            have z3 : (j : Int) < (K : Int) := by omega
            have z4 : (A : Int) < (z : Int) := by omega
            have z5 : (j : Int) < (z : Int) - (A : Int) := by omega
            have z6 : (0 : Int) ≤ (A : Int) + (j : Int) := by omega
            have z7 : (A : Int) + (j : Int) < (z : Int) := by omega
            clear hcell c0
            go_wp2_with (first | (at_builtin; refine wpList_append_own_at _ rfl _ _ 34 rfl w1.heap.size 5 i0 (U 0) 1 1 Tryz.underlying34 hi hz0 hzz1 hzz2 rfl (by decide) (.slice oa j ocap) j _ rfl (unhide HO) ⟨wr.heap.size, 0, none⟩ 1 1 [U y] rfl rfl (cell_one_new _ _ _) ?_ (by unfold maxLen; omega) (by omega) ?_ ?_) | fail)
            · intro u hu
              simp at hu
              subst hu
              rfl
            · have := (unhide hB).size
              simp
              omega
            · intro v' w2 hO2 hG _ _
              go_wp2_with fail
              refine ⟨⟨j + 1, by omega, rfl, hide ?_, hide ?_⟩, by simp [intOf]; omega⟩
              · rw [unhide hy, lst_push] at hO2
                exact hO2
              · refine (Fr.grown (S := []) ((Fr.of_below (unhide hB)).alloc _) hG fun b hb => .inr ?_).below
                exact (own_blk (unhide hO) hb).1
          · obtain rfl : j = M := by omega
            rcases M3 with h3 | ⟨h3, h4⟩
            · have z3 : ¬ (j : Int) < (K : Int) := by omega
              clear h3
              go_wp2_with fail
              go_ret2
              exact ⟨_, rfl, hide (row_str (unhide hO)), hB⟩
            · have z3 : (j : Int) < (K : Int) := by omega
              by_cases h5 : A < z
              · have z4 : (A : Int) < (z : Int) := by omega
                have z5 : ¬ (j : Int) < (z : Int) - (A : Int) := by omega
                clear h4 h3
                go_wp2_with fail
                go_ret2
                exact ⟨_, rfl, hide (row_str (unhide hO)), hB⟩
              · have z4 : ¬ (A : Int) < (z : Int) := by omega
                clear h4 h3
                go_wp2_with fail
                go_ret2
                exact ⟨_, rfl, hide (row_str (unhide hO)), hB⟩
end Go.Proofs.YtlngeaacjbdmhaaGreat.Rb

namespace Go.Proofs.YtlngeaacjbdmhaaGreat.Rb
open Go.RowKit Go.Maps
structure Tw (base : Nat) (W wr : World) (c : Nat) (bv : Value) (v : Value) (m : Nat) (byte : Nat → Int) (has : Nat → Bool) : Prop where
  hc : wr.heap[c]? = some (.cells (v :: bools has).toArray 268)
  hb : wr.ownsRow base 5 1 v m (lst byte 0 m)
  fr : Fr (c :: bv.ownBlock.toList) W wr
  nw : ∀ g, v.ownBlock = some g → bv.ownBlock = some g ∨ W.heap.size ≤ g
def lenAt (w : World) (c : Nat) : Nat := match w.cell? ⟨c, 0, none⟩ with | some (.slice _ n _) => n | _ => 0
theorem bools_set (h h' : Nat → Bool) (k : Nat) (b : Bool) (hk : k < 64) (e : ∀ i, i < 64 → h' i = if i = k then b else h i) (v : Value) : ((v :: bools h).toArray.setIfInBounds (1 + k) (.bool b)) = (v :: bools h').toArray := by
  apply Array.ext_getElem?
  intro i
  simp only [List.setIfInBounds_toArray, List.getElem?_toArray]
  rw [List.getElem?_set]
  cases i with
  | zero => simp
  | succ i =>
    simp only [List.getElem?_cons_succ, List.length_cons, bools_len]
    by_cases h2 : i < 64
    · rw [bools_get h h2, bools_get h' h2, e i h2]
      by_cases e2 : i = k
      · subst e2
        rw [if_pos (by omega), if_pos (by omega), if_pos rfl]
      · rw [if_neg (by omega), if_neg e2]
    · rw [if_neg (by omega), List.getElem?_eq_none (by rw [bools_len]; omega), List.getElem?_eq_none (by rw [bools_len]; omega)]
theorem own_base {W : World} {base base' : Nat} {e : TypeId} {v : Value} {n : Nat} {xs : List Value} (h : W.ownsRow base e 1 v n xs) (hb : base' ≤ base) : W.ownsRow base' e 1 v n xs := by
  obtain ⟨h1, h2 | ⟨g, cap, cur, rfl, h3, h4⟩⟩ := h
  · exact ⟨h1, .inl h2⟩
  · exact ⟨h1, .inr ⟨g, cap, cur, rfl, Nat.le_trans hb h3, h4⟩⟩
section
variable {base : Nat} {W wr : World} {c : Nat} {bv v : Value} {m : Nat} {byte : Nat → Int} {has : Nat → Bool}
theorem Tw.cells (T : Tw base W wr c bv v m byte has) : wr.cell? ⟨c, 0, none⟩ = some v ∧ (∀ k, k < 64 → wr.cell? ⟨c, 1 + k, none⟩ = some (.bool (has k))) ∧ ∀ i, wr.frozen? ⟨c, i, none⟩ = false := by
  refine ⟨by rw [cell_of T.hc]; rfl, fun k hk => ?_, frozen_of T.hc⟩
  rw [cell_of T.hc]
  simp only [List.getElem?_toArray]
  rw [Nat.add_comm, List.getElem?_cons_succ, bools_get has hk]
theorem Tw.ne (T : Tw base W wr c bv v m byte has) {g : Nat} (hg : v.ownBlock = some g) : g ≠ c := fun e => by
  obtain ⟨_, cur, e2⟩ := own_blk T.hb hg
  rw [e, T.hc] at e2
  simp at e2
theorem Tw.row (T : Tw base W wr c bv v m byte has) {w1 : World} {v' : Value} {m' : Nat} {byte' : Nat → Int} (hc : w1.heap[c]? = wr.heap[c]?) (hb : w1.ownsRow base 5 1 v' m' (lst byte' 0 m')) (fr : Fr (c :: bv.ownBlock.toList) W w1) (nw : ∀ g, v'.ownBlock = some g → bv.ownBlock = some g ∨ W.heap.size ≤ g) :
    Tw base W (w1.setCell ⟨c, 0, none⟩ v') c bv v' m' byte' has := by
  have hc1 := hc.trans T.hc
  refine ⟨?_, own_keep hb fun g cur _ hg => Below.heap_setCell _ _ _ _ fun e => ?_, fr.set (.inl (by simp)) _, nw⟩
  · rw [heap_set hc1]
    simp
  · rw [show g = c from e, hc1] at hg
    simp at hg
theorem Tw.push (T : Tw base W wr c bv v m byte has) (h0 : byte m = 0) {v' : Value} {w1 : World} (hO : w1.ownsRow base 5 1 v' (m + 1) (lst byte 0 m ++ [U 0])) (hG : (wr.alloc (.cells #[U 0] 5)).grownBy w1 v.ownBlock) (hblk : v'.ownBlock = v.ownBlock ∨ v'.ownBlock = some (wr.heap.size + 1)) :
    Tw base W (w1.setCell ⟨c, 0, none⟩ v') c bv v' (m + 1) byte has := by
  have hsz := T.fr.size
  refine T.row ?_ ?_ ((T.fr.alloc _).grown hG fun b hb => ?_) fun g hg => ?_
  · rw [hG.block c (by have := lt_of_heap T.hc; simp; omega) (fun e => T.ne e.symm rfl), Below.heap_alloc _ _ _ (lt_of_heap T.hc)]
  · have := lst_push byte 0 m
    rw [Nat.zero_add, h0] at this
    rw [← this]
    exact hO
  · rcases T.nw b hb with h | h
    · exact .inl (by simp [h])
    · exact .inr h
  · rcases hblk with h | h
    · exact T.nw g (h.symm.trans hg)
    · right
      rw [h] at hg
      cases hg
      omega
theorem Tw.flag (T : Tw base W wr c bv v m byte has) {k : Nat} (hk : k < 64) (b : Bool) {has' : Nat → Bool} (e : ∀ i, i < 64 → has' i = if i = k then b else has i) : Tw base W (wr.setCell ⟨c, 1 + k, none⟩ (.bool b)) c bv v m byte has' := by
  refine ⟨?_, own_keep T.hb fun g cur hg _ => Below.heap_setCell _ _ _ _ fun e => T.ne hg e, T.fr.set (.inl (by simp)) _, T.nw⟩
  rw [heap_set T.hc, bools_set has has' k b hk e]
theorem Tw.put {g cap : Nat} (T : Tw base W wr c bv (.slice (some ⟨g, 0, none⟩) m cap) m byte has) {j : Nat} {y : Int} {byte' : Nat → Int} (e : ∀ i, i < m → byte' i = if i = j then y else byte i) : Tw base W (wr.setCell ⟨g, j, none⟩ (U y)) c bv (.slice (some ⟨g, 0, none⟩) m cap) m byte' has := by
  have hne := T.ne (g := g) rfl
  obtain ⟨h1, h2⟩ := T.hb.stored j (U y)
  refine ⟨(Below.heap_setCell _ _ _ _ (fun e => hne e.symm)).trans T.hc, ?_, T.fr.grown h2 fun b hb => ?_, T.nw⟩
  · have : lst byte' 0 m = (lst byte 0 m).set j (U y) := by
      apply List.ext_getElem?
      intro i
      rw [List.getElem?_set, lst_length, lst_get, lst_get, Nat.zero_add]
      by_cases e1 : j = i
      · subst e1
        rw [if_pos rfl]
        by_cases h2 : j < m
        · rw [if_pos h2, if_pos h2, e j h2, if_pos rfl]
        · rw [if_neg h2, if_neg h2]
      · rw [if_neg e1]
        by_cases h2 : i < m
        · rw [if_pos h2, if_pos h2, e i h2, if_neg (fun e2 => e1 e2.symm)]
        · rw [if_neg h2, if_neg h2]
    rw [this]
    exact h1
  · cases hb
    rcases T.nw g rfl with h | h
    · exact .inl (by simp [h])
    · exact .inr h
theorem Tw.dn (T : Tw base W wr c bv v m byte has) : Tw base W wr.drew c bv v m byte has := ⟨T.hc, T.hb, T.fr.drew, T.nw⟩
theorem Tw.congr (T : Tw base W wr c bv v m byte has) {m' : Nat} {byte' : Nat → Int} {has' : Nat → Bool} (hm : m' = m) (hb : ∀ i, i < m → byte' i = byte i) (hh : ∀ i, i < 64 → has' i = has i) : Tw base W wr c bv v m' byte' has' := by
  subst hm
  refine ⟨?_, ?_, T.fr, T.nw⟩
  · rw [bools_congr hh]
    exact T.hc
  · rw [lst_congr (f := byte') (g := byte) (b := 0) fun j hj => by rw [Nat.zero_add, hb j hj]]
    exact T.hb
theorem RF.tw {lim : Nat} {x : F} (h : RF base lim W c bv x) : Tw base W W c bv bv x.size x.byte x.has := ⟨h.hc, h.hb, Fr.refl _ _, fun _ hg => .inl hg⟩
end
theorem Tw.done {base lim n : Nat} {W wr : World} {q : Nat} {s s' : S} {Lv : Value} {fb : Nat → Nat} {bv : Nat → Value} (h : RI base lim n W q s Lv fb bv) {k : Nat} {x y : F} (hk : s.fs[k]? = some (some x)) {v : Value} (T : Tw base W wr (fb k) (bv k) v y.size y.byte y.has) (hy : y.Ok) (hs' : s'.fs = s.fs.set k (some y)) : Rq base wr.heap.size n wr q s' ∧ RFr base lim W wr := by
  refine h.turn hk T.fr (fun b hb => ?_) (v' := v) ⟨T.hc, T.hb, ⟨(h.hx k x hk).lc.1, lt_of_heap T.hc⟩, fun g hg => ?_, hy⟩ T.nw hs'
  · simp at hb
    exact hb
  · obtain ⟨_, cur, e⟩ := own_blk T.hb hg
    exact lt_of_heap e
theorem app_row {w : World} {a : Option Addr} {n cap : Nat} {g : Nat → Int} (h : In (w.alloc (.cells #[] 5)) a n cap g) (hn : n ≤ 100000) : ∃ gm c w', (Builtin.append_ #[34, 34] 34 #[.slice (some ⟨w.heap.size, 0, none⟩) 0 0, .slice a n cap]).run Tryz.prog (w.alloc (.cells #[] 5)) = .ok (.slice (some ⟨gm, 0, none⟩) n c) w' ∧ w'.ownsRow w.heap.size 5 1 (.slice (some ⟨gm, 0, none⟩) n c) n (lst g 0 n) ∧ Below w.heap.size w w' := by
  obtain ⟨i0, hi, hz0, hz1, hz2⟩ := info_parts info5
  have h28 : Tryz.prog.underlying 34 = some (.slice 5) := Tryz.underlying34
  have hown : (w.alloc (.cells #[] 5)).ownsRow w.heap.size 5 1 (.slice (some ⟨w.heap.size, 0, none⟩) 0 0) 0 [] := World.ownsRow_lit w #[] 0 (Nat.le_refl _) (Nat.zero_le _) (by simp)
  have key : ∀ v' w', (Builtin.append_ #[34, 34] 34 #[.slice (some ⟨w.heap.size, 0, none⟩) 0 0, .slice a n cap]).run Tryz.prog (w.alloc (.cells #[] 5)) = .ok v' w' → w'.ownsRow w.heap.size 5 1 v' n (lst g 0 n) → (w.alloc (.cells #[] 5)).grownBy w' (some w.heap.size) → v' ≠ .slice none 0 0 →
      ∃ gm c w', (Builtin.append_ #[34, 34] 34 #[.slice (some ⟨w.heap.size, 0, none⟩) 0 0, .slice a n cap]).run Tryz.prog (w.alloc (.cells #[] 5)) = .ok (.slice (some ⟨gm, 0, none⟩) n c) w' ∧ w'.ownsRow w.heap.size 5 1 (.slice (some ⟨gm, 0, none⟩) n c) n (lst g 0 n) ∧ Below w.heap.size w w' := by
    intro v' w' hr ho hg hne
    rcases own_at ho with ⟨h1, _⟩ | ⟨gm, c, cur, rfl, _⟩
    · exact absurd h1 hne
    · exact ⟨gm, c, w', hr, ho, ⟨hg.os, hg.tape, hg.output, Nat.le_trans (by simp) hg.size, fun k hk => (hg.block k (by simp; omega) (by simp; omega)).trans (Below.heap_alloc _ _ _ hk)⟩⟩
  by_cases h0 : n = 0
  · subst h0
    refine key (.slice (some ⟨w.heap.size, 0, none⟩) 0 0) _ ?_ hown (World.grownBy.refl _ _) (by simp)
    cases a with
    | none => simp [Builtin.append_, run_underlying h28, sizeOf, typeInfo, hi, Builtin.lenOf, Builtin.firstCells, storeCells]
    | some ad => simp [Builtin.append_, run_underlying h28, sizeOf, typeInfo, hi, Builtin.lenOf, Builtin.firstCells, storeCells, loadCells, loadCellsFrom]
  · obtain ⟨sb, so, rfl, hb, _⟩ := h (by omega)
    obtain ⟨v', w', hr, ho, hg, hne, _⟩ := run_append_own_at (P := Tryz.prog) (w.alloc (.cells #[] 5)) w.heap.size 34 34 5 i0 (U 0) 1 1 h28 hi hz0 hz1 hz2 rfl (by decide) _ 0 [] hown ⟨sb, so, none⟩ n cap (lst g 0 n) (by simp [lst_length]) (row_src hb) (lst_one _ _ _) (by unfold maxLen; omega) (by omega) (by simp)
    refine key v' w' hr (by simpa using ho) hg (fun e => ?_)
    have := (hne.1 e).1
    simp at this
end Go.Proofs.YtlngeaacjbdmhaaGreat.Rb
