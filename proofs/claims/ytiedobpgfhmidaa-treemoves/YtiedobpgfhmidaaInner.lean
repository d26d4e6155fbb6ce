/-
  One file: its block, its map; the contracts of split and lacks.
-/
import Derived.Test.YtiedobpgfhmidaaPure
namespace Go.Proofs.Ytiedobpgfhmidaa
open Go.RowKit Go.Maps

def intOf : Value → Int
  | .int _ x => x
  | _ => 0
abbrev Z16 : Array Value := (lst (fun _ => 0) 0 16).toArray
theorem zero74 (w : World) : (zeroValue 121).run Try.prog w = .ok (.agg Z16) w := (zero_of_info (P := Try.prog) (t := 121) (v := .agg Z16) (n := 16) (by kernel_rfl)).1 w
theorem size74 : (Try.prog.info? 121).map (·.size) = some 16 := by kernel_rfl
theorem ht55 : Try.prog.underlying 105 = some (.map 3 121) := Try.underlying105
theorem ht51 : Try.prog.underlying 89 = some (.map 3 101) := Try.underlying89
abbrev P0 (b : Nat) : Value := .pointer (some ⟨b, 0, none⟩)
/-- A file in its two blocks. -/
structure Fl (W : World) (c m : Nat) (x : F) : Prop where
  hc : W.heap[c]? = some (.cells #[I x.size, .map (some m)] 107)
  hm : Mp W m 64 (bk x.byte x.has)
  ok : x.Ok
section
variable {W W' : World} {c m : Nat} {x : F}
theorem Fl.cells (h : Fl W c m x) : W.cell? ⟨c, 0, none⟩ = some (I x.size) ∧ W.cell? ⟨c, 1, none⟩ = some (.map (some m)) ∧ ∀ i, W.frozen? ⟨c, i, none⟩ = false :=
  ⟨by rw [cell_of h.hc]; rfl, by rw [cell_of h.hc]; rfl, frozen_of h.hc⟩
theorem Fl.fr {S : List Nat} (h : Fl W c m x) (g : Fr S W W') (hc : c ∉ S) (hm : m ∉ S) : Fl W' c m x := ⟨(g.blk c (lt_of_heap h.hc) hc).trans h.hc, h.hm.fr g hm, h.ok⟩
theorem Fl.below (h : Fl W c m x) (g : Below W.heap.size W W') : Fl W' c m x := h.fr (S := []) (.of_below g) (by simp) (by simp)
theorem Fl.alloc (h : Fl W c m x) (o : Obj) : Fl (W.alloc o) c m x := h.below ((Below.refl _ W).alloc (Nat.le_refl _) o)
end
theorem store74 {R : Array Value} (hR : R.size = 16) (h1 : R.all (·.oneCell') = true) (w : World) :
    (storeCells ⟨w.heap.size, 0, none⟩ R.toList 0).run Try.prog (w.alloc (.cells #[Value.int IntKind.u8 0, Value.int IntKind.u8 0, Value.int IntKind.u8 0, Value.int IntKind.u8 0, Value.int IntKind.u8 0, Value.int IntKind.u8 0, Value.int IntKind.u8 0, Value.int IntKind.u8 0, Value.int IntKind.u8 0, Value.int IntKind.u8 0, Value.int IntKind.u8 0, Value.int IntKind.u8 0, Value.int IntKind.u8 0, Value.int IntKind.u8 0, Value.int IntKind.u8 0, Value.int IntKind.u8 0] 121)) = .ok () (w.alloc (.cells R 121)) :=
  run_storeCells_new w 121 Z16 R (by rw [hR]; exact size74) (by rw [hR]; rfl) h1
theorem cnt_none {n : Nat} {p : Nat → Bool} (h : ∀ k, k < n → p k = false) : cnt n p = 0 := by
  induction n with
  | zero => rfl
  | succ n ih => rw [cnt_succ, ih fun k hk => h k (by omega), h n (by omega)]; rfl
theorem split_any (X : Int) (q r : Nat) (h : X = ((16 * q + r : Nat) : Int)) (hr : r < 16) (hn : q < 100000) (w : World) : Calls Try.prog 72 #[I X] w fun e w' => e = .returned (.tuple #[I (q : Int), I (r : Int)]) ∧ w' = w := by
  have h0 : (0 : Int) ≤ X := by omega
  have h1 : X < 10000000 := by omega
  have hq : X / 16 = (q : Int) := by omega
  have hm : X % 16 = (r : Int) := by omega
  clear h
  go_enter Try.func72, Try.ntmps72
  go_wp2_with fail
  go_ret2
  exact ⟨by simp [hq, hm], rfl⟩
set_option maxHeartbeats 1000000 in
theorem lacks_any {W : World} {c m : Nat} {x : F} (h : Fl W c m x) (a n : Nat) (hn : 0 < n) (ha : a + n ≤ 1024) (E : Int) (hE : E = ((a + n : Nat) : Int)) :
    Calls Try.prog 60 #[P0 c, I (a : Int), I E] W fun e w' => e = .returned (I (x.lacks a n)) ∧ Below W.heap.size W w' := by
  obtain ⟨h0, h1, hf⟩ := h.cells
  have H := hide h
  clear h h0 hf
  have hE1 : (1:Int) ≤ E := by omega
  have hE2 : E ≤ 1024 := by omega
  replace hE := hide hE
  obtain ⟨B, rB, hB, hrB⟩ : ∃ q r : Nat, a = 16 * q + r ∧ r < 16 := ⟨a / 16, a % 16, by omega, by omega⟩
  obtain ⟨L, rL, hL, hrL⟩ : ∃ q r : Nat, a + n - 1 = 16 * q + r ∧ r < 16 := ⟨(a + n - 1) / 16, (a + n - 1) % 16, by omega, by omega⟩
  have hL1 : L < 64 := by omega
  have hBL : B ≤ L := by omega
  replace hL := hide hL
  replace hB := hide hB
  go_enter Try.func60, Try.ntmps60
  go_wp2_with fail
  refine (split_any _ B rB (by rw [unhide hB]) hrB (by omega) _).mono ?_
  rintro e1 w1 ⟨rfl, rfl⟩
  go_wp2_with fail
  refine (split_any _ L rL (by rw [unhide hE, ← unhide hL]; omega) hrL (by omega) _).mono ?_
  rintro e1 w2 ⟨rfl, rfl⟩
  go_wp2_with fail
  go_loopw [11, 12] (fun v i wr => ∃ (k : Nat), B ≤ k ∧ k ≤ L + 1 ∧ i = I (k : Int) ∧ v = I ((cnt k (fun j => decide (B ≤ j) && !x.has j) : Nat) : Int) ∧ Hid (Below w2.heap.size w2 wr)) (fun v i _ => L + 1 - (intOf i).toNat)
  case atStart =>
    refine ⟨B, by omega, by omega, rfl, ?_, hide (Below.refl _ _)⟩
    rw [cnt_none fun k hk => by simp; omega]
    rfl
  case round =>
    obtain ⟨k, hk0, hk1, rfl, rfl, hb⟩ := hrel
    have h2 := (unhide H).below (unhide hb)
    have hlk := h2.hm.look_ok ht55 (zero74 _) (k := (k : Int)) (wf_of (by omega))
    rw [bk_row h2.ok.hol, bk_some] at hlk
    obtain ⟨_, c1, _⟩ := h2.cells
    clear h2 h1
    obtain ⟨R, hR⟩ : ∃ R, R = (lst x.byte (16 * k) 16).toArray := ⟨_, rfl⟩
    have hRs : R.size = 16 := by rw [hR]; simp [lst_length]
    have hst := store74 hRs (by rw [hR]; exact lst_all _ _ _)
    rw [← hR] at hlk
    replace hR := hide hR
    obtain ⟨N, hN⟩ : ∃ N : Nat, N = cnt k (fun j => decide (B ≤ j) && !x.has j) := ⟨_, rfl⟩
    rw [← hN]
    have hN1 : N ≤ k := by rw [hN]; exact cnt_le _ _
    replace hN := hide hN
    by_cases hk : k ≤ L
    · have g1 : (k : Int) ≤ (L : Int) := by omega
      cases ht : x.has k with
      | true =>
        rw [ht] at hlk
        go_wp2_with fail
        refine ⟨⟨k + 1, by omega, by omega, rfl, ?_, hide ((unhide hb).alloc (unhide hb).size _)⟩, by simp [intOf]; omega⟩
        rw [cnt_succ, ht, unhide hN]
        simp
      | false =>
        rw [ht] at hlk
        go_wp2_with fail
        refine ⟨⟨k + 1, by omega, by omega, rfl, ?_, hide ((unhide hb).alloc (unhide hb).size _)⟩, by simp [intOf]; omega⟩
        rw [cnt_succ, ht, unhide hN]
        simp [hk0]
    · have g1 : ¬ (k : Int) ≤ (L : Int) := by omega
      go_wp2_with fail
      go_ret
      refine ⟨?_, unhide hb⟩
      obtain rfl : k = L + 1 := by omega
      have e : N = x.lacks a n := by
        rw [unhide hN, F.lacks]
        have e1 := unhide hB
        have e2 := unhide hL
        have hz : ∀ d, L + 1 + d ≤ 64 → cnt (L + 1 + d) (fun k => decide (a / 16 ≤ k ∧ 16 * k < a + n) && !x.has k) = cnt (L + 1) (fun j => decide (B ≤ j) && !x.has j) := by
          intro d
          induction d with
          | zero =>
            intro _
            refine cnt_congr fun k hk => ?_
            have : (a / 16 ≤ k ∧ 16 * k < a + n) ↔ B ≤ k := by omega
            simp [this]
          | succ d ih =>
            intro hd
            rw [← Nat.add_assoc, cnt_succ, ih (by omega)]
            have : ¬ (a / 16 ≤ L + 1 + d ∧ 16 * (L + 1 + d) < a + n) := by omega
            simp [this]
        have := hz (64 - (L + 1)) (by omega)
        rw [show L + 1 + (64 - (L + 1)) = 64 by omega] at this
        exact this.symm
      rw [e]
      rfl
end Go.Proofs.Ytiedobpgfhmidaa
