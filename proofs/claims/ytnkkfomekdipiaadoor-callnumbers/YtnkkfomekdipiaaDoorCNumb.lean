/-
  CallNumbers' walk.
-/
import Derived.Test.YtnkkfomekdipiaaDoorCSizes
namespace Go.Proofs.YtnkkfomekdipiaaDoor.Cl
open Go.RowKit
attribute [local go_sem ↓] Go.wp_at_zero Go.wp_at_succ

def nx : Cc := ⟨7, [112], [], -1, 0, 0, 258, 0, [7]⟩
abbrev nxe : List UInt8 := [7, 0, 1, 112, 0, 0, 255, 255, 255, 255, 0, 0, 0, 0, 0, 0, 0, 0, 0, 0, 1, 2, 0, 0, 0, 0, 0, 1, 7]
theorem nx_right : nx.right = 0 := by decide +kernel
theorem nx_enc : nx.enc = nxe := by decide +kernel
def sy : Cc := ⟨11, [37], [127], 0, 0, 0, -3, 0, []⟩
def rx : Rr := ⟨0, 0, [120], [[97], [98, 44]], 2, 0, 0, 0, 0, 0, 9⟩
theorem cc0_line : cc0.line = [110, 111, 110, 101] := by decide +kernel
theorem sy_line : sy.line = [115, 121, 109, 108, 105, 110, 107, 32, 37, 50, 53, 32, 37, 55, 102, 32, 110, 61, 45, 51] := by decide +kernel
theorem rx_line : rx.line = [111, 107, 32, 100, 97, 116, 97, 61, 120, 32, 110, 97, 109, 101, 115, 61, 97, 44, 98, 44, 32, 110, 111, 100, 101, 61, 50, 32, 115, 105, 122, 101, 61, 57] := by decide +kernel
theorem num_fits (x : Cc) (h0 : Iw x.fd) (h1 : Iw x.fl) (h2 : Iw x.mo) (h3 : Iw x.n) (h4 : Iw x.m) : ∀ k, Iw (x.num k) := by
  intro k
  match k with
  | 0 => exact h0
  | 1 => exact h1
  | 2 => exact h2
  | 3 => exact h3
  | (j + 4) => exact h4
theorem rx_fits : rx.fits := ⟨by decide, by decide, by decide, by decide, by decide, by decide, by decide, by decide, by decide, by decide⟩
/-- So many noughts. -/
abbrev zs (n : Nat) : List UInt8 := List.replicate n 0
theorem make_n (n : Nat) (hn : n ≤ 140737488355328) (w : World) : (Instr.makeSlice 22 (.int .i64 (n : Int)) (.int .i64 (n : Int))).run Tryd.prog w = .ok (.slice (some ⟨w.heap.size, 0, none⟩) n n) (w.alloc (.cells (bc (zs n)).toArray 5)) := by
  have hi := info5
  obtain ⟨i, hi, hz0, hz1, hz2⟩ : ∃ i, Tryd.prog.info? 5 = some i ∧ i.zero = some (.int .u8 0) ∧ i.size = 1 ∧ i.bytes = 1 := by
    cases h5 : Tryd.prog.info? 5 with
    | none => rw [h5] at hi; simp at hi
    | some i => rw [h5] at hi; simp at hi; exact ⟨i, rfl, hi.1, hi.2.1, hi.2.2⟩
  have h := run_make_row (P := Tryd.prog) 22 5 i (.int .u8 0) Tryd.underlying22 hi hz0 hz1 rfl .i64 .i64 n (by rw [hz2]; omega) (by omega) w
  rw [h]
  have e : madeCells #[Value.int .u8 0] n = (bc (zs n)).toArray := by
    apply Array.ext
    · simp [madeCells, Lib.byteCells]
    · intro j h1 h2
      simp [madeCells, Lib.byteCells, Nat.mod_one]
  rw [e]
/-- A constant text as bytes: its row is marked. -/
theorem conv_mark (W : World) (b : Nat) (cs : Array Value) (h : W.heap[b]? = some (.cells cs 5)) (n c : Nat) : ∃ W', (convert 22 22 (.slice (some ⟨b, 0, none⟩) n c)).run Tryd.prog W = .ok (.slice (some ⟨b, 0, none⟩) n c) W' ∧ W'.heap[b]? = some (.cells cs 5 (cs.size, cs.size + 1)) ∧ Gr b W W' := by
  have hsh : W.shape? b = some (5, cs.size) := by simp [World.shape?, h]
  refine ⟨W.freeze ⟨b, cs.size, none⟩ 1, ?_, ?_, ?_⟩
  · simp [convert, run_underlying Tryd.underlying22, run_underlying Tryd.underlying5, markStringish, hsh]
  · simp [World.freeze, h, Array.getElem?_modify]
  · refine ⟨rfl, rfl, rfl, by simp [World.freeze], fun k hk hne => ?_⟩
    have : b ≠ k := fun e => hne (by rw [e])
    simp [World.freeze, Array.getElem?_modify, this]
theorem text_0 (w : World) (hL : Lai w) :
    Calls Tryd.prog 12 #[.agg #[I 0, .string ⟨#[]⟩, .string ⟨#[]⟩, I 0, I 0, I 0, I 0, I 0, .slice none 0 0]] w fun e w' => e = .returned (.string ⟨#[110, 111, 110, 101]⟩) ∧ Below w.heap.size w w' := by
  have h := text_any' cc0 ⟨num_fits _ (by decide) (by decide) (by decide) (by decide) (by decide), by decide⟩ none 0 0 rfl w hL.on hL.pos hL.tab (By.nil _ _ _)
  rw [cc0_line] at h
  exact h
theorem text_1 (w : World) (hL : Lai w) :
    Calls Tryd.prog 12 #[.agg #[I 11, .string ⟨#[37]⟩, .string ⟨#[127]⟩, I 0, I 0, I 0, I (-3), I 0, .slice none 0 0]] w fun e w' => e = .returned (.string ⟨#[115, 121, 109, 108, 105, 110, 107, 32, 37, 50, 53, 32, 37, 55, 102, 32, 110, 61, 45, 51]⟩) ∧ Below w.heap.size w w' := by
  have h := text_any' sy ⟨num_fits _ (by decide) (by decide) (by decide) (by decide) (by decide), by decide⟩ none 0 0 rfl w hL.on hL.pos hL.tab (By.nil _ _ _)
  rw [sy_line] at h
  exact h
theorem show_x (W : World) (hL : Lai W) (p : Nat) {f0 f1 : Nat × Nat} (g0 : W.heap[p]? = some (.cells #[.string ⟨#[97]⟩, .string ⟨#[98, 44]⟩] 9 f0)) (g1 : W.heap[p + 1]? = some (.cells #[.int .u8 120] 5 f1)) :
    Calls Tryd.prog 13 #[.agg #[I 0, I 0, .slice (some ⟨p + 1, 0, none⟩) 1 1, .slice (some ⟨p, 0, none⟩) 2 2, I 2, I 0, I 0, I 0, I 0, I 0, I 9]] W fun e w' => e = .returned (.string ⟨#[111, 107, 32, 100, 97, 116, 97, 61, 120, 32, 110, 97, 109, 101, 115, 61, 97, 44, 98, 44, 32, 110, 111, 100, 101, 61, 50, 32, 115, 105, 122, 101, 61, 57]⟩) ∧ Below W.heap.size W w' := by
  have hs := lt_of_heap g1
  have h := show_any rx rx_fits (some ⟨p + 1, 0, none⟩) 1 1 rfl (some ⟨p, 0, none⟩) 2 2 rfl W hL.tab (by
    intro k c hk
    match k, hk with
    | 0, hk =>
      simp [rx] at hk
      subst hk
      exact ⟨_, 0, rfl, by omega, by rw [cell_of g1]; rfl⟩
    | (j + 1), hk => simp [rx] at hk) (by
    intro k c hk
    match k, hk with
    | 0, hk =>
      simp [rx] at hk
      subst hk
      exact ⟨_, 0, rfl, by omega, by rw [cell_of g0]; rfl⟩
    | 1, hk =>
      simp [rx] at hk
      subst hk
      exact ⟨_, 0, rfl, by omega, by rw [cell_of g0]; rfl⟩
    | (j + 2), hk => simp [rx] at hk)
  rw [rx_line] at h
  exact h
theorem right_0 (w : World) : Calls Tryd.prog 10 #[.agg #[I 0, .string ⟨#[]⟩, .string ⟨#[]⟩, I 0, I 0, I 0, I 0, I 0, .slice none 0 0]] w fun e w' => e = .returned (I 1) ∧ Below w.heap.size w w' := right_any cc0 none 0 0 rfl w
theorem right_1 (w : World) : Calls Tryd.prog 10 #[.agg #[I 5, .string ⟨#[]⟩, .string ⟨#[]⟩, I 0, I 0, I 0, I 2147483648, I 0, .slice none 0 0]] w fun e w' => e = .returned (I 1) ∧ Below w.heap.size w w' := right_any ⟨5, [], [], 0, 0, 0, 2147483648, 0, []⟩ none 0 0 rfl w
theorem right_2 (w : World) : Calls Tryd.prog 10 #[.agg #[I 19, S (zs 5001), .string ⟨#[]⟩, I 0, I 0, I 0, I 0, I 0, .slice none 0 0]] w fun e w' => e = .returned (I 3) ∧ Below w.heap.size w w' := by
  have h := right_any ⟨19, zs 5001, [], 0, 0, 0, 0, 0, []⟩ none 0 0 rfl w
  have e : (⟨19, zs 5001, [], 0, 0, 0, 0, 0, []⟩ : Cc).right = 3 := by
    unfold Cc.right
    rw [if_neg (by decide), if_neg (by decide), if_pos (by left; simp)]
  rw [e] at h
  exact h
set_option maxRecDepth 100000 in
set_option maxHeartbeats 2000000 in
theorem numbers_walk (w : World) (hL : Lai w) :
    Calls Tryd.prog 3 #[] w fun e w' => e = .returned (.bool true) ∧ Below w.heap.size w w' := by
  have HL := hide (show ∀ W, Below w.heap.size w W → Lai W from fun W g => hL.below g)
  obtain ⟨V, hV, hs, g0, hB⟩ := alloc1 w (.cells #[.int .u8 7] 5)
  have HE := hide (show Calls Tryd.prog 9 #[.agg #[I 7, .string ⟨#[112]⟩, .string ⟨#[]⟩, I (-1), I 0, I 0, I 258, I 0, .slice (some ⟨w.heap.size, 0, none⟩) 1 1]] V _ from encode_y nx (some ⟨w.heap.size, 0, none⟩) 1 1 rfl nx_right V (by
    intro k c hk
    match k, hk with
    | 0, hk =>
      simp [nx] at hk
      subst hk
      exact ⟨_, 0, rfl, by omega, by rw [cell_of g0]; rfl⟩
    | (j + 1), hk => simp [nx] at hk))
  have HB := hide hB
  clear hL hs g0 hB
  go_enter Tryd.func3, Tryd.ntmps3
  go_wp2_with fail
  refine (unhide HE).mono ?_
  rintro e W1 ⟨v1, rfl, r1, be1⟩
  rw [nx_enc] at r1
  obtain ⟨g, c1, rfl, by1, lc1, cm1, -⟩ := r1.some (by simp)
  change 29 ≤ c1 at lc1
  have HB1 := hide ((unhide HB).trans (be1.mono (unhide HB).size))
  have HY := hide (⟨by1, lc1, cm1⟩ : _ ∧ _ ∧ _)
  clear r1 be1 HE HB by1 cm1 hV
  have lc2 : (14 : Int) ≤ (c1 : Int) := by omega
  have lc3 : 14 ≤ c1 := by omega
  clear lc1
  generalize hn : nxe.length = n29 at *
  obtain rfl : n29 = 29 := hn.symm
  clear hn
  go_wp2_with fail
  refine (right_0 _).mono ?_
  rintro e W2 ⟨rfl, be2⟩
  obtain ⟨V3, hV3, hs3, g3, hB3⟩ := alloc1 W2 (.cells (bc (zs 5001)).toArray 5)
  have hmk : (Instr.makeSlice 22 (.int .i64 5001) (.int .i64 5001)).run Tryd.prog W2 = _ := make_n 5001 (by omega) W2
  rw [hV3] at hmk
  have hcv : (convert 22 9 (.slice (some ⟨W2.heap.size, 0, none⟩) 5001 5001)).run Tryd.prog V3 = .ok (S (zs 5001)) V3 := conv_by (B := V3.heap.size) (fun k c hk => ⟨_, 0, rfl, by omega, by rw [cell_of g3, Nat.zero_add, List.getElem?_toArray, bc_get hk]⟩) 5001 5001 (by simp)
  have HB3 := hide ((unhide HB1).trans ((be2.trans (hB3.mono be2.size)).mono (unhide HB1).size))
  have HY3 := hide ((unhide HY).1.below (be2.trans (hB3.mono be2.size)))
  have HB13 := hide (be2.trans (hB3.mono be2.size))
  clear be2 hB3 g3 hs3 hV3 HB1
  have HR2 := hide (right_2 V3)
  generalize hz : zs 5001 = z5 at *
  clear hz
  go_wp2_with fail
  refine (unhide HR2).mono ?_
  rintro e W4 ⟨rfl, be4⟩
  have HB4 := hide ((unhide HB3).trans (be4.mono (unhide HB3).size))
  have hw3 : W1.heap.size ≤ V3.heap.size := (unhide HB13).size
  have HY4 := hide ((unhide HY3).below (be4.mono hw3))
  have HB14 := hide ((unhide HB13).trans (be4.mono hw3))
  clear be4 HB3 HY3 HR2 hmk hcv HB13 hw3
  go_wp2_with fail
  refine (right_1 _).mono ?_
  rintro e W5 ⟨rfl, be5⟩
  have HB5 := hide ((unhide HB4).trans (be5.mono (unhide HB4).size))
  have HY5 := hide ((unhide HY4).below (be5.mono (unhide HB14).size))
  have HB15 := hide ((unhide HB14).trans (be5.mono (unhide HB14).size))
  clear be5 HB4 HY4 HB14
  have HD := hide (dec_no nx nx_right g c1 14 (by rw [nx_enc]; decide) W5 (by rw [nx_enc]; exact (unhide HY5).mono (unhide HB15).size) (by rw [nx_enc]; exact (unhide HY).2.1) (unhide HY).2.2)
  go_wp2_with fail
  refine (unhide HD).mono ?_
  rintro e W6 ⟨rfl, be6⟩
  obtain ⟨V2, hV2, hs2, g2, hBV⟩ := alloc1 W6 (.cells Z0 27)
  obtain ⟨X1, X2, X3, X4, X5, X6, X7, X8, X9, ⟨y1, y2, y3, y4, y5, y6, y7, y8, y9⟩, ⟨s1, s2, s3, s4, s5, s6, s7, s8, s9⟩, ⟨f1, f2, f3, f4, f5, f6, f7, f8, f9⟩, gX, grX⟩ := store9 g2 (I 0) (.string ⟨#[]⟩) (.string ⟨#[]⟩) (I 0) (I 0) (I 0) (I 0) (I 0) (.slice none 0 0)
  have hX9 : Below W5.heap.size W5 X9 := (be6.trans (hBV.mono be6.size)).trans (grX.below be6.size (Nat.le_trans be6.size (by omega)))
  have HB6 := hide ((unhide HB5).trans (hX9.mono (unhide HB5).size))
  have hcv : (convert 22 9 (.slice (some ⟨g, 0, none⟩) 29 c1)).run Tryd.prog X9 = .ok (S nxe) X9 := conv_by (B := W1.heap.size) ((unhide HY5).below (hX9.mono (unhide HB15).size)) 29 c1 rfl
  clear HB5 be6 hBV g2 hs2 HD gX grX HB15 HY5 hX9 HY lc2 lc3
  go_wp2_with fail
  refine (text_0 _ (unhide HL _ (unhide HB6))).mono ?_
  rintro e W7 ⟨rfl, be7⟩
  have HB7 := hide ((unhide HB6).trans (be7.mono (unhide HB6).size))
  clear be7 HB6 hcv
  go_wp2_with fail
  refine (text_1 _ (unhide HL _ (unhide HB7))).mono ?_
  rintro e W8 ⟨rfl, be8⟩
  have HB8 := hide ((unhide HB7).trans (be8.mono (unhide HB7).size))
  clear be8 HB7
  obtain ⟨XA, hXA, hsA, gA0, gA1, hBA⟩ := alloc2 W8 (.cells #[.string ⟨#[97]⟩, .string ⟨#[98, 44]⟩] 9) (.cells #[.int .u8 120] 5)
  obtain ⟨XB, hid, gB1, grB⟩ := conv_mark XA (W8.heap.size + 1) _ gA1 1 1
  have gB0 := grB.keep gA0 (by omega)
  have hBB : Below W8.heap.size W8 XB := hBA.trans (grB.below (by omega) (by omega))
  have HB9 := hide ((unhide HB8).trans (hBB.mono (unhide HB8).size))
  have HG := hide (⟨gB0, gB1⟩ : _ ∧ _)
  clear hsA gA0 gA1 hBA gB0 gB1 grB hBB HB8
  go_wp2_with fail
  refine (show_x _ (unhide HL _ (unhide HB9)) W8.heap.size (unhide HG).1 (unhide HG).2).mono ?_
  rintro e W10 ⟨rfl, be10⟩
  have HB10 := hide ((unhide HB9).trans (be10.mono (unhide HB9).size))
  clear be10 HB9 hid hXA
  go_wp2_with fail
  have L1 := unhide HL _ (unhide HB10)
  refine (known_any _ L1.on L1.pos L1.tab).mono ?_
  rintro e W11 ⟨rfl, be11⟩
  have HB11 := hide ((unhide HB10).trans (be11.mono (unhide HB10).size))
  clear be11 HB10
  go_wp2_with fail
  go_ret
  exact ⟨rfl, unhide HB11⟩
end Go.Proofs.YtnkkfomekdipiaaDoor.Cl
