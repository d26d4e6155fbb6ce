/-
  ScriptNumbers' walk.
-/
import Derived.Test.YtcopjhidijhlaaaSM
import Derived.Test.YtcopjhidijhlaaaSQ
import Derived.Test.YtcopjhidijhlaaaSReadA
namespace Go.Proofs.Ytcopjhidijhlaaa.Cl
open Go.RowKit
attribute [local go_sem ↓] Go.wp_at_zero Go.wp_at_succ

def cE (o : Int) : Cc := ⟨o, [], [], 0, 0, 0, 0, 0, []⟩
def nit : List Ip := [(⟨2, 0, 258, cc0⟩, .slice none 0 0), (⟨3, 0, 0, cc0⟩, .slice none 0 0), (⟨1, 7, 0, cE 2⟩, .slice none 0 0)]
theorem du_nil (W : World) (B : Nat) (x : It) (h : x.c.data = []) : Du W B (x, .slice none 0 0) := ⟨none, 0, by rw [h]; rfl, by rw [h]; exact By.nil _ _ _, by rw [h]; exact Nat.le_refl _, by unfold maxLen; omega⟩
theorem nit_du (W : World) (B : Nat) : ∀ p ∈ nit, Du W B p := by
  intro p hp
  simp only [nit, List.mem_cons, List.not_mem_nil, or_false] at hp
  rcases hp with rfl | rfl | rfl <;> exact du_nil _ _ _ rfl
theorem nit_enc : encR (fsts nit) = 0 := by decide +kernel
theorem nit_bytes : encs (fsts nit) = [2, 1, 2, 3, 0, 0, 1, 7, 2, 0, 0, 0, 0, 0, 0, 0, 0, 0, 0, 0, 0, 0, 0, 0, 0, 0, 0, 0, 0, 0, 0, 0, 0, 0, 0] := by decide +kernel
theorem r_c : (It.mk 2 1 0 cc0).right = 1 := by decide +kernel
theorem r_d : (It.mk 1 0 1 (cE 1)).right = 1 := by decide +kernel
theorem r_e : (It.mk 2 0 65536 cc0).right = 1 := by decide +kernel
theorem r_f : (It.mk 1 0 0 cc0).right = 1 := by decide +kernel
def zit : List Ip := List.replicate 1025 (it0, .slice none 0 0)
theorem zit_enc : encR (fsts zit) = 4 := by
  unfold encR
  rw [if_pos (by rw [fsts, List.length_map, zit, List.length_replicate]; omega)]
theorem oit_enc : encR (fsts [((it0, .slice none 0 0) : Ip)]) = 1 := by decide +kernel
theorem dec_z (k n : Nat) (h : k ≤ n) : (decs k (List.replicate n 0)).length = k := by
  induction k generalizing n with
  | zero => rfl
  | succ k ih =>
    obtain ⟨n, rfl⟩ : ∃ m, n = m + 1 := ⟨n - 1, by omega⟩
    have hf : fone (0 :: List.replicate n 0) = (it0, 1) := by simp [fone]
    rw [List.replicate_succ]
    simp only [decs, hf, List.length_cons, List.drop_succ_cons, List.drop_zero]
    rw [ih n (by omega)]
theorem dec_j : decs 1024 [3, 0] = [it0] := rfl
theorem make_i (n : Nat) (hn : n ≤ 1000000) (w : World) : (Instr.makeSlice 30 (.int .i64 (n : Int)) (.int .i64 (n : Int))).run Try.prog w = .ok (.slice (some ⟨w.heap.size, 0, none⟩) n n) (w.alloc (.cells (madeCells Z12 (n * 12)) 29)) := by
  have hi := infoI
  obtain ⟨i, hi, hz0, hz1, hz2⟩ : ∃ i, Try.prog.info? 29 = some i ∧ i.zero = some (.agg Z12) ∧ i.size = 12 ∧ i.bytes = 128 := by
    cases h5 : Try.prog.info? 29 with
    | none => rw [h5] at hi; simp at hi
    | some i => rw [h5] at hi; simp at hi; exact ⟨i, rfl, hi.1, hi.2.1, hi.2.2⟩
  have h := run_make (P := Try.prog) w 30 29 i (.agg Z12) Try.underlying30 hi hz0 .i64 .i64 n n (by omega) (Int.le_refl _) (by rw [hz2]; omega) (by omega)
  simp only [Int.toNat_natCast, hz1] at h
  exact h
theorem Ips.made {W : World} {g B n : Nat} {t : TypeId} {f : Nat × Nat} (h : W.heap[g]? = some (.cells (madeCells Z12 (n * 12)) t f)) (hg : g < B) : Ips W B (some ⟨g, 0, none⟩) (List.replicate n (it0, .slice none 0 0)) := fun k p hk => by
  have hp : p = (it0, .slice none 0 0) := List.eq_of_mem_replicate (List.mem_of_getElem? hk)
  have hkn : k < n := by
    have := (List.getElem?_eq_some_iff.1 hk).1
    simpa using this
  subst hp
  refine ⟨g, 0, rfl, hg, fun j v hj => ?_, du_nil _ _ _ rfl⟩
  have hj12 : j < 12 := by
    have := (Array.getElem?_eq_some_iff.1 hj).1
    simpa [It.cs] using this
  have e : (k * 12 + j) % 12 = j := by omega
  have hsz : k * 12 + j < (madeCells Z12 (n * 12)).size := by simp [madeCells]; omega
  rw [cell_of h, Nat.zero_add, Array.getElem?_eq_getElem hsz, ← hj]
  have e2 : (madeCells Z12 (n * 12))[k * 12 + j]'hsz = Z12[j]'hj12 := by
    simp [madeCells, e]
    rw [List.getElem?_eq_getElem (by simpa using hj12)]
    rfl
  rw [e2]
  exact (Array.getElem?_eq_getElem hj12).symm
set_option maxRecDepth 100000 in
set_option maxHeartbeats 2000000 in
theorem snumbers_walk (w : World) : Calls Try.prog 3 #[] w fun e w' => e = .returned (.bool true) ∧ Below w.heap.size w w' := by
  obtain ⟨V, hV, hs, g0, hB⟩ := alloc1 w (.cells #[I 2, I 0, I 258, I 0, .string ⟨#[]⟩, .string ⟨#[]⟩, I 0, I 0, I 0, I 0, I 0, .slice none 0 0, I 3, I 0, I 0, I 0, .string ⟨#[]⟩, .string ⟨#[]⟩, I 0, I 0, I 0, I 0, I 0, .slice none 0 0, I 1, I 7, I 0, I 2, .string ⟨#[]⟩, .string ⟨#[]⟩, I 0, I 0, I 0, I 0, I 0, .slice none 0 0] 29)
  have HE := hide (sencode_any nit (some ⟨w.heap.size, 0, none⟩) 3 3 rfl V (Ips.row (ps := nit) g0 (by omega) (nit_du _ _)))
  rw [nit_enc, eb_yes nit_enc, nit_bytes] at HE
  have HB := hide hB
  clear hB g0 hs
  go_enter Try.func3, Try.ntmps3
  go_wp2_with fail
  refine (unhide HE).mono ?_
  rintro e W1 ⟨v1, rfl, r1, be1⟩
  obtain ⟨g1, cap1, rfl, by1, hc1, hm1, -⟩ := r1.some (by simp)
  have HB1 := hide ((unhide HB).trans (be1.mono (unhide HB).size))
  have HR1 := hide by1
  have hc2 : (35 : Int) ≤ (cap1 : Int) := by simp at hc1; omega
  clear HE r1 by1 hm1 be1 HB hc1
  have HC := hide (iright_any ⟨2, 1, 0, cc0⟩ none 0 0 rfl W1)
  rw [r_c] at HC
  go_wp2_with fail
  refine (unhide HC).mono ?_
  rintro e W2 ⟨rfl, be⟩
  have HB2 := hide ((unhide HB1).trans (be.mono (unhide HB1).size))
  have HR2 := hide (((unhide HR1).below be).mono be.size)
  clear be HC HB1 HR1
  have HC := hide (iright_any ⟨1, 0, 1, cE 1⟩ none 0 0 rfl W2)
  rw [r_d] at HC
  go_wp2_with fail
  refine (unhide HC).mono ?_
  rintro e W3 ⟨rfl, be⟩
  have HB3 := hide ((unhide HB2).trans (be.mono (unhide HB2).size))
  have HR3 := hide (((unhide HR2).below be).mono be.size)
  clear be HC HB2 HR2
  have HC := hide (iright_any ⟨2, 0, 65536, cc0⟩ none 0 0 rfl W3)
  rw [r_e] at HC
  go_wp2_with fail
  refine (unhide HC).mono ?_
  rintro e W4 ⟨rfl, be⟩
  have HB4 := hide ((unhide HB3).trans (be.mono (unhide HB3).size))
  have HR4 := hide (((unhide HR3).below be).mono be.size)
  clear be HC HB3 HR3
  have HC := hide (iright_any ⟨1, 0, 0, cc0⟩ none 0 0 rfl W4)
  rw [r_f] at HC
  go_wp2_with fail
  refine (unhide HC).mono ?_
  rintro e W5 ⟨rfl, be⟩
  have HB5 := hide ((unhide HB4).trans (be.mono (unhide HB4).size))
  have HR5 := hide (((unhide HR4).below be).mono be.size)
  clear be HC HB4 HR4
  have hmk : (Instr.makeSlice 30 (.int .i64 1025) (.int .i64 1025)).run Try.prog W5 = .ok (.slice (some ⟨W5.heap.size, 0, none⟩) 1025 1025) (W5.alloc (.cells (madeCells Z12 (1025 * 12)) 29)) := make_i 1025 (by omega) W5
  obtain ⟨V5, hV5, hs5, g5, hB5⟩ := alloc1 W5 (.cells (madeCells Z12 (1025 * 12)) 29)
  rw [hV5] at hmk
  have HE5 := hide (sencode_any zit (some ⟨W5.heap.size, 0, none⟩) 1025 1025 (by rw [zit, List.length_replicate]) V5 (Ips.made g5 (by omega)))
  rw [zit_enc, eb_no (by rw [zit_enc]; decide)] at HE5
  have HBV := hide hB5
  clear hB5 g5 hs5
  go_wp2_with fail
  refine (unhide HE5).mono ?_
  rintro e W6 ⟨v6, rfl, r6, be⟩
  obtain ⟨a6, c6, rfl, -⟩ := r6.form
  have HBX := hide ((unhide HBV).trans (be.mono (unhide HBV).size))
  have HB6 := hide ((unhide HB5).trans ((unhide HBX).mono (unhide HB5).size))
  have HR6 := hide (((unhide HR5).below (unhide HBX)).mono (unhide HBX).size)
  clear HE5 be r6 HBV HBX HB5 HR5 hmk
  obtain ⟨V6, hV6, hs6, g6, hB6⟩ := alloc1 W6 (.cells Z12 29)
  have HE6 := hide (sencode_any [((it0, .slice none 0 0) : Ip)] (some ⟨W6.heap.size, 0, none⟩) 1 1 rfl V6 (Ips.row (ps := [((it0, .slice none 0 0) : Ip)]) g6 (by omega) (fun p hp => by
    obtain rfl : p = (it0, .slice none 0 0) := by simpa using hp
    exact du_nil _ _ _ rfl)))
  rw [oit_enc, eb_no (by rw [oit_enc]; decide)] at HE6
  have HBV := hide hB6
  clear hB6 g6 hs6
  go_wp2_with fail
  refine (unhide HE6).mono ?_
  rintro e W7 ⟨v7, rfl, r7, be⟩
  obtain ⟨a7, c7, rfl, -⟩ := r7.form
  have HBX := hide ((unhide HBV).trans (be.mono (unhide HBV).size))
  have HB7 := hide ((unhide HB6).trans ((unhide HBX).mono (unhide HB6).size))
  have HR7 := hide (((unhide HR6).below (unhide HBX)).mono (unhide HBX).size)
  clear HE6 be r7 HBV HBX HB6 HR6
  have hmk : (Instr.makeSlice 22 (.int .i64 2000) (.int .i64 2000)).run Try.prog W7 = .ok (.slice (some ⟨W7.heap.size, 0, none⟩) 2000 2000) (W7.alloc (.cells (bc (nz 2000)).toArray 5)) := make_w 2000 (by omega) W7
  obtain ⟨V7, hV7, hs7, g7, hB7⟩ := alloc1 W7 (.cells (bc (nz 2000)).toArray 5)
  rw [hV7] at hmk
  have HD7 := hide (sdecode_any (nz 2000) (some ⟨W7.heap.size, 0, none⟩) 2000 2000 (by rw [List.length_replicate]) (Nat.le_refl _) (by unfold maxLen; omega) V7 (By.row g7 (by omega)))
  have HBV := hide hB7
  clear hB7 g7 hs7
  go_wp2_with fail
  refine (unhide HD7).mono ?_
  rintro e W8 ⟨v8, ps8, rfl, hps8, hir8, be⟩
  have hl8 : ps8.length = 1024 := by
    have := congrArg List.length hps8
    rw [dec_z 1024 2000 (by omega)] at this
    simpa using this
  obtain ⟨a8, c8, rfl⟩ := hir8.sl
  rw [hl8]
  have HBX := hide ((unhide HBV).trans (be.mono (unhide HBV).size))
  have HB8 := hide ((unhide HB7).trans ((unhide HBX).mono (unhide HB7).size))
  have HR8 := hide (((unhide HR7).below (unhide HBX)).mono (unhide HBX).size)
  clear HD7 be hir8 hps8 hl8 HBV HBX HB7 HR7 hmk
  obtain ⟨V8, hV8, hs8, g8, hB8⟩ := alloc1 W8 (.cells #[.int .u8 3, .int .u8 0] 5)
  have HD8 := hide (sdecode_any [3, 0] (some ⟨W8.heap.size, 0, none⟩) 2 2 rfl (Nat.le_refl _) (by unfold maxLen; omega) V8 (By.row (l := [3, 0]) g8 (by omega)))
  have HBV := hide hB8
  clear hB8 g8 hs8
  go_wp2_with fail
  refine (unhide HD8).mono ?_
  rintro e W9 ⟨v9, ps9, rfl, hps9, hir9, be⟩
  obtain ⟨d9, hd9⟩ : ∃ d, ps9 = [(it0, d)] := by
    rw [dec_j] at hps9
    match ps9, hps9 with
    | [(x, d)], h => simp at h; subst h; exact ⟨d, rfl⟩
  subst hd9
  obtain ⟨a9, c9, rfl, hi9, hc9, -⟩ := hir9.form
  obtain ⟨g9, o9, rfl, -, hrow, -⟩ := hi9 0 _ rfl
  obtain ⟨k0, -⟩ := row12 hrow
  have HBX := hide ((unhide HBV).trans (be.mono (unhide HBV).size))
  have HB9 := hide ((unhide HB8).trans ((unhide HBX).mono (unhide HB8).size))
  have by9 := ((unhide HR8).below (unhide HBX)).mono (unhide HBX).size
  have m1 := by9.at' (k := 1) rfl
  have m2 := by9.at' (k := 2) rfl
  have m7 := by9.at' (k := 7) rfl
  simp at m1 m2 m7 k0
  clear HD8 be hir9 hps9 hi9 hrow HBV HBX HB8 HR8 by9
  go_wp2_with fail
  refine (sknown_any W9).mono ?_
  rintro e W10 ⟨rfl, be⟩
  have HB10 := hide ((unhide HB9).trans (be.mono (unhide HB9).size))
  clear be HB9
  go_wp2_with fail
  go_ret
  exact ⟨rfl, unhide HB10⟩
end Go.Proofs.Ytcopjhidijhlaaa.Cl
