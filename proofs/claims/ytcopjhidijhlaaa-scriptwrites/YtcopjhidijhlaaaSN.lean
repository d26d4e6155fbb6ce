/-
  ScriptWrites' walk.
-/
import Derived.Test.YtcopjhidijhlaaaSM
import Derived.Test.YtcopjhidijhlaaaSJ
namespace Go.Proofs.Ytcopjhidijhlaaa.Cl
open Go.RowKit
attribute [local go_sem ↓] Go.wp_at_zero Go.wp_at_succ

set_option maxRecDepth 100000 in
set_option maxHeartbeats 4000000 in
theorem swrites_walk (ps : List Ip) (a : Option Addr) (n cap : Nat) (w : World) (hn : n = ps.length) (hc : n ≤ cap) (hm : cap ≤ maxLen) (hI : Ips w w.heap.size a ps) :
    Calls Try.prog 5 #[.slice a n cap] w fun e w' => e = .returned (.bool true) ∧ Below w.heap.size w w' := by
  have q1 : (n : Int) ≤ (cap : Int) := by omega
  have q2 : (cap : Int) ≤ 9223372036854775807 := by unfold maxLen at hm; omega
  by_cases h40 : 40 < n
  · have j40 : (40 : Int) < (n : Int) := by omega
    have j41 : (40 : Int) ≤ (cap : Int) := by omega
    have HI := hide (hI.take 40)
    have HN := hide (show 40 = (ps.take 40).length by rw [List.length_take]; omega)
    clear hn hI hc hm h40
    go_enter Try.func5, Try.ntmps5
    go_wp2_with fail
    go_loopw [3] (fun i wr => ∃ k : Nat, k ≤ 40 ∧ i = .int .i64 k ∧ Below w.heap.size w wr) (fun i _ => 40 - (intOf i).toNat)
    case atStart => exact ⟨0, by omega, rfl, Below.refl _ _⟩
    case round =>
      obtain ⟨k, hk, rfl, hB⟩ := hrel
      by_cases hkn : k < 40
      · have j1 : (k : Int) < ((40 : Nat) : Int) := by omega
        have j0 : (0 : Int) ≤ (k : Int) := by omega
        have j2 : (k : Int) ≤ 1000000 := by omega
        obtain ⟨p, hp⟩ : ∃ p, (ps.take 40)[k]? = some p := ⟨_, List.getElem?_eq_getElem (by have := unhide HN; omega)⟩
        obtain ⟨g, off, ea⟩ : ∃ g off, a = some ⟨g, off, none⟩ := by
          obtain ⟨g, off, e, -⟩ := unhide HI k p hp
          exact ⟨g, off, e⟩
        subst ea
        have HRW0 := hide (fun W' (g0 : Below w.heap.size w W') => ((unhide HI).below g0).at' hp)
        obtain ⟨x, d⟩ := p
        obtain ⟨hrow, hdu⟩ := unhide HRW0 _ hB
        obtain ⟨da, dc, hde, hby, -⟩ := hdu
        simp only at hrow hde hby HRW0
        subst hde
        obtain ⟨r0, r1, r2, r3, r4, r5, r6, r7, r8, r9, r10, r11⟩ := row12 hrow
        have HRW := hide (fun W' (g0 : Below w.heap.size w W') => row12 (unhide HRW0 W' g0).1)
        have HC1 := hide (fun W' => iright_any x da _ dc rfl W')
        have HC2 := hide (fun W' => fright_any x da _ dc rfl W')
        unfold It.cs at HC1 HC2
        have HB0 := hide (show Below w.heap.size w wr.drew from below_drew hB)
        clear hrow hby hp hB HRW0
        generalize x.right = z at *
        generalize x.c.data.length = y at *
        generalize (Value.slice da y dc) = e0 at r11 HRW HC1 HC2
        generalize I x.kind = c0 at r0 HRW HC1 HC2
        generalize I x.thread = c1 at r1 HRW HC1 HC2
        generalize I x.n = c2 at r2 HRW HC1 HC2
        generalize I x.c.op = c3 at r3 HRW HC1 HC2
        generalize S x.c.path = c4 at r4 HRW HC1 HC2
        generalize S x.c.dst = c5 at r5 HRW HC1 HC2
        generalize I x.c.fd = c6 at r6 HRW HC1 HC2
        generalize I x.c.fl = c7 at r7 HRW HC1 HC2
        generalize I x.c.mo = c8 at r8 HRW HC1 HC2
        generalize I x.c.n = c9 at r9 HRW HC1 HC2
        generalize I x.c.m = c10 at r10 HRW HC1 HC2
        go_wp2_with fail
        go_region_held3 (fun W' => W'.cell? ⟨g, off + k * 12, none⟩ = some c0 ∧ W'.cell? ⟨g, off + k * 12 + 1, none⟩ = some c1 ∧ W'.cell? ⟨g, off + k * 12 + 2, none⟩ = some c2 ∧ W'.cell? ⟨g, off + k * 12 + 3, none⟩ = some c3 ∧ W'.cell? ⟨g, off + k * 12 + 4, none⟩ = some c4 ∧ W'.cell? ⟨g, off + k * 12 + 5, none⟩ = some c5 ∧ W'.cell? ⟨g, off + k * 12 + 6, none⟩ = some c6 ∧ W'.cell? ⟨g, off + k * 12 + 7, none⟩ = some c7 ∧ W'.cell? ⟨g, off + k * 12 + 8, none⟩ = some c8 ∧ W'.cell? ⟨g, off + k * 12 + 9, none⟩ = some c9 ∧ W'.cell? ⟨g, off + k * 12 + 10, none⟩ = some c10 ∧ W'.cell? ⟨g, off + k * 12 + 11, none⟩ = some e0) (first | exact ⟨by assumption, by assumption, by assumption, by assumption, by assumption, by assumption, by assumption, by assumption, by assumption, by assumption, by assumption, by assumption⟩ | go_keep) (first | (go_at_call 10; refine (unhide HC1 _).mono ?_; rintro e W2 ⟨rfl, be2⟩; (first | (have HGG := HB3) | (have HGG := HB0)); have HB2 := hide ((unhide HGG).trans (be2.mono (unhide HGG).size)); clear be2 HGG; obtain ⟨r0, r1, r2, r3, r4, r5, r6, r7, r8, r9, r10, r11⟩ := unhide HRW _ (unhide HB2)) | (go_at_call 19; refine (unhide HC2 _).mono ?_; rintro e W3 ⟨rfl, be3⟩; (first | (have HGG := HB2) | (have HGG := HB0)); have HB3 := hide ((unhide HGG).trans (be3.mono (unhide HGG).size)); clear be3 HGG; obtain ⟨r0, r1, r2, r3, r4, r5, r6, r7, r8, r9, r10, r11⟩ := unhide HRW _ (unhide HB3)))
        all_goals go_wp2_with fail
        all_goals exact ⟨⟨k + 1, by omega, by go_num, by first | exact unhide HB3 | exact unhide HB2⟩, by simp [intOf]; omega⟩
      · obtain rfl : 40 = k := by omega
        have j1 : ¬ ((40 : Nat) : Int) < ((40 : Nat) : Int) := by omega
        have HE := hide (sencode_any (ps.take 40) a 40 cap (unhide HN) wr (((unhide HI).below hB).mono hB.size))
        obtain ⟨L, hL⟩ : ∃ L, fsts (ps.take 40) = L := ⟨_, rfl⟩
        rw [hL] at HE
        replace hL := hide hL
        have HBB := hide hB
        clear hB
        go_wp2_with fail
        refine (unhide HE).mono ?_
        rintro e W2 ⟨v2, rfl, r2, be2⟩
        have hB2 := (unhide HBB).trans (be2.mono (unhide HBB).size)
        have HE2 := hide (fencode_any (ps.take 40) a 40 cap (unhide HN) W2 (((unhide HI).below hB2).mono hB2.size))
        rw [unhide hL] at HE2
        obtain ⟨a2, c2, rfl, -⟩ := r2.form
        have HR2 := hide r2
        have HBB2 := hide hB2
        clear HE be2 hB2 r2 HBB
        generalize hz : encR L = z at *
        go_wp2_with fail
        refine (unhide HE2).mono ?_
        rintro e W3 ⟨v3, rfl, r3, be3⟩
        obtain ⟨a3, c3, rfl, hb3, -⟩ := r3.form
        have hb2 := ((unhide HR2).below be3).form
        obtain ⟨a2', c2', e2, hb2, -⟩ := hb2
        simp at e2
        obtain ⟨rfl, rfl⟩ := e2
        have hc3 := conv_by hb3 _ c3 rfl
        have hc2 := conv_by hb2 _ c2 rfl
        have hB3 := (unhide HBB2).trans (be3.mono (unhide HBB2).size)
        have HKN := hide (sknown_any W3)
        have HBB3 := hide hB3
        clear HE2 HR2 r3 be3 hb3 hb2 hB3 HBB2
        generalize eb L = bb at *
        generalize bb.length = bl at *
        go_wp2_with fail
        refine (unhide HKN).mono ?_
        rintro e W4 ⟨rfl, be4⟩
        have HBB4 := hide ((unhide HBB3).trans (be4.mono (unhide HBB3).size))
        clear be4 HKN HBB3
        go_wp2_with fail
        go_ret
        exact ⟨rfl, unhide HBB4⟩
  · have j40 : ¬ (40 : Int) < (n : Int) := by omega
    have HI := hide hI
    have HN := hide hn
    clear hn hI hc hm
    go_enter Try.func5, Try.ntmps5
    go_wp2_with fail
    go_loopw [3] (fun i wr => ∃ k : Nat, k ≤ n ∧ i = .int .i64 k ∧ Below w.heap.size w wr) (fun i _ => n - (intOf i).toNat)
    case atStart => exact ⟨0, by omega, rfl, Below.refl _ _⟩
    case round =>
      obtain ⟨k, hk, rfl, hB⟩ := hrel
      by_cases hkn : k < n
      · have j1 : (k : Int) < ((n : Nat) : Int) := by omega
        have j0 : (0 : Int) ≤ (k : Int) := by omega
        have j2 : (k : Int) ≤ 1000000 := by omega
        obtain ⟨p, hp⟩ : ∃ p, (ps)[k]? = some p := ⟨_, List.getElem?_eq_getElem (by have := unhide HN; omega)⟩
        obtain ⟨g, off, ea⟩ : ∃ g off, a = some ⟨g, off, none⟩ := by
          obtain ⟨g, off, e, -⟩ := unhide HI k p hp
          exact ⟨g, off, e⟩
        subst ea
        have HRW0 := hide (fun W' (g0 : Below w.heap.size w W') => ((unhide HI).below g0).at' hp)
        obtain ⟨x, d⟩ := p
        obtain ⟨hrow, hdu⟩ := unhide HRW0 _ hB
        obtain ⟨da, dc, hde, hby, -⟩ := hdu
        simp only at hrow hde hby HRW0
        subst hde
        obtain ⟨r0, r1, r2, r3, r4, r5, r6, r7, r8, r9, r10, r11⟩ := row12 hrow
        have HRW := hide (fun W' (g0 : Below w.heap.size w W') => row12 (unhide HRW0 W' g0).1)
        have HC1 := hide (fun W' => iright_any x da _ dc rfl W')
        have HC2 := hide (fun W' => fright_any x da _ dc rfl W')
        unfold It.cs at HC1 HC2
        have HB0 := hide (show Below w.heap.size w wr.drew from below_drew hB)
        clear hrow hby hp hB HRW0
        generalize x.right = z at *
        generalize x.c.data.length = y at *
        generalize (Value.slice da y dc) = e0 at r11 HRW HC1 HC2
        generalize I x.kind = c0 at r0 HRW HC1 HC2
        generalize I x.thread = c1 at r1 HRW HC1 HC2
        generalize I x.n = c2 at r2 HRW HC1 HC2
        generalize I x.c.op = c3 at r3 HRW HC1 HC2
        generalize S x.c.path = c4 at r4 HRW HC1 HC2
        generalize S x.c.dst = c5 at r5 HRW HC1 HC2
        generalize I x.c.fd = c6 at r6 HRW HC1 HC2
        generalize I x.c.fl = c7 at r7 HRW HC1 HC2
        generalize I x.c.mo = c8 at r8 HRW HC1 HC2
        generalize I x.c.n = c9 at r9 HRW HC1 HC2
        generalize I x.c.m = c10 at r10 HRW HC1 HC2
        go_wp2_with fail
        go_region_held3 (fun W' => W'.cell? ⟨g, off + k * 12, none⟩ = some c0 ∧ W'.cell? ⟨g, off + k * 12 + 1, none⟩ = some c1 ∧ W'.cell? ⟨g, off + k * 12 + 2, none⟩ = some c2 ∧ W'.cell? ⟨g, off + k * 12 + 3, none⟩ = some c3 ∧ W'.cell? ⟨g, off + k * 12 + 4, none⟩ = some c4 ∧ W'.cell? ⟨g, off + k * 12 + 5, none⟩ = some c5 ∧ W'.cell? ⟨g, off + k * 12 + 6, none⟩ = some c6 ∧ W'.cell? ⟨g, off + k * 12 + 7, none⟩ = some c7 ∧ W'.cell? ⟨g, off + k * 12 + 8, none⟩ = some c8 ∧ W'.cell? ⟨g, off + k * 12 + 9, none⟩ = some c9 ∧ W'.cell? ⟨g, off + k * 12 + 10, none⟩ = some c10 ∧ W'.cell? ⟨g, off + k * 12 + 11, none⟩ = some e0) (first | exact ⟨by assumption, by assumption, by assumption, by assumption, by assumption, by assumption, by assumption, by assumption, by assumption, by assumption, by assumption, by assumption⟩ | go_keep) (first | (go_at_call 10; refine (unhide HC1 _).mono ?_; rintro e W2 ⟨rfl, be2⟩; (first | (have HGG := HB3) | (have HGG := HB0)); have HB2 := hide ((unhide HGG).trans (be2.mono (unhide HGG).size)); clear be2 HGG; obtain ⟨r0, r1, r2, r3, r4, r5, r6, r7, r8, r9, r10, r11⟩ := unhide HRW _ (unhide HB2)) | (go_at_call 19; refine (unhide HC2 _).mono ?_; rintro e W3 ⟨rfl, be3⟩; (first | (have HGG := HB2) | (have HGG := HB0)); have HB3 := hide ((unhide HGG).trans (be3.mono (unhide HGG).size)); clear be3 HGG; obtain ⟨r0, r1, r2, r3, r4, r5, r6, r7, r8, r9, r10, r11⟩ := unhide HRW _ (unhide HB3)))
        all_goals go_wp2_with fail
        all_goals exact ⟨⟨k + 1, by omega, by go_num, by first | exact unhide HB3 | exact unhide HB2⟩, by simp [intOf]; omega⟩
      · obtain rfl : n = k := by omega
        have j1 : ¬ ((n : Nat) : Int) < ((n : Nat) : Int) := by omega
        have HE := hide (sencode_any (ps) a n cap (unhide HN) wr (((unhide HI).below hB).mono hB.size))
        obtain ⟨L, hL⟩ : ∃ L, fsts (ps) = L := ⟨_, rfl⟩
        rw [hL] at HE
        replace hL := hide hL
        have HBB := hide hB
        clear hB
        go_wp2_with fail
        refine (unhide HE).mono ?_
        rintro e W2 ⟨v2, rfl, r2, be2⟩
        have hB2 := (unhide HBB).trans (be2.mono (unhide HBB).size)
        have HE2 := hide (fencode_any (ps) a n cap (unhide HN) W2 (((unhide HI).below hB2).mono hB2.size))
        rw [unhide hL] at HE2
        obtain ⟨a2, c2, rfl, -⟩ := r2.form
        have HR2 := hide r2
        have HBB2 := hide hB2
        clear HE be2 hB2 r2 HBB
        generalize hz : encR L = z at *
        go_wp2_with fail
        refine (unhide HE2).mono ?_
        rintro e W3 ⟨v3, rfl, r3, be3⟩
        obtain ⟨a3, c3, rfl, hb3, -⟩ := r3.form
        have hb2 := ((unhide HR2).below be3).form
        obtain ⟨a2', c2', e2, hb2, -⟩ := hb2
        simp at e2
        obtain ⟨rfl, rfl⟩ := e2
        have hc3 := conv_by hb3 _ c3 rfl
        have hc2 := conv_by hb2 _ c2 rfl
        have hB3 := (unhide HBB2).trans (be3.mono (unhide HBB2).size)
        have HKN := hide (sknown_any W3)
        have HBB3 := hide hB3
        clear HE2 HR2 r3 be3 hb3 hb2 hB3 HBB2
        generalize eb L = bb at *
        generalize bb.length = bl at *
        go_wp2_with fail
        refine (unhide HKN).mono ?_
        rintro e W4 ⟨rfl, be4⟩
        have HBB4 := hide ((unhide HBB3).trans (be4.mono (unhide HBB3).size))
        clear be4 HKN HBB3
        go_wp2_with fail
        go_ret
        exact ⟨rfl, unhide HBB4⟩
end Go.Proofs.Ytcopjhidijhlaaa.Cl
