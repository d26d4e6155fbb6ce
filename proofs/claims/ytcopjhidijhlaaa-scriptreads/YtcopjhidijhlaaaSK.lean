/-
  Items held against one another; the law's known.
-/
import Derived.Test.YtcopjhidijhlaaaSH
import Derived.Test.YtcopjhidijhlaaaSI
namespace Go.Proofs.Ytcopjhidijhlaaa.Cl
open Go.RowKit
attribute [local go_sem ↓] Go.wp_at_zero Go.wp_at_succ

set_option maxRecDepth 100000 in
set_option maxHeartbeats 2000000 in
theorem item_same (x : It) (a : Option Addr) (n c : Nat) (hn : n = x.c.data.length) (b : Option Addr) (m d : Nat) (hm : m = x.c.data.length) (w : World) (ha : By w w.heap.size a x.c.data) (hb : By w w.heap.size b x.c.data) :
    Calls Try.prog 25 #[.agg (x.cs (.slice a n c)), .agg (x.cs (.slice b m d))] w fun e w' => e = .returned (.bool true) ∧ Below w.heap.size w w' := by
  obtain ⟨X, hX, hs, g0, g1, hB⟩ := alloc2 w (.cells (x.cs (.slice a n c)) 29) (.cells (x.cs (.slice b m d)) 29)
  obtain ⟨b0, b1, b2, b3, b4, b5, b6, b7, b8, b9, b10, b11⟩ := cells12 g0
  obtain ⟨d0, d1, d2, d3, d4, d5, d6, d7, d8, d9, d10, d11⟩ := cells12 g1
  have HK := hide (keep_same x.c a n c hn b m d hm X ((ha.below hB).mono (by omega)) ((hb.below hB).mono (by omega)))
  have HB := hide hB
  have HS := hide hs
  clear hB g0 g1 hs ha hb hn hm
  go_enter Try.func25, Try.ntmps25
  go_wp2_with fail
  refine (unhide HK).mono ?_
  rintro e W2 ⟨rfl, be2⟩
  have HB2 := hide ((unhide HB).trans (be2.mono (by have := unhide HS; omega)))
  clear be2 HK
  go_wp2_with fail
  go_ret
  exact ⟨rfl, unhide HB2⟩
set_option maxRecDepth 100000 in
set_option maxHeartbeats 4000000 in
theorem items_same (ps qs : List Ip) (hpq : fsts ps = fsts qs) (a b : Option Addr) (n m c d : Nat) (hn : n = ps.length) (hm : m = qs.length) (hmx : n ≤ 1000000) (w : World) (ha : Ips w w.heap.size a ps) (hb : Ips w w.heap.size b qs) :
    Calls Try.prog 16 #[.slice a n c, .slice b m d] w fun e w' => e = .returned (.bool true) ∧ Below w.heap.size w w' := by
  have hl : ps.length = qs.length := by simpa [fsts] using congrArg List.length hpq
  obtain rfl : m = n := by omega
  have HA := hide ha
  have HB := hide hb
  have HN := hide hn
  have HM := hide hm
  have HP := hide hpq
  clear ha hb hn hm hl hpq
  go_enter Try.func16, Try.ntmps16
  go_wp2_with fail
  go_loopw [5] (fun i wr => ∃ k : Nat, k ≤ m ∧ i = .int .i64 k ∧ Below w.heap.size w wr) (fun i _ => m - (intOf i).toNat)
  case atStart => exact ⟨0, by omega, rfl, Below.refl _ _⟩
  case round =>
    obtain ⟨k, hk, rfl, hB⟩ := hrel
    by_cases hkn : k < m
    · have j1 : (k : Int) < (m : Int) := by omega
      have j0 : (0 : Int) ≤ (k : Int) := by omega
      have j2 : (k : Int) ≤ 1000000 := by omega
      obtain ⟨p, hp⟩ : ∃ p, ps[k]? = some p := ⟨_, List.getElem?_eq_getElem (by have := unhide HN; omega)⟩
      obtain ⟨q, hq⟩ : ∃ q, qs[k]? = some q := ⟨_, List.getElem?_eq_getElem (by have := unhide HM; omega)⟩
      have hpq1 : p.1 = q.1 := by
        have h1 := fsts_get hp
        have h2 := fsts_get hq
        rw [unhide HP, h2] at h1
        exact (Option.some.inj h1).symm
      obtain ⟨g, off, ea⟩ : ∃ g off, a = some ⟨g, off, none⟩ := by
        obtain ⟨g, off, e, -⟩ := unhide HA k p hp
        exact ⟨g, off, e⟩
      obtain ⟨g', off', eb⟩ : ∃ g off, b = some ⟨g, off, none⟩ := by
        obtain ⟨g, off, e, -⟩ := unhide HB k q hq
        exact ⟨g, off, e⟩
      subst ea eb
      have HRW0 := hide (fun W' (g0 : Below w.heap.size w W') => And.intro (((unhide HA).below g0).at' hp).1 (((unhide HB).below g0).at' hq).1)
      obtain ⟨hrow, hdu⟩ := ((unhide HA).below hB).at' hp
      obtain ⟨hrow', hdu'⟩ := ((unhide HB).below hB).at' hq
      obtain ⟨x, dx⟩ := p
      obtain ⟨y, dy⟩ := q
      simp only at hpq1
      subst hpq1
      obtain ⟨da, dc, hde, hby, -⟩ := hdu
      obtain ⟨da', dc', hde', hby', -⟩ := hdu'
      simp only at hrow hrow' hde hde' hby hby' HRW0
      subst hde hde'
      obtain ⟨r0, r1, r2, r3, r4, r5, r6, r7, r8, r9, r10, r11⟩ := row12 hrow
      obtain ⟨s0, s1, s2, s3, s4, s5, s6, s7, s8, s9, s10, s11⟩ := row12 hrow'
      have HRW := hide (fun W' (g0 : Below w.heap.size w W') => And.intro (row12 (unhide HRW0 W' g0).1) (row12 (unhide HRW0 W' g0).2))
      clear HRW0
      have HC := hide (item_same x da _ dc rfl da' _ dc' rfl wr.drew (hby.mono hB.size) (hby'.mono hB.size))
      unfold It.cs at HC
      have HBB := hide hB
      clear hrow hrow' hby hby' hp hq hB
      generalize x.c.data.length = z at *
      generalize (Value.slice da z dc) = e0 at r11 HRW HC
      generalize (Value.slice da' z dc') = e1 at s11 HRW HC
      generalize I x.kind = c0 at r0 s0 HRW HC
      generalize I x.thread = c1 at r1 s1 HRW HC
      generalize I x.n = c2 at r2 s2 HRW HC
      generalize I x.c.op = c3 at r3 s3 HRW HC
      generalize S x.c.path = c4 at r4 s4 HRW HC
      generalize S x.c.dst = c5 at r5 s5 HRW HC
      generalize I x.c.fd = c6 at r6 s6 HRW HC
      generalize I x.c.fl = c7 at r7 s7 HRW HC
      generalize I x.c.mo = c8 at r8 s8 HRW HC
      generalize I x.c.n = c9 at r9 s9 HRW HC
      generalize I x.c.m = c10 at r10 s10 HRW HC
      go_wp2_with fail
      go_region_held3 (fun W' => W'.cell? ⟨g, off + k * 12, none⟩ = some c0 ∧ W'.cell? ⟨g, off + k * 12 + 1, none⟩ = some c1 ∧ W'.cell? ⟨g, off + k * 12 + 2, none⟩ = some c2 ∧ W'.cell? ⟨g, off + k * 12 + 3, none⟩ = some c3 ∧ W'.cell? ⟨g, off + k * 12 + 4, none⟩ = some c4 ∧ W'.cell? ⟨g, off + k * 12 + 5, none⟩ = some c5 ∧ W'.cell? ⟨g, off + k * 12 + 6, none⟩ = some c6 ∧ W'.cell? ⟨g, off + k * 12 + 7, none⟩ = some c7 ∧ W'.cell? ⟨g, off + k * 12 + 8, none⟩ = some c8 ∧ W'.cell? ⟨g, off + k * 12 + 9, none⟩ = some c9 ∧ W'.cell? ⟨g, off + k * 12 + 10, none⟩ = some c10 ∧ W'.cell? ⟨g, off + k * 12 + 11, none⟩ = some e0 ∧ W'.cell? ⟨g', off' + k * 12, none⟩ = some c0 ∧ W'.cell? ⟨g', off' + k * 12 + 1, none⟩ = some c1 ∧ W'.cell? ⟨g', off' + k * 12 + 2, none⟩ = some c2 ∧ W'.cell? ⟨g', off' + k * 12 + 3, none⟩ = some c3 ∧ W'.cell? ⟨g', off' + k * 12 + 4, none⟩ = some c4 ∧ W'.cell? ⟨g', off' + k * 12 + 5, none⟩ = some c5 ∧ W'.cell? ⟨g', off' + k * 12 + 6, none⟩ = some c6 ∧ W'.cell? ⟨g', off' + k * 12 + 7, none⟩ = some c7 ∧ W'.cell? ⟨g', off' + k * 12 + 8, none⟩ = some c8 ∧ W'.cell? ⟨g', off' + k * 12 + 9, none⟩ = some c9 ∧ W'.cell? ⟨g', off' + k * 12 + 10, none⟩ = some c10 ∧ W'.cell? ⟨g', off' + k * 12 + 11, none⟩ = some e1) (first | exact ⟨by assumption, by assumption, by assumption, by assumption, by assumption, by assumption, by assumption, by assumption, by assumption, by assumption, by assumption, by assumption, by assumption, by assumption, by assumption, by assumption, by assumption, by assumption, by assumption, by assumption, by assumption, by assumption, by assumption, by assumption⟩ | go_keep) (first | (go_at_call 25; refine (unhide HC).mono ?_; rintro e W2 ⟨rfl, be2⟩; have HB2 := hide ((below_drew (unhide HBB)).trans (be2.mono (unhide HBB).size)); clear be2; obtain ⟨⟨r0, r1, r2, r3, r4, r5, r6, r7, r8, r9, r10, r11⟩, ⟨s0, s1, s2, s3, s4, s5, s6, s7, s8, s9, s10, s11⟩⟩ := unhide HRW _ (unhide HB2)))
      all_goals go_wp2_with fail
      all_goals exact ⟨⟨k + 1, by omega, by go_num, unhide HB2⟩, by simp [intOf]; omega⟩
    · obtain rfl : k = m := by omega
      have HBB := hide hB
      clear hB
      go_wp2_with fail
      go_ret
      exact ⟨rfl, unhide HBB⟩
end Go.Proofs.Ytcopjhidijhlaaa.Cl
