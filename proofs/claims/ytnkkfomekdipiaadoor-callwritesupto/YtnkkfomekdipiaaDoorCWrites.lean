/-
  CallWrites' walk.
-/
import Derived.Test.YtnkkfomekdipiaaDoorEEnc
import Derived.Test.YtnkkfomekdipiaaDoorETxt
import Derived.Test.YtnkkfomekdipiaaDoorEShow
import Derived.Test.YtnkkfomekdipiaaDoorCBackA
namespace Go.Proofs.YtnkkfomekdipiaaDoor.Cl
open Go.RowKit
attribute [local go_sem ↓] Go.wp_at_zero Go.wp_at_succ

/-- The bytes that both Encodes answer. -/
def ee (x : Cc) : List UInt8 := if x.right = 0 then x.enc else []
theorem penc (x : Cc) (a : Option Addr) (k cap : Nat) (hk : k = x.data.length) (w : World) (hdat : By w w.heap.size a x.data) :
    Calls Tryd.prog 9 #[.agg (x.cs (.slice a k cap))] w fun e w' => (∃ b c, e = .returned (.tuple #[.slice b (ee x).length c, I x.right]) ∧ By w' w'.heap.size b (ee x)) ∧ Below w.heap.size w w' := by
  unfold ee
  by_cases h : x.right = 0
  · rw [if_pos h]
    refine (encode_y x a k cap hk h w hdat).mono ?_
    rintro e w' ⟨v, rfl, r, hB⟩
    obtain ⟨b, c, rfl, hby, -⟩ := r.form
    exact ⟨⟨b, c, by rw [h], hby⟩, hB⟩
  · rw [if_neg h]
    refine (encode_n x a k cap hk h w).mono ?_
    rintro e w' ⟨rfl, hB⟩
    exact ⟨⟨none, 0, rfl, By.nil _ _ _⟩, hB⟩
theorem renc (x : Cc) (a : Option Addr) (k cap : Nat) (hk : k = x.data.length) (w : World) (hdat : By w w.heap.size a x.data) :
    Calls Tryd.prog 15 #[.agg (x.cs (.slice a k cap))] w fun e w' => (∃ b c, e = .returned (.tuple #[.slice b (ee x).length c, I x.right]) ∧ By w' w'.heap.size b (ee x)) ∧ Below w.heap.size w w' := by
  unfold ee
  by_cases h : x.right = 0
  · rw [if_pos h]
    refine (eenc_yes x a k cap hk h w hdat).mono ?_
    rintro e w' ⟨v, rfl, r, hB⟩
    obtain ⟨b, c, rfl, hby, -⟩ := r.form
    exact ⟨⟨b, c, by rw [h], hby⟩, hB⟩
  · rw [if_neg h]
    refine (eenc_no x a k cap hk h w).mono ?_
    rintro e w' ⟨rfl, hB⟩
    exact ⟨⟨none, 0, rfl, By.nil _ _ _⟩, hB⟩
/-- A result that came in. -/
structure ResAt (w : World) (r : Rr) (a : Option Addr) (cap : Nat) (b : Option Addr) (mcap : Nat) : Prop where
  by' : By w w.heap.size a r.data
  ns : Ns w w.heap.size b r.names
set_option maxRecDepth 100000 in
set_option maxHeartbeats 4000000 in
theorem writes_walk (x : Cc) (a : Option Addr) (cap : Nat) (r : Rr) (ra : Option Addr) (rcap : Nat) (rb : Option Addr) (mcap : Nat) (w : World) (hx : CallAt w x a cap) (hr : ResAt w r ra rcap rb mcap) (fx : x.fits) (fr : r.fits) (hL : Lai w) :
    Calls Tryd.prog 4 #[.agg (x.cs (.slice a x.data.length cap)), .agg (r.cs (.slice ra r.data.length rcap) (.slice rb r.names.length mcap))] w fun e w' => e = .returned (.bool true) ∧ Below w.heap.size w w' := by
  obtain ⟨k, hk⟩ : ∃ k, k = x.data.length := ⟨_, rfl⟩
  obtain ⟨rk, hrk⟩ : ∃ k, k = r.data.length := ⟨_, rfl⟩
  obtain ⟨rm, hrm⟩ : ∃ k, k = r.names.length := ⟨_, rfl⟩
  rw [← hk, ← hrk, ← hrm]
  obtain ⟨V, hV, hs, g0, g1, hB⟩ := alloc2 w (.cells (x.cs (.slice a k cap)) 27) (.cells (r.cs (.slice ra rk rcap) (.slice rb rm mcap)) 37)
  have HI := hide (show ∀ W, Below w.heap.size w W → Lai W ∧ By W W.heap.size a x.data ∧ By W W.heap.size ra r.data ∧ Ns W W.heap.size rb r.names from fun W g => ⟨hL.below g, (hx.by'.below g).mono g.size, (hr.by'.below g).mono g.size, (hr.ns.below g).mono g.size⟩)
  have HC := hide (show ∀ W, Below V.heap.size V W → W.heap[w.heap.size]? = some (.cells (x.cs (.slice a k cap)) 27) ∧ W.heap[w.heap.size + 1]? = some (.cells (r.cs (.slice ra rk rcap) (.slice rb rm mcap)) 37) from fun W g => ⟨(g.block _ (by omega)).trans g0, (g.block _ (by omega)).trans g1⟩)
  have HB := hide hB
  have HK := hide (⟨hk, hrk, hrm⟩ : _ ∧ _ ∧ _)
  have HF := hide (⟨fx, fr⟩ : _ ∧ _)
  have HE := hide (penc x a k cap hk V (unhide HI V hB).2.1)
  obtain ⟨b0, b1, b2, b3, b4, b5, b6, b7, b8⟩ := cs9 g0
  clear hx hr fx fr hL hB g0 g1 hs hk hrk hrm
  go_enter Tryd.func4, Tryd.ntmps4
  go_wp2_with fail
  refine (unhide HE).mono ?_
  rintro e W1 ⟨⟨p1, c1, rfl, by1⟩, be1⟩
  have HB1 := hide ((unhide HB).trans (be1.mono (unhide HB).size))
  have HV1 := hide be1
  have HY1 := hide by1
  have HE2 := hide (renc x a k cap (unhide HK).1 W1 (unhide HI _ (unhide HB1)).2.1)
  clear HE by1 be1 hV b0 b1 b2 b3 b4 b5 b6 b7 b8
  obtain ⟨b0, b1, b2, b3, b4, b5, b6, b7, b8⟩ := cs9 (unhide HC _ (unhide HV1)).1
  go_wp2_with fail
  refine (unhide HE2).mono ?_
  rintro e W2 ⟨⟨p2, c2, rfl, by2⟩, be2⟩
  have HB2 := hide ((unhide HB1).trans (be2.mono (unhide HB1).size))
  have HV2 := hide ((unhide HV1).trans (be2.mono (unhide HV1).size))
  generalize hee : ee x = ex at *
  have HALL := hide (show ∀ W', Below W2.heap.size W2 W' → ((convert 22 9 (.slice p1 ex.length c1)).run Tryd.prog W' = .ok (S ex) W' ∧ (convert 22 9 (.slice p2 ex.length c2)).run Tryd.prog W' = .ok (S ex) W') ∧ Below V.heap.size V W' ∧ Below w.heap.size w W' from fun W' g =>
    ⟨⟨conv_by (((unhide HY1).below be2).below (g.mono be2.size)) _ _ rfl, conv_by (by2.below g) _ _ rfl⟩, (unhide HV2).trans (g.mono (unhide HV2).size), (unhide HB2).trans (g.mono (unhide HB2).size)⟩)
  clear HE2 by2 be2 HY1 HB1 HV1 b0 b1 b2 b3 b4 b5 b6 b7 b8
  generalize hh : w.heap.size = h at *
  have ST := hide (show ∀ W', Below W2.heap.size W2 W' → (convert 22 9 (.slice p1 ex.length c1)).run Tryd.prog W' = .ok (S ex) W' ∧ (convert 22 9 (.slice p2 ex.length c2)).run Tryd.prog W' = .ok (S ex) W' ∧ W'.cell? ⟨h, 0, none⟩ = some (I x.op) ∧ W'.cell? ⟨h, 1, none⟩ = some (S x.path) ∧ W'.cell? ⟨h, 2, none⟩ = some (S x.dst) ∧ W'.cell? ⟨h, 3, none⟩ = some (I x.fd) ∧ W'.cell? ⟨h, 4, none⟩ = some (I x.fl) ∧ W'.cell? ⟨h, 5, none⟩ = some (I x.mo) ∧ W'.cell? ⟨h, 6, none⟩ = some (I x.n) ∧ W'.cell? ⟨h, 7, none⟩ = some (I x.m) ∧ W'.cell? ⟨h, 8, none⟩ = some (.slice a k cap) ∧ W'.cell? ⟨h + 1, 0, none⟩ = some (I r.why) ∧ W'.cell? ⟨h + 1, 1, none⟩ = some (I r.n) ∧ W'.cell? ⟨h + 1, 2, none⟩ = some (.slice ra rk rcap) ∧ W'.cell? ⟨h + 1, 3, none⟩ = some (.slice rb rm mcap) ∧ W'.cell? ⟨h + 1, 4, none⟩ = some (I r.node) ∧ W'.cell? ⟨h + 1, 5, none⟩ = some (I r.kind) ∧ W'.cell? ⟨h + 1, 6, none⟩ = some (I r.mode) ∧ W'.cell? ⟨h + 1, 7, none⟩ = some (I r.uid) ∧ W'.cell? ⟨h + 1, 8, none⟩ = some (I r.gid) ∧ W'.cell? ⟨h + 1, 9, none⟩ = some (I r.links) ∧ W'.cell? ⟨h + 1, 10, none⟩ = some (I r.size) from fun W' g => by
    obtain ⟨⟨v1, v2⟩, g1, g2⟩ := unhide HALL W' g
    obtain ⟨b0, b1, b2, b3, b4, b5, b6, b7, b8⟩ := cs9 (unhide HC _ g1).1
    obtain ⟨d0, d1, d2, d3, d4, d5, d6, d7, d8, d9, d10⟩ := cells11 (unhide HC _ g1).2
    exact ⟨v1, v2, b0, b1, b2, b3, b4, b5, b6, b7, b8, d0, d1, d2, d3, d4, d5, d6, d7, d8, d9, d10⟩)
  have HL2 := hide (show ∀ W', Below W2.heap.size W2 W' → Lai W' ∧ By W' W'.heap.size a x.data ∧ By W' W'.heap.size ra r.data ∧ Ns W' W'.heap.size rb r.names from fun W' g => unhide HI _ (unhide HALL W' g).2.2)
  have HFIN := hide (show ∀ W', Below W2.heap.size W2 W' → Below h w W' from fun W' g => (unhide HALL W' g).2.2)
  clear HC HI HV2 HB HB2
  replace hee := hide hee
  generalize ex.length = xl at *
  have D0 := hide (below_drew (Below.refl W2.heap.size W2))
  obtain ⟨v1, v2, b0, b1, b2, b3, b4, b5, b6, b7, b8, d0, d1, d2, d3, d4, d5, d6, d7, d8, d9, d10⟩ := unhide ST _ (unhide D0)
  clear HALL
  go_wp2_with fail
  go_region_held3 (fun W' => (convert 22 9 (.slice p1 xl c1)).run Tryd.prog W' = .ok (S ex) W' ∧ (convert 22 9 (.slice p2 xl c2)).run Tryd.prog W' = .ok (S ex) W' ∧ W'.cell? ⟨h, 0, none⟩ = some (I x.op) ∧ W'.cell? ⟨h, 1, none⟩ = some (S x.path) ∧ W'.cell? ⟨h, 2, none⟩ = some (S x.dst) ∧ W'.cell? ⟨h, 3, none⟩ = some (I x.fd) ∧ W'.cell? ⟨h, 4, none⟩ = some (I x.fl) ∧ W'.cell? ⟨h, 5, none⟩ = some (I x.mo) ∧ W'.cell? ⟨h, 6, none⟩ = some (I x.n) ∧ W'.cell? ⟨h, 7, none⟩ = some (I x.m) ∧ W'.cell? ⟨h, 8, none⟩ = some (.slice a k cap) ∧ W'.cell? ⟨h + 1, 0, none⟩ = some (I r.why) ∧ W'.cell? ⟨h + 1, 1, none⟩ = some (I r.n) ∧ W'.cell? ⟨h + 1, 2, none⟩ = some (.slice ra rk rcap) ∧ W'.cell? ⟨h + 1, 3, none⟩ = some (.slice rb rm mcap) ∧ W'.cell? ⟨h + 1, 4, none⟩ = some (I r.node) ∧ W'.cell? ⟨h + 1, 5, none⟩ = some (I r.kind) ∧ W'.cell? ⟨h + 1, 6, none⟩ = some (I r.mode) ∧ W'.cell? ⟨h + 1, 7, none⟩ = some (I r.uid) ∧ W'.cell? ⟨h + 1, 8, none⟩ = some (I r.gid) ∧ W'.cell? ⟨h + 1, 9, none⟩ = some (I r.links) ∧ W'.cell? ⟨h + 1, 10, none⟩ = some (I r.size)) (first | exact ⟨by assumption, by assumption, by assumption, by assumption, by assumption, by assumption, by assumption, by assumption, by assumption, by assumption, by assumption, by assumption, by assumption, by assumption, by assumption, by assumption, by assumption, by assumption, by assumption, by assumption, by assumption, by assumption⟩ | go_keep)
    (first
      | (go_at_call 10; refine (right_any x a k cap (unhide HK).1 _).mono ?_; rintro e W4 ⟨rfl, be⟩; have D1 := hide ((unhide D0).trans (be.mono (unhide D0).size)); clear be; obtain ⟨v1, v2, b0, b1, b2, b3, b4, b5, b6, b7, b8, d0, d1, d2, d3, d4, d5, d6, d7, d8, d9, d10⟩ := unhide ST _ (unhide D1))
      | (go_at_call 16; refine (eright_any x a k cap (unhide HK).1 _).mono ?_; rintro e W5 ⟨rfl, be⟩; have D2 := hide ((unhide D1).trans (be.mono (unhide D1).size)); clear be; obtain ⟨v1, v2, b0, b1, b2, b3, b4, b5, b6, b7, b8, d0, d1, d2, d3, d4, d5, d6, d7, d8, d9, d10⟩ := unhide ST _ (unhide D2))
      | (go_at_call 12; refine (text_any' x (unhide HF).1 a k cap (unhide HK).1 _ (unhide HL2 _ (unhide D2)).1.on (unhide HL2 _ (unhide D2)).1.pos (unhide HL2 _ (unhide D2)).1.tab (unhide HL2 _ (unhide D2)).2.1).mono ?_; rintro e W6 ⟨rfl, be⟩; have D3 := hide ((unhide D2).trans (be.mono (unhide D2).size)); clear be; obtain ⟨v1, v2, b0, b1, b2, b3, b4, b5, b6, b7, b8, d0, d1, d2, d3, d4, d5, d6, d7, d8, d9, d10⟩ := unhide ST _ (unhide D3))
      | (go_at_call 17; refine (etextAll_any x (unhide HF).1.n (unhide HF).1.l a k cap (unhide HK).1 _ (unhide HL2 _ (unhide D3)).2.1).mono ?_; rintro e W7 ⟨rfl, be⟩; have D4 := hide ((unhide D3).trans (be.mono (unhide D3).size)); clear be; obtain ⟨v1, v2, b0, b1, b2, b3, b4, b5, b6, b7, b8, d0, d1, d2, d3, d4, d5, d6, d7, d8, d9, d10⟩ := unhide ST _ (unhide D4))
      | (go_at_call 13; refine (show_any r (unhide HF).2 ra rk rcap (unhide HK).2.1 rb rm mcap (unhide HK).2.2 _ (unhide HL2 _ (unhide D4)).1.tab (unhide HL2 _ (unhide D4)).2.2.1 (unhide HL2 _ (unhide D4)).2.2.2).mono ?_; rintro e W8 ⟨rfl, be⟩; have D5 := hide ((unhide D4).trans (be.mono (unhide D4).size)); clear be; obtain ⟨v1, v2, b0, b1, b2, b3, b4, b5, b6, b7, b8, d0, d1, d2, d3, d4, d5, d6, d7, d8, d9, d10⟩ := unhide ST _ (unhide D5))
      | (go_at_call 18; refine (eshow_any r (unhide HF).2 ra rk rcap (unhide HK).2.1 rb rm mcap (unhide HK).2.2 _ (unhide HL2 _ (unhide D5)).2.2.1 (unhide HL2 _ (unhide D5)).2.2.2).mono ?_; rintro e W9 ⟨rfl, be⟩; have D6 := hide ((unhide D5).trans (be.mono (unhide D5).size)); clear be; obtain ⟨v1, v2, b0, b1, b2, b3, b4, b5, b6, b7, b8, d0, d1, d2, d3, d4, d5, d6, d7, d8, d9, d10⟩ := unhide ST _ (unhide D6))
      | (go_at_call 14; refine (known_any _ (unhide HL2 _ (unhide D6)).1.on (unhide HL2 _ (unhide D6)).1.pos (unhide HL2 _ (unhide D6)).1.tab).mono ?_; rintro e W10 ⟨rfl, be⟩; have D7 := hide ((unhide D6).trans (be.mono (unhide D6).size)); clear be; obtain ⟨v1, v2, b0, b1, b2, b3, b4, b5, b6, b7, b8, d0, d1, d2, d3, d4, d5, d6, d7, d8, d9, d10⟩ := unhide ST _ (unhide D7)))
  all_goals go_wp2_with fail
  all_goals go_ret
  all_goals (
    have hfin := unhide HFIN _ (unhide D7)
    first | exact ⟨rfl, hfin⟩ | exact ⟨rfl, by rw [hh]; exact hfin⟩)
end Go.Proofs.YtnkkfomekdipiaaDoor.Cl
