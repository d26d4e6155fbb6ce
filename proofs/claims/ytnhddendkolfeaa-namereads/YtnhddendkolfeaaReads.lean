/-
  NameReads: paths are read, cleaned and written, names told, as the document says.
-/
import Derived.Test.YtnhddendkolfeaaRefE
namespace Go.Proofs.Ytnhddendkolfeaa
open Go.RowKit
attribute [local go_sem ↓] Go.wp_at_zero Go.wp_at_succ

set_option maxRecDepth 100000 in
set_option maxHeartbeats 8000000 in
theorem reads_short (l : List UInt8) (hl : l.length ≤ 6000) (w : World) : Calls Try.prog 4 #[S l] w fun e w' => e = .returned (.bool true) ∧ Below w.heap.size w w' := by
  have u1 : ¬ (6000 : Int) < (l.length : Int) := by omega
  have K1 := hide (read_P l)
  have K2 := hide (rread_any l)
  have K3 := hide (clean_any l)
  have K4 := hide (rclean_any l)
  have K5 := hide (right_any l)
  have K6 := hide (rright_any l (by omega))
  have K7 := hide (dots_any l)
  have K8 := hide (rdots_any l)
  obtain ⟨p1, p2⟩ := ps_small l
  generalize err l = er at *
  generalize cl l = c at *
  generalize right l = rg at *
  generalize dots l = dg at *
  generalize rt l = br at *
  generalize sl l = bl at *
  generalize ps l = q at *
  generalize hn : q.length = n at *
  replace hn := hide hn
  go_enter Try.func4, Try.ntmps4
  go_wp2_with fail
  refine (unhide K1 _).mono ?_
  rintro e w1 ⟨a3, c3, rfl, r1, B1⟩
  obtain ⟨w2, hw2, B2, P3⟩ := pbox (r := br) (s := bl) (n := n) (cap := c3) r1
  have Z := hide (Below.step B1 B2 (Nat.le_refl _))
  replace P3 := hide P3
  clear r1 B1 B2 K1
  go_wp2_with fail
  refine (unhide K2 _).mono ?_
  rintro e w3 ⟨a5, c5, rfl, r3, B3⟩
  replace P3 := hide ((unhide P3).below B3)
  generalize w1.heap.size = b3 at *
  obtain ⟨w4, hw4, B4, P5⟩ := dbox (r := br) (s := bl) (n := n) (cap := c5) r3
  replace Z := hide (Below.step (Below.step (unhide Z) B3 (Nat.le_refl _)) B4 (Nat.le_refl _))
  replace P3 := hide ((unhide P3).below B4)
  replace P5 := hide P5
  clear r3 B3 B4 K2 hw2
  go_wp2_with fail
  refine (unhide K3 _).mono ?_
  rintro e w5 ⟨rfl, B5⟩
  replace P3 := hide ((unhide P3).below B5)
  replace P5 := hide ((unhide P5).below B5)
  generalize w3.heap.size = b5 at *
  replace Z := hide (Below.step (unhide Z) B5 (Nat.le_refl _))
  clear B5 K3 hw4
  go_wp2_with fail
  refine (unhide K4 _).mono ?_
  rintro e w6 ⟨rfl, B6⟩
  replace P3 := ((unhide P3).below B6)
  replace P5 := ((unhide P5).below B6)
  replace Z := Below.step (unhide Z) B6 (Nat.le_refl _)
  clear B6 K4
  go_wp2_with fail
  have Q3 := P3.drew
  have Q5 := P5.drew
  replace Z := hide (below_drew Z)
  clear P3 P5
  have H1 := hide (same_yes a3 a5 c3 c5 n q (unhide hn) (by omega) w6.drew Q3.rw Q5.rw)
  have H2 := hide (fun (W : World) (R : RowO W a3 q) => wr_any br bl q n (unhide hn) a3 c3 W R (by omega))
  have H3 := hide (fun (W : World) (R : RowO W a5 q) => rwr_any br bl q n (unhide hn) a5 c5 W R (by omega))
  generalize pw br bl q = pv at *
  obtain ⟨x0, x1, x2⟩ := Q3.cells
  obtain ⟨y0, y1, y2⟩ := Q5.cells
  have HQ := hide (show _ ∧ _ from ⟨Q3, Q5⟩)
  clear Q3 Q5
  go_region_held3 (fun w' => w'.cell? ⟨b3, 0, none⟩ = some (.bool br) ∧ w'.cell? ⟨b3, 1, none⟩ = some (.bool bl) ∧ w'.cell? ⟨b3, 2, none⟩ = some (.slice a3 n c3) ∧ w'.cell? ⟨b5, 0, none⟩ = some (.bool br) ∧ w'.cell? ⟨b5, 1, none⟩ = some (.bool bl) ∧ w'.cell? ⟨b5, 2, none⟩ = some (.slice a5 n c5)) (exact ⟨by assumption, by assumption, by assumption, by assumption, by assumption, by assumption⟩)
    (first
      | (go_at_call 17; refine (unhide H1).mono ?_; rintro e w7 ⟨rfl, B7⟩; obtain ⟨A3, A5⟩ := unhide HQ; obtain ⟨m0, m1, m2⟩ := (A3.below B7).cells; obtain ⟨l0, l1, l2⟩ := (A5.below B7).cells)
      | (go_at_call 12; refine (unhide K5 _).mono ?_; rintro e wy ⟨rfl, rfl⟩)
      | (go_at_call 18; refine (unhide K6 _).mono ?_; rintro e wy ⟨rfl, rfl⟩)
      | (go_at_call 13; refine (unhide K7 _).mono ?_; rintro e wy ⟨rfl, rfl⟩)
      | (go_at_call 19; refine (unhide K8 _).mono ?_; rintro e wy ⟨rfl, rfl⟩)
      | (go_at_call 20; refine (unhide H2 _ ((unhide HQ).1.below B7).rw).mono ?_; rintro e w8 ⟨rfl, B8⟩; obtain ⟨A3, A5⟩ := unhide HQ; obtain ⟨m0, m1, m2⟩ := ((A3.below B7).below B8).cells; obtain ⟨l0, l1, l2⟩ := ((A5.below B7).below B8).cells)
      | (go_at_call 21; refine (unhide H3 _ (((unhide HQ).2.below B7).below B8).rw).mono ?_; rintro e w9 ⟨rfl, B9⟩; obtain ⟨A3, A5⟩ := unhide HQ; obtain ⟨m0, m1, m2⟩ := (((A3.below B7).below B8).below B9).cells; obtain ⟨l0, l1, l2⟩ := (((A5.below B7).below B8).below B9).cells)
      | (go_at_call 14; refine (known_any _).mono ?_; rintro e w10 ⟨rfl, B10⟩; obtain ⟨A3, A5⟩ := unhide HQ; obtain ⟨m0, m1, m2⟩ := ((((A3.below B7).below B8).below B9).below B10).cells; obtain ⟨l0, l1, l2⟩ := ((((A5.below B7).below B8).below B9).below B10).cells))
  all_goals
    have ZZ := hide (Below.step (Below.step (Below.step (Below.step (unhide Z) B7 (Nat.le_refl _)) B8 (Nat.le_refl _)) B9 (Nat.le_refl _)) B10 (Nat.le_refl _))
    clear HQ Z B7 B8 B9 B10 H1 H2 H3
    go_wp2_with fail
    go_ret
    exact ⟨rfl, unhide ZZ⟩
end Go.Proofs.Ytnhddendkolfeaa
