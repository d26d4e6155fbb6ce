/-
  The walk of WalkParts.
-/
import Derived.Test.YtlngeaacjbdmhaaGreatMp33
import Derived.Test.YtlngeaacjbdmhaaGreatMp34
import Derived.BigRegion
import Derived.OpenShut
set_option maxRecDepth 100000
namespace Go.Proofs.YtlngeaacjbdmhaaGreat.Bt
open Go.RowKit
attribute [local go_sem ↓] Go.wp_at_zero Go.wp_at_succ
theorem bv_cells {t m r R l0 l1 yb yc B : Nat} {cu cg K : Int} {w W : World} {L : List (Nat × Array Value × TypeId)} (h : ∃ T' M' rs', Inv T' M' ∧ Bv t m r R l0 l1 yb yc cu cg B K w W T' M' rs' L) : (W.cell? ⟨yb, 0, none⟩ = some (P0 t) ∧ W.cell? ⟨yb, 1, none⟩ = some (P0 m) ∧ W.cell? ⟨yb, 2, none⟩ = some (P0 r) ∧ W.cell? ⟨yb, 3, none⟩ = some (P0 (R + 1))) ∧ Below w.heap.size w W := by
  obtain ⟨T', M', rs', -, h⟩ := h
  exact ⟨h.cells.1, h.s.be⟩
theorem nil_toList : (⟨⟨[]⟩⟩ : ByteArray).toList = [] := by
  unfold ByteArray.toList
  rw [ByteArray.toList.loop]
  rfl
set_option maxHeartbeats 16000000 in
theorem parts_walk (pa : Option Addr) (len cap : Nat) (cu cg : Int) (pb : Option Addr) (len2 cap2 : Nat) (pc : Option Addr) (len3 cap3 : Nat) (w : World) (ha : ActsAt w pa len) (hb2 : IntsAt w pb len2) (hb3 : IntsAt w pc len3) :
    Calls Tryz.prog 7 #[.slice pa len cap, .agg #[I cu, I cg], .slice pb len2 cap2, .slice pc len3 cap3] w fun e w' => e = .returned (.bool true) ∧ Below w.heap.size w w' := by
  have hlen : (len : Int) ≤ 9223372036854775807 := by have := ha.1; omega
  obtain ⟨V, hV, hc, hB⟩ : ∃ V, w.alloc (.cells #[I cu, I cg] 57) = V ∧ V.heap[w.heap.size]? = some (.cells #[I cu, I cg] 57) ∧ Below w.heap.size w V := ⟨_, rfl, heap_alloc_new w _, (Below.refl _ _).alloc (Nat.le_refl _) _⟩
  have HA := hide ha
  have HI2 := hide hb2
  have HI3 := hide hb3
  have HC := hide hc
  have HB := hide hB
  have HTop := hide Wl.top_any
  have HKn := hide Wl.known_any
  clear ha hb2 hb3 hc hB
  go_enter Tryz.func7, Tryz.ntmps7
  go_wp2_with fail
  refine (new_any V).mono ?_
  rintro e w1 ⟨t, m, r, R, l0, l1, rfl, S1⟩
  have HZ : Hid (Bv t m r R l0 l1 w1.heap.size w.heap.size cu cg 1 0 w (w1.alloc (.cells #[P0 t, P0 m, P0 r, P0 (R + 1)] 46)) (Tr.new 40 20) ⟨1, 0, []⟩ [⟨0, 0, 1, true⟩] []) := by
    have s := (unhide S1).rebaseV (unhide HB)
    have g : Below w1.heap.size w1 (w1.alloc (.cells #[P0 t, P0 m, P0 r, P0 (R + 1)] 46)) := (Below.refl _ _).alloc (Nat.le_refl _) _
    have h1 := ((unhide S1).be.block _ (lt_of_heap (unhide HC))).trans (unhide HC)
    exact hide ⟨s.below g, heap_alloc_new w1 _, (g.block _ (lt_of_heap h1)).trans h1, by simp, by simp⟩
  clear S1 HC HB
  generalize hyb : w1.heap.size = yb at HZ
  generalize hyc : w.heap.size = yc at HZ
  go_upto_block 0 with fail
  clear hyb hyc hV
  go_cut [] from 11 to 44 (fun wc => ∃ (T : Tr) (M : Mt.T) (rs : List Mt.Rm), Inv T M ∧ Bv t m r R l0 l1 yb yc cu cg 201 50 w wc T M rs [])
  case first =>
    go_wp2_with fail
    go_loopw [11] (fun v wr => ∃ (k : Nat) (T : Tr) (M : Mt.T) (rs : List Mt.Rm), v = I k ∧ k ≤ 50 ∧ k ≤ len ∧ Hid (Inv T M ∧ Bv t m r R l0 l1 yb yc cu cg (1 + 4 * k) (k : Int) w wr T M rs [])) (fun v _ => 50 - (intOf v).toNat)
    case atStart => exact ⟨0, _, _, _, rfl, by omega, by omega, hide ⟨Inv.new, unhide HZ⟩⟩
    case round =>
      clear HZ
      obtain ⟨k, T, M, rs, rfl, hk, hkl, HZ⟩ := hrel
      by_cases hc : k < len ∧ k < 50
      · obtain ⟨b, off, x, rfl, hb, A⟩ := (unhide HA).2 k hc.1
        have j1 : (k : Int) < (len : Int) := by omega
        have j2 : (k : Int) < 50 := by omega
        have j0 : (0 : Int) ≤ (k : Int) := by omega
        have HK : Hid (∀ W', Below w.heap.size w W' → W'.cell? ⟨b, off + k * 15, none⟩ = some (I x.kind) ∧ W'.cell? ⟨b, off + k * 15 + 1, none⟩ = some (I x.dir) ∧ W'.cell? ⟨b, off + k * 15 + 2, none⟩ = some (I x.tq) ∧ W'.cell? ⟨b, off + k * 15 + 3, none⟩ = some (I x.n) ∧ W'.cell? ⟨b, off + k * 15 + 4, none⟩ = some (.string x.s) ∧ W'.cell? ⟨b, off + k * 15 + 5, none⟩ = some (.string x.ad) ∧ W'.cell? ⟨b, off + k * 15 + 6, none⟩ = some (I x.sn) ∧ W'.cell? ⟨b, off + k * 15 + 7, none⟩ = some (I x.kd) ∧ W'.cell? ⟨b, off + k * 15 + 8, none⟩ = some (I x.mo) ∧ W'.cell? ⟨b, off + k * 15 + 9, none⟩ = some (I x.ui) ∧ W'.cell? ⟨b, off + k * 15 + 10, none⟩ = some (I x.gi) ∧ W'.cell? ⟨b, off + k * 15 + 11, none⟩ = some (I x.li) ∧ W'.cell? ⟨b, off + k * 15 + 12, none⟩ = some (I x.si) ∧ W'.cell? ⟨b, off + k * 15 + 13, none⟩ = some (I x.am) ∧ W'.cell? ⟨b, off + k * 15 + 14, none⟩ = some (I x.an)) := hide fun W' g => act_cells A hb g
        have HTm := hide (fun W' => tame_any x A.w W')
        clear A hb hc
        obtain ⟨kind, dir, tq, n, s, ad, sn, kd, mo, ui, gi, li, si, am, an⟩ := x
        simp only at HK
        simp only [Ac.v, Ac.cs] at HTm
        obtain ⟨b0, b1, b2, b3⟩ := (unhide HZ).2.cells.1
        obtain ⟨x0, x1, x2, x3, x4, x5, x6, x7, x8, x9, x10, x11, x12, x13, x14⟩ := unhide HK wr (unhide HZ).2.s.be
        go_wp2_with fail
        go_region_held3 (fun w' => w'.cell? ⟨yb, 0, none⟩ = some (P0 t) ∧ w'.cell? ⟨yb, 1, none⟩ = some (P0 m) ∧ w'.cell? ⟨yb, 2, none⟩ = some (P0 r) ∧ w'.cell? ⟨yb, 3, none⟩ = some (P0 (R + 1)) ∧ w'.cell? ⟨b, off + k * 15, none⟩ = some (I kind) ∧ w'.cell? ⟨b, off + k * 15 + 1, none⟩ = some (I dir) ∧ w'.cell? ⟨b, off + k * 15 + 2, none⟩ = some (I tq) ∧ w'.cell? ⟨b, off + k * 15 + 3, none⟩ = some (I n) ∧ w'.cell? ⟨b, off + k * 15 + 4, none⟩ = some (.string s) ∧ w'.cell? ⟨b, off + k * 15 + 5, none⟩ = some (.string ad) ∧ w'.cell? ⟨b, off + k * 15 + 6, none⟩ = some (I sn) ∧ w'.cell? ⟨b, off + k * 15 + 7, none⟩ = some (I kd) ∧ w'.cell? ⟨b, off + k * 15 + 8, none⟩ = some (I mo) ∧ w'.cell? ⟨b, off + k * 15 + 9, none⟩ = some (I ui) ∧ w'.cell? ⟨b, off + k * 15 + 10, none⟩ = some (I gi) ∧ w'.cell? ⟨b, off + k * 15 + 11, none⟩ = some (I li) ∧ w'.cell? ⟨b, off + k * 15 + 12, none⟩ = some (I si) ∧ w'.cell? ⟨b, off + k * 15 + 13, none⟩ = some (I am) ∧ w'.cell? ⟨b, off + k * 15 + 14, none⟩ = some (I an)) (go_keep)
          (first
            | (go_at_call 34; refine (unhide HTm wr.drew).mono ?_; rintro e u1 ⟨x', rfl, G1⟩; have HZ1 := hide ((unhide HZ).2.drew.below (unhide G1).2.2); obtain ⟨b0, b1, b2, b3⟩ := (unhide HZ1).cells.1; obtain ⟨x0, x1, x2, x3, x4, x5, x6, x7, x8, x9, x10, x11, x12, x13, x14⟩ := unhide HK u1 (unhide HZ1).s.be)
            | (go_at_call 26; refine (do_any (unhide HZ1).s (by omega) (by omega) x' (unhide G1).2.1).mono ?_; rintro e u2 ⟨rfl, G2⟩; have HZ2 : Hid (∃ T' M' rs', Inv T' M' ∧ Bv t m r R l0 l1 yb yc cu cg (1 + 4 * k + 4) ((k : Int) + 1) w u2 T' M' rs' []) := hide (by
                obtain ⟨T', M', rs', g1, g2, g3⟩ := unhide G2
                exact ⟨T', M', rs', (unhide HZ).1.step (unhide G1).1 g1, (unhide HZ1).step g2 g3⟩); obtain ⟨⟨b0, b1, b2, b3⟩, BE⟩ := bv_cells (unhide HZ2); obtain ⟨x0, x1, x2, x3, x4, x5, x6, x7, x8, x9, x10, x11, x12, x13, x14⟩ := unhide HK u2 BE))
        all_goals
          go_wp2_with fail
          obtain ⟨T', M', rs', i1, i2⟩ := unhide HZ2
          exact ⟨⟨k + 1, T', M', rs', by simp, by omega, by omega, hide ⟨i1, by simpa [Nat.mul_add, Nat.add_assoc] using i2⟩⟩, by simp [intOf]; omega⟩
      · by_cases hl : k < len
        · have j1 : (k : Int) < (len : Int) := by omega
          obtain rfl : k = 50 := by omega
          go_wp2_with fail
          go_meet
          case rel => exact ⟨T, M, rs, (unhide HZ).1, (unhide HZ).2⟩
        · have j1 : ¬ ((k : Int) < (len : Int)) := by omega
          go_wp2_with fail
          go_meet
          case rel => exact ⟨T, M, rs, (unhide HZ).1, (unhide HZ).2.mono (by omega) (by omega)⟩
  case rest =>
    clear HZ HA
    obtain ⟨T, M, rs, hI, Z⟩ := hcut
    have HI := hide hI
    have HZ := hide Z
    clear hI Z
    have HE : Hid (∀ W' W2 : World, Below w.heap.size w W' → Below W'.heap.size W' W2 → Below w.heap.size w W2) := hide fun W' W2 g h => g.trans (h.mono g.size)
    have HP := hide (path_nz pb len2 cap2 wc ((unhide HI2).below (unhide HZ).s.be))
    go_wp2_with fail
    refine (unhide HP).mono ?_
    rintro e w5 ⟨s, rfl, hs, hsz, B5⟩
    have HZ5 := hide ((unhide HZ).below B5)
    clear HP B5 HZ HI2
    have HQ := hide (path_nz pc len3 cap3 w5 ((unhide HI3).below (unhide HZ5).s.be))
    go_wp2_with fail
    refine (unhide HQ).mono ?_
    rintro e w6 ⟨s2, rfl, hs2, hs2z, B6⟩
    have HZ := hide ((unhide HZ5).below B6)
    clear HQ B6 HZ5 HI3
    have HS := hide (⟨hsz, hs2z⟩ : _ ∧ _)
    clear hsz hs2z
    by_cases h1 : s.toList = []
    · have h1e : s.toList.isEmpty = true := by simp [h1]
      go_wp2_with (go_at_call 33; refine (unhide HKn _).mono ?_; rintro e z5 ⟨rfl, hz5⟩)
      go_ret
      exact ⟨rfl, unhide HE _ _ (unhide HZ).s.be hz5⟩
    have h1e : s.toList.isEmpty = false := by simp [h1]
    by_cases h2 : s2.toList = []
    · have h2e : s2.toList.isEmpty = true := by simp [h2]
      go_wp2_with (go_at_call 33; refine (unhide HKn _).mono ?_; rintro e z5 ⟨rfl, hz5⟩)
      go_ret
      exact ⟨rfl, unhide HE _ _ (unhide HZ).s.be hz5⟩
    have h2e : s2.toList.isEmpty = false := by simp [h2]
    have hn1 : s.data.toList ≠ [] := fun e => h1 (by
      cases s with
      | mk a => cases a; simp only at e; subst e; exact nil_toList)
    have hn2 : s2.data.toList ≠ [] := fun e => h2 (by
      cases s2 with
      | mk a => cases a; simp only at e; subst e; exact nil_toList)
    have hz0 : 0 < s2.size := Nat.pos_of_ne_zero fun e => hn2 (by
      have : s2.data = #[] := Array.eq_empty_of_size_eq_zero e
      rw [this])
    have hz1 : (0 : Int) < (s2.size : Int) := by omega
    by_cases h47 : (((s2[0]'hz0).toNat : Int) == 47) = true
    · go_wp2_with (go_at_call 33; refine (unhide HKn _).mono ?_; rintro e z5 ⟨rfl, hz5⟩)
      go_ret
      exact ⟨rfl, unhide HE _ _ (unhide HZ).s.be hz5⟩
    have h47f : (((s2[0]'hz0).toNat : Int) == 47) = false := by simpa using h47
    have hpre : ([47] : List UInt8).isPrefixOf s2.data.toList = false := by
      cases s2 with
      | mk a =>
        cases a with
        | mk l =>
          cases l with
          | nil => exact absurd rfl hn2
          | cons c r2 =>
            rw [Nm.prefix_cons]
            have hc : ¬ ((c.toNat : Int) == 47) = true := h47
            simp only [beq_eq_false_iff_ne, ne_eq]
            rintro rfl
            exact hc rfl
    obtain ⟨p1, hp1⟩ : ∃ p, s ++ (⟨#[47]⟩ : ByteArray) = p := ⟨_, rfl⟩
    obtain ⟨p2, hp2⟩ : ∃ p, p1 ++ s2 = p := ⟨_, rfl⟩
    obtain ⟨p4, hp4⟩ : ∃ p, (⟨#[46, 47]⟩ : ByteArray) ++ s2 = p := ⟨_, rfl⟩
    have lp1 : p1.data.toList = s.data.toList ++ [47] := by rw [← hp1]; simp
    have lp2 : p2.data.toList = s.data.toList ++ 47 :: s2.data.toList := by rw [← hp2, ← hp1]; simp
    have lp4 : p4.data.toList = 46 :: 47 :: s2.data.toList := by rw [← hp4]; simp
    have z1 : p1.size ≤ 37 := by
      rw [← hp1, ByteArray.size_append]
      have : (⟨#[47]⟩ : ByteArray).size = 1 := rfl
      omega
    have s47 : (⟨#[47]⟩ : ByteArray).size = 1 := rfl
    have s46 : (⟨#[46, 47]⟩ : ByteArray).size = 2 := rfl
    have k1 : ∀ w, (Op.stringOp .add s (⟨#[47]⟩ : ByteArray)).run Tryz.prog w = .ok (.string p1) w := fun w => by
      rw [← hp1]
      exact run_string_add_sum w s _ (by omega)
    have k2 : ∀ w, (Op.stringOp .add p1 s2).run Tryz.prog w = .ok (.string p2) w := fun w => by
      rw [← hp2]
      exact run_string_add_sum w p1 _ (by omega)
    have k4 : ∀ w, (Op.stringOp .add (⟨#[46, 47]⟩ : ByteArray) s2).run Tryz.prog w = .ok (.string p4) w := fun w => by
      rw [← hp4]
      exact run_string_add_sum w _ _ (by omega)
    clear s47 s46
    have hmk : Wl.Mk (Eb T M cu cg true) := ⟨(unhide HZ).s.mf.eld, (unhide HZ).s.mf.up⟩
    have hsl : s.data.toList.length ≤ 100 := by
      have : s.data.toList.length = s.size := Array.length_toList
      omega
    have hsl2 : s2.data.toList.length ≤ 100 := by
      have : s2.data.toList.length = s2.size := Array.length_toList
      omega
    obtain ⟨A, hA⟩ : ∃ n, (Eb T M cu cg true).walk 0 1 p1.data.toList = n := ⟨_, rfl⟩
    obtain ⟨B2, hB2⟩ : ∃ n, (Eb T M cu cg true).walk 0 1 p2.data.toList = n := ⟨_, rfl⟩
    obtain ⟨hT1, hT2⟩ := Wl.walk_two hmk ((unhide HI).short cu cg true) rfl hn1 hn2 hpre hsl hsl2 (unhide HS).1 (unhide HS).2 (A := A) (B := B2) (by rw [← lp1]; exact hA) (by rw [← lp2]; exact hB2)
    obtain ⟨F1, F2, F3, F4, F5, F6, F7, why1, hF⟩ : ∃ (F1 F2 : Int) (F3 : ByteArray) (F4 F5 : Int) (F6 F7 : Bool) (why1 : Int), (A.f.dm = F1 ∧ A.f.dn = F2 ∧ Wl.bs A.f.last = F3 ∧ A.f.am = F4 ∧ A.f.an = F5 ∧ A.f.has = F6 ∧ A.f.slash = F7 ∧ A.why = why1) := ⟨_, _, _, _, _, _, _, _, rfl, rfl, rfl, rfl, rfl, rfl, rfl, rfl⟩
    obtain ⟨G1, G2, G3, G4, G5, G6, G7, why2, hG⟩ : ∃ (G1 G2 : Int) (G3 : ByteArray) (G4 G5 : Int) (G6 G7 : Bool) (why2 : Int), (B2.f.dm = G1 ∧ B2.f.dn = G2 ∧ Wl.bs B2.f.last = G3 ∧ B2.f.am = G4 ∧ B2.f.an = G5 ∧ B2.f.has = G6 ∧ B2.f.slash = G7 ∧ B2.why = why2) := ⟨_, _, _, _, _, _, _, _, rfl, rfl, rfl, rfl, rfl, rfl, rfl, rfl⟩
    have HW1 : Hid (∀ W', (∃ L', Bv t m r R l0 l1 yb yc cu cg 201 50 w W' T M rs L') → Calls Tryz.prog 27 #[P0 t, P0 m, .agg #[I 0, I 1], .agg #[I 0, I 1], .agg #[I cu, I cg], .string p1, .bool true] W' fun e w' => e = .returned (.tuple #[.agg #[I F1, I F2, .string F3, I F4, I F5, .bool F6, .bool F7], I why1]) ∧ Below W'.heap.size W' w') := hide fun W' ⟨_, Z⟩ => by
      have h := walk_V Z (by omega) (unhide HI) cu cg 0 1 (by decide) p1 true A hA
      obtain ⟨rfl, rfl, rfl, rfl, rfl, rfl, rfl, rfl⟩ := hF
      exact h
    have HW2 : Hid (∀ W', (∃ L', Bv t m r R l0 l1 yb yc cu cg 201 50 w W' T M rs L') → Calls Tryz.prog 27 #[P0 t, P0 m, .agg #[I 0, I 1], .agg #[I 0, I 1], .agg #[I cu, I cg], .string p2, .bool true] W' fun e w' => e = .returned (.tuple #[.agg #[I G1, I G2, .string G3, I G4, I G5, .bool G6, .bool G7], I why2]) ∧ Below W'.heap.size W' w') := hide fun W' ⟨_, Z⟩ => by
      have h := walk_V Z (by omega) (unhide HI) cu cg 0 1 (by decide) p2 true B2 hB2
      obtain ⟨rfl, rfl, rfl, rfl, rfl, rfl, rfl, rfl⟩ := hG
      exact h
    have HT1 : Hid ((why1 ≠ 0 ∨ F6 = false) → why2 ≠ 0) := hide fun h => by
      obtain ⟨-, -, -, -, -, e6, -, e8⟩ := hF
      obtain ⟨-, -, -, -, -, -, -, g8⟩ := hG
      rw [← g8]
      exact hT1 (by rw [e6, e8]; exact h)
    have HT2 := hide hT2
    have HFF := hide hF
    have HGG := hide hG
    have HL4 := hide lp4
    clear hp1 hp2 hp4 hT1 hT2 hF hG hA hB2 hsl hsl2 lp1 lp2 lp4 hmk hpre hn1 hn2 h47
    go_wp2_with fail
    go_upto_region 12 with fail
    have HY := hide (unhide HZ).drew
    obtain ⟨⟨b0, b1, b2, b3⟩, c0, c1⟩ := (unhide HZ).cells
    go_cut [14, 15] from 61 to 73 (fun a v wd => ∃ q : Nat, a = .pointer (some ⟨q, 0, none⟩) ∧ v = I why1 ∧ Bv t m r R l0 l1 yb yc cu cg 201 50 w wd T M rs [(q, #[I F1, I F2, .string F3, I F4, I F5, .bool F6, .bool F7], 59)])
    case first =>
      go_region_held3 (fun w' => w'.cell? ⟨yb, 0, none⟩ = some (P0 t) ∧ w'.cell? ⟨yb, 1, none⟩ = some (P0 m) ∧ w'.cell? ⟨yc, 0, none⟩ = some (I cu) ∧ w'.cell? ⟨yc, 1, none⟩ = some (I cg)) (go_keep)
        (first
          | (go_at_call 28; refine (unhide HTop _).mono ?_; rintro e z1 ⟨rfl, hz⟩; (first | (have HF := hide ((unhide HF).below hz)) | (have HF := hide (bv_new_d (cs := #[I 0, I 0, .string ⟨#[]⟩, I 0, I 0, .bool false, .bool false]) lonv_found (unhide HZ) hz)) | (have HF := hide (bv_new (cs := #[I 0, I 0, .string ⟨#[]⟩, I 0, I 0, .bool false, .bool false]) lonv_found (unhide HY) hz)) | (have HY := hide ((unhide HY).below hz))); (first | (obtain ⟨⟨b0, b1, b2, b3⟩, c0, c1⟩ := (unhide HF).cells) | (obtain ⟨⟨b0, b1, b2, b3⟩, c0, c1⟩ := (unhide HY).cells)))
          | (go_at_call 27; refine (unhide HW1 _ ?_).mono ?_; (first | exact ⟨_, unhide HF⟩ | exact ⟨_, unhide HY⟩ | exact ⟨_, (unhide HY).more (cs := #[I 0, I 0, .string ⟨#[]⟩, I 0, I 0, .bool false, .bool false]) lonv_found⟩); rintro e z3 ⟨rfl, hz⟩; (first | (have HF := hide ((unhide HF).below hz)) | (have HF := hide (bv_new_d (cs := #[I 0, I 0, .string ⟨#[]⟩, I 0, I 0, .bool false, .bool false]) lonv_found (unhide HZ) hz)) | (have HF := hide (bv_new (cs := #[I 0, I 0, .string ⟨#[]⟩, I 0, I 0, .bool false, .bool false]) lonv_found (unhide HY) hz)) | (have HY := hide ((unhide HY).below hz))); (first | (obtain ⟨⟨b0, b1, b2, b3⟩, c0, c1⟩ := (unhide HF).cells; obtain ⟨X1, X2, X3, X4, X5, X6, X7, ⟨e1, e2, e3, e4, e5, e6, e7⟩, ⟨g0, g1, g2, g3, g4, g5, g6⟩, ⟨k0, k1, k2, k3, k4, k5, k6⟩, HX7⟩ := (unhide HF).store7 (I F1) (I F2) (.string F3) (I F4) (I F5) (.bool F6) (.bool F7); obtain ⟨⟨b0, b1, b2, b3⟩, c0, c1⟩ := (unhide HX7).cells) | (obtain ⟨⟨b0, b1, b2, b3⟩, c0, c1⟩ := (unhide HY).cells; obtain ⟨A0, hA0, HFA⟩ := bv_alloc (cs := #[I 0, I 0, .string ⟨#[]⟩, I 0, I 0, .bool false, .bool false]) lonv_found (unhide HY); obtain ⟨⟨b0, b1, b2, b3⟩, c0, c1⟩ := (HFA).cells; obtain ⟨X1, X2, X3, X4, X5, X6, X7, ⟨e1, e2, e3, e4, e5, e6, e7⟩, ⟨g0, g1, g2, g3, g4, g5, g6⟩, ⟨k0, k1, k2, k3, k4, k5, k6⟩, HX7⟩ := HFA.store7 (I F1) (I F2) (.string F3) (I F4) (I F5) (.bool F6) (.bool F7); clear HFA; obtain ⟨⟨b0, b1, b2, b3⟩, c0, c1⟩ := (unhide HX7).cells))))
      all_goals
        go_wp2_with fail
        go_meet
        case rel => exact ⟨_, rfl, rfl, unhide HX7⟩
    case rest =>
      clear HY HZ b0 b1 b2 b3 c0 c1 HW1
      obtain ⟨q1, rfl, rfl, Z⟩ := hcut
      have HZ := hide Z
      clear Z
      go_wp2_with fail
      go_upto_region 13 with fail
      have HY := hide (unhide HZ).drew
      obtain ⟨⟨b0, b1, b2, b3⟩, c0, c1⟩ := (unhide HZ).cells
      go_cut [16, 17] from 74 to 88 (fun a v wd => ∃ q : Nat, a = .pointer (some ⟨q, 0, none⟩) ∧ v = I why2 ∧ Bv t m r R l0 l1 yb yc cu cg 201 50 w wd T M rs [(q, #[I G1, I G2, .string G3, I G4, I G5, .bool G6, .bool G7], 59), (q1, #[I F1, I F2, .string F3, I F4, I F5, .bool F6, .bool F7], 59)])
      case first =>
        go_region_held3 (fun w' => w'.cell? ⟨yb, 0, none⟩ = some (P0 t) ∧ w'.cell? ⟨yb, 1, none⟩ = some (P0 m) ∧ w'.cell? ⟨yc, 0, none⟩ = some (I cu) ∧ w'.cell? ⟨yc, 1, none⟩ = some (I cg)) (go_keep)
          (first
            | (go_at_call 28; refine (unhide HTop _).mono ?_; rintro e z1 ⟨rfl, hz⟩; (first | (have HF := hide ((unhide HF).below hz)) | (have HF := hide (bv_new_d (cs := #[I 0, I 0, .string ⟨#[]⟩, I 0, I 0, .bool false, .bool false]) lonv_found (unhide HZ) hz)) | (have HF := hide (bv_new (cs := #[I 0, I 0, .string ⟨#[]⟩, I 0, I 0, .bool false, .bool false]) lonv_found (unhide HY) hz)) | (have HY := hide ((unhide HY).below hz))); (first | (obtain ⟨⟨b0, b1, b2, b3⟩, c0, c1⟩ := (unhide HF).cells) | (obtain ⟨⟨b0, b1, b2, b3⟩, c0, c1⟩ := (unhide HY).cells)))
            | (go_at_call 27; refine (unhide HW2 _ ?_).mono ?_; (first | exact ⟨_, unhide HF⟩ | exact ⟨_, unhide HY⟩ | exact ⟨_, (unhide HY).more (cs := #[I 0, I 0, .string ⟨#[]⟩, I 0, I 0, .bool false, .bool false]) lonv_found⟩); rintro e z3 ⟨rfl, hz⟩; (first | (have HF := hide ((unhide HF).below hz)) | (have HF := hide (bv_new_d (cs := #[I 0, I 0, .string ⟨#[]⟩, I 0, I 0, .bool false, .bool false]) lonv_found (unhide HZ) hz)) | (have HF := hide (bv_new (cs := #[I 0, I 0, .string ⟨#[]⟩, I 0, I 0, .bool false, .bool false]) lonv_found (unhide HY) hz)) | (have HY := hide ((unhide HY).below hz))); (first | (obtain ⟨⟨b0, b1, b2, b3⟩, c0, c1⟩ := (unhide HF).cells; obtain ⟨X1, X2, X3, X4, X5, X6, X7, ⟨e1, e2, e3, e4, e5, e6, e7⟩, ⟨g0, g1, g2, g3, g4, g5, g6⟩, ⟨k0, k1, k2, k3, k4, k5, k6⟩, HX7⟩ := (unhide HF).store7 (I G1) (I G2) (.string G3) (I G4) (I G5) (.bool G6) (.bool G7); obtain ⟨⟨b0, b1, b2, b3⟩, c0, c1⟩ := (unhide HX7).cells) | (obtain ⟨⟨b0, b1, b2, b3⟩, c0, c1⟩ := (unhide HY).cells; obtain ⟨A0, hA0, HFA⟩ := bv_alloc (cs := #[I 0, I 0, .string ⟨#[]⟩, I 0, I 0, .bool false, .bool false]) lonv_found (unhide HY); obtain ⟨⟨b0, b1, b2, b3⟩, c0, c1⟩ := (HFA).cells; obtain ⟨X1, X2, X3, X4, X5, X6, X7, ⟨e1, e2, e3, e4, e5, e6, e7⟩, ⟨g0, g1, g2, g3, g4, g5, g6⟩, ⟨k0, k1, k2, k3, k4, k5, k6⟩, HX7⟩ := HFA.store7 (I G1) (I G2) (.string G3) (I G4) (I G5) (.bool G6) (.bool G7); clear HFA; obtain ⟨⟨b0, b1, b2, b3⟩, c0, c1⟩ := (unhide HX7).cells))))
        all_goals
          go_wp2_with fail
          go_meet
          case rel => exact ⟨_, rfl, rfl, unhide HX7⟩
      case rest =>
        clear HY HZ b0 b1 b2 b3 c0 c1 HW2
        obtain ⟨q2, rfl, rfl, Z⟩ := hcut
        have HZ := hide Z
        clear Z
        obtain ⟨-, -, -, -, -, p5, -⟩ := cellsF ((unhide HZ).l (q1, #[I F1, I F2, .string F3, I F4, I F5, .bool F6, .bool F7], 59) (by simp)).1
        by_cases hok : why1 = 0 ∧ F6 = true
        case neg =>
          have hb : why2 ≠ 0 := unhide HT1 (by
            by_cases h : why1 = 0
            · right
              cases F6 with
              | false => rfl
              | true => exact absurd ⟨h, rfl⟩ hok
            · exact .inl h)
          have hb1 : (why2 == 0) = false := by simpa using hb
          have hb2 : (why2 != 0) = true := by simpa using hb
          by_cases h : why1 = 0
          · subst h
            cases F6 with
            | true => exact absurd ⟨rfl, rfl⟩ hok
            | false =>
              go_wp2_with (go_at_call 33; refine (unhide HKn _).mono ?_; rintro e z5 ⟨rfl, hz5⟩)
              go_ret
              exact ⟨rfl, unhide HE _ _ (unhide HZ).s.be hz5⟩
          · have e1 : (why1 == 0) = false := by simpa using h
            have e2 : (why1 != 0) = true := by simpa using h
            go_wp2_with (go_at_call 33; refine (unhide HKn _).mono ?_; rintro e z5 ⟨rfl, hz5⟩)
            go_ret
            exact ⟨rfl, unhide HE _ _ (unhide HZ).s.be hz5⟩
        case pos =>
          obtain ⟨rfl, rfl⟩ := hok
          obtain ⟨hk1, hT2⟩ := unhide HT2 (unhide HFF).2.2.2.2.2.2.2 (unhide HFF).2.2.2.2.2.1
          have e4 : A.f.am = F4 := (unhide HFF).2.2.2.1
          have e5 : A.f.an = F5 := (unhide HFF).2.2.2.2.1
          rw [e5] at hk1
          rw [e4, e5] at hT2
          have hwf : (kl F5).wf = true := by
            have hk : T.kindOf F5 = 1 := hk1
            unfold Tr.kindOf at hk
            cases hx : T.nd F5 with
            | none => rw [hx] at hk; simp at hk
            | some x =>
              have h1 := (unhide HZ).s.f.k.key _ _ hx
              have h2 := (unhide HZ).s.f.k.made
              exact wf_of (by omega)
          obtain ⟨K, hK⟩ : ∃ n, (Eb T M cu cg true).walk F4 F5 s2.data.toList = n := ⟨_, rfl⟩
          obtain ⟨N, hN⟩ : ∃ n, (Eb T M cu cg true).walk F4 F5 p4.data.toList = n := ⟨_, rfl⟩
          have hT3 := hT2 K N hK (by rw [← unhide HL4]; exact hN)
          obtain ⟨K1, K2, K3, K4, K5, K6, K7, why3, hKK⟩ : ∃ (K1 K2 : Int) (K3 : ByteArray) (K4 K5 : Int) (K6 K7 : Bool) (why3 : Int), (K.f.dm = K1 ∧ K.f.dn = K2 ∧ Wl.bs K.f.last = K3 ∧ K.f.am = K4 ∧ K.f.an = K5 ∧ K.f.has = K6 ∧ K.f.slash = K7 ∧ K.why = why3) := ⟨_, _, _, _, _, _, _, _, rfl, rfl, rfl, rfl, rfl, rfl, rfl, rfl⟩
          obtain ⟨N1, N2, N3, N4, N5, N6, N7, why4, hNN⟩ : ∃ (N1 N2 : Int) (N3 : ByteArray) (N4 N5 : Int) (N6 N7 : Bool) (why4 : Int), (N.f.dm = N1 ∧ N.f.dn = N2 ∧ Wl.bs N.f.last = N3 ∧ N.f.am = N4 ∧ N.f.an = N5 ∧ N.f.has = N6 ∧ N.f.slash = N7 ∧ N.why = why4) := ⟨_, _, _, _, _, _, _, _, rfl, rfl, rfl, rfl, rfl, rfl, rfl, rfl⟩
          have HW3 : Hid (∀ W', (∃ L', Bv t m r R l0 l1 yb yc cu cg 201 50 w W' T M rs L') → Calls Tryz.prog 27 #[P0 t, P0 m, .agg #[I 0, I 1], .agg #[I F4, I F5], .agg #[I cu, I cg], .string s2, .bool true] W' fun e w' => e = .returned (.tuple #[.agg #[I K1, I K2, .string K3, I K4, I K5, .bool K6, .bool K7], I why3]) ∧ Below W'.heap.size W' w') := hide fun W' ⟨_, Z⟩ => by
            have h := walk_V Z (by omega) (unhide HI) cu cg F4 F5 hwf s2 true K hK
            obtain ⟨rfl, rfl, rfl, rfl, rfl, rfl, rfl, rfl⟩ := hKK
            exact h
          have HW4 : Hid (∀ W', (∃ L', Bv t m r R l0 l1 yb yc cu cg 201 50 w W' T M rs L') → Calls Tryz.prog 27 #[P0 t, P0 m, .agg #[I 0, I 1], .agg #[I F4, I F5], .agg #[I cu, I cg], .string p4, .bool true] W' fun e w' => e = .returned (.tuple #[.agg #[I N1, I N2, .string N3, I N4, I N5, .bool N6, .bool N7], I why4]) ∧ Below W'.heap.size W' w') := hide fun W' ⟨_, Z⟩ => by
            have h := walk_V Z (by omega) (unhide HI) cu cg F4 F5 hwf p4 true N hN
            obtain ⟨rfl, rfl, rfl, rfl, rfl, rfl, rfl, rfl⟩ := hNN
            exact h
          have HFin : Hid (why2 = 46 ∨ ((G1 = K1 ∧ G2 = K2 ∧ G3 = K3 ∧ G4 = K4 ∧ G5 = K5 ∧ G6 = K6 ∧ G7 = K7) ∧ why2 = why3 ∧ ((N1 = K1 ∧ N2 = K2 ∧ N3 = K3 ∧ N4 = K4 ∧ N5 = K5 ∧ N6 = K6 ∧ N7 = K7 ∧ why4 = why3) ∨ why4 = 34))) := hide (by
            obtain ⟨rfl, rfl, rfl, rfl, rfl, rfl, rfl, rfl⟩ := unhide HGG
            obtain ⟨rfl, rfl, rfl, rfl, rfl, rfl, rfl, rfl⟩ := hKK
            obtain ⟨rfl, rfl, rfl, rfl, rfl, rfl, rfl, rfl⟩ := hNN
            rcases hT3 with h | ⟨h, g, h3 | h3⟩
            · exact .inl h
            · exact .inr ⟨by rw [h]; exact ⟨rfl, rfl, rfl, rfl, rfl, rfl, rfl⟩, g, .inl (by rw [h3.1, h3.2]; exact ⟨rfl, rfl, rfl, rfl, rfl, rfl, rfl, rfl⟩)⟩
            · exact .inr ⟨by rw [h]; exact ⟨rfl, rfl, rfl, rfl, rfl, rfl, rfl⟩, g, .inr h3⟩)
          clear hT3 hT2 hKK hNN hK hN e4 e5 hk1 HFF HGG HT2 HT1
          go_wp2_with fail
          go_upto_region 16 with fail
          have HY := hide (unhide HZ).drew
          obtain ⟨⟨b0, b1, b2, b3⟩, c0, c1⟩ := (unhide HZ).cells; obtain ⟨-, -, -, a3, a4, -⟩ := cellsF ((unhide HZ).l (q1, #[I F1, I F2, .string F3, I F4, I F5, .bool true, .bool F7], 59) (by simp)).1
          go_cut [18, 19] from 101 to 113 (fun a v wd => ∃ q : Nat, a = .pointer (some ⟨q, 0, none⟩) ∧ v = I why3 ∧ Bv t m r R l0 l1 yb yc cu cg 201 50 w wd T M rs [(q, #[I K1, I K2, .string K3, I K4, I K5, .bool K6, .bool K7], 59), (q2, #[I G1, I G2, .string G3, I G4, I G5, .bool G6, .bool G7], 59), (q1, #[I F1, I F2, .string F3, I F4, I F5, .bool true, .bool F7], 59)])
          case first =>
            go_region_held3 (fun w' => w'.cell? ⟨yb, 0, none⟩ = some (P0 t) ∧ w'.cell? ⟨yb, 1, none⟩ = some (P0 m) ∧ w'.cell? ⟨yc, 0, none⟩ = some (I cu) ∧ w'.cell? ⟨yc, 1, none⟩ = some (I cg) ∧ w'.cell? ⟨q1, 3, none⟩ = some (I F4) ∧ w'.cell? ⟨q1, 4, none⟩ = some (I F5)) (go_keep)
              (first
                | (go_at_call 28; refine (unhide HTop _).mono ?_; rintro e z1 ⟨rfl, hz⟩; (first | (have HF := hide ((unhide HF).below hz)) | (have HF := hide (bv_new_d (cs := #[I 0, I 0, .string ⟨#[]⟩, I 0, I 0, .bool false, .bool false]) lonv_found (unhide HZ) hz)) | (have HF := hide (bv_new (cs := #[I 0, I 0, .string ⟨#[]⟩, I 0, I 0, .bool false, .bool false]) lonv_found (unhide HY) hz)) | (have HY := hide ((unhide HY).below hz))); (first | (obtain ⟨⟨b0, b1, b2, b3⟩, c0, c1⟩ := (unhide HF).cells; obtain ⟨-, -, -, a3, a4, -⟩ := cellsF ((unhide HF).l (q1, #[I F1, I F2, .string F3, I F4, I F5, .bool true, .bool F7], 59) (by simp)).1) | (obtain ⟨⟨b0, b1, b2, b3⟩, c0, c1⟩ := (unhide HY).cells; obtain ⟨-, -, -, a3, a4, -⟩ := cellsF ((unhide HY).l (q1, #[I F1, I F2, .string F3, I F4, I F5, .bool true, .bool F7], 59) (by simp)).1)))
                | (go_at_call 27; refine (unhide HW3 _ ?_).mono ?_; (first | exact ⟨_, unhide HF⟩ | exact ⟨_, unhide HY⟩ | exact ⟨_, (unhide HY).more (cs := #[I 0, I 0, .string ⟨#[]⟩, I 0, I 0, .bool false, .bool false]) lonv_found⟩); rintro e z3 ⟨rfl, hz⟩; (first | (have HF := hide ((unhide HF).below hz)) | (have HF := hide (bv_new_d (cs := #[I 0, I 0, .string ⟨#[]⟩, I 0, I 0, .bool false, .bool false]) lonv_found (unhide HZ) hz)) | (have HF := hide (bv_new (cs := #[I 0, I 0, .string ⟨#[]⟩, I 0, I 0, .bool false, .bool false]) lonv_found (unhide HY) hz)) | (have HY := hide ((unhide HY).below hz))); (first | (obtain ⟨⟨b0, b1, b2, b3⟩, c0, c1⟩ := (unhide HF).cells; obtain ⟨-, -, -, a3, a4, -⟩ := cellsF ((unhide HF).l (q1, #[I F1, I F2, .string F3, I F4, I F5, .bool true, .bool F7], 59) (by simp)).1; obtain ⟨X1, X2, X3, X4, X5, X6, X7, ⟨e1, e2, e3, e4, e5, e6, e7⟩, ⟨g0, g1, g2, g3, g4, g5, g6⟩, ⟨k0, k1, k2, k3, k4, k5, k6⟩, HX7⟩ := (unhide HF).store7 (I K1) (I K2) (.string K3) (I K4) (I K5) (.bool K6) (.bool K7); obtain ⟨⟨b0, b1, b2, b3⟩, c0, c1⟩ := (unhide HX7).cells; obtain ⟨-, -, -, a3, a4, -⟩ := cellsF ((unhide HX7).l (q1, #[I F1, I F2, .string F3, I F4, I F5, .bool true, .bool F7], 59) (by simp)).1) | (obtain ⟨⟨b0, b1, b2, b3⟩, c0, c1⟩ := (unhide HY).cells; obtain ⟨-, -, -, a3, a4, -⟩ := cellsF ((unhide HY).l (q1, #[I F1, I F2, .string F3, I F4, I F5, .bool true, .bool F7], 59) (by simp)).1; obtain ⟨A0, hA0, HFA⟩ := bv_alloc (cs := #[I 0, I 0, .string ⟨#[]⟩, I 0, I 0, .bool false, .bool false]) lonv_found (unhide HY); obtain ⟨⟨b0, b1, b2, b3⟩, c0, c1⟩ := (HFA).cells; obtain ⟨-, -, -, a3, a4, -⟩ := cellsF ((HFA).l (q1, #[I F1, I F2, .string F3, I F4, I F5, .bool true, .bool F7], 59) (by simp)).1; obtain ⟨X1, X2, X3, X4, X5, X6, X7, ⟨e1, e2, e3, e4, e5, e6, e7⟩, ⟨g0, g1, g2, g3, g4, g5, g6⟩, ⟨k0, k1, k2, k3, k4, k5, k6⟩, HX7⟩ := HFA.store7 (I K1) (I K2) (.string K3) (I K4) (I K5) (.bool K6) (.bool K7); clear HFA; obtain ⟨⟨b0, b1, b2, b3⟩, c0, c1⟩ := (unhide HX7).cells; obtain ⟨-, -, -, a3, a4, -⟩ := cellsF ((unhide HX7).l (q1, #[I F1, I F2, .string F3, I F4, I F5, .bool true, .bool F7], 59) (by simp)).1))))
            all_goals
              go_wp2_with fail
              go_meet
              case rel => exact ⟨_, rfl, rfl, unhide HX7⟩
          case rest =>
            clear HY HZ b0 b1 b2 b3 c0 c1 HW3 a3 a4
            obtain ⟨q3, rfl, rfl, Z⟩ := hcut
            have HZ := hide Z
            clear Z
            go_wp2_with fail
            go_upto_region 17 with fail
            have HY := hide (unhide HZ).drew
            obtain ⟨⟨b0, b1, b2, b3⟩, c0, c1⟩ := (unhide HZ).cells; obtain ⟨-, -, -, a3, a4, -⟩ := cellsF ((unhide HZ).l (q1, #[I F1, I F2, .string F3, I F4, I F5, .bool true, .bool F7], 59) (by simp)).1
            go_cut [20, 21] from 114 to 127 (fun a v wd => ∃ q : Nat, a = .pointer (some ⟨q, 0, none⟩) ∧ v = I why4 ∧ Bv t m r R l0 l1 yb yc cu cg 201 50 w wd T M rs [(q, #[I N1, I N2, .string N3, I N4, I N5, .bool N6, .bool N7], 59), (q3, #[I K1, I K2, .string K3, I K4, I K5, .bool K6, .bool K7], 59), (q2, #[I G1, I G2, .string G3, I G4, I G5, .bool G6, .bool G7], 59), (q1, #[I F1, I F2, .string F3, I F4, I F5, .bool true, .bool F7], 59)])
            case first =>
              go_region_held3 (fun w' => w'.cell? ⟨yb, 0, none⟩ = some (P0 t) ∧ w'.cell? ⟨yb, 1, none⟩ = some (P0 m) ∧ w'.cell? ⟨yc, 0, none⟩ = some (I cu) ∧ w'.cell? ⟨yc, 1, none⟩ = some (I cg) ∧ w'.cell? ⟨q1, 3, none⟩ = some (I F4) ∧ w'.cell? ⟨q1, 4, none⟩ = some (I F5)) (go_keep)
                (first
                  | (go_at_call 28; refine (unhide HTop _).mono ?_; rintro e z1 ⟨rfl, hz⟩; (first | (have HF := hide ((unhide HF).below hz)) | (have HF := hide (bv_new_d (cs := #[I 0, I 0, .string ⟨#[]⟩, I 0, I 0, .bool false, .bool false]) lonv_found (unhide HZ) hz)) | (have HF := hide (bv_new (cs := #[I 0, I 0, .string ⟨#[]⟩, I 0, I 0, .bool false, .bool false]) lonv_found (unhide HY) hz)) | (have HY := hide ((unhide HY).below hz))); (first | (obtain ⟨⟨b0, b1, b2, b3⟩, c0, c1⟩ := (unhide HF).cells; obtain ⟨-, -, -, a3, a4, -⟩ := cellsF ((unhide HF).l (q1, #[I F1, I F2, .string F3, I F4, I F5, .bool true, .bool F7], 59) (by simp)).1) | (obtain ⟨⟨b0, b1, b2, b3⟩, c0, c1⟩ := (unhide HY).cells; obtain ⟨-, -, -, a3, a4, -⟩ := cellsF ((unhide HY).l (q1, #[I F1, I F2, .string F3, I F4, I F5, .bool true, .bool F7], 59) (by simp)).1)))
                  | (go_at_call 27; refine (unhide HW4 _ ?_).mono ?_; (first | exact ⟨_, unhide HF⟩ | exact ⟨_, unhide HY⟩ | exact ⟨_, (unhide HY).more (cs := #[I 0, I 0, .string ⟨#[]⟩, I 0, I 0, .bool false, .bool false]) lonv_found⟩); rintro e z3 ⟨rfl, hz⟩; (first | (have HF := hide ((unhide HF).below hz)) | (have HF := hide (bv_new_d (cs := #[I 0, I 0, .string ⟨#[]⟩, I 0, I 0, .bool false, .bool false]) lonv_found (unhide HZ) hz)) | (have HF := hide (bv_new (cs := #[I 0, I 0, .string ⟨#[]⟩, I 0, I 0, .bool false, .bool false]) lonv_found (unhide HY) hz)) | (have HY := hide ((unhide HY).below hz))); (first | (obtain ⟨⟨b0, b1, b2, b3⟩, c0, c1⟩ := (unhide HF).cells; obtain ⟨-, -, -, a3, a4, -⟩ := cellsF ((unhide HF).l (q1, #[I F1, I F2, .string F3, I F4, I F5, .bool true, .bool F7], 59) (by simp)).1; obtain ⟨X1, X2, X3, X4, X5, X6, X7, ⟨e1, e2, e3, e4, e5, e6, e7⟩, ⟨g0, g1, g2, g3, g4, g5, g6⟩, ⟨k0, k1, k2, k3, k4, k5, k6⟩, HX7⟩ := (unhide HF).store7 (I N1) (I N2) (.string N3) (I N4) (I N5) (.bool N6) (.bool N7); obtain ⟨⟨b0, b1, b2, b3⟩, c0, c1⟩ := (unhide HX7).cells; obtain ⟨-, -, -, a3, a4, -⟩ := cellsF ((unhide HX7).l (q1, #[I F1, I F2, .string F3, I F4, I F5, .bool true, .bool F7], 59) (by simp)).1) | (obtain ⟨⟨b0, b1, b2, b3⟩, c0, c1⟩ := (unhide HY).cells; obtain ⟨-, -, -, a3, a4, -⟩ := cellsF ((unhide HY).l (q1, #[I F1, I F2, .string F3, I F4, I F5, .bool true, .bool F7], 59) (by simp)).1; obtain ⟨A0, hA0, HFA⟩ := bv_alloc (cs := #[I 0, I 0, .string ⟨#[]⟩, I 0, I 0, .bool false, .bool false]) lonv_found (unhide HY); obtain ⟨⟨b0, b1, b2, b3⟩, c0, c1⟩ := (HFA).cells; obtain ⟨-, -, -, a3, a4, -⟩ := cellsF ((HFA).l (q1, #[I F1, I F2, .string F3, I F4, I F5, .bool true, .bool F7], 59) (by simp)).1; obtain ⟨X1, X2, X3, X4, X5, X6, X7, ⟨e1, e2, e3, e4, e5, e6, e7⟩, ⟨g0, g1, g2, g3, g4, g5, g6⟩, ⟨k0, k1, k2, k3, k4, k5, k6⟩, HX7⟩ := HFA.store7 (I N1) (I N2) (.string N3) (I N4) (I N5) (.bool N6) (.bool N7); clear HFA; obtain ⟨⟨b0, b1, b2, b3⟩, c0, c1⟩ := (unhide HX7).cells; obtain ⟨-, -, -, a3, a4, -⟩ := cellsF ((unhide HX7).l (q1, #[I F1, I F2, .string F3, I F4, I F5, .bool true, .bool F7], 59) (by simp)).1))))
              all_goals
                go_wp2_with fail
                go_meet
                case rel => exact ⟨_, rfl, rfl, unhide HX7⟩
            case rest =>
              clear HY HZ b0 b1 b2 b3 c0 c1 HW4 a3 a4
              obtain ⟨q4, rfl, rfl, Z⟩ := hcut
              have HZ := hide Z
              clear Z
              rcases unhide HFin with rfl | ⟨⟨rfl, rfl, rfl, rfl, rfl, rfl, rfl⟩, rfl, hfin⟩
              · go_wp2_with (go_at_call 33; refine (unhide HKn _).mono ?_; rintro e z5 ⟨rfl, hz5⟩)
                go_ret
                exact ⟨rfl, unhide HE _ _ (unhide HZ).s.be hz5⟩
              · clear HFin
                by_cases h46 : why2 = 46
                · subst h46
                  go_wp2_with (go_at_call 33; refine (unhide HKn _).mono ?_; rintro e z5 ⟨rfl, hz5⟩)
                  go_ret
                  exact ⟨rfl, unhide HE _ _ (unhide HZ).s.be hz5⟩
                have h46a : (why2 == 46) = false := by simpa using h46
                by_cases h46n : why4 = 46
                · subst h46n
                  go_wp2_with (go_at_call 33; refine (unhide HKn _).mono ?_; rintro e z5 ⟨rfl, hz5⟩)
                  go_ret
                  exact ⟨rfl, unhide HE _ _ (unhide HZ).s.be hz5⟩
                have h46b : (why4 == 46) = false := by simpa using h46n
                obtain ⟨r0, r1, r2, r3, r4, r5, r6, -⟩ := cellsF ((unhide HZ).l (q2, #[I G1, I G2, .string G3, I G4, I G5, .bool G6, .bool G7], 59) (by simp)).1
                obtain ⟨o0, o1, o2, o3, o4, o5, o6, -⟩ := cellsF ((unhide HZ).l (q3, #[I G1, I G2, .string G3, I G4, I G5, .bool G6, .bool G7], 59) (by simp)).1
                obtain ⟨n0, n1, n2, n3, n4, n5, n6, -⟩ := cellsF ((unhide HZ).l (q4, #[I N1, I N2, .string N3, I N4, I N5, .bool N6, .bool N7], 59) (by simp)).1
                rcases hfin with ⟨rfl, rfl, rfl, rfl, rfl, rfl, rfl, rfl⟩ | rfl
                · go_wp2_with (go_at_call 33; refine (unhide HKn _).mono ?_; rintro e z5 ⟨rfl, hz5⟩)
                  go_ret
                  exact ⟨rfl, unhide HE _ _ (unhide HZ).s.be hz5⟩
                · go_wp2_with (go_at_call 33; refine (unhide HKn _).mono ?_; rintro e z5 ⟨rfl, hz5⟩)
                  all_goals
                    go_ret
                    exact ⟨rfl, unhide HE _ _ (unhide HZ).s.be hz5⟩
end Go.Proofs.YtlngeaacjbdmhaaGreat.Bt

namespace Go.Proofs.YtlngeaacjbdmhaaGreat.Bt
open Go.ChangeShapes Go.WideShapes Go.ChangeAt Go.RowKit
theorem cred_of {H : Type} {enc : TypeId × Value → H} {w : World} {r : Reach} {base : Nat} {held : Bool} {v : Value} {d : DataW H} {ps : List MemPlace}
    (hv : Value.okWide Tryz.prog w r base 57 v) (h : DataW.Trod enc Tryz.prog w 0 (fun _ => true) held 57 v d ps) : ∃ u g, v = .agg #[I u, I g] ∧ Iw u ∧ Iw g := by
  obtain ⟨cs, rfl, hs⟩ := okWide_struct Tryz.underlying57 hv
  rw [cellsC] at hs
  obtain ⟨fuel, hf⟩ := h
  obtain ⟨xs, k, hk, hxy, _, hxl, hf⟩ := DataW.trod_struct Tryz.underlying57 hf
  match xs, hxl, cs, hs with
  | [y0, y1], _, ⟨[v0, v1]⟩, _ =>
    have g0 := hf 0 _ rfl
    have g1 := hf 1 _ rfl
    simp [cells3, Value.cells] at g0 g1
    obtain ⟨n0, e0, _, m0⟩ := DataW.trod_int Tryz.underlying3 g0
    obtain ⟨n1, e1, _, m1⟩ := DataW.trod_int Tryz.underlying3 g1
    simp at e0 e1
    subst e0 e1
    exact ⟨_, _, rfl, iw_of m0, iw_of m1⟩
end Go.Proofs.YtlngeaacjbdmhaaGreat.Bt
