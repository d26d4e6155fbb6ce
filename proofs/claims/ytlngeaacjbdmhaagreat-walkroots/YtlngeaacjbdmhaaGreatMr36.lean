/-
  The walk of WalkRoots.
-/
import Derived.Test.YtlngeaacjbdmhaaGreatMr34
import Derived.Deep.CutRange
import Derived.Deep.CutBlock
import Derived.Test.YtlngeaacjbdmhaaGreatMr35
import Derived.BigRegion
import Derived.OpenShut
namespace Go.Proofs.YtlngeaacjbdmhaaGreat.Bt
open Go.RowKit
attribute [local go_sem ↓] Go.wp_at_zero Go.wp_at_succ
theorem bw_cells {t m r R l0 l1 yb yc yf B : Nat} {cu cg fm fn K : Int} {w W : World} {L : List (Nat × Array Value × TypeId)} (h : ∃ T' M' rs', Inv T' M' ∧ Bw t m r R l0 l1 yb yc yf cu cg fm fn B K w W T' M' rs' L) : (W.cell? ⟨yb, 0, none⟩ = some (P0 t) ∧ W.cell? ⟨yb, 1, none⟩ = some (P0 m) ∧ W.cell? ⟨yb, 2, none⟩ = some (P0 r) ∧ W.cell? ⟨yb, 3, none⟩ = some (P0 (R + 1))) ∧ Below w.heap.size w W := by
  obtain ⟨T', M', rs', -, h⟩ := h
  exact ⟨h.cells.1, h.s.be⟩
theorem Bw.drop {t m r R l0 l1 yb yc yf B : Nat} {cu cg fm fn K : Int} {w W : World} {T : Tr} {M : Mt.T} {rs : List Mt.Rm} {c : Nat × Array Value × TypeId} {L : List (Nat × Array Value × TypeId)} (h : Bw t m r R l0 l1 yb yc yf cu cg fm fn B K w W T M rs (c :: L)) : Bw t m r R l0 l1 yb yc yf cu cg fm fn B K w W T M rs L := ⟨h.s, h.hb, h.hc, h.hf, h.yl, fun d hd => h.l d (List.mem_cons_of_mem _ hd), by have := h.nd; rw [List.map_cons, List.nodup_cons] at this; exact this.2⟩
theorem field_place (a b : Int) (w : World) : Sem.run Tryz.prog (Instr.field 50 (.agg #[I a, I b]) 1) w = .ok (I b) w := by kernel_rfl
theorem ups_app (k : Nat) : Wl.bs (Wl.ups k) ++ (⟨#[46, 46, 47]⟩ : ByteArray) = Wl.bs (Wl.ups (k + 1)) := by
  apply ByteArray.ext
  apply Array.ext'
  simp [Wl.ups]
theorem ups_len : ∀ k, k ≤ 9 → (Wl.bs (Wl.ups k)).size ≤ 40 := by
  intro k hk
  match k, hk with
  | 0, _ => decide
  | 1, _ => decide
  | 2, _ => decide
  | 3, _ => decide
  | 4, _ => decide
  | 5, _ => decide
  | 6, _ => decide
  | 7, _ => decide
  | 8, _ => decide
  | 9, _ => decide
theorem bw3 {t m r R l0 l1 yb yc yf B q1 q2 q3 : Nat} {cu cg fm fn K : Int} {w W : World} {T : Tr} {M : Mt.T} {rs : List Mt.Rm} {c1 c2 c3 : Array Value} {t1 t2 t3 : TypeId} (h : Bw t m r R l0 l1 yb yc yf cu cg fm fn B K w W T M rs [(q3, c3, t3), (q2, c2, t2), (q1, c1, t1)]) : W.heap[q1]? = some (.cells c1 t1) ∧ W.heap[q2]? = some (.cells c2 t2) ∧ W.heap[q3]? = some (.cells c3 t3) := ⟨(h.l (q1, c1, t1) (by simp)).1, (h.l (q2, c2, t2) (by simp)).1, (h.l (q3, c3, t3) (by simp)).1⟩
set_option maxRecDepth 100000 in
set_option maxHeartbeats 16000000 in
theorem roots_walk (pa : Option Addr) (len cap : Nat) (cu cg : Int) (pb : Option Addr) (len2 cap2 : Nat) (fm0 fn0 : Int) (up : Int) (w : World) (ha : ActsAt w pa len) (hb2 : IntsAt w pb len2) :
    Calls Tryz.prog 9 #[.slice pa len cap, .agg #[I cu, I cg], .slice pb len2 cap2, .agg #[I fm0, I fn0], I up] w fun e w' => e = .returned (.bool true) ∧ Below w.heap.size w w' := by
  have hlen : (len : Int) ≤ 9223372036854775807 := by have := ha.1; omega
  obtain ⟨V, hV, hc, hf, hB⟩ : ∃ V, (w.alloc (.cells #[I cu, I cg] 57)).alloc (.cells #[I fm0, I fn0] 50) = V ∧ V.heap[w.heap.size]? = some (.cells #[I cu, I cg] 57) ∧ V.heap[w.heap.size + 1]? = some (.cells #[I fm0, I fn0] 50) ∧ Below w.heap.size w V := by
    have h1 : Below w.heap.size w (w.alloc (.cells #[I cu, I cg] 57)) := (Below.refl _ _).alloc (Nat.le_refl _) _
    refine ⟨_, rfl, ?_, ?_, h1.alloc (by simp) _⟩
    · exact (Below.heap_alloc _ _ _ (by simp)).trans (heap_alloc_new w _)
    · have := heap_alloc_new (w.alloc (.cells #[I cu, I cg] 57)) (.cells #[I fm0, I fn0] 50)
      simpa using this
  have HA := hide ha
  have HI2 := hide hb2
  have HC := hide (⟨hc, hf⟩ : _ ∧ _)
  have HB := hide hB
  have HTop := hide Wl.top_any
  have HKn := hide Wl.known_any
  have HWi := hide Mt.within_any
  clear ha hb2 hc hf hB
  go_enter Tryz.func9, Tryz.ntmps9
  go_wp2_with fail
  refine (new_any V).mono ?_
  rintro e w1 ⟨t, m, r, R, l0, l1, rfl, S1⟩
  have HZ : Hid (Bw t m r R l0 l1 w1.heap.size w.heap.size (w.heap.size + 1) cu cg fm0 fn0 1 0 w (w1.alloc (.cells #[P0 t, P0 m, P0 r, P0 (R + 1)] 46)) (Tr.new 40 20) ⟨1, 0, []⟩ [⟨0, 0, 1, true⟩] []) := by
    have s := (unhide S1).rebase (unhide HB)
    have g : Below w1.heap.size w1 (w1.alloc (.cells #[P0 t, P0 m, P0 r, P0 (R + 1)] 46)) := (Below.refl _ _).alloc (Nat.le_refl _) _
    have h1 := ((unhide S1).be.block _ (lt_of_heap (unhide HC).1)).trans (unhide HC).1
    have h2 := ((unhide S1).be.block _ (lt_of_heap (unhide HC).2)).trans (unhide HC).2
    exact hide ⟨s.below g, heap_alloc_new w1 _, (g.block _ (lt_of_heap h1)).trans h1, (g.block _ (lt_of_heap h2)).trans h2, by omega, by simp, by simp⟩
  clear S1 HC HB
  generalize hyb : w1.heap.size = yb at HZ
  generalize hyc : w.heap.size = yc at HZ
  generalize hyf : yc + 1 = yf at HZ
  go_upto_block 0 with fail
  clear hyb hyf hyc hV
  go_cut [] from 13 to 47 (fun wc => ∃ (T : Tr) (M : Mt.T) (rs : List Mt.Rm), Inv T M ∧ Bw t m r R l0 l1 yb yc yf cu cg fm0 fn0 201 50 w wc T M rs [])
  case first =>
    go_wp2_with fail
    go_loopw [13] (fun v wr => ∃ (k : Nat) (T : Tr) (M : Mt.T) (rs : List Mt.Rm), v = I k ∧ k ≤ 50 ∧ k ≤ len ∧ Hid (Inv T M ∧ Bw t m r R l0 l1 yb yc yf cu cg fm0 fn0 (1 + 4 * k) (k : Int) w wr T M rs [])) (fun v _ => 50 - (intOf v).toNat)
    case atStart => exact ⟨0, _, _, _, rfl, by omega, by omega, hide ⟨Inv.new, unhide HZ⟩⟩
    case round =>
      clear HZ
      obtain ⟨k, T, M, rs, rfl, hk, hkl, HZ⟩ := hrel
      by_cases hc : k < len ∧ k < 50
      · obtain ⟨b, off, x, rfl, hb, A⟩ := (unhide HA).2 k hc.1
        have j1 : (k : Int) < (len : Int) := by omega
        have j2 : (k : Int) < 50 := by omega
        have j0 : (0 : Int) ≤ (k : Int) := by omega
        have HK : Hid (∀ W', Below w.heap.size w W' → W'.cell? ⟨b, off + k * 15, none⟩ = some (I x.kind) ∧ W'.cell? ⟨b, off + k * 15 + 1, none⟩ = some (I x.dir) ∧ W'.cell? ⟨b, off + k * 15 + 2, none⟩ = some (I x.tq) ∧ W'.cell? ⟨b, off + k * 15 + 3, none⟩ = some (I x.n) ∧ W'.cell? ⟨b, off + k * 15 + 4, none⟩ = some (.string x.s) ∧ W'.cell? ⟨b, off + k * 15 + 5, none⟩ = some (.string x.ad) ∧ W'.cell? ⟨b, off + k * 15 + 6, none⟩ = some (I x.sn) ∧ W'.cell? ⟨b, off + k * 15 + 7, none⟩ = some (I x.kd) ∧ W'.cell? ⟨b, off + k * 15 + 8, none⟩ = some (I x.mo) ∧ W'.cell? ⟨b, off + k * 15 + 9, none⟩ = some (I x.ui) ∧ W'.cell? ⟨b, off + k * 15 + 10, none⟩ = some (I x.gi) ∧ W'.cell? ⟨b, off + k * 15 + 11, none⟩ = some (I x.li) ∧ W'.cell? ⟨b, off + k * 15 + 12, none⟩ = some (I x.si) ∧ W'.cell? ⟨b, off + k * 15 + 13, none⟩ = some (I x.am) ∧ W'.cell? ⟨b, off + k * 15 + 14, none⟩ = some (I x.an)) := hide fun W' g => act_cells A hb g
        have HTm := hide (fun W' => tame_any x A.w W')
        clear A hb hc
        obtain ⟨kind, dir, tq, n, s, ad, sn, kd, mo, ui, gi, li, si, am, an⟩ := x
        simp only at HK
        simp only [Ac.v, Ac.cs] at HTm
        obtain ⟨b0, b1, b2, b3⟩ := (unhide HZ).2.cells.1
        obtain ⟨x0, x1, x2, x3, x4, x5, x6, x7, x8, x9, x10, x11, x12, x13, x14⟩ := unhide HK wr (unhide HZ).2.s.be
        go_wp2_with fail
        go_region_held3 (fun w' => w'.cell? ⟨yb, 0, none⟩ = some (P0 t) ∧ w'.cell? ⟨yb, 1, none⟩ = some (P0 m) ∧ w'.cell? ⟨yb, 2, none⟩ = some (P0 r) ∧ w'.cell? ⟨yb, 3, none⟩ = some (P0 (R + 1)) ∧ w'.cell? ⟨b, off + k * 15, none⟩ = some (I kind) ∧ w'.cell? ⟨b, off + k * 15 + 1, none⟩ = some (I dir) ∧ w'.cell? ⟨b, off + k * 15 + 2, none⟩ = some (I tq) ∧ w'.cell? ⟨b, off + k * 15 + 3, none⟩ = some (I n) ∧ w'.cell? ⟨b, off + k * 15 + 4, none⟩ = some (.string s) ∧ w'.cell? ⟨b, off + k * 15 + 5, none⟩ = some (.string ad) ∧ w'.cell? ⟨b, off + k * 15 + 6, none⟩ = some (I sn) ∧ w'.cell? ⟨b, off + k * 15 + 7, none⟩ = some (I kd) ∧ w'.cell? ⟨b, off + k * 15 + 8, none⟩ = some (I mo) ∧ w'.cell? ⟨b, off + k * 15 + 9, none⟩ = some (I ui) ∧ w'.cell? ⟨b, off + k * 15 + 10, none⟩ = some (I gi) ∧ w'.cell? ⟨b, off + k * 15 + 11, none⟩ = some (I li) ∧ w'.cell? ⟨b, off + k * 15 + 12, none⟩ = some (I si) ∧ w'.cell? ⟨b, off + k * 15 + 13, none⟩ = some (I am) ∧ w'.cell? ⟨b, off + k * 15 + 14, none⟩ = some (I an)) (go_keep)
          (first
            | (go_at_call 34; refine (unhide HTm wr.drew).mono ?_; rintro e u1 ⟨x', rfl, G1⟩; have HZ1 := hide ((unhide HZ).2.drew.below (unhide G1).2.2); obtain ⟨b0, b1, b2, b3⟩ := (unhide HZ1).cells.1; obtain ⟨x0, x1, x2, x3, x4, x5, x6, x7, x8, x9, x10, x11, x12, x13, x14⟩ := unhide HK u1 (unhide HZ1).s.be)
            | (go_at_call 26; refine (do_any (unhide HZ1).s (by omega) (by omega) x' (unhide G1).2.1).mono ?_; rintro e u2 ⟨rfl, G2⟩; have HZ2 : Hid (∃ T' M' rs', Inv T' M' ∧ Bw t m r R l0 l1 yb yc yf cu cg fm0 fn0 (1 + 4 * k + 4) ((k : Int) + 1) w u2 T' M' rs' []) := hide (by
                obtain ⟨T', M', rs', g1, g2, g3⟩ := unhide G2
                exact ⟨T', M', rs', (unhide HZ).1.step (unhide G1).1 g1, (unhide HZ1).step g2 g3⟩); obtain ⟨⟨b0, b1, b2, b3⟩, BE⟩ := bw_cells (unhide HZ2); obtain ⟨x0, x1, x2, x3, x4, x5, x6, x7, x8, x9, x10, x11, x12, x13, x14⟩ := unhide HK u2 BE))
        all_goals
          go_wp2_with fail
          obtain ⟨T', M', rs', i1, i2⟩ := unhide HZ2
          exact ⟨⟨k + 1, T', M', rs', by simp, by omega, by omega, hide ⟨i1, by simpa [Nat.mul_add, Nat.add_assoc] using i2⟩⟩, by simp [intOf]; omega⟩
      · by_cases hl : k < len
        · have j1 : (k : Int) < (len : Int) := by omega
          obtain rfl : k = 50 := by omega
          go_wp2_with fail
          go_meet
          case rel => exact ⟨T, M, rs, (unhide HZ).1, (unhide HZ).2⟩
        · have j1 : ¬ ((k : Int) < (len : Int)) := by omega
          go_wp2_with fail
          go_meet
          case rel => exact ⟨T, M, rs, (unhide HZ).1, (unhide HZ).2.mono (by omega) (by omega)⟩
  case rest =>
    clear HZ HA
    obtain ⟨T, M, rs, hI, Z⟩ := hcut
    have HI := hide hI
    have HZ := hide Z
    obtain ⟨-, -, f0, f1⟩ := Z.cells
    have ff0 := frozen_of Z.hf 0
    have ff1 := frozen_of Z.hf 1
    clear hI Z
    go_upto_region 8 with fail
    go_cut [] from 48 to 55 (fun wd => ∃ ra rb : Int, (0 ≤ ra ∧ ra ≤ 2) ∧ (0 ≤ rb ∧ rb ≤ 6) ∧ Bw t m r R l0 l1 yb yc yf cu cg ra (1 + rb) 201 50 w wd T M rs [])
    case first =>
      go_region_with (first
        | (go_at_call_of 23 (I fm0); refine (unhide HWi fm0 2 _ (by decide) (by decide)).mono ?_; rintro e w' ⟨⟨ra, hra, rfl⟩, rfl⟩; have hra1 := hra.1; have hra2 := hra.2)
        | (go_at_call_of 23 (I fn0); refine (unhide HWi fn0 6 _ (by decide) (by decide)).mono ?_; rintro e w' ⟨⟨rb, hrb, rfl⟩, rfl⟩; have hrb1 := hrb.1; have hrb2 := hrb.2))
      all_goals
        go_wp2_with fail
        go_meet
        case rel =>
          refine ⟨ra, rb, hra, hrb, ?_⟩
          have hwr : IntKind.i64.wrap (1 + rb) = 1 + rb := by rw [IntKind.wrap_i64]; omega
          first
            | (rw [hwr]; exact ((unhide HZ).place ra (1 + rb)).drew)
            | exact ((unhide HZ).place ra (1 + rb)).drew
    case rest =>
      clear f0 f1 ff0 ff1 HZ
      obtain ⟨ra, rb, hra, hrb, Z⟩ := hcut
      have HZ := hide Z
      clear Z
      have hfw : (kl (1 + rb)).wf = true := wf_of (by omega)
      generalize hfr : 1 + rb = fr at *
      clear hfr hrb
      have HE : Hid (∀ W' W2 : World, Below w.heap.size w W' → Below W'.heap.size W' W2 → Below w.heap.size w W2) := hide fun W' W2 g h => g.trans (h.mono g.size)
      obtain ⟨pl, hpl⟩ : ∃ b, (Eb T M 0 0 true).place ra fr = b := ⟨_, rfl⟩
      have HPl := hide (place_W (unhide HZ) (by omega) (unhide HI) ra fr hfw pl hpl)
      obtain ⟨⟨b0, b1, b2, b3⟩, ⟨c0, c1⟩, f0, f1⟩ := (unhide HZ).cells
      cases pl with
      | false =>
        go_wp2_with fail
        refine (unhide HPl).mono ?_
        rintro e z1 ⟨rfl, hz1⟩
        have HZ1 := hide ((unhide HZ).below hz1)
        clear hz1
        go_wp2_with (go_at_call 33; refine (unhide HKn _).mono ?_; rintro e z5 ⟨rfl, hz5⟩)
        go_ret
        exact ⟨rfl, unhide HE _ _ (unhide HZ1).s.be hz5⟩
      | true =>
        go_wp2_with fail
        refine (unhide HPl).mono ?_
        rintro e z1 ⟨rfl, hz1⟩
        have HZ1 := hide ((unhide HZ).below hz1)
        have HPL := hide hpl
        clear hz1 HZ HPl b0 b1 b2 b3 c0 c1 f0 f1 hpl
        have HZ := HZ1
        clear HZ1
        obtain ⟨⟨d1, d2⟩, hd⟩ : ∃ x, Mt.down M.md M.es 0 1 = x := ⟨_, rfl⟩
        have hdw : (kl d2).wf = true := by
          have := Wl.down_wf (E := Eb T M 0 0 true) (fun p hp => ((unhide HZ).s.wd (by omega) (unhide HI) 0 0 true).wf p hp) (x := 0) (y := 1) (by decide)
          simp only [Wl.En.down, Eb, hd] at this
          exact this
        have HDn : Hid (∀ W', (∃ L', Bw t m r R l0 l1 yb yc yf cu cg ra fr 201 50 w W' T M rs L') → Calls Tryz.prog 38 #[P0 m, .agg #[I 0, I 1]] W' fun e w' => e = .returned (.agg #[I d1, I d2]) ∧ Below W'.heap.size W' w') := hide fun W' ⟨_, Z⟩ => down_W Z 0 1 d1 d2 hd
        have HSt : Hid (∀ W', (∃ L', Bw t m r R l0 l1 yb yc yf cu cg ra fr 201 50 w W' T M rs L') → Calls Tryz.prog 37 #[P0 t, I d2] W' fun e w' => ∃ (a0 mo u g l z : Int) (f : Bool), e = .returned (.tuple #[.agg #[I a0, I (T.kindOf d2), I mo, I u, I g, I l, I z], .bool f]) ∧ Below W'.heap.size W' w') := hide fun W' ⟨_, Z⟩ => stat_W Z (by omega) d2 hdw
        obtain ⟨kk, hkk⟩ : ∃ x, T.kindOf d2 = x := ⟨_, rfl⟩
        rw [hkk] at HSt
        have HKK := hide hkk
        have HDD := hide hd
        clear hkk hd
        have hfield := field_place d1 d2
        go_wp2_with fail
        go_upto_region 11 with fail
        have HY := hide (unhide HZ).drew
        obtain ⟨⟨b0, b1, b2, b3⟩, ⟨c0, c1⟩, f0, f1⟩ := (unhide HZ).cells
        go_cut [14, 15] from 64 to 74 (fun a _ wd => ∃ (q : Nat) (a0 mo u g l z : Int), a = .pointer (some ⟨q, 0, none⟩) ∧ Bw t m r R l0 l1 yb yc yf cu cg ra fr 201 50 w wd T M rs [(q, #[I a0, I kk, I mo, I u, I g, I l, I z], 33)])
        case first =>
          go_region_held3 (fun w' => w'.cell? ⟨yb, 0, none⟩ = some (P0 t) ∧ w'.cell? ⟨yb, 1, none⟩ = some (P0 m) ∧ w'.cell? ⟨yc, 0, none⟩ = some (I cu) ∧ w'.cell? ⟨yc, 1, none⟩ = some (I cg) ∧ w'.cell? ⟨yf, 0, none⟩ = some (I ra) ∧ w'.cell? ⟨yf, 1, none⟩ = some (I fr)) (go_keep)
            (first
              | (go_at_call 28; refine (unhide HTop _).mono ?_; rintro e z1 ⟨rfl, hz⟩; (first | (have HF := hide ((unhide HF).below hz)) | (have HF := hide (bw_new_d (cs := #[I 0, I 0, I 0, I 0, I 0, I 0, I 0]) lone_stat (unhide HZ) hz)) | (have HF := hide (bw_new (cs := #[I 0, I 0, I 0, I 0, I 0, I 0, I 0]) lone_stat (unhide HY) hz)) | (have HY := hide ((unhide HY).below hz))); (first | (obtain ⟨⟨b0, b1, b2, b3⟩, ⟨c0, c1⟩, f0, f1⟩ := (unhide HF).cells) | (obtain ⟨⟨b0, b1, b2, b3⟩, ⟨c0, c1⟩, f0, f1⟩ := (unhide HY).cells)))
              | (go_at_call 38; refine (unhide HDn _ ?_).mono ?_; (first | exact ⟨_, unhide HF⟩ | exact ⟨_, unhide HY⟩ | exact ⟨_, (unhide HY).more (cs := #[I 0, I 0, I 0, I 0, I 0, I 0, I 0]) lone_stat⟩); rintro e z2 ⟨rfl, hz⟩; (first | (have HF := hide ((unhide HF).below hz)) | (have HF := hide (bw_new_d (cs := #[I 0, I 0, I 0, I 0, I 0, I 0, I 0]) lone_stat (unhide HZ) hz)) | (have HF := hide (bw_new (cs := #[I 0, I 0, I 0, I 0, I 0, I 0, I 0]) lone_stat (unhide HY) hz)) | (have HY := hide ((unhide HY).below hz))); (first | (obtain ⟨⟨b0, b1, b2, b3⟩, ⟨c0, c1⟩, f0, f1⟩ := (unhide HF).cells) | (obtain ⟨⟨b0, b1, b2, b3⟩, ⟨c0, c1⟩, f0, f1⟩ := (unhide HY).cells)))
              | (go_at_call 37; refine (unhide HSt _ ?_).mono ?_; (first | exact ⟨_, unhide HF⟩ | exact ⟨_, unhide HY⟩ | exact ⟨_, (unhide HY).more (cs := #[I 0, I 0, I 0, I 0, I 0, I 0, I 0]) lone_stat⟩); rintro e z3 ⟨a0, mo, u, g, l, z, f, rfl, hz⟩; (first | (have HF := hide ((unhide HF).below hz)) | (have HF := hide (bw_new_d (cs := #[I 0, I 0, I 0, I 0, I 0, I 0, I 0]) lone_stat (unhide HZ) hz)) | (have HF := hide (bw_new (cs := #[I 0, I 0, I 0, I 0, I 0, I 0, I 0]) lone_stat (unhide HY) hz)) | (have HY := hide ((unhide HY).below hz))); (first | (obtain ⟨⟨b0, b1, b2, b3⟩, ⟨c0, c1⟩, f0, f1⟩ := (unhide HF).cells; obtain ⟨X1, X2, X3, X4, X5, X6, X7, ⟨e1, e2, e3, e4, e5, e6, e7⟩, ⟨g0, g1, g2, g3, g4, g5, g6⟩, ⟨k0, k1, k2, k3, k4, k5, k6⟩, HX7⟩ := (unhide HF).store7 (I a0) (I kk) (I mo) (I u) (I g) (I l) (I z); obtain ⟨⟨b0, b1, b2, b3⟩, ⟨c0, c1⟩, f0, f1⟩ := (unhide HX7).cells) | (obtain ⟨⟨b0, b1, b2, b3⟩, ⟨c0, c1⟩, f0, f1⟩ := (unhide HY).cells; obtain ⟨A0, hA0, HFA⟩ := bw_alloc (cs := #[I 0, I 0, I 0, I 0, I 0, I 0, I 0]) lone_stat (unhide HY); obtain ⟨⟨b0, b1, b2, b3⟩, ⟨c0, c1⟩, f0, f1⟩ := HFA.cells; obtain ⟨X1, X2, X3, X4, X5, X6, X7, ⟨e1, e2, e3, e4, e5, e6, e7⟩, ⟨g0, g1, g2, g3, g4, g5, g6⟩, ⟨k0, k1, k2, k3, k4, k5, k6⟩, HX7⟩ := HFA.store7 (I a0) (I kk) (I mo) (I u) (I g) (I l) (I z); clear HFA; obtain ⟨⟨b0, b1, b2, b3⟩, ⟨c0, c1⟩, f0, f1⟩ := (unhide HX7).cells))))
          all_goals
            go_wp2_with fail
            go_meet
            case rel => exact ⟨_, a0, mo, u, g, l, z, rfl, unhide HX7⟩
        case rest =>
          clear HY HZ b0 b1 b2 b3 c0 c1 f0 f1 HSt
          obtain ⟨q, a0, mo, u, g, l, z, rfl, Z⟩ := hcut
          have s1 : wc.cell? ⟨q, 1, none⟩ = some (I kk) := by
            rw [cell_of (Z.l _ (List.mem_cons_self ..)).1]; rfl
          have HZ := hide Z.drop
          clear Z
          by_cases hk1 : kk = 1
          · subst hk1
            have HP := hide (path_any pb len2 cap2 wc ((unhide HI2).below (unhide HZ).s.be))
            go_wp2_with fail
            refine (unhide HP).mono ?_
            rintro e w5 ⟨s, rfl, hs, B5⟩
            have HZ5 := hide ((unhide HZ).below B5)
            clear HP B5 s1 HZ HI2
            have HZ := HZ5
            clear HZ5
            obtain ⟨p, hp⟩ : ∃ p, (⟨#[47]⟩ : ByteArray) ++ s = p := ⟨_, rfl⟩
            have hp1 : p.data.toList = 47 :: s.data.toList := by rw [← hp]; simp
            obtain ⟨Re, hRe⟩ : ∃ n, (Eb T M cu cg true).walk 0 1 p.data.toList = n := ⟨_, rfl⟩
            have hpl0 : (Eb T M cu cg true).place 0 1 = true := by
              obtain ⟨x, hx, -⟩ := (unhide HZ).s.q.f.root
              simp [Wl.En.place, Eb, hx, Mt.rootIs]
            have hRe2 : (Eb T M cu cg true).walk ra fr p.data.toList = Re := by
              rw [← hRe, hp1]
              exact Wl.walk_root _ (fun h => Wl.rt_slash h) (unhide HPL) hpl0
            obtain ⟨F1, F2, F3, F4, F5, F6, F7, why, hFF⟩ : ∃ (F1 F2 : Int) (F3 : ByteArray) (F4 F5 : Int) (F6 F7 : Bool) (why : Int), (Re.f.dm = F1 ∧ Re.f.dn = F2 ∧ Wl.bs Re.f.last = F3 ∧ Re.f.am = F4 ∧ Re.f.an = F5 ∧ Re.f.has = F6 ∧ Re.f.slash = F7 ∧ Re.why = why) := ⟨_, _, _, _, _, _, _, _, rfl, rfl, rfl, rfl, rfl, rfl, rfl, rfl⟩
            have HW1 : Hid (∀ W', (∃ L', Bw t m r R l0 l1 yb yc yf cu cg ra fr 201 50 w W' T M rs L') → Calls Tryz.prog 27 #[P0 t, P0 m, .agg #[I 0, I 1], .agg #[I 0, I 1], .agg #[I cu, I cg], .string p, .bool true] W' fun e w' => e = .returned (.tuple #[.agg #[I F1, I F2, .string F3, I F4, I F5, .bool F6, .bool F7], I why]) ∧ Below W'.heap.size W' w') := hide fun W' ⟨_, Z⟩ => by
              have h := walk_W Z (by omega) (unhide HI) cu cg 0 1 (by decide) p true Re hRe
              obtain ⟨rfl, rfl, rfl, rfl, rfl, rfl, rfl, rfl⟩ := hFF
              exact h
            have HW2 : Hid (∀ W', (∃ L', Bw t m r R l0 l1 yb yc yf cu cg ra fr 201 50 w W' T M rs L') → Calls Tryz.prog 27 #[P0 t, P0 m, .agg #[I 0, I 1], .agg #[I ra, I fr], .agg #[I cu, I cg], .string p, .bool true] W' fun e w' => e = .returned (.tuple #[.agg #[I F1, I F2, .string F3, I F4, I F5, .bool F6, .bool F7], I why]) ∧ Below W'.heap.size W' w') := hide fun W' ⟨_, Z⟩ => by
              have h := walk_W Z (by omega) (unhide HI) cu cg ra fr hfw p true Re hRe2
              obtain ⟨rfl, rfl, rfl, rfl, rfl, rfl, rfl, rfl⟩ := hFF
              exact h
            have HPP := hide hp
            clear hFF hRe hRe2 hp1
            go_wp2_with fail
            go_upto_region 15 with fail
            have HY := hide (unhide HZ).drew
            obtain ⟨⟨b0, b1, b2, b3⟩, ⟨c0, c1⟩, f0, f1⟩ := (unhide HZ).cells
            go_cut [17, 18] from 82 to 93 (fun a v wd => ∃ q : Nat, a = .pointer (some ⟨q, 0, none⟩) ∧ v = I why ∧ Bw t m r R l0 l1 yb yc yf cu cg ra fr 201 50 w wd T M rs [(q, #[I F1, I F2, .string F3, I F4, I F5, .bool F6, .bool F7], 59)])
            case first =>
              go_region_held3 (fun w' => w'.cell? ⟨yb, 0, none⟩ = some (P0 t) ∧ w'.cell? ⟨yb, 1, none⟩ = some (P0 m) ∧ w'.cell? ⟨yc, 0, none⟩ = some (I cu) ∧ w'.cell? ⟨yc, 1, none⟩ = some (I cg) ∧ w'.cell? ⟨yf, 0, none⟩ = some (I ra) ∧ w'.cell? ⟨yf, 1, none⟩ = some (I fr)) (go_keep)
                (first
                  | (go_at_call 28; refine (unhide HTop _).mono ?_; rintro e z1 ⟨rfl, hz⟩; (first | (have HF := hide ((unhide HF).below hz)) | (have HF := hide (bw_new_d (cs := #[I 0, I 0, .string ⟨#[]⟩, I 0, I 0, .bool false, .bool false]) lone_found (unhide HZ) hz)) | (have HF := hide (bw_new (cs := #[I 0, I 0, .string ⟨#[]⟩, I 0, I 0, .bool false, .bool false]) lone_found (unhide HY) hz)) | (have HY := hide ((unhide HY).below hz))); (first | (obtain ⟨⟨b0, b1, b2, b3⟩, ⟨c0, c1⟩, f0, f1⟩ := (unhide HF).cells) | (obtain ⟨⟨b0, b1, b2, b3⟩, ⟨c0, c1⟩, f0, f1⟩ := (unhide HY).cells)))
                  | (go_at_call 27; refine (unhide HW1 _ ?_).mono ?_; (first | exact ⟨_, unhide HF⟩ | exact ⟨_, unhide HY⟩ | exact ⟨_, (unhide HY).more (cs := #[I 0, I 0, .string ⟨#[]⟩, I 0, I 0, .bool false, .bool false]) lone_found⟩); rintro e z3 ⟨rfl, hz⟩; (first | (have HF := hide ((unhide HF).below hz)) | (have HF := hide (bw_new_d (cs := #[I 0, I 0, .string ⟨#[]⟩, I 0, I 0, .bool false, .bool false]) lone_found (unhide HZ) hz)) | (have HF := hide (bw_new (cs := #[I 0, I 0, .string ⟨#[]⟩, I 0, I 0, .bool false, .bool false]) lone_found (unhide HY) hz)) | (have HY := hide ((unhide HY).below hz))); (first | (obtain ⟨⟨b0, b1, b2, b3⟩, ⟨c0, c1⟩, f0, f1⟩ := (unhide HF).cells; obtain ⟨X1, X2, X3, X4, X5, X6, X7, ⟨e1, e2, e3, e4, e5, e6, e7⟩, ⟨g0, g1, g2, g3, g4, g5, g6⟩, ⟨k0, k1, k2, k3, k4, k5, k6⟩, HX7⟩ := (unhide HF).store7 (I F1) (I F2) (.string F3) (I F4) (I F5) (.bool F6) (.bool F7); obtain ⟨⟨b0, b1, b2, b3⟩, ⟨c0, c1⟩, f0, f1⟩ := (unhide HX7).cells) | (obtain ⟨⟨b0, b1, b2, b3⟩, ⟨c0, c1⟩, f0, f1⟩ := (unhide HY).cells; obtain ⟨A0, hA0, HFA⟩ := bw_alloc (cs := #[I 0, I 0, .string ⟨#[]⟩, I 0, I 0, .bool false, .bool false]) lone_found (unhide HY); obtain ⟨⟨b0, b1, b2, b3⟩, ⟨c0, c1⟩, f0, f1⟩ := HFA.cells; obtain ⟨X1, X2, X3, X4, X5, X6, X7, ⟨e1, e2, e3, e4, e5, e6, e7⟩, ⟨g0, g1, g2, g3, g4, g5, g6⟩, ⟨k0, k1, k2, k3, k4, k5, k6⟩, HX7⟩ := HFA.store7 (I F1) (I F2) (.string F3) (I F4) (I F5) (.bool F6) (.bool F7); clear HFA; obtain ⟨⟨b0, b1, b2, b3⟩, ⟨c0, c1⟩, f0, f1⟩ := (unhide HX7).cells))))
              all_goals
                go_wp2_with fail
                go_meet
                case rel => exact ⟨_, rfl, rfl, unhide HX7⟩
            case rest =>
              clear HY HZ b0 b1 b2 b3 c0 c1 f0 f1 HW1
              obtain ⟨q1, rfl, rfl, Z⟩ := hcut
              have HZ := hide Z
              clear Z
              go_wp2_with fail
              go_upto_region 16 with fail
              have HY := hide (unhide HZ).drew
              obtain ⟨⟨b0, b1, b2, b3⟩, ⟨c0, c1⟩, f0, f1⟩ := (unhide HZ).cells
              go_cut [19, 20] from 94 to 105 (fun a v wd => ∃ q : Nat, a = .pointer (some ⟨q, 0, none⟩) ∧ v = I why ∧ Bw t m r R l0 l1 yb yc yf cu cg ra fr 201 50 w wd T M rs [(q, #[I F1, I F2, .string F3, I F4, I F5, .bool F6, .bool F7], 59), (q1, #[I F1, I F2, .string F3, I F4, I F5, .bool F6, .bool F7], 59)])
              case first =>
                go_region_held3 (fun w' => w'.cell? ⟨yb, 0, none⟩ = some (P0 t) ∧ w'.cell? ⟨yb, 1, none⟩ = some (P0 m) ∧ w'.cell? ⟨yc, 0, none⟩ = some (I cu) ∧ w'.cell? ⟨yc, 1, none⟩ = some (I cg) ∧ w'.cell? ⟨yf, 0, none⟩ = some (I ra) ∧ w'.cell? ⟨yf, 1, none⟩ = some (I fr)) (go_keep)
                  (first
                    | (go_at_call 28; refine (unhide HTop _).mono ?_; rintro e z1 ⟨rfl, hz⟩; (first | (have HF := hide ((unhide HF).below hz)) | (have HF := hide (bw_new_d (cs := #[I 0, I 0, .string ⟨#[]⟩, I 0, I 0, .bool false, .bool false]) lone_found (unhide HZ) hz)) | (have HF := hide (bw_new (cs := #[I 0, I 0, .string ⟨#[]⟩, I 0, I 0, .bool false, .bool false]) lone_found (unhide HY) hz)) | (have HY := hide ((unhide HY).below hz))); (first | (obtain ⟨⟨b0, b1, b2, b3⟩, ⟨c0, c1⟩, f0, f1⟩ := (unhide HF).cells) | (obtain ⟨⟨b0, b1, b2, b3⟩, ⟨c0, c1⟩, f0, f1⟩ := (unhide HY).cells)))
                    | (go_at_call 27; refine (unhide HW2 _ ?_).mono ?_; (first | exact ⟨_, unhide HF⟩ | exact ⟨_, unhide HY⟩ | exact ⟨_, (unhide HY).more (cs := #[I 0, I 0, .string ⟨#[]⟩, I 0, I 0, .bool false, .bool false]) lone_found⟩); rintro e z3 ⟨rfl, hz⟩; (first | (have HF := hide ((unhide HF).below hz)) | (have HF := hide (bw_new_d (cs := #[I 0, I 0, .string ⟨#[]⟩, I 0, I 0, .bool false, .bool false]) lone_found (unhide HZ) hz)) | (have HF := hide (bw_new (cs := #[I 0, I 0, .string ⟨#[]⟩, I 0, I 0, .bool false, .bool false]) lone_found (unhide HY) hz)) | (have HY := hide ((unhide HY).below hz))); (first | (obtain ⟨⟨b0, b1, b2, b3⟩, ⟨c0, c1⟩, f0, f1⟩ := (unhide HF).cells; obtain ⟨X1, X2, X3, X4, X5, X6, X7, ⟨e1, e2, e3, e4, e5, e6, e7⟩, ⟨g0, g1, g2, g3, g4, g5, g6⟩, ⟨k0, k1, k2, k3, k4, k5, k6⟩, HX7⟩ := (unhide HF).store7 (I F1) (I F2) (.string F3) (I F4) (I F5) (.bool F6) (.bool F7); obtain ⟨⟨b0, b1, b2, b3⟩, ⟨c0, c1⟩, f0, f1⟩ := (unhide HX7).cells) | (obtain ⟨⟨b0, b1, b2, b3⟩, ⟨c0, c1⟩, f0, f1⟩ := (unhide HY).cells; obtain ⟨A0, hA0, HFA⟩ := bw_alloc (cs := #[I 0, I 0, .string ⟨#[]⟩, I 0, I 0, .bool false, .bool false]) lone_found (unhide HY); obtain ⟨⟨b0, b1, b2, b3⟩, ⟨c0, c1⟩, f0, f1⟩ := HFA.cells; obtain ⟨X1, X2, X3, X4, X5, X6, X7, ⟨e1, e2, e3, e4, e5, e6, e7⟩, ⟨g0, g1, g2, g3, g4, g5, g6⟩, ⟨k0, k1, k2, k3, k4, k5, k6⟩, HX7⟩ := HFA.store7 (I F1) (I F2) (.string F3) (I F4) (I F5) (.bool F6) (.bool F7); clear HFA; obtain ⟨⟨b0, b1, b2, b3⟩, ⟨c0, c1⟩, f0, f1⟩ := (unhide HX7).cells))))
                all_goals
                  go_wp2_with fail
                  go_meet
                  case rel => exact ⟨_, rfl, rfl, unhide HX7⟩
              case rest =>
                clear HY HZ b0 b1 b2 b3 c0 c1 f0 f1 HW2
                obtain ⟨q2, rfl, rfl, Z⟩ := hcut
                have HZ := hide Z
                clear Z
                go_wp2_with fail
                refine (unhide HWi up 9 _ (by decide) (by decide)).mono ?_
                rintro e w' ⟨⟨kq, hkq, rfl⟩, hw'⟩
                rw [hw']
                clear hw' w'
                obtain ⟨k9, hk9⟩ : ∃ k9 : Nat, kq = (k9 : Int) := ⟨kq.toNat, by omega⟩
                subst hk9
                have hk9b : k9 ≤ 9 := by omega
                clear hkq
                obtain ⟨W0, hW0⟩ : ∃ W0, W0 = wc := ⟨_, rfl⟩
                go_wp2_with fail
                go_loopw [21, 22] (fun v21 v22 wr => ∃ (j : Nat), j ≤ k9 ∧ v21 = .string (Wl.bs (Wl.ups (k9 - j))) ∧ v22 = I j ∧ wr = wc) (fun _ v _ => (intOf v).toNat)
                case atStart => exact ⟨k9, by omega, by rw [Nat.sub_self]; rfl, rfl, rfl⟩
                case round =>
                  obtain ⟨j, hj, rfl, rfl, hwr⟩ := hrel
                  subst wr
                  by_cases hj0 : j = 0
                  · subst hj0
                    have h9 := ups_len k9 hk9b
                    obtain ⟨up9, hup9⟩ : ∃ x, Wl.bs (Wl.ups (k9 - 0)) = x := ⟨_, rfl⟩
                    rw [hup9]
                    rw [Nat.sub_zero] at hup9
                    obtain ⟨Re3, hRe3⟩ : ∃ n, (Eb T M 0 0 true).walk ra fr up9.data.toList = n := ⟨_, rfl⟩
                    have hW3 := Wl.walk_ups (Eb T M 0 0 true) hk9b (fm := ra) (fn := fr) (by
                      obtain ⟨x, hx, -⟩ := (unhide HZ).s.q.f.root
                      simp [Wl.En.place, Eb, hx, Mt.rootIs]) (unhide HPL) (by
                      simp only [Wl.En.down, Eb, unhide HDD]
                      exact unhide HKK) rfl
                    have hup2 : up9.data.toList = Wl.ups k9 := by rw [← hup9]
                    rw [← hup2, hRe3] at hW3
                    simp only [Wl.En.down, Eb, unhide HDD] at hW3
                    obtain ⟨hw31, hw32, hw33⟩ := hW3
                    obtain ⟨G1, G2, G3, G6, G7, hGG⟩ : ∃ (G1 G2 : Int) (G3 : ByteArray) (G6 G7 : Bool), (Re3.f.dm = G1 ∧ Re3.f.dn = G2 ∧ Wl.bs Re3.f.last = G3 ∧ Re3.f.has = G6 ∧ Re3.f.slash = G7) := ⟨_, _, _, _, _, rfl, rfl, rfl, rfl, rfl⟩
                    have HW3 : Hid (∀ W', (∃ L', Bw t m r R l0 l1 yb yc yf cu cg ra fr 201 50 w W' T M rs L') → Calls Tryz.prog 27 #[P0 t, P0 m, .agg #[I 0, I 1], .agg #[I ra, I fr], .agg #[I 0, I 0], .string up9, .bool true] W' fun e w' => e = .returned (.tuple #[.agg #[I G1, I G2, .string G3, I d1, I d2, .bool G6, .bool G7], I 0]) ∧ Below W'.heap.size W' w') := hide fun W' ⟨_, Z⟩ => by
                      have h := walk_W Z (by omega) (unhide HI) 0 0 ra fr hfw up9 true Re3 hRe3
                      obtain ⟨rfl, rfl, rfl, rfl, rfl⟩ := hGG
                      rw [hw31, hw32, hw33] at h
                      exact h
                    clear hGG hw31 hw32 hw33 hRe3 hup2 hup9 h9
                    go_wp2_with fail
                    go_upto_region 22 with fail
                    have HY := hide (unhide HZ).drew
                    obtain ⟨⟨b0, b1, b2, b3⟩, ⟨c0, c1⟩, f0, f1⟩ := (unhide HZ).cells
                    go_cut [23, 24] from 114 to 125 (fun a v wd => ∃ q : Nat, a = .pointer (some ⟨q, 0, none⟩) ∧ v = I 0 ∧ Bw t m r R l0 l1 yb yc yf cu cg ra fr 201 50 w wd T M rs [(q, #[I G1, I G2, .string G3, I d1, I d2, .bool G6, .bool G7], 59), (q2, #[I F1, I F2, .string F3, I F4, I F5, .bool F6, .bool F7], 59), (q1, #[I F1, I F2, .string F3, I F4, I F5, .bool F6, .bool F7], 59)])
                    case first =>
                      go_region_held3 (fun w' => w'.cell? ⟨yb, 0, none⟩ = some (P0 t) ∧ w'.cell? ⟨yb, 1, none⟩ = some (P0 m) ∧ w'.cell? ⟨yc, 0, none⟩ = some (I cu) ∧ w'.cell? ⟨yc, 1, none⟩ = some (I cg) ∧ w'.cell? ⟨yf, 0, none⟩ = some (I ra) ∧ w'.cell? ⟨yf, 1, none⟩ = some (I fr)) (go_keep)
                        (first
                          | (go_at_call 28; refine (unhide HTop _).mono ?_; rintro e z1 ⟨rfl, hz⟩; (first | (have HF := hide ((unhide HF).below hz)) | (have HF := hide (bw_new_d (cs := #[I 0, I 0, .string ⟨#[]⟩, I 0, I 0, .bool false, .bool false]) lone_found (unhide HZ) hz)) | (have HF := hide (bw_new (cs := #[I 0, I 0, .string ⟨#[]⟩, I 0, I 0, .bool false, .bool false]) lone_found (unhide HY) hz)) | (have HY := hide ((unhide HY).below hz))); (first | (obtain ⟨⟨b0, b1, b2, b3⟩, ⟨c0, c1⟩, f0, f1⟩ := (unhide HF).cells) | (obtain ⟨⟨b0, b1, b2, b3⟩, ⟨c0, c1⟩, f0, f1⟩ := (unhide HY).cells)))
                          | (go_at_call 27; refine (unhide HW3 _ ?_).mono ?_; (first | exact ⟨_, unhide HF⟩ | exact ⟨_, unhide HY⟩ | exact ⟨_, (unhide HY).more (cs := #[I 0, I 0, .string ⟨#[]⟩, I 0, I 0, .bool false, .bool false]) lone_found⟩); rintro e z3 ⟨rfl, hz⟩; (first | (have HF := hide ((unhide HF).below hz)) | (have HF := hide (bw_new_d (cs := #[I 0, I 0, .string ⟨#[]⟩, I 0, I 0, .bool false, .bool false]) lone_found (unhide HZ) hz)) | (have HF := hide (bw_new (cs := #[I 0, I 0, .string ⟨#[]⟩, I 0, I 0, .bool false, .bool false]) lone_found (unhide HY) hz)) | (have HY := hide ((unhide HY).below hz))); (first | (obtain ⟨⟨b0, b1, b2, b3⟩, ⟨c0, c1⟩, f0, f1⟩ := (unhide HF).cells; obtain ⟨X1, X2, X3, X4, X5, X6, X7, ⟨e1, e2, e3, e4, e5, e6, e7⟩, ⟨g0, g1, g2, g3, g4, g5, g6⟩, ⟨k0, k1, k2, k3, k4, k5, k6⟩, HX7⟩ := (unhide HF).store7 (I G1) (I G2) (.string G3) (I d1) (I d2) (.bool G6) (.bool G7); obtain ⟨⟨b0, b1, b2, b3⟩, ⟨c0, c1⟩, f0, f1⟩ := (unhide HX7).cells) | (obtain ⟨⟨b0, b1, b2, b3⟩, ⟨c0, c1⟩, f0, f1⟩ := (unhide HY).cells; obtain ⟨A0, hA0, HFA⟩ := bw_alloc (cs := #[I 0, I 0, .string ⟨#[]⟩, I 0, I 0, .bool false, .bool false]) lone_found (unhide HY); obtain ⟨⟨b0, b1, b2, b3⟩, ⟨c0, c1⟩, f0, f1⟩ := HFA.cells; obtain ⟨X1, X2, X3, X4, X5, X6, X7, ⟨e1, e2, e3, e4, e5, e6, e7⟩, ⟨g0, g1, g2, g3, g4, g5, g6⟩, ⟨k0, k1, k2, k3, k4, k5, k6⟩, HX7⟩ := HFA.store7 (I G1) (I G2) (.string G3) (I d1) (I d2) (.bool G6) (.bool G7); clear HFA; obtain ⟨⟨b0, b1, b2, b3⟩, ⟨c0, c1⟩, f0, f1⟩ := (unhide HX7).cells))))
                      all_goals
                        go_wp2_with fail
                        go_meet
                        case rel => exact ⟨_, rfl, rfl, unhide HX7⟩
                    case rest =>
                      clear HY HZ b0 b1 b2 b3 c0 c1 f0 f1 HW3
                      obtain ⟨q3, rfl, rfl, Z⟩ := hcut
                      have HZ := hide Z
                      clear Z
                      obtain ⟨p0, p1, p2, p3, p4, p5, p6, -⟩ := cellsF (bw3 (unhide HZ)).1; obtain ⟨r0, r1, r2, r3, r4, r5, r6, -⟩ := cellsF (bw3 (unhide HZ)).2.1; obtain ⟨o0, o1, o2, o3, o4, o5, o6, -⟩ := cellsF (bw3 (unhide HZ)).2.2; obtain ⟨⟨b0, b1, b2, b3⟩, ⟨c0, c1⟩, f0, f1⟩ := ((unhide HZ)).cells
                      go_wp2_with fail
                      go_region_held3 (fun w' => w'.cell? ⟨q1, 0, none⟩ = some (I F1) ∧ w'.cell? ⟨q1, 1, none⟩ = some (I F2) ∧ w'.cell? ⟨q1, 2, none⟩ = some (.string F3) ∧ w'.cell? ⟨q1, 3, none⟩ = some (I F4) ∧ w'.cell? ⟨q1, 4, none⟩ = some (I F5) ∧ w'.cell? ⟨q1, 5, none⟩ = some (.bool F6) ∧ w'.cell? ⟨q1, 6, none⟩ = some (.bool F7) ∧ w'.cell? ⟨q2, 0, none⟩ = some (I F1) ∧ w'.cell? ⟨q2, 1, none⟩ = some (I F2) ∧ w'.cell? ⟨q2, 2, none⟩ = some (.string F3) ∧ w'.cell? ⟨q2, 3, none⟩ = some (I F4) ∧ w'.cell? ⟨q2, 4, none⟩ = some (I F5) ∧ w'.cell? ⟨q2, 5, none⟩ = some (.bool F6) ∧ w'.cell? ⟨q2, 6, none⟩ = some (.bool F7) ∧ w'.cell? ⟨q3, 3, none⟩ = some (I d1) ∧ w'.cell? ⟨q3, 4, none⟩ = some (I d2) ∧ w'.cell? ⟨yb, 1, none⟩ = some (P0 m)) (go_keep)
                        (first
                          | (go_at_call 28; refine (unhide HTop _).mono ?_; rintro e z1 ⟨rfl, hz⟩; have HY := hide ((unhide HZ).drew.below hz); obtain ⟨p0, p1, p2, p3, p4, p5, p6, -⟩ := cellsF (bw3 (unhide HY)).1; obtain ⟨r0, r1, r2, r3, r4, r5, r6, -⟩ := cellsF (bw3 (unhide HY)).2.1; obtain ⟨o0, o1, o2, o3, o4, o5, o6, -⟩ := cellsF (bw3 (unhide HY)).2.2; obtain ⟨⟨b0, b1, b2, b3⟩, ⟨c0, c1⟩, f0, f1⟩ := ((unhide HY)).cells)
                          | (go_at_call 38; refine (unhide HDn _ ?_).mono ?_; exact ⟨_, unhide HY⟩; rintro e z2 ⟨rfl, hz⟩; have HX := hide ((unhide HY).below hz); obtain ⟨p0, p1, p2, p3, p4, p5, p6, -⟩ := cellsF (bw3 (unhide HX)).1; obtain ⟨r0, r1, r2, r3, r4, r5, r6, -⟩ := cellsF (bw3 (unhide HX)).2.1; obtain ⟨o0, o1, o2, o3, o4, o5, o6, -⟩ := cellsF (bw3 (unhide HX)).2.2; obtain ⟨⟨b0, b1, b2, b3⟩, ⟨c0, c1⟩, f0, f1⟩ := ((unhide HX)).cells)
                          | (go_at_call 33; refine (unhide HKn _).mono ?_; rintro e z5 ⟨rfl, hz⟩; have HU := hide ((unhide HX).below hz); obtain ⟨p0, p1, p2, p3, p4, p5, p6, -⟩ := cellsF (bw3 (unhide HU)).1; obtain ⟨r0, r1, r2, r3, r4, r5, r6, -⟩ := cellsF (bw3 (unhide HU)).2.1; obtain ⟨o0, o1, o2, o3, o4, o5, o6, -⟩ := cellsF (bw3 (unhide HU)).2.2; obtain ⟨⟨b0, b1, b2, b3⟩, ⟨c0, c1⟩, f0, f1⟩ := ((unhide HU)).cells))
                      all_goals
                        go_wp2_with fail
                        go_ret
                        exact ⟨rfl, (unhide HU).s.be⟩
                  · obtain ⟨i, rfl⟩ : ∃ i, j = i + 1 := ⟨j - 1, by omega⟩
                    have h9 := ups_len (k9 - (i + 1)) (by omega)
                    obtain ⟨up9, hup9⟩ : ∃ x, Wl.bs (Wl.ups (k9 - (i + 1))) = x := ⟨_, rfl⟩
                    have hup8 : up9 ++ (⟨#[46, 46, 47]⟩ : ByteArray) = Wl.bs (Wl.ups (k9 - i)) := by
                      rw [← hup9, ups_app]
                      congr 2
                      omega
                    rw [hup9] at h9 ⊢
                    have HU8 := hide hup8
                    clear hup8 hup9
                    generalize hi1 : i + 1 = I1 at *
                    have i1 : (0 : Int) < (I1 : Int) := by omega
                    have i2 : (I1 : Int) - 1 = (i : Int) := by omega
                    have i3 : IntKind.i64.wrap ((I1 : Int) - 1) = (i : Int) := by rw [i2, IntKind.wrap_i64]; omega
                    have i4 : (I1 : Int) ≤ 9 := by omega
                    have HI1 := hide hi1
                    clear hi1
                    go_wp2_with fail
                    refine ⟨⟨i, by have := unhide HI1; omega, by rw [← unhide HU8], rfl, trivial⟩, by have := unhide HI1; simp [intOf]; omega⟩
          · have hk2 : (kk == 1) = false := by simpa using hk1
            have hk3 : (kk != 1) = true := by simpa using hk1
            go_wp2_with (go_at_call 33; refine (unhide HKn _).mono ?_; rintro e z5 ⟨rfl, hz5⟩)
            go_ret
            exact ⟨rfl, unhide HE _ _ (unhide HZ).s.be hz5⟩
end Go.Proofs.YtlngeaacjbdmhaaGreat.Bt

namespace Go.Proofs.YtlngeaacjbdmhaaGreat.Bt
open Go.ChangeShapes Go.WideShapes Go.ChangeAt Go.RowKit
set_option maxRecDepth 100000 in
theorem cred_of {H : Type} {enc : TypeId × Value → H} {w : World} {r : Reach} {base : Nat} {held : Bool} {v : Value} {d : DataW H} {ps : List MemPlace}
    (hv : Value.okWide Tryz.prog w r base 57 v) (h : DataW.Trod enc Tryz.prog w 0 (fun _ => true) held 57 v d ps) : ∃ u g, v = .agg #[I u, I g] ∧ Iw u ∧ Iw g := by
  obtain ⟨cs, rfl, hs⟩ := okWide_struct Tryz.underlying57 hv
  rw [cellsC] at hs
  obtain ⟨fuel, hf⟩ := h
  obtain ⟨xs, k, hk, hxy, _, hxl, hf⟩ := DataW.trod_struct Tryz.underlying57 hf
  match xs, hxl, cs, hs with
  | [y0, y1], _, ⟨[v0, v1]⟩, _ =>
    have g0 := hf 0 _ rfl
    have g1 := hf 1 _ rfl
    simp [cells3, Value.cells] at g0 g1
    obtain ⟨n0, e0, _, m0⟩ := DataW.trod_int Tryz.underlying3 g0
    obtain ⟨n1, e1, _, m1⟩ := DataW.trod_int Tryz.underlying3 g1
    simp at e0 e1
    subst e0 e1
    exact ⟨_, _, rfl, iw_of m0, iw_of m1⟩
set_option maxRecDepth 100000 in
theorem place_of {H : Type} {enc : TypeId × Value → H} {w : World} {r : Reach} {base : Nat} {held : Bool} {v : Value} {d : DataW H} {ps : List MemPlace}
    (hv : Value.okWide Tryz.prog w r base 50 v) (h : DataW.Trod enc Tryz.prog w 0 (fun _ => true) held 50 v d ps) : ∃ u g, v = .agg #[I u, I g] ∧ Iw u ∧ Iw g := by
  obtain ⟨cs, rfl, hs⟩ := okWide_struct Tryz.underlying50 hv
  rw [cellsP] at hs
  obtain ⟨fuel, hf⟩ := h
  obtain ⟨xs, k, hk, hxy, _, hxl, hf⟩ := DataW.trod_struct Tryz.underlying50 hf
  match xs, hxl, cs, hs with
  | [y0, y1], _, ⟨[v0, v1]⟩, _ =>
    have g0 := hf 0 _ rfl
    have g1 := hf 1 _ rfl
    simp [cells3, Value.cells] at g0 g1
    obtain ⟨n0, e0, _, m0⟩ := DataW.trod_int Tryz.underlying3 g0
    obtain ⟨n1, e1, _, m1⟩ := DataW.trod_int Tryz.underlying3 g1
    simp at e0 e1
    subst e0 e1
    exact ⟨_, _, rfl, iw_of m0, iw_of m1⟩
end Go.Proofs.YtlngeaacjbdmhaaGreat.Bt
