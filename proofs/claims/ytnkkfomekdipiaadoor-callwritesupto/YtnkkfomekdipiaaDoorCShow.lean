/-
  The contract of Show.
-/
import Derived.Test.YtnkkfomekdipiaaDoorCText
namespace Go.Proofs.YtnkkfomekdipiaaDoor.Cl
open Go.RowKit Go.Shelf
attribute [local go_sem ↓] Go.wp_at_zero Go.wp_at_succ

abbrev wNodeS : List UInt8 := [110, 111, 100, 101, 61]
abbrev wKindS : List UInt8 := [107, 105, 110, 100, 61]
abbrev wModeS : List UInt8 := [109, 111, 100, 101, 61]
abbrev wUidS : List UInt8 := [117, 105, 100, 61]
abbrev wGidS : List UInt8 := [103, 105, 100, 61]
abbrev wLinksS : List UInt8 := [108, 105, 110, 107, 115, 61]
abbrev wSizeS : List UInt8 := [115, 105, 122, 101, 61]
abbrev wNames : List UInt8 := [110, 97, 109, 101, 115, 61]
/-- A result, as plain data. -/
structure Rr where
  why : Int
  n : Int
  data : List UInt8
  names : List (List UInt8)
  node : Int
  kind : Int
  mode : Int
  uid : Int
  gid : Int
  links : Int
  size : Int
abbrev Rr.cs (r : Rr) (d m : Value) : Array Value := #[I r.why, I r.n, d, m, I r.node, I r.kind, I r.mode, I r.uid, I r.gid, I r.links, I r.size]
structure Rr.fits (r : Rr) : Prop where
  why : -9223372036854775808 ≤ r.why ∧ r.why ≤ 9223372036854775807
  n : -9223372036854775808 ≤ r.n ∧ r.n ≤ 9223372036854775807
  node : -9223372036854775808 ≤ r.node ∧ r.node ≤ 9223372036854775807
  kind : -9223372036854775808 ≤ r.kind ∧ r.kind ≤ 9223372036854775807
  mode : -9223372036854775808 ≤ r.mode ∧ r.mode ≤ 9223372036854775807
  uid : -9223372036854775808 ≤ r.uid ∧ r.uid ≤ 9223372036854775807
  gid : -9223372036854775808 ≤ r.gid ∧ r.gid ≤ 9223372036854775807
  links : -9223372036854775808 ≤ r.links ∧ r.links ≤ 9223372036854775807
  size : -9223372036854775808 ≤ r.size ∧ r.size ≤ 9223372036854775807
  l : 3 * r.data.length + namL r.names ≤ 130000000000000
theorem nam_len : ∀ (ns : List (List UInt8)) (b : List UInt8) (i : Nat), (namA b i ns).length ≤ b.length + namL ns
  | [], b, i => by simp [namA, namL]
  | x :: xs, b, i => by
    have h := nam_len xs ((if 0 < i then b ++ [44] else b) ++ plain x) (i + 1)
    have hp := plain_len x
    simp only [namA, namL]
    have : ((if 0 < i then b ++ [44] else b) ++ plain x).length ≤ b.length + 1 + 3 * x.length := by
      rw [List.length_append]
      split
      · simp; omega
      · omega
    omega
theorem oc_len (why : Int) (h0 : -9223372036854775808 ≤ why) (h1 : why ≤ 9223372036854775807) : (oc why).length ≤ 30 := by
  have := itoa_len why h0 h1
  unfold oc
  split
  · decide
  · simp; omega
/-- A result as a line. -/
def Rr.line (r : Rr) : List UInt8 := oc r.why ++ (nums wN r.n ++ txts wData r.data ++ seg (decide (0 < r.names.length)) wNames (nam r.names) ++ nums wNodeS r.node ++ nums wKindS r.kind ++ nums wModeS r.mode ++ nums wUidS r.uid ++ nums wGidS r.gid ++ nums wLinksS r.links ++ nums wSizeS r.size)
theorem cells11 {W : World} {h : Nat} {t : TypeId} {a0 a1 a2 a3 a4 a5 a6 a7 a8 a9 a10 : Value} (c : W.heap[h]? = some (.cells #[a0, a1, a2, a3, a4, a5, a6, a7, a8, a9, a10] t)) :
    W.cell? ⟨h, 0, none⟩ = some a0 ∧ W.cell? ⟨h, 1, none⟩ = some a1 ∧ W.cell? ⟨h, 2, none⟩ = some a2 ∧ W.cell? ⟨h, 3, none⟩ = some a3 ∧ W.cell? ⟨h, 4, none⟩ = some a4 ∧ W.cell? ⟨h, 5, none⟩ = some a5 ∧ W.cell? ⟨h, 6, none⟩ = some a6 ∧ W.cell? ⟨h, 7, none⟩ = some a7 ∧ W.cell? ⟨h, 8, none⟩ = some a8 ∧ W.cell? ⟨h, 9, none⟩ = some a9 ∧ W.cell? ⟨h, 10, none⟩ = some a10 := by
  refine ⟨?_, ?_, ?_, ?_, ?_, ?_, ?_, ?_, ?_, ?_, ?_⟩ <;> (rw [cell_of c]; rfl)
theorem show_end {w W8 W9 : World} {h : Nat} {cs : Array Value} {t : TypeId} (r : Rr) (hr : r.fits) (a1 a2 a3 a4 a5 a6 a7 a8 a9 a10 : Option Addr) (z1 z2 z3 z4 z5 z6 z7 z8 z9 z10 : Nat)
    (T : Ts w W8 h cs t [(.slice a1 (Lib.itoa r.n).length z1, Lib.itoa r.n), (.slice a2 (plain r.data).length z2, plain r.data), (.slice a3 (nam r.names).length z3, nam r.names), (.slice a4 (Lib.itoa r.node).length z4, Lib.itoa r.node), (.slice a5 (Lib.itoa r.kind).length z5, Lib.itoa r.kind), (.slice a6 (Lib.itoa r.mode).length z6, Lib.itoa r.mode), (.slice a7 (Lib.itoa r.uid).length z7, Lib.itoa r.uid), (.slice a8 (Lib.itoa r.gid).length z8, Lib.itoa r.gid), (.slice a9 (Lib.itoa r.links).length z9, Lib.itoa r.links), (.slice a10 (Lib.itoa r.size).length z10, Lib.itoa r.size)])
    (ca : Array Value) (hca : ca = (prow [⟨r.n != 0, wN, Lib.itoa r.n, a1, z1⟩, ⟨decide (0 < r.data.length), wData, plain r.data, a2, z2⟩, ⟨decide (0 < r.names.length), wNames, nam r.names, a3, z3⟩, ⟨r.node != 0, wNodeS, Lib.itoa r.node, a4, z4⟩, ⟨r.kind != 0, wKindS, Lib.itoa r.kind, a5, z5⟩, ⟨r.mode != 0, wModeS, Lib.itoa r.mode, a6, z6⟩, ⟨r.uid != 0, wUidS, Lib.itoa r.uid, a7, z7⟩, ⟨r.gid != 0, wGidS, Lib.itoa r.gid, a8, z8⟩, ⟨r.links != 0, wLinksS, Lib.itoa r.links, a9, z9⟩, ⟨r.size != 0, wSizeS, Lib.itoa r.size, a10, z10⟩]).toArray) (p : Nat) (hp : p = W8.heap.size) (hW : W9 = (W8.alloc (.cells ca 71)).alloc (.cells #[.slice (some ⟨p, 0, none⟩) 10 10] 93)) (q : Nat) (hq : q = p + 1) :
    Calls Tryd.prog 30 #[S (oc r.why), .func (.func 50) #[] #[Pt q 0]] W9 fun e w' => e = .returned (S r.line) ∧ Below W9.heap.size W9 w' ∧ Below h w w' := by
  subst hq hp hca
  obtain ⟨X9, hX9, hs9, g9, gx9, hB9⟩ := alloc2 W8 (.cells (prow [⟨r.n != 0, wN, Lib.itoa r.n, a1, z1⟩, ⟨decide (0 < r.data.length), wData, plain r.data, a2, z2⟩, ⟨decide (0 < r.names.length), wNames, nam r.names, a3, z3⟩, ⟨r.node != 0, wNodeS, Lib.itoa r.node, a4, z4⟩, ⟨r.kind != 0, wKindS, Lib.itoa r.kind, a5, z5⟩, ⟨r.mode != 0, wModeS, Lib.itoa r.mode, a6, z6⟩, ⟨r.uid != 0, wUidS, Lib.itoa r.uid, a7, z7⟩, ⟨r.gid != 0, wGidS, Lib.itoa r.gid, a8, z8⟩, ⟨r.links != 0, wLinksS, Lib.itoa r.links, a9, z9⟩, ⟨r.size != 0, wSizeS, Lib.itoa r.size, a10, z10⟩]).toArray 71) (.cells #[.slice (some ⟨W8.heap.size, 0, none⟩) 10 10] 93)
  rw [hX9] at hW
  subst hW
  have T9 := T.below hB9
  have hrow := T9.rows
  have hll := hr.l
  have o1 := plain_len r.data
  have o2 := nam_len r.names [] 0
  change (nam r.names).length ≤ _ at o2
  have oo := oc_len r.why hr.why.1 hr.why.2
  have i_n := itoa_len r.n hr.n.1 hr.n.2
  have i_node := itoa_len r.node hr.node.1 hr.node.2
  have i_kind := itoa_len r.kind hr.kind.1 hr.kind.2
  have i_mode := itoa_len r.mode hr.mode.1 hr.mode.2
  have i_uid := itoa_len r.uid hr.uid.1 hr.uid.2
  have i_gid := itoa_len r.gid hr.gid.1 hr.gid.2
  have i_links := itoa_len r.links hr.links.1 hr.links.2
  have i_size := itoa_len r.size hr.size.1 hr.size.2
  have hout : outs [⟨r.n != 0, wN, Lib.itoa r.n, a1, z1⟩, ⟨decide (0 < r.data.length), wData, plain r.data, a2, z2⟩, ⟨decide (0 < r.names.length), wNames, nam r.names, a3, z3⟩, ⟨r.node != 0, wNodeS, Lib.itoa r.node, a4, z4⟩, ⟨r.kind != 0, wKindS, Lib.itoa r.kind, a5, z5⟩, ⟨r.mode != 0, wModeS, Lib.itoa r.mode, a6, z6⟩, ⟨r.uid != 0, wUidS, Lib.itoa r.uid, a7, z7⟩, ⟨r.gid != 0, wGidS, Lib.itoa r.gid, a8, z8⟩, ⟨r.links != 0, wLinksS, Lib.itoa r.links, a9, z9⟩, ⟨r.size != 0, wSizeS, Lib.itoa r.size, a10, z10⟩] = nums wN r.n ++ txts wData r.data ++ seg (decide (0 < r.names.length)) wNames (nam r.names) ++ nums wNodeS r.node ++ nums wKindS r.kind ++ nums wModeS r.mode ++ nums wUidS r.uid ++ nums wGidS r.gid ++ nums wLinksS r.links ++ nums wSizeS r.size := by
    simp only [outs, List.flatMap_cons, List.flatMap_nil, List.append_nil, List.append_assoc]
    rfl
  refine (line_any (oc r.why) [⟨r.n != 0, wN, Lib.itoa r.n, a1, z1⟩, ⟨decide (0 < r.data.length), wData, plain r.data, a2, z2⟩, ⟨decide (0 < r.names.length), wNames, nam r.names, a3, z3⟩, ⟨r.node != 0, wNodeS, Lib.itoa r.node, a4, z4⟩, ⟨r.kind != 0, wKindS, Lib.itoa r.kind, a5, z5⟩, ⟨r.mode != 0, wModeS, Lib.itoa r.mode, a6, z6⟩, ⟨r.uid != 0, wUidS, Lib.itoa r.uid, a7, z7⟩, ⟨r.gid != 0, wGidS, Lib.itoa r.gid, a8, z8⟩, ⟨r.links != 0, wLinksS, Lib.itoa r.links, a9, z9⟩, ⟨r.size != 0, wSizeS, Lib.itoa r.size, a10, z10⟩] (by simp) (W8.heap.size + 1) W8.heap.size W9 (by rw [cell_of gx9]; rfl) (by omega) g9 ?_ ?_).mono ?_
  · intro p hp
    simp only [List.mem_cons, List.not_mem_nil, or_false] at hp
    rcases hp with rfl | rfl | rfl | rfl | rfl | rfl | rfl | rfl | rfl | rfl
    · exact (hrow (.slice a1 (Lib.itoa r.n).length z1, Lib.itoa r.n) (by simp)).by'
    · exact (hrow (.slice a2 (plain r.data).length z2, plain r.data) (by simp)).by'
    · exact (hrow (.slice a3 (nam r.names).length z3, nam r.names) (by simp)).by'
    · exact (hrow (.slice a4 (Lib.itoa r.node).length z4, Lib.itoa r.node) (by simp)).by'
    · exact (hrow (.slice a5 (Lib.itoa r.kind).length z5, Lib.itoa r.kind) (by simp)).by'
    · exact (hrow (.slice a6 (Lib.itoa r.mode).length z6, Lib.itoa r.mode) (by simp)).by'
    · exact (hrow (.slice a7 (Lib.itoa r.uid).length z7, Lib.itoa r.uid) (by simp)).by'
    · exact (hrow (.slice a8 (Lib.itoa r.gid).length z8, Lib.itoa r.gid) (by simp)).by'
    · exact (hrow (.slice a9 (Lib.itoa r.links).length z9, Lib.itoa r.links) (by simp)).by'
    · exact (hrow (.slice a10 (Lib.itoa r.size).length z10, Lib.itoa r.size) (by simp)).by'
  · rw [hout]
    have s1 := seg_len (r.n != 0) wN (Lib.itoa r.n)
    have s2 := seg_len (decide (0 < r.data.length)) wData (plain r.data)
    have s3 := seg_len (decide (0 < r.names.length)) wNames (nam r.names)
    have s4 := seg_len (r.node != 0) wNodeS (Lib.itoa r.node)
    have s5 := seg_len (r.kind != 0) wKindS (Lib.itoa r.kind)
    have s6 := seg_len (r.mode != 0) wModeS (Lib.itoa r.mode)
    have s7 := seg_len (r.uid != 0) wUidS (Lib.itoa r.uid)
    have s8 := seg_len (r.gid != 0) wGidS (Lib.itoa r.gid)
    have s9 := seg_len (r.links != 0) wLinksS (Lib.itoa r.links)
    have s10 := seg_len (r.size != 0) wSizeS (Lib.itoa r.size)
    simp only [txts, nums, List.length_append, List.length_cons, List.length_nil] at s1 s2 s3 s4 s5 s6 s7 s8 s9 s10 o2 ⊢
    omega
  · rintro e w' ⟨rfl, hb⟩
    rw [hout]
    exact ⟨rfl, hb, T9.be.trans (hb.mono (by have := lt_of_heap T9.c; omega))⟩
set_option maxRecDepth 100000 in
set_option maxHeartbeats 2000000 in
theorem show_any (r : Rr) (hr : r.fits) (a : Option Addr) (k cap : Nat) (hk : k = r.data.length) (b : Option Addr) (m mcap : Nat) (hm : m = r.names.length) (w : World) (ht : Tab w.heap.size w) (hdat : By w w.heap.size a r.data) (hns : Ns w w.heap.size b r.names) :
    Calls Tryd.prog 13 #[.agg (r.cs (.slice a k cap) (.slice b m mcap))] w fun e w' => e = .returned (S r.line) ∧ Below w.heap.size w w' := by
  subst hk hm
  obtain ⟨V, hV, hs, g0, hB⟩ := alloc1 w (.cells (r.cs (.slice a r.data.length cap) (.slice b r.names.length mcap)) 37)
  have HF := hide hr
  have hl3 : 3 * r.data.length ≤ 140737488355000 := by have := hr.l; omega
  have hl4 : namL r.names ≤ 140737488350000 := by have := hr.l; omega
  have HT : Hid (Ts w V.drew w.heap.size (r.cs (.slice a r.data.length cap) (.slice b r.names.length mcap)) 37 []) := hide ⟨below_drew hB, g0, fun p hp => by simp at hp⟩
  have HI := hide (show ∀ W, Below w.heap.size w W → Tab W.heap.size W ∧ By W w.heap.size a r.data ∧ Ns W w.heap.size b r.names from fun W g => ⟨Tab.on' ht g g.size, hdat.below g, hns.below g⟩)
  clear hr ht hdat hns hs g0 hB
  go_enter Tryd.func13, Tryd.ntmps13
  go_wp2_with fail
  generalize hh : w.heap.size = h at *
  have hle := fun (W : World) (g : Below h w W) => hh ▸ g.size
  obtain ⟨c0, c1, c2, c3, c4, c5, c6, c7, c8, c9, c10⟩ := cells11 (unhide HT).c
  have d0 : V.cell? ⟨h, 0, none⟩ = _ := c0
  have d1 : V.cell? ⟨h, 1, none⟩ = _ := c1
  have d2 : V.cell? ⟨h, 2, none⟩ = _ := c2
  have d3 : V.cell? ⟨h, 3, none⟩ = _ := c3
  have d4 : V.cell? ⟨h, 4, none⟩ = _ := c4
  have d5 : V.cell? ⟨h, 5, none⟩ = _ := c5
  have d6 : V.cell? ⟨h, 6, none⟩ = _ := c6
  have d7 : V.cell? ⟨h, 7, none⟩ = _ := c7
  have d8 : V.cell? ⟨h, 8, none⟩ = _ := c8
  have d9 : V.cell? ⟨h, 9, none⟩ = _ := c9
  have d10 : V.cell? ⟨h, 10, none⟩ = _ := c10
  go_region_held3 (fun W' => W'.cell? ⟨h, 0, none⟩ = some (I r.why) ∧ W'.cell? ⟨h, 1, none⟩ = some (I r.n) ∧ W'.cell? ⟨h, 2, none⟩ = some (.slice a r.data.length cap) ∧ W'.cell? ⟨h, 3, none⟩ = some (.slice b r.names.length mcap) ∧ W'.cell? ⟨h, 4, none⟩ = some (I r.node) ∧ W'.cell? ⟨h, 5, none⟩ = some (I r.kind) ∧ W'.cell? ⟨h, 6, none⟩ = some (I r.mode) ∧ W'.cell? ⟨h, 7, none⟩ = some (I r.uid) ∧ W'.cell? ⟨h, 8, none⟩ = some (I r.gid) ∧ W'.cell? ⟨h, 9, none⟩ = some (I r.links) ∧ W'.cell? ⟨h, 10, none⟩ = some (I r.size)) (first | exact ⟨by assumption, by assumption, by assumption, by assumption, by assumption, by assumption, by assumption, by assumption, by assumption, by assumption, by assumption⟩ | go_keep)
    (first
      | (go_at_call 36; refine (outcome_any r.why (unhide HF).why.1 (unhide HF).why.2 _ (unhide HI _ (unhide HT).be).1).mono ?_; rintro e W0 ⟨rfl, hB0⟩; have HT0 := hide ((unhide HT).below hB0); clear HT hB0; obtain ⟨c0, c1, c2, c3, c4, c5, c6, c7, c8, c9, c10⟩ := cells11 (unhide HT0).c)
      | (go_at_call_has 34 (I r.n); refine (numP_any _ wN r.n (unhide HF).n.1 (unhide HF).n.2 _ (Nat.le_refl _) (unhide HI _ (unhide HT0).be).1).mono ?_; rintro e W1 ⟨v1, rfl, r1, k1⟩; obtain ⟨a1, z1, rfl, -⟩ := r1.form; have HT1 := hide ((unhide HT0).step k1 r1); clear HT0 r1 k1; obtain ⟨c0, c1, c2, c3, c4, c5, c6, c7, c8, c9, c10⟩ := cells11 (unhide HT1).c)
      | (go_at_call 35; refine (textB_any _ wData r.data a _ cap rfl hl3 _ (Nat.le_refl _) ((unhide HI _ (unhide HT1).be).2.1.mono (hle _ (unhide HT1).be))).mono ?_; rintro e W2 ⟨v2, rfl, r2, k2⟩; obtain ⟨a2, z2, rfl, -⟩ := r2.form; have HT2 := hide ((unhide HT1).step k2 r2); clear HT1 r2 k2; obtain ⟨c0, c1, c2, c3, c4, c5, c6, c7, c8, c9, c10⟩ := cells11 (unhide HT2).c)
      | (go_at_call 37; refine (namesP_any _ wNames r.names b _ mcap rfl hl4 _ (Nat.le_refl _) ((unhide HI _ (unhide HT2).be).2.2.mono (hle _ (unhide HT2).be))).mono ?_; rintro e W3 ⟨v3, rfl, r3, k3⟩; obtain ⟨a3, z3, rfl, -⟩ := r3.form; have HT3 := hide ((unhide HT2).step k3 r3); clear HT2 r3 k3; obtain ⟨c0, c1, c2, c3, c4, c5, c6, c7, c8, c9, c10⟩ := cells11 (unhide HT3).c)
      | (go_at_call_has 34 (I r.node); refine (numP_any _ wNodeS r.node (unhide HF).node.1 (unhide HF).node.2 _ (Nat.le_refl _) (unhide HI _ (unhide HT3).be).1).mono ?_; rintro e W4 ⟨v4, rfl, r4, k4⟩; obtain ⟨a4, z4, rfl, -⟩ := r4.form; have HT4 := hide ((unhide HT3).step k4 r4); clear HT3 r4 k4; obtain ⟨c0, c1, c2, c3, c4, c5, c6, c7, c8, c9, c10⟩ := cells11 (unhide HT4).c)
      | (go_at_call_has 34 (I r.kind); refine (numP_any _ wKindS r.kind (unhide HF).kind.1 (unhide HF).kind.2 _ (Nat.le_refl _) (unhide HI _ (unhide HT4).be).1).mono ?_; rintro e W5 ⟨v5, rfl, r5, k5⟩; obtain ⟨a5, z5, rfl, -⟩ := r5.form; have HT5 := hide ((unhide HT4).step k5 r5); clear HT4 r5 k5; obtain ⟨c0, c1, c2, c3, c4, c5, c6, c7, c8, c9, c10⟩ := cells11 (unhide HT5).c)
      | (go_at_call_has 34 (I r.mode); refine (numP_any _ wModeS r.mode (unhide HF).mode.1 (unhide HF).mode.2 _ (Nat.le_refl _) (unhide HI _ (unhide HT5).be).1).mono ?_; rintro e W6 ⟨v6, rfl, r6, k6⟩; obtain ⟨a6, z6, rfl, -⟩ := r6.form; have HT6 := hide ((unhide HT5).step k6 r6); clear HT5 r6 k6; obtain ⟨c0, c1, c2, c3, c4, c5, c6, c7, c8, c9, c10⟩ := cells11 (unhide HT6).c)
      | (go_at_call_has 34 (I r.uid); refine (numP_any _ wUidS r.uid (unhide HF).uid.1 (unhide HF).uid.2 _ (Nat.le_refl _) (unhide HI _ (unhide HT6).be).1).mono ?_; rintro e W7 ⟨v7, rfl, r7, k7⟩; obtain ⟨a7, z7, rfl, -⟩ := r7.form; have HT7 := hide ((unhide HT6).step k7 r7); clear HT6 r7 k7; obtain ⟨c0, c1, c2, c3, c4, c5, c6, c7, c8, c9, c10⟩ := cells11 (unhide HT7).c)
      | (go_at_call_has 34 (I r.gid); refine (numP_any _ wGidS r.gid (unhide HF).gid.1 (unhide HF).gid.2 _ (Nat.le_refl _) (unhide HI _ (unhide HT7).be).1).mono ?_; rintro e W8 ⟨v8, rfl, r8, k8⟩; obtain ⟨a8, z8, rfl, -⟩ := r8.form; have HT8 := hide ((unhide HT7).step k8 r8); clear HT7 r8 k8; obtain ⟨c0, c1, c2, c3, c4, c5, c6, c7, c8, c9, c10⟩ := cells11 (unhide HT8).c)
      | (go_at_call_has 34 (I r.links); refine (numP_any _ wLinksS r.links (unhide HF).links.1 (unhide HF).links.2 _ (Nat.le_refl _) (unhide HI _ (unhide HT8).be).1).mono ?_; rintro e W9 ⟨v9, rfl, r9, k9⟩; obtain ⟨a9, z9, rfl, -⟩ := r9.form; have HT9 := hide ((unhide HT8).step k9 r9); clear HT8 r9 k9; obtain ⟨c0, c1, c2, c3, c4, c5, c6, c7, c8, c9, c10⟩ := cells11 (unhide HT9).c)
      | (go_at_call_has 34 (I r.size); refine (numP_any _ wSizeS r.size (unhide HF).size.1 (unhide HF).size.2 _ (Nat.le_refl _) (unhide HI _ (unhide HT9).be).1).mono ?_; rintro e W10 ⟨v10, rfl, r10, k10⟩; obtain ⟨a10, z10, rfl, -⟩ := r10.form; have HT10 := hide ((unhide HT9).step k10 r10); clear HT9 r10 k10; obtain ⟨c0, c1, c2, c3, c4, c5, c6, c7, c8, c9, c10⟩ := cells11 (unhide HT10).c)
      | (go_at_call 32; refine (told_any _ _ _ _ _ rfl).mono ?_; rintro e WT ⟨rfl, hWT⟩; (have HTT : Hid (Ts w WT h (r.cs (.slice a r.data.length cap) (.slice b r.names.length mcap)) 37 []) := hide ⟨((unhide HT10).below (by rw [hWT]; exact ((Below.refl _ _).alloc (Nat.le_refl _) _).alloc (by simp) _)).be, ((unhide HT10).below (by rw [hWT]; exact ((Below.refl _ _).alloc (Nat.le_refl _) _).alloc (by simp) _)).c, (fun p hp => by simp at hp)⟩); replace hWT := hide hWT; obtain ⟨c0, c1, c2, c3, c4, c5, c6, c7, c8, c9, c10⟩ := cells11 (unhide HTT).c)
      | (go_at_call 30; refine (show_end r (unhide HF) a1 a2 a3 a4 a5 a6 a7 a8 a9 a10 z1 z2 z3 z4 z5 z6 z7 z8 z9 z10 (unhide HT10) _ rfl _ rfl (unhide hWT) _ (by simp)).mono ?_; rintro e WU ⟨rfl, hBU, hBE⟩; replace hBE := hide hBE; obtain ⟨c0, c1, c2, c3, c4, c5, c6, c7, c8, c9, c10⟩ := cells11 ((hBU.block _ (lt_of_heap (unhide HTT).c)).trans (unhide HTT).c)))
  go_wp2_with fail
  go_ret
  exact ⟨rfl, by rw [hh]; exact unhide hBE⟩
end Go.Proofs.YtnkkfomekdipiaaDoor.Cl
