/-
  The contract of Text.
-/
import Derived.Test.YtnkkfomekdipiaaDoorCOps
namespace Go.Proofs.YtnkkfomekdipiaaDoor.Cl
open Go.RowKit Go.Shelf
attribute [local go_sem ↓] Go.wp_at_zero Go.wp_at_succ

def seg (says : Bool) (wd t : List UInt8) : List UInt8 := if says = true then 32 :: (wd ++ t) else []
abbrev wFd : List UInt8 := [102, 100, 61]
abbrev wFlags : List UInt8 := [102, 108, 97, 103, 115, 61]
abbrev wMode : List UInt8 := [109, 111, 100, 101, 61]
abbrev wN : List UInt8 := [110, 61]
abbrev wM : List UInt8 := [109, 61]
abbrev wData : List UInt8 := [100, 97, 116, 97, 61]
abbrev nums (wd : List UInt8) (n : Int) : List UInt8 := seg (n != 0) wd (Lib.itoa n)
abbrev txts (wd t : List UInt8) : List UInt8 := seg (decide (0 < t.length)) wd (plain t)
/-- A call as a line. -/
def Cc.line (x : Cc) : List UInt8 := opn x.op ++ (txts [] x.path ++ txts [] x.dst ++ nums wFd x.fd ++ nums wFlags x.fl ++ nums wMode x.mo ++ nums wN x.n ++ nums wM x.m ++ txts wData x.data)
/-- Numbers of 64 bits. -/
structure Cc.fits (x : Cc) : Prop where
  n : ∀ k, -9223372036854775808 ≤ x.num k ∧ x.num k ≤ 9223372036854775807
  l : x.path.length + x.dst.length + x.data.length ≤ 40000000000000
/-- What lies while parts are made. -/
structure Ts (w W : World) (h : Nat) (cs : Array Value) (t : TypeId) (ps : List (Value × List UInt8)) : Prop where
  be : Below h w W
  c : W.heap[h]? = some (.cells cs t)
  rows : ∀ p ∈ ps, Bw W h p.1 p.2
section
variable {w W W' : World} {h : Nat} {cs : Array Value} {t : TypeId} {ps : List (Value × List UInt8)}
theorem Ts.below (T : Ts w W h cs t ps) (g : Below W.heap.size W W') : Ts w W' h cs t ps :=
  ⟨T.be.trans (g.mono (Nat.le_of_lt (lt_of_heap T.c))), (g.block _ (lt_of_heap T.c)).trans T.c, fun p hp => (T.rows p hp).below g⟩
theorem Ts.step (T : Ts w W h cs t ps) {v : Value} {l : List UInt8} (k : Kp W.heap.size W W') (r : Bw W' W.heap.size v l) : Ts w W' h cs t (ps ++ [(v, l)]) := by
  have T2 := T.below k.be
  refine ⟨T2.be, T2.c, fun p hp => ?_⟩
  rcases List.mem_append.1 hp with hp | hp
  · exact T2.rows p hp
  · simp at hp
    subst hp
    exact r.base (Nat.le_of_lt (lt_of_heap T.c))
theorem Bw.by' {B n c : Nat} {a : Option Addr} {l : List UInt8} (r : Bw W B (.slice a n c) l) : By W W.heap.size a l := by
  obtain ⟨a', c', e, h, -⟩ := r.form
  simp at e
  rw [e.1]
  exact h
theorem cells9 {a0 a1 a2 a3 a4 a5 a6 a7 a8 : Value} (c : W.heap[h]? = some (.cells #[a0, a1, a2, a3, a4, a5, a6, a7, a8] t)) :
    W.cell? ⟨h, 0, none⟩ = some a0 ∧ W.cell? ⟨h, 1, none⟩ = some a1 ∧ W.cell? ⟨h, 2, none⟩ = some a2 ∧ W.cell? ⟨h, 3, none⟩ = some a3 ∧ W.cell? ⟨h, 4, none⟩ = some a4 ∧ W.cell? ⟨h, 5, none⟩ = some a5 ∧ W.cell? ⟨h, 6, none⟩ = some a6 ∧ W.cell? ⟨h, 7, none⟩ = some a7 ∧ W.cell? ⟨h, 8, none⟩ = some a8 := by
  refine ⟨?_, ?_, ?_, ?_, ?_, ?_, ?_, ?_, ?_⟩ <;> (rw [cell_of c]; rfl)
end
theorem Tab.on' {B : Nat} {w W : World} (h : Tab B w) (g : Below B w W) (hB : B ≤ W.heap.size) : Tab W.heap.size W := fun w' h' => h w' (g.trans (h'.mono hB))
theorem seg_len (s : Bool) (a b : List UInt8) : (seg s a b).length ≤ 1 + a.length + b.length := by
  unfold seg
  split
  · simp; omega
  · simp
/-- The last two calls of Text: what was made is told. -/
theorem text_end {w W8 W9 : World} {h : Nat} {cs : Array Value} {t : TypeId} (x : Cc) (hx : x.path.length + x.dst.length + x.data.length ≤ 40000000000000) (hN : ∀ k, -9223372036854775808 ≤ x.num k ∧ x.num k ≤ 9223372036854775807) (a1 a2 a3 a4 a5 a6 a7 a8 : Option Addr) (z1 z2 z3 z4 z5 z6 z7 z8 : Nat)
    (T : Ts w W8 h cs t [(.slice a1 (plain x.path).length z1, plain x.path), (.slice a2 (plain x.dst).length z2, plain x.dst), (.slice a3 (Lib.itoa x.fd).length z3, Lib.itoa x.fd), (.slice a4 (Lib.itoa x.fl).length z4, Lib.itoa x.fl), (.slice a5 (Lib.itoa x.mo).length z5, Lib.itoa x.mo), (.slice a6 (Lib.itoa x.n).length z6, Lib.itoa x.n), (.slice a7 (Lib.itoa x.m).length z7, Lib.itoa x.m), (.slice a8 (plain x.data).length z8, plain x.data)])
    (ca : Array Value) (hca : ca = (prow [⟨decide (0 < x.path.length), [], plain x.path, a1, z1⟩, ⟨decide (0 < x.dst.length), [], plain x.dst, a2, z2⟩, ⟨x.fd != 0, wFd, Lib.itoa x.fd, a3, z3⟩, ⟨x.fl != 0, wFlags, Lib.itoa x.fl, a4, z4⟩, ⟨x.mo != 0, wMode, Lib.itoa x.mo, a5, z5⟩, ⟨x.n != 0, wN, Lib.itoa x.n, a6, z6⟩, ⟨x.m != 0, wM, Lib.itoa x.m, a7, z7⟩, ⟨decide (0 < x.data.length), wData, plain x.data, a8, z8⟩]).toArray) (p : Nat) (hp : p = W8.heap.size) (hW : W9 = (W8.alloc (.cells ca 71)).alloc (.cells #[.slice (some ⟨p, 0, none⟩) 8 8] 93)) (q : Nat) (hq : q = p + 1) :
    Calls Tryd.prog 30 #[S (opn x.op), .func (.func 50) #[] #[Pt q 0]] W9 fun e w' => e = .returned (S x.line) ∧ Below W9.heap.size W9 w' ∧ Below h w w' := by
  subst hq hp hca
  obtain ⟨X9, hX9, hs9, g9, gx9, hB9⟩ := alloc2 W8 (.cells (prow [⟨decide (0 < x.path.length), [], plain x.path, a1, z1⟩, ⟨decide (0 < x.dst.length), [], plain x.dst, a2, z2⟩, ⟨x.fd != 0, wFd, Lib.itoa x.fd, a3, z3⟩, ⟨x.fl != 0, wFlags, Lib.itoa x.fl, a4, z4⟩, ⟨x.mo != 0, wMode, Lib.itoa x.mo, a5, z5⟩, ⟨x.n != 0, wN, Lib.itoa x.n, a6, z6⟩, ⟨x.m != 0, wM, Lib.itoa x.m, a7, z7⟩, ⟨decide (0 < x.data.length), wData, plain x.data, a8, z8⟩]).toArray 71) (.cells #[.slice (some ⟨W8.heap.size, 0, none⟩) 8 8] 93)
  rw [hX9] at hW
  subst hW
  have T9 := T.below hB9
  have hrow := T9.rows
  have o1 := plain_len x.path
  have o2 := plain_len x.dst
  have o3 := plain_len x.data
  have i0 := itoa_len x.fd (hN 0).1 (hN 0).2
  have i1 := itoa_len x.fl (hN 1).1 (hN 1).2
  have i2 := itoa_len x.mo (hN 2).1 (hN 2).2
  have i3 := itoa_len x.n (hN 3).1 (hN 3).2
  have i4 := itoa_len x.m (hN 4).1 (hN 4).2
  have oo := opn_len x.op
  have hout : outs [⟨decide (0 < x.path.length), [], plain x.path, a1, z1⟩, ⟨decide (0 < x.dst.length), [], plain x.dst, a2, z2⟩, ⟨x.fd != 0, wFd, Lib.itoa x.fd, a3, z3⟩, ⟨x.fl != 0, wFlags, Lib.itoa x.fl, a4, z4⟩, ⟨x.mo != 0, wMode, Lib.itoa x.mo, a5, z5⟩, ⟨x.n != 0, wN, Lib.itoa x.n, a6, z6⟩, ⟨x.m != 0, wM, Lib.itoa x.m, a7, z7⟩, ⟨decide (0 < x.data.length), wData, plain x.data, a8, z8⟩] = txts [] x.path ++ txts [] x.dst ++ nums wFd x.fd ++ nums wFlags x.fl ++ nums wMode x.mo ++ nums wN x.n ++ nums wM x.m ++ txts wData x.data := by
    simp only [outs, List.flatMap_cons, List.flatMap_nil, List.append_nil, List.append_assoc]
    rfl
  refine (line_any (opn x.op) [⟨decide (0 < x.path.length), [], plain x.path, a1, z1⟩, ⟨decide (0 < x.dst.length), [], plain x.dst, a2, z2⟩, ⟨x.fd != 0, wFd, Lib.itoa x.fd, a3, z3⟩, ⟨x.fl != 0, wFlags, Lib.itoa x.fl, a4, z4⟩, ⟨x.mo != 0, wMode, Lib.itoa x.mo, a5, z5⟩, ⟨x.n != 0, wN, Lib.itoa x.n, a6, z6⟩, ⟨x.m != 0, wM, Lib.itoa x.m, a7, z7⟩, ⟨decide (0 < x.data.length), wData, plain x.data, a8, z8⟩] (by simp) (W8.heap.size + 1) W8.heap.size W9 (by rw [cell_of gx9]; rfl) (by omega) g9 ?_ ?_).mono ?_
  · intro p hp
    simp only [List.mem_cons, List.not_mem_nil, or_false] at hp
    rcases hp with rfl | rfl | rfl | rfl | rfl | rfl | rfl | rfl
    · exact (hrow (.slice a1 (plain x.path).length z1, plain x.path) (by simp)).by'
    · exact (hrow (.slice a2 (plain x.dst).length z2, plain x.dst) (by simp)).by'
    · exact (hrow (.slice a3 (Lib.itoa x.fd).length z3, Lib.itoa x.fd) (by simp)).by'
    · exact (hrow (.slice a4 (Lib.itoa x.fl).length z4, Lib.itoa x.fl) (by simp)).by'
    · exact (hrow (.slice a5 (Lib.itoa x.mo).length z5, Lib.itoa x.mo) (by simp)).by'
    · exact (hrow (.slice a6 (Lib.itoa x.n).length z6, Lib.itoa x.n) (by simp)).by'
    · exact (hrow (.slice a7 (Lib.itoa x.m).length z7, Lib.itoa x.m) (by simp)).by'
    · exact (hrow (.slice a8 (plain x.data).length z8, plain x.data) (by simp)).by'
  · rw [hout]
    have s1 := seg_len (decide (0 < x.path.length)) [] (plain x.path)
    have s2 := seg_len (decide (0 < x.dst.length)) [] (plain x.dst)
    have s3 := seg_len (x.fd != 0) wFd (Lib.itoa x.fd)
    have s4 := seg_len (x.fl != 0) wFlags (Lib.itoa x.fl)
    have s5 := seg_len (x.mo != 0) wMode (Lib.itoa x.mo)
    have s6 := seg_len (x.n != 0) wN (Lib.itoa x.n)
    have s7 := seg_len (x.m != 0) wM (Lib.itoa x.m)
    have s8 := seg_len (decide (0 < x.data.length)) wData (plain x.data)
    simp only [txts, nums, List.length_append, List.length_cons, List.length_nil] at s1 s2 s3 s4 s5 s6 s7 s8 ⊢
    omega
  · rintro e w' ⟨rfl, hb⟩
    rw [hout]
    exact ⟨rfl, hb, T9.be.trans (hb.mono (by have := lt_of_heap T9.c; omega))⟩
set_option maxRecDepth 100000 in
set_option maxHeartbeats 2000000 in
theorem text_any' (x : Cc) (hx : x.fits) (a : Option Addr) (k cap : Nat) (hk : k = x.data.length) (w : World) (hO : On w) (h0 : 0 < w.heap.size) (ht : Tab w.heap.size w) (hdat : By w w.heap.size a x.data) :
    Calls Tryd.prog 12 #[.agg (x.cs (.slice a k cap))] w fun e w' => e = .returned (S x.line) ∧ Below w.heap.size w w' := by
  subst hk
  obtain ⟨V, hV, hs, g0, hB⟩ := alloc1 w (.cells (x.cs (.slice a x.data.length cap)) 27)
  have HL := hide hx.l
  have hl1 : 3 * x.path.length ≤ 140737488355000 := by have := hx.l; omega
  have hl2 : 3 * x.dst.length ≤ 140737488355000 := by have := hx.l; omega
  have hl3 : 3 * x.data.length ≤ 140737488355000 := by have := hx.l; omega
  have HN := hide hx.n
  have HT : Hid (Ts w V.drew w.heap.size (x.cs (.slice a x.data.length cap)) 27 []) := hide ⟨below_drew hB, g0, fun p hp => by simp at hp⟩
  have HI := hide (show ∀ W, Below w.heap.size w W → On W ∧ Tab W.heap.size W ∧ By W w.heap.size a x.data from fun W g => ⟨hO.below h0 g, Tab.on' ht g g.size, hdat.below g⟩)
  clear hx hO ht hdat hs g0 hB
  go_enter Tryd.func12, Tryd.ntmps12
  go_wp2_with fail
  generalize hh : w.heap.size = h at *
  have hle := fun (W : World) (g : Below h w W) => hh ▸ g.size
  obtain ⟨c0, c1, c2, c3, c4, c5, c6, c7, c8⟩ := cells9 (unhide HT).c
  have d0 : V.cell? ⟨h, 0, none⟩ = _ := c0
  have d1 : V.cell? ⟨h, 1, none⟩ = _ := c1
  have d2 : V.cell? ⟨h, 2, none⟩ = _ := c2
  have d3 : V.cell? ⟨h, 3, none⟩ = _ := c3
  have d4 : V.cell? ⟨h, 4, none⟩ = _ := c4
  have d5 : V.cell? ⟨h, 5, none⟩ = _ := c5
  have d6 : V.cell? ⟨h, 6, none⟩ = _ := c6
  have d7 : V.cell? ⟨h, 7, none⟩ = _ := c7
  have d8 : V.cell? ⟨h, 8, none⟩ = _ := c8
  go_region_held3 (fun W' => W'.cell? ⟨h, 0, none⟩ = some (I x.op) ∧ W'.cell? ⟨h, 1, none⟩ = some (S x.path) ∧ W'.cell? ⟨h, 2, none⟩ = some (S x.dst) ∧ W'.cell? ⟨h, 3, none⟩ = some (I x.fd) ∧ W'.cell? ⟨h, 4, none⟩ = some (I x.fl) ∧ W'.cell? ⟨h, 5, none⟩ = some (I x.mo) ∧ W'.cell? ⟨h, 6, none⟩ = some (I x.n) ∧ W'.cell? ⟨h, 7, none⟩ = some (I x.m) ∧ W'.cell? ⟨h, 8, none⟩ = some (.slice a x.data.length cap)) (first | exact ⟨by assumption, by assumption, by assumption, by assumption, by assumption, by assumption, by assumption, by assumption, by assumption⟩ | go_keep)
    (first
      | (go_at_call 31; refine (opName_any x.op _ (unhide HI _ (unhide HT).be).1).mono ?_; rintro e W0 ⟨rfl, rfl⟩)
      | (go_at_call_has 33 (S x.path); refine (textS_any _ [] x.path hl1 _ (Nat.le_refl _)).mono ?_; rintro e W1 ⟨v1, rfl, r1, k1⟩; obtain ⟨a1, z1, rfl, -⟩ := r1.form; have HT1 := hide ((unhide HT).step k1 r1); clear HT r1 k1; obtain ⟨c0, c1, c2, c3, c4, c5, c6, c7, c8⟩ := cells9 (unhide HT1).c)
      | (go_at_call_has 33 (S x.dst); refine (textS_any _ [] x.dst hl2 _ (Nat.le_refl _)).mono ?_; rintro e W2 ⟨v2, rfl, r2, k2⟩; obtain ⟨a2, z2, rfl, -⟩ := r2.form; have HT2 := hide ((unhide HT1).step k2 r2); clear HT1 r2 k2; obtain ⟨c0, c1, c2, c3, c4, c5, c6, c7, c8⟩ := cells9 (unhide HT2).c)
      | (go_at_call_has 34 (I x.fd); refine (numP_any _ wFd x.fd (unhide HN 0).1 (unhide HN 0).2 _ (Nat.le_refl _) (unhide HI _ (unhide HT2).be).2.1).mono ?_; rintro e W3 ⟨v3, rfl, r3, k3⟩; obtain ⟨a3, z3, rfl, -⟩ := r3.form; have HT3 := hide ((unhide HT2).step k3 r3); clear HT2 r3 k3; obtain ⟨c0, c1, c2, c3, c4, c5, c6, c7, c8⟩ := cells9 (unhide HT3).c)
      | (go_at_call_has 34 (I x.fl); refine (numP_any _ wFlags x.fl (unhide HN 1).1 (unhide HN 1).2 _ (Nat.le_refl _) (unhide HI _ (unhide HT3).be).2.1).mono ?_; rintro e W4 ⟨v4, rfl, r4, k4⟩; obtain ⟨a4, z4, rfl, -⟩ := r4.form; have HT4 := hide ((unhide HT3).step k4 r4); clear HT3 r4 k4; obtain ⟨c0, c1, c2, c3, c4, c5, c6, c7, c8⟩ := cells9 (unhide HT4).c)
      | (go_at_call_has 34 (I x.mo); refine (numP_any _ wMode x.mo (unhide HN 2).1 (unhide HN 2).2 _ (Nat.le_refl _) (unhide HI _ (unhide HT4).be).2.1).mono ?_; rintro e W5 ⟨v5, rfl, r5, k5⟩; obtain ⟨a5, z5, rfl, -⟩ := r5.form; have HT5 := hide ((unhide HT4).step k5 r5); clear HT4 r5 k5; obtain ⟨c0, c1, c2, c3, c4, c5, c6, c7, c8⟩ := cells9 (unhide HT5).c)
      | (go_at_call_has 34 (I x.n); refine (numP_any _ wN x.n (unhide HN 3).1 (unhide HN 3).2 _ (Nat.le_refl _) (unhide HI _ (unhide HT5).be).2.1).mono ?_; rintro e W6 ⟨v6, rfl, r6, k6⟩; obtain ⟨a6, z6, rfl, -⟩ := r6.form; have HT6 := hide ((unhide HT5).step k6 r6); clear HT5 r6 k6; obtain ⟨c0, c1, c2, c3, c4, c5, c6, c7, c8⟩ := cells9 (unhide HT6).c)
      | (go_at_call_has 34 (I x.m); refine (numP_any _ wM x.m (unhide HN 4).1 (unhide HN 4).2 _ (Nat.le_refl _) (unhide HI _ (unhide HT6).be).2.1).mono ?_; rintro e W7 ⟨v7, rfl, r7, k7⟩; obtain ⟨a7, z7, rfl, -⟩ := r7.form; have HT7 := hide ((unhide HT6).step k7 r7); clear HT6 r7 k7; obtain ⟨c0, c1, c2, c3, c4, c5, c6, c7, c8⟩ := cells9 (unhide HT7).c)
      | (go_at_call 35; refine (textB_any _ wData x.data a _ cap rfl hl3 _ (Nat.le_refl _) ((unhide HI _ (unhide HT7).be).2.2.mono (hle _ (unhide HT7).be))).mono ?_; rintro e W8 ⟨v8, rfl, r8, k8⟩; obtain ⟨a8, z8, rfl, -⟩ := r8.form; have HT8 := hide ((unhide HT7).step k8 r8); clear HT7 r8 k8; obtain ⟨c0, c1, c2, c3, c4, c5, c6, c7, c8⟩ := cells9 (unhide HT8).c)
      | (go_at_call 32; refine (told_any _ _ _ _ _ rfl).mono ?_; rintro e W9 ⟨rfl, hW9⟩; (have HT9 : Hid (Ts w W9 h (x.cs (.slice a x.data.length cap)) 27 []) := hide ⟨((unhide HT8).below (by rw [hW9]; exact ((Below.refl _ _).alloc (Nat.le_refl _) _).alloc (by simp) _)).be, ((unhide HT8).below (by rw [hW9]; exact ((Below.refl _ _).alloc (Nat.le_refl _) _).alloc (by simp) _)).c, (fun p hp => by simp at hp)⟩); replace hW9 := hide hW9; obtain ⟨c0, c1, c2, c3, c4, c5, c6, c7, c8⟩ := cells9 (unhide HT9).c)
      | (go_at_call 30; refine (text_end x (unhide HL) (unhide HN) a1 a2 a3 a4 a5 a6 a7 a8 z1 z2 z3 z4 z5 z6 z7 z8 (unhide HT8) _ rfl _ rfl (unhide hW9) _ (by simp)).mono ?_; rintro e W10 ⟨rfl, hB10, hBE⟩; replace hBE := hide hBE; obtain ⟨c0, c1, c2, c3, c4, c5, c6, c7, c8⟩ := cells9 ((hB10.block _ (lt_of_heap (unhide HT9).c)).trans (unhide HT9).c)))
  go_wp2_with fail
  go_ret
  exact ⟨rfl, by rw [hh]; exact unhide hBE⟩
end Go.Proofs.YtnkkfomekdipiaaDoor.Cl
