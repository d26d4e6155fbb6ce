/-
  Walks in trees that are known.
-/
import Derived.Test.YthmdipfdloennaaLp25
import Derived.Test.YthmdipfdloennaaLp13
import Derived.Test.YthmdipfdloennaaLp06
namespace Go.Proofs.Ythmdipfdloennaa.Wl
open Go.RowKit

/-- The root's walker in a tree without mounts. -/
def E0 (T : Tr) : En := ⟨T, 1, 0, [], 0, 0, 0, 1, true⟩
def T9 : Tr := Tr.new 9 0
def T9a : Tr := T9.make 1 ⟨#[97]⟩ 1 0 0 0 ⟨#[]⟩
theorem known_1 : (E0 T9).walk 0 1 [47, 97, 47, 98] = ⟨none, Fd.none, 32, 0, 1, 1⟩ := by kernel_rfl
theorem known_n : T9.makeN 1 ⟨#[97]⟩ 1 ⟨#[]⟩ = 2 ∧ T9.makeE 1 ⟨#[97]⟩ 1 ⟨#[]⟩ = 0 := ⟨by kernel_rfl, by kernel_rfl⟩
theorem known_2 : (E0 T9a).walk 0 1 [47, 97, 47, 98] = ⟨none, ⟨0, 2, [98], 0, 0, false, false⟩, 0, 0, 2, 2⟩ := by kernel_rfl
theorem known_3 : (E0 T9a).walk 0 1 [47, 46, 46] = ⟨none, ⟨0, 1, [], 0, 1, true, false⟩, 0, 0, 1, 1⟩ := by kernel_rfl
theorem Wd.of {lo N mb : Nat} {W : World} {t m : Nat} {T : Tr} {B : Nat} (h : Tq lo N W t T B) (hB : B ≤ 880) (ls : Mt.Ls mb W m 1 0 []) : Wd lo N mb W t m (E0 T) :=
  ⟨h.p, h.f.k.mono hB, ls, fun p hp => by simp [E0] at hp, by simp [E0], fun p hp => by simp [E0] at hp⟩
theorem Ls_tx {lo mb : Nat} {W W' : World} {m : Nat} {rt md : Int} {es : Mt.Ents} (h : Mt.Ls mb W m rt md es) (g : Tx lo W W') : Mt.Ls mb W' m rt md es := by
  refine h.keep fun k cur ty hc ht => ?_
  have hty : ty = 58 ∨ ty = 109 := by
    rcases ht with rfl | rfl
    · obtain ⟨a, cap, h2, _⟩ := h.hb
      rw [hc] at h2
      simp at h2
      exact .inl h2.2
    · exact .inr rfl
  refine (g.oth k cur ty (0, 0) hc ?_ ?_ ?_ ?_ ?_).trans hc.symm <;> (rcases hty with rfl | rfl <;> decide)
end Go.Proofs.Ythmdipfdloennaa.Wl

/-
  The contract of known; a tree and mounts that are walked in.
-/
namespace Go.Proofs.Ythmdipfdloennaa.Wl
open Go.RowKit
attribute [local go_sem ↓] Go.wp_at_zero Go.wp_at_succ

/-- A tree and a table without mounts, made since w. -/
structure Pw (w W : World) (t m : Nat) (T : Tr) (B N : Nat) : Prop where
  q : Tq w.heap.size N W t T B
  ls : ∃ mb, Mt.Ls mb W m 1 0 []
  be : Below w.heap.size w W
section
variable {w W W' : World} {t m : Nat} {T : Tr} {B N : Nat}
theorem Pw.below (s : Pw w W t m T B N) (g : Below W.heap.size W W') : Pw w W' t m T B N := ⟨s.q.below g, let ⟨mb, h⟩ := s.ls; ⟨mb, h.below g⟩, s.be.trans (g.mono s.be.size)⟩
theorem Pw.alloc (s : Pw w W t m T B N) (o : Obj) : Pw w (W.alloc o) t m T B N := s.below ((Below.refl _ W).alloc (Nat.le_refl _) o)
theorem walk_P (s : Pw w W t m T B N) (hB : B ≤ 880) (path : Bytes) {F : Fd} {wy : Int} {ne : Option Pa} {x y : Int} {st : Nat} (hR : (E0 T).walk 0 1 path = ⟨ne, F, wy, x, y, st⟩) :
    Calls Try.prog 8 #[P0 t, P0 m, .agg #[I 0, I 1], .agg #[I 0, I 1], .agg #[I 0, I 0], .string (bs path), .bool true] W fun e w' => e = .returned (.tuple #[.agg #[I F.dm, I F.dn, .string (bs F.last), I F.am, I F.an, .bool F.has, .bool F.slash], I wy]) ∧ Hid (Below W.heap.size W w') := by
  obtain ⟨mb, ls⟩ := s.ls
  exact (Walk_any (Wd.of s.q hB ls) 0 1 (show (kl 1).wf = true by decide) (by decide) path _ hR)
theorem steps_P (s : Pw w W t m T B N) (hB : B ≤ 880) (path : Bytes) {F : Fd} {wy : Int} {ne : Option Pa} {x y : Int} {st : Nat} (hR : (E0 T).walk 0 1 path = ⟨ne, F, wy, x, y, st⟩) :
    Calls Try.prog 11 #[P0 t, P0 m, .agg #[I 0, I 1], .agg #[I 0, I 1], .agg #[I 0, I 0], .string (bs path), .bool true] W fun e w' => e = .returned (I (st : Int)) ∧ Hid (Below W.heap.size W w') := by
  obtain ⟨mb, ls⟩ := s.ls
  exact (Steps_any (Wd.of s.q hB ls) 0 1 (show (kl 1).wf = true by decide) (by decide) path _ hR)
theorem make_P (s : Pw w W t m T B N) (hB : B ≤ 878) (n : ByteArray) (kind mode : Int) (text : ByteArray) (hz : text.size ≤ 281474976710656) (x y : Int) (T' : Tr) (hx : T.makeN 1 n kind text = x) (hy : T.makeE 1 n kind text = y) (hT : T.make 1 n kind mode 0 0 text = T') :
    Calls Try.prog 7 #[P0 t, I 1, .string n, stV 0 kind mode 0 0 0 0, .string text] W fun e w' => e = .returned (.tuple #[I x, I y]) ∧ Hid (Pw w w' t m T' (B + 2) N) := by
  refine (make_Q s.q (by omega) (by decide) n 0 kind mode 0 0 0 0 text hz x y T' hx hy hT).mono ?_
  rintro e w' ⟨rfl, h1, h2⟩
  obtain ⟨mb, ls⟩ := s.ls
  exact ⟨rfl, ⟨unhide h1, ⟨mb, Ls_tx ls (unhide h2)⟩, s.be.trans (unhide h2).bel⟩⟩
theorem new_P (w : World) (nodes : Nat) (hn : 1 ≤ nodes ∧ nodes ≤ 64) :
    Calls Try.prog 4 #[I (nodes : Int), I 0] w fun e w' => ∃ t, e = .returned (.tuple #[P0 t, I 0]) ∧ Hid (Tq w.heap.size 0 w' t (Tr.new nodes 0) 1 ∧ Below w.heap.size w w') := by
  refine (new_Q nodes 0 hn (by omega) w).mono ?_
  rintro e w' ⟨t, rfl, h1, h2⟩
  exact ⟨t, rfl, unhide h1, unhide h2⟩
theorem newm_P {w1 : World} (h : Tq w.heap.size N w1 t T B ∧ Below w.heap.size w w1) :
    Calls Try.prog 5 #[I 1] w1 fun e w' => e = .returned (P0 w1.heap.size) ∧ Hid (Pw w w' t w1.heap.size T B N) := by
  refine (Mt.new_any 1 w1).mono ?_
  rintro e w' ⟨rfl, h1, h2⟩
  exact ⟨rfl, h.1.below h2, ⟨_, h1⟩, h.2.trans (h2.mono h.2.size)⟩
end
set_option maxRecDepth 100000 in
set_option maxHeartbeats 1000000 in
theorem known_any (w : World) : Calls Try.prog 10 #[] w fun e w' => e = .returned (.bool true) ∧ Below w.heap.size w w' := by
  have H0 := hide (new_P w 9 (by omega))
  have HT := hide top_any
  go_enter Try.func10, Try.ntmps10
  go_wp2_with fail
  refine (unhide H0).mono ?_
  rintro e w1 ⟨t, rfl, T1⟩
  clear H0
  go_wp2_with fail
  refine (newm_P (unhide T1)).mono ?_
  rintro e w2 ⟨rfl, P2⟩
  generalize w1.heap.size = m at *
  go_wp2_with fail
  refine (unhide HT w2).mono ?_
  rintro e w3 ⟨rfl, hB3⟩
  have P3 := hide ((unhide P2).below hB3)
  clear hB3 P2
  go_wp2_with fail
  refine (unhide HT w3).mono ?_
  rintro e w4 ⟨rfl, hB4⟩
  have P4 := hide ((unhide P3).below hB4)
  clear hB4 P3
  go_wp2_with fail
  refine (walk_P (unhide P4) (by omega) [47, 97, 47, 98] known_1).mono ?_
  rintro e w5 ⟨rfl, hB5⟩
  have P5 := hide (((unhide P4).below (unhide hB5)).alloc (.cells #[I 0, I 0, .string (bs []), I 0, I 0, .bool false, .bool false] 36))
  clear hB5 P4
  simp only [Fd.none]
  go_wp2_with fail
  refine (make_P (unhide P5) (by omega) ⟨#[97]⟩ 1 0 ⟨#[]⟩ (by decide) 2 0 T9a known_n.1 known_n.2 rfl).mono ?_
  rintro e w7 ⟨rfl, P7⟩
  clear P5
  go_wp2_with fail
  refine (unhide HT w7).mono ?_
  rintro e w8 ⟨rfl, hB8⟩
  have P8 := hide ((unhide P7).below hB8)
  clear hB8 P7
  go_wp2_with fail
  refine (unhide HT w8).mono ?_
  rintro e w9 ⟨rfl, hB9⟩
  have P9 := hide ((unhide P8).below hB9)
  clear hB9 P8
  go_wp2_with fail
  refine (walk_P (unhide P9) (by omega) [47, 97, 47, 98] known_2).mono ?_
  rintro e wa ⟨rfl, hBa⟩
  have Pa' := hide (((unhide P9).below (unhide hBa)).alloc (.cells #[I 0, I 2, .string (bs [98]), I 0, I 0, .bool false, .bool false] 36))
  clear hBa P9
  simp only []
  obtain ⟨wb, hwb, gb⟩ : ∃ wb, wa.alloc (.cells #[I 0, I 2, .string (bs [98]), I 0, I 0, .bool false, .bool false] 36) = wb ∧ wb.heap[wa.heap.size]? = some (.cells #[I 0, I 2, .string (bs [98]), I 0, I 0, .bool false, .bool false] 36) := ⟨_, rfl, heap_alloc_new _ _⟩
  rw [hwb] at Pa'
  have HGb := hide gb
  have HWb := hide hwb
  clear gb hwb
  go_wp2_with fail
  rw [unhide HWb]
  refine (unhide HT wb).mono ?_
  rintro e wc ⟨rfl, hBc⟩
  have Pc := hide (⟨(unhide Pa').below hBc, (hBc.block _ (lt_of_heap (unhide HGb))).trans (unhide HGb)⟩ : _ ∧ _)
  clear hBc Pa' HGb HWb
  go_wp2_with fail
  refine (unhide HT wc).mono ?_
  rintro e wd ⟨rfl, hBd⟩
  have Pd := hide (⟨(unhide Pc).1.below hBd, (hBd.block _ (lt_of_heap (unhide Pc).2)).trans (unhide Pc).2⟩ : _ ∧ _)
  clear hBd Pc
  go_wp2_with fail
  refine (walk_P (unhide Pd).1 (by omega) [47, 46, 46] known_3).mono ?_
  rintro e we ⟨rfl, hBe⟩
  simp only []
  obtain ⟨wf, hwf, gf, hBf⟩ : ∃ wf, we.alloc (.cells #[I 0, I 1, .string (bs []), I 0, I 1, .bool true, .bool false] 36) = wf ∧ wf.heap[we.heap.size]? = some (.cells #[I 0, I 1, .string (bs []), I 0, I 1, .bool true, .bool false] 36) ∧ Below we.heap.size we wf := ⟨_, rfl, heap_alloc_new _ _, (Below.refl _ _).alloc (Nat.le_refl _) _⟩
  have hBdf := (unhide hBe).trans (hBf.mono (unhide hBe).size)
  have Pf := (unhide Pd).1.below hBdf
  have gaf := (hBdf.block _ (lt_of_heap (unhide Pd).2)).trans (unhide Pd).2
  obtain ⟨x0, x1, x2, x3, x4, x5, x6, -⟩ := cells7 gaf
  obtain ⟨y0, y1, y2, y3, y4, y5, y6, -⟩ := cells7 gf
  have HPf := hide Pf
  have HTf := hide (unhide HT wf.drew)
  have HWf := hide hwf
  clear hBe Pd gf hBf hBdf Pf gaf hwf
  go_wp2_with fail
  rw [unhide HWf]
  go_region_held3 (fun w' => w'.cell? ⟨wa.heap.size, 0, none⟩ = some (I 0) ∧ w'.cell? ⟨wa.heap.size, 1, none⟩ = some (I 2) ∧ w'.cell? ⟨wa.heap.size, 2, none⟩ = some (.string (bs [98])) ∧ w'.cell? ⟨wa.heap.size, 3, none⟩ = some (I 0) ∧ w'.cell? ⟨wa.heap.size, 4, none⟩ = some (I 0) ∧ w'.cell? ⟨wa.heap.size, 5, none⟩ = some (.bool false) ∧ w'.cell? ⟨wa.heap.size, 6, none⟩ = some (.bool false) ∧ w'.cell? ⟨we.heap.size, 2, none⟩ = some (.string (bs [])) ∧ w'.cell? ⟨we.heap.size, 3, none⟩ = some (I 0) ∧ w'.cell? ⟨we.heap.size, 4, none⟩ = some (I 1) ∧ w'.cell? ⟨we.heap.size, 5, none⟩ = some (.bool true)) (go_keep)
    (first
      | (go_at_call 9; refine (unhide HTf).mono ?_; rintro e wg ⟨rfl, hBg⟩; have HBg := hide hBg; clear hBg; have a0 := cell_be (W := wf.drew) x0 (unhide HBg); have a1 := cell_be (W := wf.drew) x1 (unhide HBg); have a2 := cell_be (W := wf.drew) x2 (unhide HBg); have a3 := cell_be (W := wf.drew) x3 (unhide HBg); have a4 := cell_be (W := wf.drew) x4 (unhide HBg); have a5 := cell_be (W := wf.drew) x5 (unhide HBg); have a6 := cell_be (W := wf.drew) x6 (unhide HBg); have b2 := cell_be (W := wf.drew) y2 (unhide HBg); have b3 := cell_be (W := wf.drew) y3 (unhide HBg); have b4 := cell_be (W := wf.drew) y4 (unhide HBg); have b5 := cell_be (W := wf.drew) y5 (unhide HBg)))
  go_wp2_with fail
  go_ret
  exact ⟨rfl, ((unhide HPf).below ((below_drew (Below.refl _ _)).trans (unhide HBg))).be⟩
end Go.Proofs.Ythmdipfdloennaa.Wl

/-
  A chain of symlinks, and the walk along it.
-/
namespace Go.Proofs.Ythmdipfdloennaa.Wl
open Go.RowKit

/-- The names: that of the Dir, then those of the symlinks. -/
def nm (j : Nat) : Bytes := [108, (65 + j).toUInt8]
def nmE : Nat → Bytes
  | 0 => [101, 110, 100]
  | j + 1 => nm j
theorem nm_facts : ∀ j : Fin 51, Nm.err (nmE j.val) = 0 ∧ Nm.rt (nmE j.val) = false ∧ Nm.sl (nmE j.val) = false ∧ Nm.ps (nmE j.val) = [nmE j.val] ∧ isDots (nmE j.val) = false ∧ (nmE j.val).length ≤ 3 ∧ nmE j.val ≠ [] ∧ right (bs (nmE j.val)) = true := by decide +kernel
theorem nm_path : ∀ j : Fin 51, ∀ sl : Bool, Nm.err ([47] ++ nmE j.val ++ (if sl then [47] else [])) = 0 ∧ Nm.rt ([47] ++ nmE j.val ++ (if sl then [47] else [])) = true ∧ Nm.sl ([47] ++ nmE j.val ++ (if sl then [47] else [])) = sl ∧ Nm.ps ([47] ++ nmE j.val ++ (if sl then [47] else [])) = [nmE j.val] := by decide +kernel
theorem nm_inj : ∀ i j : Fin 51, nmE i.val = nmE j.val → i.val = j.val := by decide +kernel
theorem bs_ne {a b : Bytes} (h : a ≠ b) : bs a ≠ bs b := fun e => h (by
  have := congrArg (fun x => x.data.toList) e
  simpa using this)
/-- What holds of the tree when i symlinks were made. -/
structure LP (T : Tr) (i : Nat) : Prop where
  md : T.made = i + 2
  ms : T.most = 64
  rt : ∃ d, T.nd 1 = some d ∧ d.kind = 1 ∧ 0 < d.names ∧ Srt d.ins ∧ (∀ j, j ≤ i → getE d.ins (bs (nmE j)) = some ((j : Int) + 2)) ∧ (∀ j, i < j → j ≤ 50 → getE d.ins (bs (nmE j)) = none)
  e2 : ∃ x, T.nd 2 = some x ∧ x.kind = 1
  ln : ∀ j, 1 ≤ j → j ≤ i → ∃ x, T.nd ((j : Int) + 2) = some x ∧ x.kind = 3 ∧ x.text = bs (nmE (j - 1))
def TE : Tr := (Tr.new 64 0).make 1 (bs [101, 110, 100]) 1 493 0 0 (bs [])
theorem LP.zero : LP TE 0 := by
  refine ⟨by kernel_rfl, by kernel_rfl, ⟨⟨1, 493, 0, 0, 1, 0, 1, [(bs [101, 110, 100], 2)], 0, ⟨#[]⟩⟩, by kernel_rfl, rfl, by decide, ?_, ?_, ?_⟩, ⟨⟨1, 493, 0, 0, 1, 0, 1, [], 0, ⟨#[]⟩⟩, by kernel_rfl, rfl⟩, fun j h1 h2 => by omega⟩
  · exact List.pairwise_singleton _ _
  · intro j hj
    obtain rfl : j = 0 := by omega
    decide +kernel
  · intro j h1 h2
    have : ∀ j : Fin 51, 0 < j.val → getE [((bs [101, 110, 100], (2 : Int)))] (bs (nmE j.val)) = none := by decide +kernel
    exact this ⟨j, by omega⟩ h1
theorem LP.makeE {T : Tr} {i : Nat} (h : LP T i) (hi : i < 50) : T.makeE 1 (bs (nmE (i + 1))) 3 (bs (nmE i)) = 0 := by
  obtain ⟨d, hd, hk, hn, hs, h1, h2⟩ := h.rt
  have hdir : T.dir 1 = some d := Tr.dir_some.2 ⟨hd, hk⟩
  have hr := (nm_facts ⟨i + 1, by omega⟩).2.2.2.2.2.2.2
  have hg := h2 (i + 1) (by omega) (by omega)
  have hf : fitsB 3 (bs (nmE i)) = true := by simp [fitsB]
  have hre : refusesE d (bs (nmE (i + 1))) = 0 := by
    unfold refusesE
    rw [hg]
    simp
    omega
  have hl : ¬ T.left = 0 := by
    have := cnt_le (T.made + 1) (fun k => (T.nd (k : Int)).isSome)
    unfold Tr.left Tr.live
    rw [h.ms]
    have := h.md
    omega
  unfold Tr.makeE
  rw [hdir]
  simp only []
  rw [if_pos ⟨hr, hf⟩, if_neg (by simp [hre]), if_neg (by simp), if_neg hl]
theorem LP.next {T : Tr} {B i : Nat} (h : LP T i) (hw : Wk B T) (hi : i < 50) : LP (T.make 1 (bs (nmE (i + 1))) 3 0 0 0 (bs (nmE i))) (i + 1) := by
  have he := h.makeE hi
  obtain ⟨d, hd, hk, hn, hs, h1, h2⟩ := h.rt
  have hnd := fun k => Tr.make_nd hw (mode := 0) (uid := 0) (gid := 0) he hd k
  have hmk := h.md
  have hg := h2 (i + 1) (by omega) (by omega)
  have hgen : (T.make 1 (bs (nmE (i + 1))) 3 0 0 0 (bs (nmE i))).made = T.made + 1 ∧ (T.make 1 (bs (nmE (i + 1))) 3 0 0 0 (bs (nmE i))).most = T.most := by
    rw [Tr.make, if_pos he]
    have hd' : (T.add 3 0 0 0 (bs (nmE i))).nd 1 = some d := by
      simp only [Tr.add]
      rw [if_neg (by omega)]
      exact hd
    have hx' : ∃ x, (T.add 3 0 0 0 (bs (nmE i))).nd ((T.made : Int) + 1) = some x := Option.isSome_iff_exists.1 (by simp [Tr.add])
    obtain ⟨x, hx'⟩ := hx'
    obtain ⟨q1, q2, -⟩ := Tr.give_rest hd' hx' (bs (nmE (i + 1)))
    exact ⟨q1, q2⟩
  refine ⟨by rw [hgen.1]; omega, by rw [hgen.2]; exact h.ms, ⟨{ d with ins := putE d.ins (bs (nmE (i + 1))) ((T.made : Int) + 1) }, ?_, hk, hn, hs.put hg _, ?_, ?_⟩, ?_, ?_⟩
  · rw [hnd, if_neg (by omega), if_pos rfl]
  · intro j hj
    show getE (putE d.ins _ _) _ = _
    rw [putE_get hs hg]
    by_cases e : j = i + 1
    · subst e
      rw [if_pos rfl, hmk]
      congr 1
    · rw [if_neg (bs_ne fun e2 => e (nm_inj ⟨j, by omega⟩ ⟨i + 1, by omega⟩ e2))]
      exact h1 j (by omega)
  · intro j hj1 hj2
    show getE (putE d.ins _ _) _ = _
    rw [putE_get hs hg, if_neg (bs_ne fun e2 => by have := nm_inj ⟨j, by omega⟩ ⟨i + 1, by omega⟩ e2; simp at this; omega)]
    exact h2 j (by omega) hj2
  · obtain ⟨x, hx, hxk⟩ := h.e2
    exact ⟨x, by rw [hnd, if_neg (by omega), if_neg (by omega)]; exact hx, hxk⟩
  · intro j hj1 hj2
    by_cases e : j = i + 1
    · subst e
      refine ⟨_, by rw [hnd, if_pos (by omega)], rfl, rfl⟩
    · obtain ⟨x, hx, h3, h4⟩ := h.ln j hj1 (by omega)
      exact ⟨x, by rw [hnd, if_neg (by omega), if_neg (by omega)]; exact hx, h3, h4⟩
end Go.Proofs.Ythmdipfdloennaa.Wl

/-
  The walk along a chain of symlinks.
-/
namespace Go.Proofs.Ythmdipfdloennaa.Wl
open Go.RowKit

theorem down0 (T : Tr) (x y : Int) : (E0 T).down x y = (x, y) := by
  unfold En.down Mt.down
  exact Mt.dn_stop _ rfl
theorem downed0 (T : Tr) : (E0 T).downed = E0 T := by
  unfold En.downed
  rw [show (E0 T).down (E0 T).rm (E0 T).rn = (0, 1) from down0 T 0 1]
  rfl
theorem may0 (cg m u g : Int) : Kr.may 0 cg m u g 1 = true := by
  unfold Kr.may Kr.cnt
  rw [if_pos rfl]
  decide
section
variable {T : Tr} {i : Nat}
theorem LP.refusal (h : LP T i) : (E0 T).refusal 1 = 0 := by
  obtain ⟨d, hd, hk, -⟩ := h.rt
  have h1 : (E0 T).T.kindOf 1 = 1 := by
    unfold Tr.kindOf
    rw [show (E0 T).T.nd 1 = some d from hd]
    exact hk
  have h2 : (E0 T).may 1 = true := by
    unfold En.may
    rw [show (E0 T).T.nd 1 = some d from hd]
    exact may0 _ _ _ _
  rw [En.refusal, if_pos h1, if_pos h2]
theorem LP.find (h : LP T i) {j : Nat} (hj : j ≤ i) : (E0 T).find (nmE j) 0 1 = some (0, (j : Int) + 2) := by
  obtain ⟨d, hd, hk, hn, hs, h1, h2⟩ := h.rt
  have hdir : T.dir 1 = some d := Tr.dir_some.2 ⟨hd, hk⟩
  have : (E0 T).T.findN 1 (bs (nmE j)) = some ((j : Int) + 2) := by
    unfold Tr.findN
    rw [show (E0 T).T.dir 1 = some d from hdir]
    exact h1 j hj
  rw [En.find, this, Option.map_some, down0]
theorem LP.one_end (h : LP T i) (fol : Nat) (r sl : Bool) (s : Nat) : (E0 T).one fol ⟨r, sl, [nmE 0]⟩ 0 1 s = ⟨none, ⟨0, 1, [101, 110, 100], 0, 2, true, sl⟩, 0, 0, 2, s + 1⟩ := by
  have hb : (E0 T).beg ⟨r, sl, [nmE 0]⟩ 0 1 = (0, 1) := by unfold En.beg; split <;> rfl
  obtain ⟨x, hx, hxk⟩ := h.e2
  have hk2 : (E0 T).T.kindOf 2 = 1 := by
    unfold Tr.kindOf
    rw [show (E0 T).T.nd 2 = some x from hx]
    exact hxk
  have hg : ¬ (E0 T).goes 2 [] sl = true := by
    unfold En.goes
    rw [hk2]
    simp
  have hf := h.find (Nat.zero_le i)
  unfold En.one
  rw [hb]
  simp only []
  rw [En.par, if_pos h.refusal, if_neg (by decide), hf]
  simp only []
  rw [if_neg (by simpa using hg), En.par]
  have e1 : (E0 T).endF 0 1 (nmE 0) 0 2 sl = ⟨0, 1, [101, 110, 100], 0, 2, true, sl⟩ := by
    unfold En.endF
    rw [if_neg (by simp [hk2]), if_neg (by decide)]
    rfl
  have e2 : (E0 T).endE 2 sl = 0 := by
    unfold En.endE
    rw [if_neg (by simp [hk2])]
  show Re.mk none ((E0 T).endF 0 1 (nmE 0) 0 2 sl) ((E0 T).endE 2 sl) 0 2 (s + 1) = _
  rw [e1, e2]
theorem LP.one_link (h : LP T i) (hi : i ≤ 50) (fol : Nat) (r sl : Bool) (s : Nat) {j : Nat} (hj : j + 1 ≤ i) : (E0 T).one fol ⟨r, sl, [nmE (j + 1)]⟩ 0 1 s = if fol = 40 then ⟨none, Fd.none, 46, 0, 1, s + 1⟩ else ⟨some ⟨false, sl, [nmE j]⟩, Fd.none, 0, 0, 1, s + 1⟩ := by
  have hb : (E0 T).beg ⟨r, sl, [nmE (j + 1)]⟩ 0 1 = (0, 1) := by unfold En.beg; split <;> rfl
  obtain ⟨x, hx, hxk, hxt⟩ := h.ln (j + 1) (by omega) hj
  have hk2 : (E0 T).T.kindOf (((j + 1 : Nat) : Int) + 2) = 3 := by
    unfold Tr.kindOf
    rw [show (E0 T).T.nd _ = some x from hx]
    exact hxk
  have ht : (E0 T).text (((j + 1 : Nat) : Int) + 2) = nmE j := by
    unfold En.text Tr.textOf
    rw [show (E0 T).T.nd _ = some x from hx]
    show x.text.data.toList = _
    rw [hxt]
    simp
  have hg : (E0 T).goes (((j + 1 : Nat) : Int) + 2) [] sl = true := by
    unfold En.goes
    rw [hk2]
    simp [E0]
  obtain ⟨n1, n2, n3, n4, n5, n6, n7, -⟩ := nm_facts ⟨j, by omega⟩
  obtain ⟨-, -, -, -, m5, -, -, -⟩ := nm_facts ⟨j + 1, by omega⟩
  have hf := h.find hj
  unfold En.one
  rw [hb]
  simp only []
  rw [En.par, if_pos h.refusal, if_neg (by simp only [] at m5; rw [m5]; decide), hf]
  simp only []
  rw [if_pos hg, ht]
  simp only [] at n1 n2 n3 n4 n6 n7
  by_cases h40 : fol = 40
  · have e : onE fol (nmE j) sl [] = 46 := by rw [onE, if_pos h40]
    rw [e, if_neg (by decide), if_pos h40]
  · have e : onE fol (nmE j) sl [] = 0 := by
      have hp : (Nm.pw false sl []).length = 0 := by cases sl <;> rfl
      rw [onE, if_neg h40, if_neg n7, if_neg (by rw [hp]; omega), n1]
    have e2 : onP (nmE j) sl [] = ⟨false, sl, [nmE j]⟩ := by
      unfold onP
      rw [n2, n3, n4]
      simp
    rw [e, if_pos rfl, if_neg h40, e2]
theorem LP.run (h : LP T i) (hi : i ≤ 50) (sl : Bool) : ∀ (k : Nat), k ≤ 40 → ∀ (j : Nat), j ≤ i → ∀ (r : Bool) (s : Nat), (E0 T).run k ⟨r, sl, [nmE j]⟩ 0 1 s = if j ≤ k then ⟨none, ⟨0, 1, [101, 110, 100], 0, 2, true, sl⟩, 0, 0, 2, s + j + 1⟩ else ⟨none, Fd.none, 46, 0, 1, s + k + 1⟩ := by
  intro k
  induction k with
  | zero =>
    intro _ j hj r s
    rw [En.run]
    cases j with
    | zero => rw [h.one_end, if_pos (Nat.le_refl _)]
    | succ j => rw [h.one_link hi 40 r sl s hj, if_pos rfl, if_neg (by omega)]
  | succ k ih =>
    intro hk j hj r s
    rw [En.run]
    cases j with
    | zero =>
      rw [h.one_end, if_pos (by omega)]
    | succ j =>
      rw [h.one_link hi _ r sl s hj, if_neg (by omega)]
      simp only []
      rw [ih (by omega) j (by omega)]
      by_cases hjk : j ≤ k
      · rw [if_pos hjk, if_pos (by omega)]
        simp only [Re.mk.injEq, true_and]
        omega
      · rw [if_neg hjk, if_neg (by omega)]
        simp only [Re.mk.injEq, true_and]
        omega
/-- What Walk comes to. -/
theorem LP.walk (h : LP T i) (hi : i ≤ 50) (sl : Bool) : (E0 T).walk 0 1 ([47] ++ nmE i ++ (if sl then [47] else [])) = if i ≤ 40 then ⟨none, ⟨0, 1, [101, 110, 100], 0, 2, true, sl⟩, 0, 0, 2, i + 1⟩ else ⟨none, Fd.none, 46, 0, 1, 41⟩ := by
  obtain ⟨p1, p2, p3, p4⟩ := nm_path ⟨i, by omega⟩ sl
  simp only [] at p1 p2 p3 p4
  obtain ⟨d, hd, -⟩ := h.rt
  have hpl : (E0 T).place 0 1 = true := by
    unfold En.place
    rw [show (E0 T).T.nd 1 = some d from hd]
    rfl
  unfold En.walk
  rw [show (E0 T).rm = 0 from rfl, show (E0 T).rn = 1 from rfl, hpl, if_pos (by rfl), if_pos p1, p2, p3, p4, downed0, down0, h.run hi sl 40 (Nat.le_refl _) i (Nat.le_refl _) true 0]
  simp only [Nat.zero_add]
end
end Go.Proofs.Ythmdipfdloennaa.Wl
