/-
  warrenbook's Same over two slices of numbers.
-/
import Derived.Test.YtlngeaacjbdmhaaGreatQp28
import Derived.Test.YtlngeaacjbdmhaaGreatQp36
import Derived.Test.YtlngeaacjbdmhaaGreatQp22
import Derived.Shelf.SlIterI.Sorted
import Derived.Shelf.SlIterI.Keys
import Derived.Shelf.SortM.Plain
import Derived.Shelf.SortM.SortNone
import Derived.Test.YtlngeaacjbdmhaaGreatProg
import Derived.Test.YtlngeaacjbdmhaaGreatQp06
import Derived.Test.YtlngeaacjbdmhaaGreatQp35
import Derived.Test.YtlngeaacjbdmhaaGreatQp34
namespace Go.Proofs.YtlngeaacjbdmhaaGreat.Mt
open Go.RowKit
attribute [local go_sem ↓] Go.wp_at_zero Go.wp_at_succ
structure Sl (W : World) (a : Option Addr) (xs : List Int) : Prop where
  at' : ∀ (i : Nat) (x : Int), xs[i]? = some x → ∃ g, a = some ⟨g, 0, none⟩ ∧ W.cell? ⟨g, i, none⟩ = some (I x)
theorem Sl.of {W : World} {base : Nat} {v : Value} {xs : List Int} (h : W.ownsRow base 3 1 v xs.length (ints xs)) : ∃ a cap, v = .slice a xs.length cap ∧ Sl W a xs := by
  obtain ⟨a, cap, rfl⟩ := own_form h
  refine ⟨a, cap, rfl, ⟨fun i x hi => ?_⟩⟩
  have hl := (List.getElem?_eq_some_iff.1 hi).1
  obtain ⟨g, cap', cur, e, _, hg, _, _, _, hx⟩ := own_open h (by omega)
  simp only [Value.slice.injEq] at e
  exact ⟨g, e.1, hx i (I x) (by simp [ints, hi])⟩
theorem Sl.below {W W' : World} {a : Option Addr} {xs : List Int} (h : Sl W a xs) (hb : Below W.heap.size W W') : Sl W' a xs := by
  refine ⟨fun i x hi => ?_⟩
  obtain ⟨g, e, hc⟩ := h.at' i x hi
  refine ⟨g, e, ?_⟩
  have hg : g < W.heap.size := by
    rcases Nat.lt_or_ge g W.heap.size with h1 | h1
    · exact h1
    · simp [World.cell?, Array.getElem?_eq_none h1] at hc
  exact (World.cell?_of_block (hb.block g hg)).trans hc
theorem take_next {xs ys : List Int} {k : Nat} {x : Int} (h : xs.take k = ys.take k) (hx : xs[k]? = some x) (hy : ys[k]? = some x) : xs.take (k + 1) = ys.take (k + 1) := by
  rw [List.take_add_one, List.take_add_one, h, hx, hy]
set_option maxRecDepth 100000 in
set_option maxHeartbeats 1000000 in
theorem same_any (a1 a2 : Option Addr) (c1 c2 : Nat) (xs ys : List Int) (w : World) (h1 : Sl w a1 xs) (h2 : Sl w a2 ys) (hx : xs.length ≤ 1000) :
    Calls Tryz.prog 83 #[.slice a1 xs.length c1, .slice a2 ys.length c2] w fun e w' => e = .returned (.bool (decide (xs = ys))) ∧ Below w.heap.size w w' := by
  by_cases hl : xs.length = ys.length
  · have HS1 := hide h1
    have HS2 := hide h2
    have Hl := hide hl
    rw [← hl]
    obtain ⟨n, hn⟩ : ∃ n, n = xs.length := ⟨_, rfl⟩
    rw [← hn]
    have Hn := hide hn
    rw [← hn] at hx
    clear h1 h2 hl hn
    go_enter Tryz.func83, Tryz.ntmps83
    go_wp2_with fail
    go_loopw [5] (fun v wr => ∃ k : Nat, v = I k ∧ k ≤ n ∧ xs.take k = ys.take k ∧ Below w.heap.size w wr) (fun v _ => n - (intOf v).toNat)
    case atStart => exact ⟨0, rfl, Nat.zero_le _, by simp, Below.refl _ _⟩
    case round =>
      obtain ⟨k, rfl, hk, he, hb⟩ := hrel
      by_cases hkn : k < n
      · obtain ⟨x, ex⟩ : ∃ x, xs[k]? = some x := ⟨_, List.getElem?_eq_getElem (by have := unhide Hn; omega)⟩
        obtain ⟨y, ey⟩ : ∃ y, ys[k]? = some y := ⟨_, List.getElem?_eq_getElem (by have := unhide Hn; have := unhide Hl; omega)⟩
        obtain ⟨g, rfl, p1⟩ := ((unhide HS1).below hb).at' k x ex
        obtain ⟨g', rfl, p2⟩ := ((unhide HS2).below hb).at' k y ey
        have HB := hide hb
        clear hb
        have j1 : (k : Int) < (n : Int) := by omega
        have j0 : (0 : Int) ≤ (k : Int) := by omega
        by_cases hxy : x = y
        · subst hxy
          have HN := hide (take_next he ex ey)
          clear he ex ey
          go_wp2_with fail
          go_region_held3 (fun w' => w'.cell? ⟨g, k, none⟩ = some (I x) ∧ w'.cell? ⟨g', k, none⟩ = some (I x)) (go_keep) (fail)
          go_wp2_with fail
          go_roundw
          case rel => exact ⟨k + 1, by go_num, by omega, unhide HN, below_drew (unhide HB)⟩
          case measure => simp [intOf]; omega
        · have HN : Hid (xs ≠ ys) := fun e => hxy (by rw [e, ey] at ex; exact (Option.some.inj ex).symm)
          clear he ex ey
          go_wp2_with fail
          go_region_held3 (fun w' => w'.cell? ⟨g, k, none⟩ = some (I x) ∧ w'.cell? ⟨g', k, none⟩ = some (I y)) (go_keep) (fail)
          go_wp2_with fail
          go_ret
          exact ⟨by rw [decide_eq_false (unhide HN)]; rfl, below_drew (unhide HB)⟩
      · obtain rfl : k = n := by omega
        have HE : Hid (xs = ys) := by
          have a1 := unhide Hn
          have a2 := unhide Hl
          rw [List.take_of_length_le (by omega), List.take_of_length_le (by omega)] at he
          exact he
        have HB := hide hb
        clear he hb
        go_wp2_with fail
        go_ret
        exact ⟨by rw [decide_eq_true (unhide HE)]; rfl, unhide HB⟩
  · have HN : Hid (xs ≠ ys) := fun e => hl (by rw [e])
    clear h1 h2
    generalize xs.length = n at *
    generalize ys.length = m at *
    have hnm : ¬ (n : Int) = (m : Int) := by omega
    go_enter Tryz.func83, Tryz.ntmps83
    go_wp2_with fail
    go_ret
    exact ⟨by rw [decide_eq_false (unhide HN)]; rfl, Below.refl _ _⟩
end Go.Proofs.YtlngeaacjbdmhaaGreat.Mt

namespace Go.Proofs.YtlngeaacjbdmhaaGreat.Bo
open Go.RowKit Bt
attribute [local go_sem ↓] Go.wp_at_zero Go.wp_at_succ
section
variable {t r l0 l1 N B : Nat} {w W : World} {T : Tr}
theorem tStat_o (S : Bo t r l0 l1 N B w W T T) (hB : B ≤ 850) {n : Int} (hn : (kl n).wf = true) :
    Calls Tryz.prog 37 #[P0 t, I n] W fun e w' => e = .returned (.tuple #[T.stat n, .bool (T.nd n).isSome]) ∧ Below W.heap.size W w' := by
  refine (stat_Q S.q (by omega) hn _ _ rfl rfl).mono ?_
  rintro e w' ⟨rfl, -, h2⟩
  exact ⟨rfl, unhide h2⟩
theorem dStat_o (S : Bo t r l0 l1 N B w W T T) (hB : B ≤ 850) {n : Int} (hn : (kl n).wf = true) :
    Calls Tryz.prog 88 #[P0 r, I n] W fun e w' => e = .returned (.tuple #[T.stat n, .bool (T.nd n).isSome]) ∧ Below W.heap.size W w' := by
  obtain ⟨p, Lv, nb, ev, uv, h1, -⟩ := S.d
  unfold Tr.stat
  cases hx : T.nd n with
  | none => exact (Rf.dStat_none h1 S.f (by omega) n hn hx).mono fun e w' ⟨h1, h2⟩ => ⟨h1, unhide h2⟩
  | some x => exact (Rf.dStat_some h1 S.f (by omega) n hn hx).mono fun e w' ⟨h1, h2⟩ => ⟨h1, unhide h2⟩
theorem tUp_o (S : Bo t r l0 l1 N B w W T T) {n : Int} (hn : (kl n).wf = true) :
    Calls Tryz.prog 89 #[P0 t, I n] W fun e w' => e = .returned (I (T.up n)) ∧ Below W.heap.size W w' := by
  refine (up_Q S.q hn _ rfl).mono ?_
  rintro e w' ⟨rfl, -, h2⟩
  exact ⟨rfl, unhide h2⟩
theorem dUp_o (S : Bo t r l0 l1 N B w W T T) (hB : B ≤ 850) {n : Int} (hn : (kl n).wf = true) :
    Calls Tryz.prog 90 #[P0 r, I n] W fun e w' => e = .returned (I (T.up n)) ∧ Below W.heap.size W w' := by
  refine (Rf.dUp_D S.d S.f.k (by omega) n hn).mono ?_
  rintro e w' ⟨rfl, rfl⟩
  exact ⟨rfl, Below.refl _ _⟩
theorem tText_o (S : Bo t r l0 l1 N B w W T T) {n : Int} (hn : (kl n).wf = true) :
    Calls Tryz.prog 58 #[P0 t, I n] W fun e w' => e = .returned (.string (T.textOf n)) ∧ Below W.heap.size W w' := by
  refine (text_Q S.q hn _ rfl).mono ?_
  rintro e w' ⟨rfl, -, h2⟩
  exact ⟨rfl, unhide h2⟩
theorem dText_o (S : Bo t r l0 l1 N B w W T T) (hB : B ≤ 850) {n : Int} (hn : (kl n).wf = true) :
    Calls Tryz.prog 91 #[P0 r, I n] W fun e w' => e = .returned (.string (T.textOf n)) ∧ Below W.heap.size W w' := by
  refine (Rf.dText_D S.d S.f.k (by omega) n hn).mono ?_
  rintro e w' ⟨rfl, rfl⟩
  exact ⟨rfl, Below.refl _ _⟩
theorem tFind_o (S : Bo t r l0 l1 N B w W T T) (hB : B ≤ 850) {n : Int} (hn : (kl n).wf = true) (s : ByteArray) :
    Calls Tryz.prog 55 #[P0 t, I n, .string s] W fun e w' => e = .returned (.tuple #[I ((T.findN n s).getD 0), .bool (T.findN n s).isSome]) ∧ Below W.heap.size W w' := by
  refine (find_Q S.q (by omega) hn s _ _ rfl rfl).mono ?_
  rintro e w' ⟨rfl, -, h2⟩
  exact ⟨rfl, unhide h2⟩
theorem dFind_o (S : Bo t r l0 l1 N B w W T T) (hB : B ≤ 850) {n : Int} (hn : (kl n).wf = true) (s : ByteArray) :
    Calls Tryz.prog 93 #[P0 r, I n, .string s] W fun e w' => e = .returned (.tuple #[I ((T.findN n s).getD 0), .bool (T.findN n s).isSome]) ∧ Below W.heap.size W w' := by
  refine (Rf.dFind_D S.d S.f.k (by omega) n hn s _ _ rfl rfl).mono ?_
  rintro e w' ⟨rfl, k, rfl⟩
  exact ⟨rfl, below_n W k⟩
theorem tLeft_o (S : Bo t r l0 l1 N B w W T T) (hB : B ≤ 850) :
    Calls Tryz.prog 86 #[P0 t] W fun e w' => e = .returned (I T.left) ∧ Below W.heap.size W w' := by
  refine (left_Q S.q (by omega) _ rfl).mono ?_
  rintro e w' ⟨rfl, -, h2⟩
  exact ⟨rfl, unhide h2⟩
theorem tNames_o (S : Bo t r l0 l1 N B w W T T) (hB : B ≤ 850) {n : Int} (hn : (kl n).wf = true) :
    Calls Tryz.prog 56 #[P0 t, I n] W fun e w' => ∃ v, e = .returned v ∧ Hid (Rs W.heap.size w' v (T.names n)) ∧ Hid (Below W.heap.size W w') := by
  refine (names_Q S.q (by omega) hn).mono ?_
  rintro e w' ⟨v, rfl, h1, -, h2⟩
  exact ⟨v, rfl, h1, h2⟩
theorem dNames_o (S : Bo t r l0 l1 N B w W T T) (hB : B ≤ 850) {n : Int} (hn : (kl n).wf = true) :
    Calls Tryz.prog 92 #[P0 r, I n] W fun e w' => ∃ v, e = .returned v ∧ Hid (Rs W.heap.size w' v (T.names n)) ∧ Hid (Below W.heap.size W w') := Rf.dNames_D S.d S.f.k (by omega) n hn
theorem dRead_o (S : Bo t r l0 l1 N B w W T T) (hB : B ≤ 850) {n : Int} (hn : (kl n).wf = true) (a k : Int) :
    Calls Tryz.prog 95 #[P0 r, I n, I a, I k] W fun e w' => ∃ v, e = .returned (.tuple #[v, I (readE (T.pool.get (T.fileOf n)) a k)]) ∧ Hid ((convert 34 9 v).run Tryz.prog w' = .ok (.string (str (byteO (T.pool.get (T.fileOf n))) a.toNat (readM (T.pool.get (T.fileOf n)) a k))) w') ∧ Hid (Below W.heap.size W w') := Rf.dRead_D S.d S.f.k (by omega) n hn a k
theorem dLive_o (S : Bo t r l0 l1 N B w W T T) (hB : B ≤ 850) :
    Calls Tryz.prog 85 #[P0 r] W fun e w' => ∃ a cap, e = .returned (.slice a (Rf.lvs T T.made).length cap) ∧ Hid (Mt.Sl w' a (Rf.lvs T T.made)) ∧ Hid (Below W.heap.size W w') := by
  obtain ⟨p, Lv, nb, ev, uv, h1, -⟩ := S.d
  refine (Rf.dLive_any h1 (by have := S.f.k.made; omega)).mono ?_
  rintro e w' ⟨v, rfl, h2, h3⟩
  obtain ⟨a, cap, rfl, h4⟩ := Mt.Sl.of (xs := Rf.lvs T T.made) h2
  exact ⟨a, cap, rfl, h4, h3⟩
end
end Go.Proofs.YtlngeaacjbdmhaaGreat.Bo

namespace Go.Proofs.YtlngeaacjbdmhaaGreat
open Go.Shelf
def Tryz.keysA_ren : Go.Shelf.Ren := ⟨fun | 7 => 144 | 10 => 224 | n => n, fun | 23 => 123 | 26 => 3 | 3 => 130 | 28 => 156 | 0 => 0 | 27 => 155 | 33 => 103 | 4 => 4 | n => n, fun | n => n⟩
theorem Tryz.keysA : Go.Proofs.SlLaysZI.n7 Tryz.prog Tryz.keysA_ren := {
  mixed := by kernel_rfl
  f7 := ⟨Tryz.f144.name, by decide, Tryz.func144.trans (congrArg some (by kernel_rfl))⟩
  f10 := ⟨Tryz.f224.name, by decide, Tryz.func224.trans (congrArg some (by kernel_rfl))⟩
  t0 := Tryz.underlying0
  a0 := Tryz.isAgg0
  z0 := Tryz.sizeOf0
  v0 := Tryz.zeroValue0
  t4 := Tryz.underlying4
  a4 := Tryz.isAgg4
  z4 := Tryz.sizeOf4
  v4 := Tryz.zeroValue4
  t23 := Tryz.underlying123
  a23 := Tryz.isAgg123
  z23 := Tryz.sizeOf123
  v23 := Tryz.zeroValue123
  t26 := Tryz.underlying3
  a26 := Tryz.isAgg3
  z26 := Tryz.sizeOf3
  v26 := Tryz.zeroValue3
  t27 := Tryz.underlying155
  a27 := Tryz.isAgg155
  z27 := Tryz.sizeOf155
  v27 := Tryz.zeroValue155
  t28 := Tryz.underlying156
  a28 := Tryz.isAgg156
  z28 := Tryz.sizeOf156
  v28 := Tryz.zeroValue156
  t33 := Tryz.underlying103
  a33 := Tryz.isAgg103
  z33 := Tryz.sizeOf103
  v33 := Tryz.zeroValue103 }
def Tryz.sortedA_ren : Go.Shelf.Ren := ⟨fun | 6 => 143 | 8 => 222 | 9 => 223 | 11 => 284 | 13 => 286 | 12 => 285 | 23 => 310 | 24 => 311 | 14 => 301 | 15 => 302 | 16 => 303 | 17 => 304 | 18 => 305 | 19 => 306 | 20 => 307 | 21 => 308 | 22 => 309 | 25 => 321 | 26 => 322 | 27 => 323 | 28 => 324 | 29 => 325 | 30 => 326 | 31 => 330 | n => n, fun | 26 => 3 | 28 => 156 | 24 => 72 | 0 => 0 | 3 => 3 | 37 => 285 | 48 => 330 | 50 => 332 | 4 => 4 | 40 => 324 | 39 => 323 | 45 => 113 | 5 => 5 | 9 => 9 | 51 => 343 | 55 => 347 | 57 => 351 | 58 => 144 | 33 => 103 | n => n, fun | n => n⟩
theorem Tryz.sortedA : Go.Proofs.SlLaysZI.n6 Tryz.prog Tryz.sortedA_ren := {
  mixed := by kernel_rfl
  f6 := ⟨Tryz.f143.name, by decide, Tryz.func143.trans (congrArg some (by kernel_rfl))⟩
  f8 := ⟨Tryz.f222.name, by decide, Tryz.func222.trans (congrArg some (by kernel_rfl))⟩
  f11 := ⟨Tryz.f284.name, by decide, Tryz.func284.trans (congrArg some (by kernel_rfl))⟩
  t0 := Tryz.underlying0
  a0 := Tryz.isAgg0
  z0 := Tryz.sizeOf0
  v0 := Tryz.zeroValue0
  t24 := Tryz.underlying72
  a24 := Tryz.isAgg72
  z24 := Tryz.sizeOf72
  v24 := Tryz.zeroValue72
  t26 := Tryz.underlying3
  a26 := Tryz.isAgg3
  z26 := Tryz.sizeOf3
  v26 := Tryz.zeroValue3
  t28 := Tryz.underlying156
  a28 := Tryz.isAgg156
  z28 := Tryz.sizeOf156
  v28 := Tryz.zeroValue156
  i26 := by kernel_rfl }
def Tryz.sortA_ren : Go.Shelf.Ren := ⟨fun | 5 => 223 | 8 => 286 | 7 => 285 | 19 => 310 | 20 => 311 | 10 => 301 | 11 => 302 | 12 => 303 | 13 => 304 | 14 => 305 | 15 => 306 | 16 => 307 | 17 => 308 | 18 => 309 | 30 => 321 | 31 => 322 | 32 => 323 | 33 => 324 | 34 => 325 | 35 => 326 | 40 => 330 | n => n, fun | 23 => 72 | 25 => 3 | 3 => 3 | 32 => 285 | 22 => 72 | 0 => 0 | 44 => 330 | 46 => 332 | 4 => 4 | 36 => 324 | 35 => 323 | 41 => 113 | 5 => 5 | 9 => 9 | 53 => 343 | 57 => 347 | 63 => 351 | 64 => 144 | n => n, fun | n => n⟩
theorem Tryz.sortA : Go.Proofs.SlLaysM.n5 Tryz.prog Tryz.sortA_ren := {
  mixed := by kernel_rfl
  f5 := ⟨Tryz.f223.name, by decide, Tryz.func223.trans (congrArg some (by kernel_rfl))⟩
  f7 := ⟨Tryz.f285.name, by decide, Tryz.func285.trans (congrArg some (by kernel_rfl))⟩
  f8 := Tryz.func286.trans (congrArg some (by kernel_rfl))
  f10 := ⟨Tryz.f301.name, by decide, Tryz.func301.trans (congrArg some (by kernel_rfl))⟩
  f11 := ⟨Tryz.f302.name, by decide, Tryz.func302.trans (congrArg some (by kernel_rfl))⟩
  f12 := ⟨Tryz.f303.name, by decide, Tryz.func303.trans (congrArg some (by kernel_rfl))⟩
  f13 := ⟨Tryz.f304.name, by decide, Tryz.func304.trans (congrArg some (by kernel_rfl))⟩
  f14 := ⟨Tryz.f305.name, by decide, Tryz.func305.trans (congrArg some (by kernel_rfl))⟩
  f15 := ⟨Tryz.f306.name, by decide, Tryz.func306.trans (congrArg some (by kernel_rfl))⟩
  f16 := ⟨Tryz.f307.name, by decide, Tryz.func307.trans (congrArg some (by kernel_rfl))⟩
  f17 := ⟨Tryz.f308.name, by decide, Tryz.func308.trans (congrArg some (by kernel_rfl))⟩
  f18 := ⟨Tryz.f309.name, by decide, Tryz.func309.trans (congrArg some (by kernel_rfl))⟩
  f19 := Tryz.func310.trans (congrArg some (by kernel_rfl))
  f20 := Tryz.func311.trans (congrArg some (by kernel_rfl))
  f30 := ⟨Tryz.f321.name, by decide, Tryz.func321.trans (congrArg some (by kernel_rfl))⟩
  f31 := Tryz.func322.trans (congrArg some (by kernel_rfl))
  f32 := Tryz.func323.trans (congrArg some (by kernel_rfl))
  f33 := ⟨Tryz.f324.name, by decide, Tryz.func324.trans (congrArg some (by kernel_rfl))⟩
  f34 := ⟨Tryz.f325.name, by decide, Tryz.func325.trans (congrArg some (by kernel_rfl))⟩
  f35 := ⟨Tryz.f326.name, by decide, Tryz.func326.trans (congrArg some (by kernel_rfl))⟩
  f40 := ⟨Tryz.f330.name, by decide, Tryz.func330.trans (congrArg some (by kernel_rfl))⟩
  t0 := Tryz.underlying0
  a0 := Tryz.isAgg0
  z0 := Tryz.sizeOf0
  v0 := Tryz.zeroValue0
  t3 := Tryz.underlying3
  a3 := Tryz.isAgg3
  z3 := Tryz.sizeOf3
  v3 := Tryz.zeroValue3
  t4 := Tryz.underlying4
  a4 := Tryz.isAgg4
  z4 := Tryz.sizeOf4
  v4 := Tryz.zeroValue4
  t5 := Tryz.underlying5
  a5 := Tryz.isAgg5
  z5 := Tryz.sizeOf5
  v5 := Tryz.zeroValue5
  t9 := Tryz.underlying9
  a9 := Tryz.isAgg9
  z9 := Tryz.sizeOf9
  v9 := Tryz.zeroValue9
  t22 := Tryz.underlying72
  a22 := Tryz.isAgg72
  z22 := Tryz.sizeOf72
  v22 := Tryz.zeroValue72
  t23 := Tryz.underlying72
  a23 := Tryz.isAgg72
  z23 := Tryz.sizeOf72
  v23 := Tryz.zeroValue72
  t25 := Tryz.underlying3
  a25 := Tryz.isAgg3
  z25 := Tryz.sizeOf3
  v25 := Tryz.zeroValue3
  t32 := Tryz.underlying285
  a32 := Tryz.isAgg285
  z32 := Tryz.sizeOf285
  v32 := Tryz.zeroValue285
  t35 := Tryz.underlying323
  a35 := Tryz.isAgg323
  z35 := Tryz.sizeOf323
  v35 := Tryz.zeroValue323
  t36 := Tryz.underlying324
  a36 := Tryz.isAgg324
  z36 := Tryz.sizeOf324
  v36 := Tryz.zeroValue324
  t41 := Tryz.underlying113
  a41 := Tryz.isAgg113
  z41 := Tryz.sizeOf113
  v41 := Tryz.zeroValue113
  t44 := Tryz.underlying330
  a44 := Tryz.isAgg330
  z44 := Tryz.sizeOf330
  v44 := Tryz.zeroValue330
  t46 := Tryz.underlying332
  a46 := Tryz.isAgg332
  z46 := Tryz.sizeOf332
  v46 := Tryz.zeroValue332
  t53 := Tryz.underlying343
  a53 := Tryz.isAgg343
  z53 := Tryz.sizeOf343
  v53 := Tryz.zeroValue343
  t57 := Tryz.underlying347
  a57 := Tryz.isAgg347
  z57 := Tryz.sizeOf347
  v57 := Tryz.zeroValue347
  t63 := Tryz.underlying351
  a63 := Tryz.isAgg351
  z63 := Tryz.sizeOf351
  v63 := Tryz.zeroValue351
  t64 := Tryz.underlying144
  a64 := Tryz.isAgg144
  z64 := Tryz.sizeOf144
  v64 := Tryz.zeroValue144 }
theorem sortsA (m : Nat) : AnyZI.SortsIn Tryz.prog Tryz.sortedA_ren Fence.wide m :=
  ⟨fun blk off cap ss W hH hblk hsz => callsIn_wide.2 (AnyM.slices_Sort_int Tryz.sortA blk off cap ss W hH hblk hsz),
   fun p cap W => callsIn_wide.2 (AnyM.slices_Sort_int_none Tryz.sortA p cap W)⟩
end Go.Proofs.YtlngeaacjbdmhaaGreat

namespace Go.Proofs.YtlngeaacjbdmhaaGreat
open Go.RowKit Go.Maps Go.Sort Go.Shelf
theorem map_keys {W : World} {b m : Nat} {D : DataW Value} {f : Int → Option Value} (h : W.ownsMap Tryz.prog 3 hE b m D) (hf : Go.Proofs.YtlngeaacjbdmhaaGreat.Holds D f) (k : Int) : Maps.has D (kl k) = true ↔ (kl k).wf = true ∧ (f k).isSome = true := by
  constructor
  · intro hh
    have hwf : (kl k).wf = true := by
      obtain ⟨es, c, h1, F, h3, rfl⟩ := h
      rw [Maps.has_eq, List.any_eq_true] at hh
      obtain ⟨p, hp, hq⟩ := hh
      have hp2 := mem_sorted.1 hp
      obtain ⟨v, hv⟩ := Maps.fit_keys F p hp2
      obtain ⟨x, _, h2, h3⟩ := Maps.keyOf_int_inv Tryz.underlying3 hv
      have h4 := WideAt.sameKey_eq hq
      rw [← h4, h2]
      exact h3
    exact ⟨hwf, by rw [← (hf k hwf).1]; exact hh⟩
  · rintro ⟨h1, h2⟩
    rw [(hf k h1).1]; exact h2
def Tr.livesI (T : Tr) : List Int := T.lives.map fun k : Nat => (k : Int)
theorem Tr.livesI_mem (T : Tr) {B : Nat} (hw : Wk B T) (k : Int) : k ∈ T.livesI ↔ (T.nd k).isSome = true := by
  simp only [Tr.livesI, Tr.lives, List.mem_map, List.mem_filter, List.mem_range]
  constructor
  · rintro ⟨j, ⟨_, h2⟩, rfl⟩; exact h2
  · intro h
    have := hw.sup k h
    exact ⟨k.toNat, ⟨by omega, by rw [show ((k.toNat : Nat) : Int) = k by omega]; exact h⟩, by omega⟩
theorem Tr.livesI_srt (T : Tr) : T.livesI.Pairwise (· < ·) := by
  refine List.pairwise_map.2 ?_
  refine (List.Pairwise.filter _ List.pairwise_lt_range).imp fun h => by omega
def Ri (lo : Nat) (W : World) (v : Value) (l : List Int) : Prop := W.ownsRow lo 3 1 v l.length (l.map fun k => I k)
theorem Ri.below {lo : Nat} {W W' : World} {v : Value} {l : List Int} (h : Ri lo W v l) (g : Below W.heap.size W W') : Ri lo W' v l := own_keep h fun k _ e => g.block k (lt_of_heap e)
section
variable {lo N : Nat} {W W' : World} {t : Nat} {T : Tr} {q p : Nat} {nb : Int → Nat} {ev : Int → Value} {B : Nat}
set_option maxHeartbeats 1000000 in
theorem live_any (h : TrI lo N W t T q p nb ev) (hw : Wk B T) (hB : B ≤ 890) :
    Calls Tryz.prog 84 #[P0 t] W fun e w' => ∃ v, e = .returned v ∧ Ri W.heap.size w' v T.livesI ∧ Below W.heap.size W w' := by
  obtain ⟨c0, c1, c2, c3, cf⟩ := h.cells
  obtain ⟨D, hown, hD⟩ := h.hm
  have hq := hown.lt
  have hsz : Maps.size D = cnt (T.made + 1) (fun k => ((fun k => if (T.nd k).isSome = true then some (P0 (nb k)) else none) (k : Int)).isSome) := size_cnt hown hD (by have := hw.made; omega) (fun k _ e => hw.sup k (by simpa using e))
  have hsz2 : Maps.size D ≤ 900 := by rw [hsz]; have := cnt_le (T.made + 1) (fun k => ((fun k => if (T.nd k).isSome = true then some (P0 (nb k)) else none) (k : Int)).isSome); have := hw.made; omega
  have hperm : T.livesI.Perm (intKeys D) := by
    refine CollectedI.perm (left := fun _ => false) ⟨(T.livesI_srt).imp (fun h e => by omega), fun x => ?_⟩ hown law Tryz.underlying3 (fun _ => rfl)
    have e := map_keys hown hD x
    rw [T.livesI_mem hw]
    show _ ↔ Maps.has D (kl x) = true ∧ _
    rw [e]
    constructor
    · intro h1
      obtain ⟨y, hy⟩ := Option.isSome_iff_exists.1 h1
      exact ⟨⟨hw.wf (by omega) hy, by simp [h1]⟩, rfl⟩
    · rintro ⟨⟨_, h2⟩, _⟩
      simpa using h2
  have hsort : ∀ ss : List Int, ss.Perm (intKeys D) → ss.mergeSort (fun x y => decide (x ≤ y)) = T.livesI := fun ss hs => by
    have e1 := mergeSort_of_perm_i (hs.trans hperm.symm)
    rw [show (fun x y : Int => decide (x ≤ y)) = leI from rfl, e1]
    exact List.mergeSort_of_pairwise ((T.livesI_srt).imp fun h => by simp; omega)
  refine (callsIn_wide (n := 6)).1 ?_
  have hseq : SeqGives Fence.wide 2 Tryz.prog 224 #[.pointer (some ⟨W.heap.size, 0, none⟩)] encZ (fun ss => ss.Perm (intKeys D)) (Maps.size D) (W.alloc (.cells #[.map (some q)] 123)) :=
    AnyZI.keys_gives (ρ := Tryz.keysA_ren) { Tryz.keysA with } Fence.wide _ trivial rfl (by omega) W.heap.size q (T.made + 1) D _ (by simp) (by simp) (by
      obtain ⟨es, clock, hb, Ft, hs, hD⟩ := hown
      exact ⟨es, clock, (Below.heap_alloc _ _ q hq).trans hb, Ft, hs, hD⟩)
  have cK : ∀ mb w, CallsIn Fence.wide 5 Tryz.prog 144 #[.map mb] w fun e w' => e = .returned (.func (.func 224) #[] #[.pointer (some ⟨w.heap.size, 0, none⟩)]) ∧ w' = w.alloc (.cells #[.map mb] 123) := fun mb w => AnyZI.keys_in Tryz.keysA Fence.wide 5 trivial rfl mb w
  have cS := AnyZI.sorted_in Tryz.sortedA Fence.wide 5 trivial trivial trivial trivial rfl (by omega) (sortsA _) (enters_of Tryz.func223 (by kernel_rfl) rfl) 224 #[.pointer (some ⟨W.heap.size, 0, none⟩)] trivial (enters_of Tryz.func224 (by kernel_rfl) rfl) _ _ (by unfold maxLen; omega) (by omega) _ hseq
  change CallsIn _ _ Tryz.prog 143 _ _ _ at cS
  have hfK : Fence.wide.fn 144 := trivial
  have hfS : Fence.wide.fn 143 := trivial
  have HSO := hide hsort
  clear h hw hown hD hsz hperm hsort c0 c1 c3
  refine callsIn_of_wp Tryz.func84 rfl trivial ?_ rfl
  simp only [Tryz.ntmps84, List.size_toArray, List.length_cons, List.length_nil, Nat.reduceAdd, Nat.reduceSub, Array.replicate_succ, Array.replicate_zero, List.push_toArray, List.append_toArray, List.nil_append, List.cons_append]
  gi_wp2_with (first
    | (gi_at_call 144; refine (cK _ _).mono ?_; rintro e w' ⟨rfl, rfl⟩)
    | (gi_at_call 143; refine cS.mono ?_; rintro e w' ⟨v, ss, rfl, hS, hrow, hnil, hb⟩))
  go_ret
  have e2 := unhide HSO ss hS
  have hlen : ss.length = T.livesI.length := by rw [← e2]; simp
  rw [e2, hlen] at hrow
  exact ⟨v, rfl, own_base hrow (by simp), ((Below.refl _ W).alloc (Nat.le_refl _) _).trans (hb.mono (by simp))⟩
end
end Go.Proofs.YtlngeaacjbdmhaaGreat

namespace Go.Proofs.YtlngeaacjbdmhaaGreat
open Go.RowKit
theorem lvs_made {T : Tr} {B : Nat} (hw : Wk B T) : Rf.lvs T T.made = T.livesI := by
  have h0 : (T.nd ((0 : Nat) : Int)).isSome = false := by
    cases h : T.nd ((0 : Nat) : Int) with
    | none => rfl
    | some x => have := hw.key _ x h; omega
  unfold Rf.lvs Tr.livesI Tr.lives
  rw [List.range_succ_eq_map, List.filter_cons, h0]
  simp only [Bool.false_eq_true, if_false]
  rw [List.filter_map, List.map_map]
  have e1 : ((fun k : Nat => (T.nd (k : Int)).isSome) ∘ Nat.succ) = fun i : Nat => (T.nd ((i : Int) + 1)).isSome := by
    funext i; simp
  have e2 : ((fun k : Nat => (k : Int)) ∘ Nat.succ) = fun i : Nat => (i : Int) + 1 := by
    funext i; simp
  rw [e1, e2]
namespace Bo
open Bt
section
variable {t r l0 l1 N B : Nat} {w W : World} {T : Tr}
theorem tLive_o (S : Bo t r l0 l1 N B w W T T) (hB : B ≤ 850) :
    Calls Tryz.prog 84 #[P0 t] W fun e w' => ∃ a cap, e = .returned (.slice a (Rf.lvs T T.made).length cap) ∧ Hid (Mt.Sl w' a (Rf.lvs T T.made)) ∧ Hid (Below W.heap.size W w') := by
  obtain ⟨⟨q, p, nb, ev, h1⟩, h2⟩ := S.q
  refine (live_any h1 h2.k (by omega)).mono ?_
  rintro e w' ⟨v, rfl, h3, h4⟩
  rw [← lvs_made h2.k] at h3
  obtain ⟨a, cap, rfl, h5⟩ := Mt.Sl.of (xs := Rf.lvs T T.made) h3
  exact ⟨a, cap, rfl, h5, h4⟩
end
end Bo
end Go.Proofs.YtlngeaacjbdmhaaGreat

namespace Go.Proofs.YtlngeaacjbdmhaaGreat
open Go.RowKit
attribute [local go_sem ↓] Go.wp_at_zero Go.wp_at_succ
theorem texts_nil (W : World) (a1 a2 : Option Addr) (c1 c2 : Nat) :
    Calls Tryz.prog 54 #[.slice a1 0 c1, .slice a2 0 c2] W fun e w' => e = .returned (.bool true) ∧ ∃ k, w' = W.drewN k := by
  go_enter Tryz.func54, Tryz.ntmps54
  go_wp2_with fail
  go_loopw [5] (fun i wr => i = .int .i64 0 ∧ wr = W) (fun _ _ => 0)
  case atStart => exact ⟨rfl, rfl⟩
  case round =>
    obtain ⟨rfl, rfl⟩ := hrel
    go_wp2_with fail
    go_ret
    exact ⟨rfl, 0, rfl⟩
theorem texts_rs {b1 b2 : Nat} {W : World} {v1 v2 : Value} {xs : List ByteArray} (h1 : Rs b1 W v1 xs) (h2 : Rs b2 W v2 xs) (hm : xs.length ≤ 1000) :
    Calls Tryz.prog 54 #[v1, v2] W fun e w' => e = .returned (.bool true) ∧ ∃ k, w' = W.drewN k := by
  by_cases h0 : xs.length = 0
  · obtain ⟨a1, c1, rfl⟩ := own_form h1
    obtain ⟨a2, c2, rfl⟩ := own_form h2
    rw [h0]
    exact texts_nil W a1 a2 c1 c2
  · obtain ⟨g1, c1, cur1, rfl, _, _, _, _, _, k1⟩ := own_open h1 h0
    obtain ⟨g2, c2, cur2, rfl, _, _, _, _, _, k2⟩ := own_open h2 h0
    refine texts_same W g1 0 c1 g2 0 c2 xs.length xs rfl hm (fun i x hi => ?_) (fun i x hi => ?_)
    · rw [Nat.zero_add]; exact k1 i (.string x) (by simp [strV, hi])
    · rw [Nat.zero_add]; exact k2 i (.string x) (by simp [strV, hi])
end Go.Proofs.YtlngeaacjbdmhaaGreat

namespace Go.Proofs.YtlngeaacjbdmhaaGreat
open Go.RowKit Go.Maps
attribute [local go_sem ↓] Go.wp_at_zero Go.wp_at_succ
theorem Sl_below {lo : Nat} {W W' : World} {v : Value} {f : Nat → Int} {a m : Nat} (h : Sl lo W v f a m) (k : Below W.heap.size W W') : Sl lo W' v f a m := by
  rcases h with h | ⟨g, h1, h2, hg⟩
  · exact .inl h
  · exact .inr ⟨g, h1, h2, (k.block g (lt_of_heap hg)).trans hg⟩
section
variable {lo N : Nat} {W W' : World} {t : Nat} {T : Tr} {B : Nat}
set_option maxHeartbeats 1000000 in
theorem tread_S (h : Tq lo N W t T B) (hB : B ≤ 880) {n : Int} (hn : (kl n).wf = true) (a k : Int) (ha : (kl a).wf = true) :
    Calls Tryz.prog 94 #[P0 t, I n, I a, I k] W fun e w' => ∃ v, e = .returned (.tuple #[v, I (readE (T.pool.get (T.fileOf n)) a k)]) ∧ Hid (∀ V, Below w'.heap.size w' V → (convert 34 9 v).run Tryz.prog V = .ok (.string (str (byteO (T.pool.get (T.fileOf n))) a.toNat (readM (T.pool.get (T.fileOf n)) a k))) V) ∧ Hid (Below W.heap.size W w') := by
  obtain ⟨⟨q, p, nb, ev, h1⟩, h2⟩ := h
  obtain ⟨c0, c1, c2, c3, cf⟩ := h1.cells
  have hfw : (kl (T.fileOf n)).wf = true := by
    simp only [Tr.fileOf]
    cases hx : T.nd n with
    | none => exact wf_of (by simp)
    | some x => exact wf_of (by have := h2.k.fil n x hx; have := h2.k.made; simp only; omega)
  have HW : Hid (∀ j, Calls Tryz.prog 146 #[P0 p, I (T.fileOf n), I a, I k] (W.drewN j) fun e w' => ∃ v, e = .returned (.tuple #[v, I (readE (T.pool.get (T.fileOf n)) a k)]) ∧ Hid (∀ V, Below w'.heap.size w' V → (convert 34 9 v).run Tryz.prog V = .ok (.string (str (byteO (T.pool.get (T.fileOf n))) a.toNat (readM (T.pool.get (T.fileOf n)) a k))) V) ∧ Hid (Below W.heap.size W w')) := fun j => by
    have hk := h1.below (below_n W j)
    refine (read_any hk.pl hfw a k ha).mono ?_
    rintro e w' ⟨v, e1, S1, B1⟩
    exact ⟨v, e1, fun V g => conv_sl (Sl_below S1 g), (below_n W j).trans B1⟩
  have HF : Hid (∀ k, Calls Tryz.prog 137 #[P0 t, I n] (W.drewN k) fun e w' => e = .returned (I (T.fileOf n)) ∧ ∃ j, w' = W.drewN j) := fun k => (file_of (h1.below (below_n W k)) hn).mono fun e w' ⟨e1, j, e2⟩ => ⟨e1, k + j, by rw [e2, drewN_add]⟩
  obtain ⟨fl, hfl⟩ : ∃ fl, fl = T.fileOf n := ⟨_, rfl⟩
  rw [← hfl] at HW HF ⊢
  obtain ⟨E, hE⟩ : ∃ E, E = readE (T.pool.get fl) a k := ⟨_, rfl⟩
  obtain ⟨tx, htx⟩ : ∃ tx, tx = str (byteO (T.pool.get fl)) a.toNat (readM (T.pool.get fl) a k) := ⟨_, rfl⟩
  rw [← hE, ← htx] at HW ⊢
  clear h1 h2 hfl hE htx c0 c1 c2 hfw
  go_enter Tryz.func94, Tryz.ntmps94
  go_wp2_with fail
  go_region_with (first
    | (go_at_call 137; refine (unhide HF 1).mono ?_; rintro e w1 ⟨rfl, j, rfl⟩)
    | (go_at_call 146; refine (unhide HW _).mono ?_; rintro e w2 ⟨v, rfl, F1, F2⟩))
  all_goals
    go_wp2_with fail
    go_ret2
    exact ⟨v, rfl, F1, F2⟩
end
end Go.Proofs.YtlngeaacjbdmhaaGreat

namespace Go.Proofs.YtlngeaacjbdmhaaGreat.Bo
open Go.RowKit Bt
attribute [local go_sem ↓] Go.wp_at_zero Go.wp_at_succ
theorem st_cells {W : World} {y : Nat} {a b c d e f g : Int} (h : W.heap[y]? = some (.cells #[I a, I b, I c, I d, I e, I f, I g] 33)) : W.cell? ⟨y, 0, none⟩ = some (I a) ∧ W.cell? ⟨y, 1, none⟩ = some (I b) ∧ W.cell? ⟨y, 2, none⟩ = some (I c) ∧ W.cell? ⟨y, 3, none⟩ = some (I d) ∧ W.cell? ⟨y, 4, none⟩ = some (I e) ∧ W.cell? ⟨y, 5, none⟩ = some (I f) ∧ W.cell? ⟨y, 6, none⟩ = some (I g) := by
  refine ⟨?_, ?_, ?_, ?_, ?_, ?_, ?_⟩ <;> (rw [cell_of h]; rfl)
theorem Rs_nl {lo : Nat} {W : World} {v : Value} {ns : List ByteArray} (h : Rs lo W v ns) : ∃ ad cap, v = .slice ad ns.length cap ∧ ∀ (i : Nat) (x : ByteArray), ns[i]? = some x → ∃ g, ad = some ⟨g, 0, none⟩ ∧ ∀ V, Below W.heap.size W V → V.cell? ⟨g, i, none⟩ = some (.string x) := by
  by_cases h0 : ns.length = 0
  · obtain ⟨a1, c1, rfl⟩ := own_form h
    exact ⟨a1, c1, rfl, fun i x hi => by have := (List.getElem?_eq_some_iff.1 hi).1; omega⟩
  · obtain ⟨g, c, cur, rfl, _, hg, _, _, _, k1⟩ := own_open h h0
    exact ⟨_, c, rfl, fun i x hi => ⟨g, rfl, fun V k => (World.cell?_of_block (k.block g (lt_of_heap hg))).trans (k1 i (.string x) (by simp [strV, hi]))⟩⟩
theorem names_le {T : Tr} {B : Nat} (hw : Wk B T) (n : Int) : (T.names n).length ≤ B := by
  unfold Tr.names
  cases h : T.dir n with
  | none => simp
  | some d =>
    obtain ⟨h1, _⟩ := Tr.dir_some.1 h
    simpa using (hw.bnd n d h1).2.2
section
variable {t r l0 l1 N B : Nat} {w W : World} {T : Tr}
set_option maxRecDepth 100000 in
set_option maxHeartbeats 4000000 in
theorem alike_any (S : Bo t r l0 l1 N B w W T T) (hB : B ≤ 850) (most : Nat) (hm : most ≤ 900) :
    Calls Tryz.prog 22 #[P0 t, P0 r, I most] W fun e w' => e = .returned (.bool true) ∧ Below W.heap.size W w' := by
  have HS : Hid (∀ W', Below W.heap.size W W' → Bo t r l0 l1 N B w W' T T) := hide fun W' g => S.below g
  have HK := hide S.f.k
  have HL := hide S
  clear S
  go_enter Tryz.func22, Tryz.ntmps22
  go_wp2_with fail
  refine (tLive_o (unhide HL) hB).mono ?_
  rintro e w1 ⟨a1, c1, rfl, L1, B1⟩
  go_wp2_with fail
  refine (dLive_o (unhide HS w1 (unhide B1)) hB).mono ?_
  rintro e w2 ⟨a2, c2, rfl, L2, B2⟩
  go_wp2_with fail
  refine (Mt.same_any a1 a2 c1 c2 _ _ w2 ((unhide L1).below (unhide B2)) (unhide L2) (by have := Rf.lvs_len T T.made; have := (unhide HK).made; omega)).mono ?_
  rintro e w3 ⟨rfl, B3⟩
  rw [decide_eq_true rfl]
  have g3 : Below W.heap.size W w3 := (unhide B1).trans (((unhide B2).trans (B3.mono (unhide B2).size)).mono (unhide B1).size)
  have G3 := hide g3
  clear L1 L2 B1 B2 B3 g3
  go_wp2_with fail
  refine (tLeft_o (unhide HS w3 (unhide G3)) hB).mono ?_
  rintro e w4 ⟨rfl, B4⟩
  have G4 := hide ((unhide G3).trans (B4.mono (unhide G3).size))
  clear B4
  go_wp2_with fail
  refine (Rf.dLeft_D (unhide HS w4 (unhide G4)).d (unhide HK) (by omega)).mono ?_
  rintro e w5 ⟨rfl, B5⟩
  have G5 := hide ((unhide G4).trans (B5.mono (unhide G4).size))
  clear B5
  go_wp2_with fail
  go_loopw [7] (fun i wr => ∃ j : Nat, j ≤ most + 1 ∧ i = .int .i64 (j : Int) ∧ Below W.heap.size W wr) (fun i _ => most + 1 - (intOf i).toNat)
  case atStart => exact ⟨0, Nat.zero_le _, rfl, unhide G5⟩
  case round =>
    obtain ⟨j, hj, rfl, g6⟩ := hrel
    have G6 := hide g6
    clear g6
    by_cases hlt : j ≤ most
    · have hl2 : (j : Int) ≤ (most : Int) := by omega
      have hw : Hid ((kl (j : Int)).wf = true) := hide (wf_of (by omega))
      obtain ⟨s0, s1, s2, s3, s4, s5, s6, hs⟩ := T.stat_form (j : Int)
      have HT := hide hs
      clear hs
      go_wp2_with fail
      refine (tStat_o (unhide HS wr (unhide G6)) hB (unhide hw)).mono ?_
      rintro e w7 ⟨rfl, B7⟩
      have G7 := hide ((unhide G6).trans (B7.mono (unhide G6).size))
      clear B7
      rw [unhide HT]
      go_wp2_with fail
      have k8 : Below W.heap.size W (w7.alloc (.cells #[I s0, I s1, I s2, I s3, I s4, I s5, I s6] 33)) := (unhide G7).trans (((Below.refl _ w7).alloc (Nat.le_refl _) _).mono (unhide G7).size)
      refine (dStat_o (unhide HS _ k8) hB (unhide hw)).mono ?_
      rintro e w8 ⟨rfl, B8⟩
      have G8 := hide (k8.trans (B8.mono k8.size))
      obtain ⟨y, hy⟩ : ∃ y, w7.heap.size = y := ⟨_, rfl⟩
      have h8 : w8.heap[y]? = some (.cells #[I s0, I s1, I s2, I s3, I s4, I s5, I s6] 33) := by
        rw [← hy]
        exact (B8.block _ (by simp)).trans (heap_alloc_new _ _)
      have H8 := hide h8
      rw [unhide HT, hy]
      obtain ⟨w9, h9⟩ : ∃ w9, w8.alloc (.cells #[I s0, I s1, I s2, I s3, I s4, I s5, I s6] 33) = w9 := ⟨_, rfl⟩
      have hyl := lt_of_heap h8
      obtain ⟨y0, y1, y2, y3, y4, y5, y6⟩ := st_cells ((Below.heap_alloc w8 (.cells #[I s0, I s1, I s2, I s3, I s4, I s5, I s6] 33) y hyl).trans h8)
      obtain ⟨z0, z1, z2, z3, z4, z5, z6⟩ := st_cells (heap_alloc_new w8 (.cells #[I s0, I s1, I s2, I s3, I s4, I s5, I s6] 33))
      have G9 : Hid (Below W.heap.size W w9) := hide (h9 ▸ (unhide G8).trans (((Below.refl _ w8).alloc (Nat.le_refl _) _).mono (unhide G8).size))
      rw [h9] at y0 y1 y2 y3 y4 y5 y6 z0 z1 z2 z3 z4 z5 z6
      obtain ⟨z, hz⟩ : ∃ z, w8.heap.size = z := ⟨_, rfl⟩
      rw [hz] at z0 z1 z2 z3 z4 z5 z6
      obtain ⟨bo, hbo⟩ : ∃ bo, (T.nd (j : Int)).isSome = bo := ⟨_, rfl⟩
      rw [hbo]
      clear k8 B8 h8 G7 hy H8 hyl hbo
      go_upto_region 8 with fail
      clear h9 hz G8
      have Gw9 := G9
      clear G9
      go_wp2_with fail
      refine (tUp_o (unhide HS _ (unhide Gw9)) (unhide hw)).mono ?_
      rintro e va ⟨rfl, B⟩
      have Gva := hide ((unhide Gw9).trans (B.mono (unhide Gw9).size))
      clear B
      go_wp2_with fail
      refine (dUp_o (unhide HS _ (unhide Gva)) hB (unhide hw)).mono ?_
      rintro e vb ⟨rfl, B⟩
      have Gvb := hide ((unhide Gva).trans (B.mono (unhide Gva).size))
      clear B
      go_wp2_with fail
      refine (tText_o (unhide HS _ (unhide Gvb)) (unhide hw)).mono ?_
      rintro e vc ⟨rfl, B⟩
      have Gvc := hide ((unhide Gvb).trans (B.mono (unhide Gvb).size))
      clear B
      go_wp2_with fail
      refine (dText_o (unhide HS _ (unhide Gvc)) hB (unhide hw)).mono ?_
      rintro e vd ⟨rfl, B⟩
      have Gvd := hide ((unhide Gvc).trans (B.mono (unhide Gvc).size))
      clear B
      go_wp2_with fail
      refine (tNames_o (unhide HS _ (unhide Gvd)) hB (unhide hw)).mono ?_
      rintro e ve ⟨n1, rfl, N1, E1⟩
      have Gve := hide ((unhide Gvd).trans ((unhide E1).mono (unhide Gvd).size))
      go_wp2_with fail
      refine (dNames_o (unhide HS _ (unhide Gve)) hB (unhide hw)).mono ?_
      rintro e vf ⟨n2, rfl, N2, E2⟩
      have Gvf := hide ((unhide Gve).trans ((unhide E2).mono (unhide Gve).size))
      go_wp2_with fail
      refine (texts_rs ((unhide N1).below (unhide E2)) (unhide N2) (by have := names_le (unhide HK) (j : Int); omega)).mono ?_
      rintro e vg ⟨rfl, kk, rfl⟩
      have Gvg : Hid (Below W.heap.size W (vf.drewN kk)) := hide ((unhide Gvf).trans ((below_n vf kk).mono (unhide Gvf).size))
      obtain ⟨vg, hvg⟩ : ∃ vg, vf.drewN kk = vg := ⟨_, rfl⟩
      rw [hvg] at Gvg ⊢
      clear N1 E1 N2 E2 hvg
      go_wp2_with fail
      refine (dNames_o (unhide HS _ (unhide Gvg)) hB (unhide hw)).mono ?_
      rintro e vh ⟨n3, rfl, N3, E3⟩
      have Gvh := hide ((unhide Gvg).trans ((unhide E3).mono (unhide Gvg).size))
      obtain ⟨ad, cp, rfl, hcell⟩ := Rs_nl (unhide N3)
      have HC := hide hcell
      have hnl := names_le (unhide HK) (j : Int)
      obtain ⟨ns, hns⟩ : ∃ ns, T.names (j : Int) = ns := ⟨_, rfl⟩
      rw [hns] at HC hnl ⊢
      obtain ⟨m, hm2⟩ : ∃ m, ns.length = m := ⟨_, rfl⟩
      rw [hm2] at hnl ⊢
      have HM := hide hm2
      clear N3 E3 hcell hns hm2 y0 y1 y2 y3 y4 y5 y6 z0 z1 z2 z3 z4 z5 z6
      go_wp2_with fail
      go_loopw [13] (fun i wr => ∃ q : Nat, q ≤ m ∧ i = .int .i64 (q : Int) ∧ Below vh.heap.size vh wr) (fun i _ => m - (intOf i).toNat)
      case atStart => exact ⟨0, Nat.zero_le _, rfl, Below.refl _ _⟩
      case round =>
        obtain ⟨q, hq, rfl, gq⟩ := hrel
        by_cases hlq : q < m
        · have hl3 : (q : Int) < (m : Int) := by omega
          obtain ⟨x, hx⟩ : ∃ x, ns[q]? = some x := ⟨_, List.getElem?_eq_getElem (by have := unhide HM; omega)⟩
          obtain ⟨g, rfl, hc⟩ := unhide HC q x hx
          have c1 := hc _ gq
          have HQ := hide hc
          have GQ := hide gq
          have FS : Hid (∀ V, Below vh.heap.size vh V → Calls Tryz.prog 55 #[P0 t, I j, .string x] V fun e w' => e = .returned (.tuple #[I ((T.findN j x).getD 0), .bool (T.findN j x).isSome]) ∧ Below V.heap.size V w') := hide fun V k => tFind_o (unhide HS V ((unhide Gvh).trans (k.mono (unhide Gvh).size))) hB (unhide hw) x
          have FD : Hid (∀ V, Below vh.heap.size vh V → Calls Tryz.prog 93 #[P0 r, I j, .string x] V fun e w' => e = .returned (.tuple #[I ((T.findN j x).getD 0), .bool (T.findN j x).isSome]) ∧ Below V.heap.size V w') := hide fun V k => dFind_o (unhide HS V ((unhide Gvh).trans (k.mono (unhide Gvh).size))) hB (unhide hw) x
          clear hx hc gq
          go_wp2_with fail
          refine (unhide FS _ (unhide GQ)).mono ?_
          rintro e vx ⟨rfl, B1⟩
          have GX := hide ((unhide GQ).trans (B1.mono (unhide GQ).size))
          have c2 := unhide HQ _ (unhide GX)
          obtain ⟨fn, hfn⟩ : ∃ fn, (T.findN (j : Int) x).getD 0 = fn := ⟨_, rfl⟩
          obtain ⟨fb, hfb⟩ : ∃ fb, (T.findN (j : Int) x).isSome = fb := ⟨_, rfl⟩
          rw [hfn, hfb] at FD ⊢
          clear B1 hfn hfb
          go_wp2_with fail
          refine (unhide FD _ (unhide GX)).mono ?_
          rintro e vy ⟨rfl, B2⟩
          have GY := hide ((unhide GX).trans (B2.mono (unhide GX).size))
          clear B2
          go_wp2_with fail
          exact ⟨⟨q + 1, by omega, by go_num, unhide GY⟩, by simp [intOf]; omega⟩
        · obtain rfl : q = m := by omega
          have Gwr := hide ((unhide Gvh).trans (gq.mono (unhide Gvh).size))
          clear gq
          go_wp2_with fail
          refine (tread_S (unhide HS _ (unhide Gwr)).q (by omega) (unhide hw) 0 2000 (wf_of (by omega))).mono ?_
          rintro e vi ⟨v1, rfl, R1, E1⟩
          have Gvi := hide ((unhide Gwr).trans ((unhide E1).mono (unhide Gwr).size))
          go_wp2_with fail
          refine (dRead_o (unhide HS _ (unhide Gvi)) hB (unhide hw) 0 2000).mono ?_
          rintro e vj ⟨v2, rfl, R2, E2⟩
          have Gvj := hide ((unhide Gvi).trans ((unhide E2).mono (unhide Gvi).size))
          have r1 := unhide R1 _ (unhide E2)
          have r2 := unhide R2
          clear R1 R2 E1 E2
          go_wp2_with fail
          exact ⟨⟨j + 1, by omega, by go_num, unhide Gvj⟩, by simp [intOf]; omega⟩
    · go_wp2_with fail
      go_ret
      exact ⟨rfl, unhide G6⟩
end
end Go.Proofs.YtlngeaacjbdmhaaGreat.Bo
