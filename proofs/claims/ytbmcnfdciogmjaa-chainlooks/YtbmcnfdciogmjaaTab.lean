/-
  A table: its struct, its heads and its chains, held against a plain list of keys and numbers; the contracts of head, Look, find, Get, Len, Step.
-/
import Derived.Test.YtbmcnfdciogmjaaAlong
namespace Go.Proofs.Ytbmcnfdciogmjaa
open Go.RowKit
attribute [local go_sem ↓] Go.wp_at_zero Go.wp_at_succ

def slotOf (n : Nat) (k : ByteArray) : Nat := (hash k).toNat % n
theorem slot_lt {n : Nat} (h : 1 ≤ n) (k : ByteArray) : slotOf n k < n := Nat.mod_lt _ (by omega)
theorem slot_tmod (k : ByteArray) (n : Nat) : (hash k).tmod (n : Int) = (slotOf n k : Int) := by
  have h := hash_range k
  rw [Int.tmod_eq_emod_of_nonneg h.1, slotOf, Int.natCast_emod, Int.toNat_of_nonneg h.1]
def headE (bh i : Nat) : E := ⟨bh, i * 3, ByteArray.empty, 0⟩
abbrev Pairs := List (ByteArray × Int)

structure Tb (base : Nat) (W : World) (bt bh n : Nat) (ch : Nat → List E) (m : Pairs) : Prop where
  hb : W.heap[bt]? = some (.cells #[.slice (some ⟨bh, 0, none⟩) n n, .int .i64 (m.length : Int)] 59)
  lo : 1 ≤ n
  hi : n ≤ 64
  path : ∀ i, i < n → Path W (headE bh i :: ch i)
  off0 : ∀ i x, i < n → x ∈ ch i → x.off = 0
  nbh : ∀ i x, i < n → x ∈ ch i → x.blk ≠ bh
  slot : ∀ i x, i < n → x ∈ ch i → slotOf n x.key = i
  mem : ∀ k v, (k, v) ∈ m ↔ ∃ x ∈ ch (slotOf n k), x.key = k ∧ x.val = v
  nod : ∀ i, i < n → ((ch i).map (·.key)).Nodup
  mnod : (m.map (·.1)).Nodup
  mlen : m.length ≤ 64
  kt : base ≤ bt
  kh : base ≤ bh
  kx : ∀ i x, i < n → x ∈ ch i → base ≤ x.blk
  ty : ∀ k, (k = bh ∨ ∃ i, i < n ∧ ∃ x ∈ ch i, x.blk = k) → ∃ cs, W.heap[k]? = some (.cells cs 62)
/-- A block of the table. -/
def Own (bt bh n : Nat) (ch : Nat → List E) (k : Nat) : Prop := k = bt ∨ k = bh ∨ ∃ i, i < n ∧ ∃ x ∈ ch i, x.blk = k

section
variable {base : Nat} {W W' : World} {bt bh n : Nat} {ch : Nat → List E} {m : Pairs}
theorem Tb.fr {S : List (Nat × Nat)} (h : Tb base W bt bh n ch m) (g : Fr S W W') (hs : ∀ p ∈ S, ¬ Own bt bh n ch p.1) : Tb base W' bt bh n ch m := by
  have hs2 : ∀ k, Own bt bh n ch k → ∀ i, (k, i) ∉ S := fun k hk i hi => hs _ hi hk
  refine ⟨(g.blk bt (lt_of_heap h.hb) (hs2 bt (.inl rfl))).trans h.hb, h.lo, h.hi, fun i hi => (h.path i hi).fr g fun x hx j _ => hs2 _ ?_ _, h.off0, h.nbh, h.slot, h.mem, h.nod, h.mnod, h.mlen, h.kt, h.kh, h.kx, ?_⟩
  · rcases List.mem_cons.1 hx with rfl | hx
    · exact .inr (.inl rfl)
    · exact .inr (.inr ⟨i, hi, x, hx, rfl⟩)
  · intro k hk
    obtain ⟨cs, hcs⟩ := h.ty k hk
    exact ⟨cs, (g.blk k (lt_of_heap hcs) (hs2 k (.inr hk))).trans hcs⟩
theorem Tb.below (h : Tb base W bt bh n ch m) (g : Below W.heap.size W W') : Tb base W' bt bh n ch m := h.fr (S := []) (.of_below g) (by simp)
theorem Tb.cells (h : Tb base W bt bh n ch m) : W.cell? ⟨bt, 0, none⟩ = some (.slice (some ⟨bh, 0, none⟩) n n) ∧ W.cell? ⟨bt, 1, none⟩ = some (.int .i64 (m.length : Int)) ∧ ∀ i, W.frozen? ⟨bt, i, none⟩ = false := by
  refine ⟨?_, ?_, frozen_of h.hb⟩ <;> rw [cell_of h.hb] <;> rfl
theorem Tb.own_lt (h : Tb base W bt bh n ch m) {k : Nat} (hk : Own bt bh n ch k) : k < W.heap.size := by
  rcases hk with rfl | rfl | ⟨i, hi, x, hx, rfl⟩
  · exact lt_of_heap h.hb
  · exact (h.path 0 (by have := h.lo; omega)).1.lt
  · obtain ⟨v, hv⟩ := (h.path i hi).mem x (by simp [hx])
    exact hv.lt
theorem Tb.own_base (h : Tb base W bt bh n ch m) {k : Nat} (hk : Own bt bh n ch k) : base ≤ k := by
  rcases hk with rfl | rfl | ⟨i, hi, x, hx, rfl⟩
  · exact h.kt
  · exact h.kh
  · exact h.kx i x hi hx
theorem Tb.drew (h : Tb base W bt bh n ch m) : Tb base W.drew bt bh n ch m := h.below (below_drew (Below.refl _ W))
theorem Tb.dn (h : Tb base W bt bh n ch m) (k : Nat) : Tb base (W.drewN k) bt bh n ch m := h.below (below_dn (Below.refl _ W) k)
end

set_option maxHeartbeats 400000 in
theorem head_any (base bt bh n : Nat) (ch : Nat → List E) (m : Pairs) (key : ByteArray) (hs : key.size ≤ 9223372036854775807) (w : World) (h : Tb base w bt bh n ch m) :
    Calls Try.prog 31 #[.pointer (some ⟨bt, 0, none⟩), .string key] w fun e w' => e = .returned (.pointer (some ⟨bh, slotOf n key * 3, none⟩)) ∧ Below w.heap.size w w' := by
  obtain ⟨h0, h1, hf⟩ := h.cells
  have HL := hide h.lo
  have HI := hide h.hi
  clear h h1 hf
  have HC := hide (fun w => hash_any key hs w)
  have e1 : (n : Int) % 4294967296 = (n : Int) := by have := unhide HI; omega
  have e2 : ¬ (n : Int) = 0 := by have := unhide HL; omega
  have e3 : (hash key).tmod (n : Int) = (slotOf n key : Int) := slot_tmod key n
  have e4 : slotOf n key < n := slot_lt (unhide HL) key
  have e5 : (slotOf n key : Int) < (n : Int) := by omega
  generalize slotOf n key = sl at *
  generalize hash key = H at *
  go_enter Try.func31, Try.ntmps31
  go_wp2_with fail
  go_quiet ((go_at_call 17; exact Calls.quiet_of_same (unhide HC _)))
  go_wp2_with fail
  go_ret
  exact ⟨rfl, below_dn (Below.refl _ w) _⟩
set_option maxHeartbeats 400000 in
theorem len_any (base bt bh n : Nat) (ch : Nat → List E) (m : Pairs) (w : World) (h : Tb base w bt bh n ch m) :
    Calls Try.prog 14 #[.pointer (some ⟨bt, 0, none⟩)] w fun e w' => e = .returned (.int .i64 (m.length : Int)) ∧ w' = w := by
  obtain ⟨h0, h1, hf⟩ := h.cells
  clear h h0 hf
  generalize m.length = l at *
  go_enter Try.func14, Try.ntmps14
  go_wp2
  go_ret
  exact ⟨rfl, rfl⟩

set_option maxHeartbeats 400000 in
theorem look_any (base bt bh n : Nat) (ch : Nat → List E) (m : Pairs) (key : ByteArray) (hs : key.size ≤ 9223372036854775807) (w : World) (h : Tb base w bt bh n ch m) :
    Calls Try.prog 11 #[.pointer (some ⟨bt, 0, none⟩), .string key] w fun e w' => ∃ lb, e = .returned (.pointer (some ⟨lb, 0, none⟩)) ∧ w.heap.size ≤ lb ∧ Lk w' lb key (headE bh (slotOf n key)) 0 false false 0 ∧ Below w.heap.size w w' := by
  have HC := hide (head_any base bt bh n ch m key hs w h)
  clear h
  generalize slotOf n key = sl at *
  go_enter Try.func11, Try.ntmps11
  go_wp2_with fail
  refine (unhide HC).mono ?_
  rintro e w1 ⟨rfl, hB⟩
  replace hB := hide hB
  go_wp2_with fail
  go_ret
  have hB := unhide hB
  exact ⟨_, rfl, hB.size, ⟨putAll _ _ rfl⟩, hB.alloc hB.size _⟩
/-- What a look that goes far enough comes to. -/
theorem go_none (key : ByteArray) : ∀ (P : List E) (m : Nat) (x : E) (st : Int), P.length < m → (∀ y ∈ P, y.key ≠ key) → ∃ z t, go key m x P st = ⟨z, t, true, false, 0⟩
  | [], m + 1, x, st, _, _ => ⟨_, _, rfl⟩
  | y :: P, m + 1, x, st, hm, hk => by
    rw [go, if_neg (hk y (by simp))]
    exact go_none key P m y (st + 1) (by simp at hm; omega) fun z hz => hk z (by simp [hz])
theorem go_some (key : ByteArray) : ∀ (A : List E) (y : E) (B : List E) (m : Nat) (x : E) (st : Int), A.length < m → (∀ y ∈ A, y.key ≠ key) → y.key = key → ∃ t, go key m x (A ++ y :: B) st = ⟨(x :: A).getLast (by simp), t, true, true, y.val⟩
  | [], y, B, m + 1, x, st, _, _, hy => ⟨st + 1, by simp [go, hy]⟩
  | z :: A, y, B, m + 1, x, st, hm, hk, hy => by
    obtain ⟨t, ht⟩ := go_some key A y B m z (st + 1) (by simp at hm; omega) (fun z hz => hk z (by simp [hz])) hy
    refine ⟨t, ?_⟩
    rw [List.cons_append, go, if_neg (hk z (by simp)), ht]
    simp
end Go.Proofs.Ytbmcnfdciogmjaa
