/-
  The document's count of a chain's keys; what a look may have seen.
-/
import Derived.Test.YtbmcnfdciogmjaaLkA
namespace Go.Proofs.Ytbmcnfdciogmjaa
open Go.RowKit Go.Sort
attribute [local go_sem ↓] Go.wp_at_zero Go.wp_at_succ

def KS (m : Pairs) : Prop := ∀ p ∈ m, p.1.size ≤ 9223372036854775807
def cntP (n c : Nat) (m : Pairs) : Nat := m.countP (fun p => decide (slotOf n p.1 = c))
theorem cnt_le (n c : Nat) (m : Pairs) : cntP n c m ≤ m.length := List.countP_le_length
theorem cnt_take (n c : Nat) (m : Pairs) (j : Nat) (p : ByteArray × Int) (h : m[j]? = some p) : cntP n c (m.take (j + 1)) = cntP n c (m.take j) + if slotOf n p.1 = c then 1 else 0 := by
  rw [List.take_add_one, h]
  simp [cntP, List.countP_append, List.countP_cons]
set_option maxHeartbeats 1000000 in
theorem rin_any (base rb n c : Nat) (m : Pairs) (hm : m.length ≤ 64) (hk : KS m) (h1 : 1 ≤ n) (w : World) (h : Rf base w rb m) :
    Calls Try.prog 28 #[.pointer (some ⟨rb, 0, none⟩), .int .u32 (c : Int), .int .u32 (n : Int)] w fun e w' => e = .returned (.int .i64 ((cntP n c m : Nat) : Int)) ∧ w' = w := by
  obtain ⟨a, cap, h0, hf, hc⟩ := h.cell0
  have HC := hide hc
  have HK := hide hk
  have nz : ¬ (n : Int) = 0 := by omega
  have HCL := hide (fun j => Nat.le_trans (cnt_le n c (m.take j)) (List.length_take_le' j m))
  have HE := hide (show cntP n c (m.take m.length) = cntP n c m by rw [List.take_length])
  clear h hf hc hk
  generalize hml : m.length = ml at *
  replace hml := hide hml
  go_enter Try.func28, Try.ntmps28
  go_wp2_with fail
  go_loopw [7, 8] (fun nv i wr => ∃ j : Nat, j ≤ ml ∧ i = .int .i64 j ∧ nv = .int .i64 ((cntP n c (m.take j) : Nat) : Int) ∧ wr = w) (fun _ i _ => ml - (intOf i).toNat)
  case atStart => exact ⟨0, by omega, rfl, rfl, rfl⟩
  case round =>
    obtain ⟨j, hj, rfl, rfl, rfl⟩ := hrel
    by_cases hlt : j < ml
    · have j0 : (0 : Int) ≤ (j : Int) := by omega
      have j1 : (j : Int) < (ml : Int) := by omega
      obtain ⟨⟨k, v⟩, hk⟩ : ∃ p, m[j]? = some p := ⟨_, List.getElem?_eq_getElem (by rw [unhide hml]; exact hlt)⟩
      obtain ⟨g, rfl, c0, c1⟩ := unhide HC j k v hk
      have HR := hide (rhash_any k (unhide HK _ (List.mem_of_getElem? hk)) wr)
      have e3 : (hash k).tmod (n : Int) = (slotOf n k : Int) := slot_tmod k n
      have HN := hide (cnt_take n c m j _ hk)
      have hcl : cntP n c (m.take j) ≤ 64 := Nat.le_trans (unhide HCL j) hm
      have hcl2 : ((cntP n c (m.take j) : Nat) : Int) ≤ 64 := by omega
      have hcl0 : 0 ≤ ((cntP n c (m.take j) : Nat) : Int) := by omega
      simp only at HN
      clear c1 hk
      by_cases he : slotOf n k = c
      · rw [if_pos he] at HN
        have he2 : (slotOf n k : Int) = (c : Int) := by omega
        rw [he2] at e3
        clear he he2
        generalize hash k = HH at *
        generalize cntP n c (m.take j) = cn at *
        go_wp2_with fail
        refine (unhide HR).mono ?_
        rintro e w1 ⟨rfl, rfl⟩
        go_wp2_with fail
        refine ⟨⟨j + 1, by omega, rfl, ?_, trivial⟩, by simp [intOf]; omega⟩
        rw [unhide HN]; rfl
      · rw [if_neg he] at HN
        have he2 : ¬ (slotOf n k : Int) = (c : Int) := by omega
        clear he
        generalize (slotOf n k : Int) = sk at *
        generalize hash k = HH at *
        generalize cntP n c (m.take j) = cn at *
        go_wp2_with fail
        refine (unhide HR).mono ?_
        rintro e w1 ⟨rfl, rfl⟩
        go_wp2_with fail
        refine ⟨⟨j + 1, by omega, rfl, ?_, trivial⟩, by simp [intOf]; omega⟩
        rw [unhide HN]; rfl
    · have j1 : ¬ (j : Int) < (ml : Int) := by omega
      have hje : j = ml := by omega
      subst hje
      rw [unhide HE]
      go_wp2_with fail
      go_ret
      exact ⟨rfl, rfl⟩
theorem Tb.cnt {base : Nat} {W : World} {bt bh n : Nat} {ch : Nat → List E} {m : Pairs} (h : Tb base W bt bh n ch m) {i : Nat} (hi : i < n) : (ch i).length ≤ cntP n i m := by
  have := length_le_of_nodup_subset ((ch i).map (·.key)) ((m.filter (fun p => decide (slotOf n p.1 = i))).map (·.1)) (h.nod i hi) (fun k hk => by
    obtain ⟨x, hx, rfl⟩ := List.mem_map.1 hk
    have hs := h.slot i x hi hx
    refine List.mem_map.2 ⟨(x.key, x.val), List.mem_filter.2 ⟨(h.mem _ _).2 ⟨x, by rw [hs]; exact hx, rfl, rfl⟩, by simp [hs]⟩, rfl⟩)
  rw [cntP, List.countP_eq_length_filter]
  simpa using this

/-- What has been seen. -/
structure Pu (key : ByteArray) (v : Int) (m : Pairs) (seen : List Int) (al nv : Bool) : Prop where
  s1 : al = true → ∀ u ∈ seen, u = v
  s2 : nv = true → seen = []
  s3 : has m key = true → val m key ∈ seen
/-- What lies ahead, and how far it is. -/
structure Pp (key : ByteArray) (seen : List Int) (al : Bool) (P : List E) (st most : Int) (k : Nat) : Prop where
  i1 : ∀ y ∈ P, y.key = key → y.val ∈ seen
  i2 : al = true → ∃ y ∈ P, y.key = key
  i4 : st + P.length + 1 ≤ most
  b0 : 0 ≤ st
  b1 : st ≤ k
  b2 : P.length ≤ 64 + k
  b3 : most ≤ 66 + k
/-- A look that is over. -/
structure Po (seen : List Int) (al fd : Bool) (u st most : Int) : Prop where
  o1 : fd = true → u ∈ seen
  o2 : fd = false → u = 0 ∧ al = false
  o3 : st ≤ most
def PutR (n : Nat) (key : ByteArray) (m : Pairs) (k : ByteArray) (v : Int) (P P' : List E) : Prop := P' = P ∨ (putE m k = 0 ∧ slotOf n k = slotOf n key ∧ ∃ y : E, y.key = k ∧ y.val = v ∧ P' = y :: P)
def seenN (seen : List Int) (m : Pairs) (key : ByteArray) : List Int := if has m key = true then seen ++ [val m key] else seen
def mostN (n : Nat) (key : ByteArray) (m : Pairs) (k : ByteArray) (most : Int) : Int := if putE m k = 0 ∧ slotOf n k = slotOf n key then most + 1 else most
section
variable {n : Nat} {key : ByteArray} {v : Int} {m : Pairs} {seen : List Int} {al nv : Bool} {P P' : List E} {st most : Int} {k : Nat}
theorem seen_mem {u : Int} (m' : Pairs) (h : u ∈ seen) : u ∈ seenN seen m' key := by
  unfold seenN; split <;> simp [h]
theorem Pu.next (h : Pu key v m seen al nv) (m' : Pairs) {al' nv' : Bool} (ha : al' = (al && has m' key && decide (val m' key = v))) (hn : nv' = (nv && !has m' key)) : Pu key v m' (seenN seen m' key) al' nv' := by
  refine ⟨fun e u hu => ?_, fun e => ?_, fun e => ?_⟩
  · rw [ha] at e
    simp at e
    obtain ⟨⟨e1, e2⟩, e3⟩ := e
    rw [seenN, if_pos e2] at hu
    rcases List.mem_append.1 hu with hu | hu
    · exact h.s1 e1 u hu
    · simp at hu; rw [hu, e3]
  · rw [hn] at e
    simp at e
    rw [seenN, if_neg (by simp [e.2])]
    exact h.s2 e.1
  · rw [seenN, if_pos e]; simp
theorem Pp.put {kk : ByteArray} {x : Int} (h : Pp key seen al P st most k) (hr : PutR n key m kk x P P') (hnod : ((putM m kk x).map (·.1)).Nodup) {al' : Bool} (ha : al' = true → al = true) :
    Pp key (seenN seen (putM m kk x) key) al' P' st (mostN n key m kk most) (k + 1) := by
  have hlen : (P'.length : Int) ≤ P.length + (mostN n key m kk most - most) ∧ mostN n key m kk most ≤ most + 1 ∧ P'.length ≤ P.length + 1 := by
    rcases hr with rfl | ⟨h1, h2, y, _, _, rfl⟩
    · unfold mostN; split <;> omega
    · unfold mostN; rw [if_pos ⟨h1, h2⟩]; simp; omega
  refine ⟨fun y hy hk => ?_, fun e => ?_, ?_, h.b0, ?_, ?_, ?_⟩
  · rcases hr with rfl | ⟨h1, h2, z, h3, h4, rfl⟩
    · exact seen_mem _ (h.i1 y hy hk)
    · rcases List.mem_cons.1 hy with rfl | hy
      · have hh : has m kk = false := by
          unfold putE at h1
          cases hb : has m kk with
          | false => rfl
          | true => simp [hb] at h1
        have hl : m.length < 64 := by
          unfold putE at h1
          rw [hh] at h1
          by_cases hl : m.length < 64
          · exact hl
          · simp [hl] at h1
        have em : putM m kk x = m ++ [(kk, x)] := by simp [putM, hh, hl]
        have hmem : (key, y.val) ∈ putM m kk x := by rw [em, ← hk, h3, h4]; simp
        have hhas : has (putM m kk x) key = true := has_iff.2 ⟨_, hmem⟩
        rw [seenN, if_pos hhas, nodup_val hnod hmem (val_mem hhas)]
        simp
      · exact seen_mem _ (h.i1 y hy hk)
  · obtain ⟨y, hy, hk⟩ := h.i2 (ha e)
    rcases hr with rfl | ⟨h1, h2, z, h3, h4, rfl⟩
    · exact ⟨y, hy, hk⟩
    · exact ⟨y, by simp [hy], hk⟩
  · have := h.i4; omega
  · have := h.b1; omega
  · have := h.b2; omega
  · have := h.b3; omega
theorem Pp.drop {kk : ByteArray} (h : Pp key seen al P st most k) (hr : DropR kk P P') (hnod : (m.map (·.1)).Nodup) {al' : Bool} (ha : al' = true → al = true ∧ has (drop m kk) key = true) :
    Pp key (seenN seen (drop m kk) key) al' P' st most (k + 1) := by
  obtain ⟨r1, r2, r3⟩ := hr
  refine ⟨fun y hy hk => seen_mem _ (h.i1 y (r2 y hy) hk), fun e => ?_, ?_, h.b0, ?_, ?_, ?_⟩
  · obtain ⟨e1, e2⟩ := ha e
    obtain ⟨y, hy, hk⟩ := h.i2 e1
    obtain ⟨u, hu⟩ := has_iff.1 e2
    have := ((mem_drop hnod).1 hu).2
    exact ⟨y, r3 y hy (by rw [hk]; exact this), hk⟩
  · have := h.i4; omega
  · have := h.b1; omega
  · have := h.b2; omega
  · have := h.b3; omega
theorem Pp.mono (h : Pp key seen al P st most k) : Pp key seen al P st most (k + 1) :=
  ⟨h.i1, h.i2, h.i4, h.b0, by have := h.b1; omega, by have := h.b2; omega, by have := h.b3; omega⟩
theorem Pp.over_nil (h : Pp key seen al [] st most k) : Po seen al false 0 (st + 1) most := by
  refine ⟨by simp, fun _ => ⟨rfl, ?_⟩, by have := h.i4; simp at this; omega⟩
  cases ha : al with
  | false => rfl
  | true => obtain ⟨y, hy, _⟩ := h.i2 ha; simp at hy
theorem Pp.over_key {y : E} (h : Pp key seen al (y :: P) st most k) (hy : y.key = key) : Po seen al true y.val (st + 1) most :=
  ⟨fun _ => h.i1 y (by simp) hy, by simp, by have := h.i4; simp at this; omega⟩
theorem Pp.step {y : E} (h : Pp key seen al (y :: P) st most k) (hy : ¬ y.key = key) : Pp key seen al P (st + 1) most (k + 1) := by
  refine ⟨fun z hz => h.i1 z (by simp [hz]), fun e => ?_, by have := h.i4; simp at this; omega, by have := h.b0; omega, by have := h.b1; omega, by have := h.b2; simp at this; omega, by have := h.b3; omega⟩
  obtain ⟨z, hz, hk⟩ := h.i2 e
  rcases List.mem_cons.1 hz with rfl | hz
  · exact absurd hk hy
  · exact ⟨z, hz, hk⟩
end
end Go.Proofs.Ytbmcnfdciogmjaa
