/-
  find, Get, Step: looks that nobody disturbs.
-/
import Derived.Test.YtbmcnfdciogmjaaTab
namespace Go.Proofs.Ytbmcnfdciogmjaa
open Go.RowKit
attribute [local go_sem ↓] Go.wp_at_zero Go.wp_at_succ

theorem length_le_of_nodup_subset {α : Type} [DecidableEq α] : ∀ (a b : List α), a.Nodup → (∀ x ∈ a, x ∈ b) → a.length ≤ b.length
  | [], _, _, _ => by simp
  | x :: a, b, h, hs => by
    have hx : x ∈ b := hs x (by simp)
    have h2 := length_le_of_nodup_subset a (b.erase x) (List.nodup_cons.1 h).2 (fun y hy => by
      have hne : y ≠ x := by rintro rfl; exact (List.nodup_cons.1 h).1 hy
      exact (List.mem_erase_of_ne hne).2 (hs y (by simp [hy])))
    rw [List.length_erase_of_mem hx] at h2
    have := List.length_pos_of_mem hx
    simp; omega
section
variable {base : Nat} {W : World} {bt bh n : Nat} {ch : Nat → List E} {m : Pairs}
theorem Tb.chlen (h : Tb base W bt bh n ch m) {i : Nat} (hi : i < n) : (ch i).length ≤ m.length := by
  have := length_le_of_nodup_subset ((ch i).map (·.key)) (m.map (·.1)) (h.nod i hi) (fun k hk => by
    obtain ⟨x, hx, rfl⟩ := List.mem_map.1 hk
    have hs := h.slot i x hi hx
    exact List.mem_map.2 ⟨(x.key, x.val), (h.mem _ _).2 ⟨x, by rw [hs]; exact hx, rfl, rfl⟩, rfl⟩)
  simpa using this
theorem Tb.bt_ne (h : Tb base W bt bh n ch m) {i : Nat} (hi : i < n) {x : E} (hx : x ∈ headE bh i :: ch i) : x.blk ≠ bt := by
  obtain ⟨v, hv⟩ := (h.path i hi).mem x hx
  intro e
  have ho : x.off = 0 ∨ ∃ j, x.off = j := .inr ⟨_, rfl⟩
  have h1 := hv.k0
  rw [e, cell_of h.hb] at h1
  have : x.off < 2 := by
    have := (Array.getElem?_eq_some_iff.1 h1).1
    simpa using this
  have h3 := hv.m3
  have : x.off = 0 := by omega
  rw [this] at h1
  simp at h1
end

set_option maxHeartbeats 400000 in
theorem find_any (base bt bh n : Nat) (ch : Nat → List E) (m : Pairs) (key : ByteArray) (hs : key.size ≤ 9223372036854775807) (w : World) (h : Tb base w bt bh n ch m) :
    Calls Try.prog 30 #[.pointer (some ⟨bt, 0, none⟩), .string key] w fun e w' => ∃ lb, e = .returned (.pointer (some ⟨lb, 0, none⟩)) ∧ w.heap.size ≤ lb ∧ LkS w' lb key (go key (m.length + 1) (headE bh (slotOf n key)) (ch (slotOf n key)) 0) ∧ Below w.heap.size w w' := by
  have HC := hide (look_any base bt bh n ch m key hs w h)
  have HT := hide h
  have hl := h.mlen
  have hsl := hide (slot_lt h.lo key)
  clear h
  generalize slotOf n key = sl at *
  generalize hml : m.length = ml at *
  replace hml := hide hml
  go_enter Try.func30, Try.ntmps30
  go_wp2_with fail
  refine (unhide HC).mono ?_
  rintro e w1 ⟨lb, rfl, hlb, hL, hB⟩
  have HT1 := hide ((unhide HT).below hB)
  obtain ⟨h0, h1, hf⟩ := (unhide HT1).cells
  rw [unhide hml] at h1
  have HA := hide (along_any lb key (headE bh sl) (ch sl) 0 (ml + 1) w1 hL ((unhide HT1).path sl (unhide hsl)) (fun y hy => by
    have : Own bt bh n ch y.blk := by
      rcases List.mem_cons.1 hy with rfl | hy
      · exact .inr (.inl rfl)
      · exact .inr (.inr ⟨sl, unhide hsl, y, hy, rfl⟩)
    have := (unhide HT).own_lt this
    omega) (by omega) (by omega))
  replace hB := hide hB
  clear hL h0 hf HT HT1 HC
  replace hlb := hide hlb
  go_wp2_with fail
  refine (unhide HA).mono ?_
  rintro e w2 ⟨rfl, hL2, hF2⟩
  replace hL2 := hide hL2
  replace hF2 := hide hF2
  go_wp2_with fail
  go_ret
  refine ⟨lb, rfl, unhide hlb, unhide hL2, Fr.below (unhide hB) (unhide hF2) (unhide hB).size ?_⟩
  have := unhide hlb
  intro p hp
  simp at hp
  rcases hp with rfl | rfl | rfl | rfl | rfl <;> exact this

/-- Whether a key is there, and with what. -/
def has (m : Pairs) (k : ByteArray) : Bool := m.any (fun p => decide (p.1 = k))
def val (m : Pairs) (k : ByteArray) : Int := ((m.find? (fun p => decide (p.1 = k))).map (·.2)).getD 0
theorem has_iff {m : Pairs} {k : ByteArray} : has m k = true ↔ ∃ v, (k, v) ∈ m := by
  simp only [has, List.any_eq_true, decide_eq_true_eq]
  constructor
  · rintro ⟨⟨a, v⟩, h, rfl⟩; exact ⟨v, h⟩
  · rintro ⟨v, h⟩; exact ⟨_, h, rfl⟩
theorem has_false {m : Pairs} {k : ByteArray} : has m k = false ↔ ∀ v, (k, v) ∉ m := by
  rw [← Bool.not_eq_true, has_iff]; simp
theorem val_none {m : Pairs} {k : ByteArray} (h : has m k = false) : val m k = 0 := by
  have : m.find? (fun p => decide (p.1 = k)) = none := by
    rw [List.find?_eq_none]
    intro p hp
    have := has_false.1 h p.2
    intro e
    rw [decide_eq_true_eq] at e
    subst e
    exact this hp
  simp [val, this]
theorem val_mem {m : Pairs} {k : ByteArray} (h : has m k = true) : (k, val m k) ∈ m := by
  cases hf : m.find? (fun p => decide (p.1 = k)) with
  | none =>
    obtain ⟨v, hv⟩ := has_iff.1 h
    have := List.find?_eq_none.1 hf _ hv
    simp at this
  | some p =>
    have h1 := List.mem_of_find?_eq_some hf
    have h2 := List.find?_some hf
    rw [decide_eq_true_eq] at h2
    subst h2
    simp [val, hf]
    exact h1
theorem nodup_val {m : Pairs} (h : (m.map (·.1)).Nodup) {k : ByteArray} {v u : Int} (h1 : (k, v) ∈ m) (h2 : (k, u) ∈ m) : v = u := by
  induction m with
  | nil => simp at h1
  | cons p m ih =>
    rw [List.map_cons, List.nodup_cons] at h
    rcases List.mem_cons.1 h1 with e1 | h1
    · rcases List.mem_cons.1 h2 with e2 | h2
      · rw [← e1] at e2; exact (congrArg (·.2) e2).symm
      · exact absurd (List.mem_map.2 ⟨_, h2, by rw [← e1]⟩) h.1
    · rcases List.mem_cons.1 h2 with e2 | h2
      · exact absurd (List.mem_map.2 ⟨_, h1, by rw [← e2]⟩) h.1
      · exact ih h.2 h1 h2
/-- A chain at the key that is looked for. -/
theorem split_key (key : ByteArray) : ∀ (P : List E), (∀ y ∈ P, y.key ≠ key) ∨ ∃ A y B, P = A ++ y :: B ∧ y.key = key ∧ ∀ z ∈ A, z.key ≠ key
  | [] => .inl (by simp)
  | x :: P => by
    by_cases hx : x.key = key
    · exact .inr ⟨[], x, P, rfl, hx, by simp⟩
    · rcases split_key key P with h | ⟨A, y, B, rfl, h1, h2⟩
      · exact .inl (by simp [hx]; exact h)
      · exact .inr ⟨x :: A, y, B, rfl, h1, by simp [hx]; exact h2⟩
section
variable {base : Nat} {W : World} {bt bh n : Nat} {ch : Nat → List E} {m : Pairs}
theorem Tb.split (h : Tb base W bt bh n ch m) (key : ByteArray) :
    (has m key = false ∧ (∀ y ∈ ch (slotOf n key), y.key ≠ key) ∧ ∃ z t, go key (m.length + 1) (headE bh (slotOf n key)) (ch (slotOf n key)) 0 = ⟨z, t, true, false, 0⟩) ∨
    (has m key = true ∧ ∃ A y B t, ch (slotOf n key) = A ++ y :: B ∧ y.key = key ∧ y.val = val m key ∧ (∀ z ∈ A, z.key ≠ key) ∧ go key (m.length + 1) (headE bh (slotOf n key)) (ch (slotOf n key)) 0 = ⟨(headE bh (slotOf n key) :: A).getLast (by simp), t, true, true, val m key⟩) := by
  have hsl := slot_lt h.lo key
  have hlen := h.chlen hsl
  rcases split_key key (ch (slotOf n key)) with hn | ⟨A, y, B, he, hy, hA⟩
  · refine .inl ⟨has_false.2 fun v hv => ?_, hn, go_none key _ _ _ _ (by omega) hn⟩
    obtain ⟨x, hx, h1, _⟩ := (h.mem _ _).1 hv
    exact hn x hx h1
  · have hmem : (key, y.val) ∈ m := (h.mem _ _).2 ⟨y, by rw [he]; simp, hy, rfl⟩
    have hh : has m key = true := has_iff.2 ⟨_, hmem⟩
    have hv : y.val = val m key := nodup_val h.mnod hmem (val_mem hh)
    rw [he] at hlen
    obtain ⟨t, ht⟩ := go_some key A y B (m.length + 1) (headE bh (slotOf n key)) 0 (by simp at hlen; omega) hA hy
    exact .inr ⟨hh, A, y, B, t, he, hy, hv, hA, by rw [he, ht, hv]⟩
theorem Tb.go_fd (h : Tb base W bt bh n ch m) (key : ByteArray) : ∃ z t, go key (m.length + 1) (headE bh (slotOf n key)) (ch (slotOf n key)) 0 = ⟨z, t, true, has m key, val m key⟩ := by
  rcases h.split key with ⟨h1, _, z, t, e⟩ | ⟨h1, A, y, B, t, _, _, _, _, e⟩
  · exact ⟨z, t, by rw [e, h1, val_none h1]⟩
  · exact ⟨_, t, by rw [e, h1]⟩
end

set_option maxHeartbeats 400000 in
theorem get_any (base bt bh n : Nat) (ch : Nat → List E) (m : Pairs) (key : ByteArray) (hs : key.size ≤ 9223372036854775807) (w : World) (h : Tb base w bt bh n ch m) :
    Calls Try.prog 22 #[.pointer (some ⟨bt, 0, none⟩), .string key] w fun e w' => e = .returned (.tuple #[.int .i64 (val m key), .bool (has m key)]) ∧ Below w.heap.size w w' := by
  have HC := hide (find_any base bt bh n ch m key hs w h)
  obtain ⟨z, t, hg⟩ := h.go_fd key
  rw [hg] at HC
  clear h hg
  generalize val m key = v at *
  generalize has m key = f at *
  go_enter Try.func22, Try.ntmps22
  go_wp2_with fail
  refine (unhide HC).mono ?_
  rintro e w1 ⟨lb, rfl, hlb, hL, hB⟩
  have HF := hide (found_any lb key z t true f v w1 hL)
  clear hL hlb
  replace hB := hide hB
  go_wp2_with fail
  refine (unhide HF).mono ?_
  rintro e w2 ⟨rfl, hB2⟩
  replace hB2 := hide hB2
  go_wp2_with fail
  go_ret2
  exact ⟨rfl, (unhide hB).trans ((unhide hB2).mono (unhide hB).size)⟩
set_option maxHeartbeats 400000 in
theorem step_over (b : Nat) (key : ByteArray) (x : E) (st : Int) (fd : Bool) (v : Int) (w : World) (h : Lk w b key x st true fd v) :
    Calls Try.prog 12 #[.pointer (some ⟨b, 0, none⟩)] w fun e w' => e = .returned (.bool true) ∧ w' = w := by
  have HC := hide (along_over b key x st fd v 1 w h)
  obtain ⟨h0, h1, h2, h3, h4, h5, hf⟩ := h.cells
  clear h h0 h1 h2 h4 h5 hf
  go_enter Try.func12, Try.ntmps12
  go_wp2_with fail
  refine (unhide HC).mono ?_
  rintro e w1 ⟨rfl, rfl⟩
  go_wp2_with fail
  go_ret
  exact ⟨rfl, rfl⟩
set_option maxHeartbeats 400000 in
theorem step_any (b : Nat) (key : ByteArray) (x : E) (P : List E) (st : Int) (w : World) (h : Lk w b key x st false false 0) (hP : Path w (x :: P)) (hne : ∀ y ∈ x :: P, y.blk ≠ b) (s0 : 0 ≤ st) (s1 : st + 1 ≤ 1000000) :
    Calls Try.prog 12 #[.pointer (some ⟨b, 0, none⟩)] w fun e w' => e = .returned (.bool (go key 1 x P st).ov) ∧ LkS w' b key (go key 1 x P st) ∧ Fr (lkS b) w w' := by
  have HC := hide (along_any b key x P st 1 w h hP hne s0 (by omega))
  clear h hP hne
  generalize go key 1 x P st = G at *
  go_enter Try.func12, Try.ntmps12
  go_wp2_with fail
  refine (unhide HC).mono ?_
  rintro e w1 ⟨rfl, hL, hF⟩
  obtain ⟨h0, h1, h2, h3, h4, h5, hf⟩ := hL.cells
  clear h0 h1 h2 h4 h5 hf
  replace hL := hide hL
  replace hF := hide hF
  go_wp2_with fail
  go_ret
  exact ⟨rfl, unhide hL, unhide hF⟩
end Go.Proofs.Ytbmcnfdciogmjaa
