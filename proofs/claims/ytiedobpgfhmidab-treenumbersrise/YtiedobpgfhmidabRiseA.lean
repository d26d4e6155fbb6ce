/-
  Nodes that are made and parted at the end of one Dir.
-/
import Derived.Test.YtiedobpgfhmidabKnown
import Derived.Test.YtiedobpgfhmidabNames
namespace Go.Proofs.Ytiedobpgfhmidab
open Go.RowKit Go.Maps

abbrev tC : ByteArray := ⟨#[99]⟩
abbrev tD : ByteArray := ⟨#[100]⟩
def nmK : Nat → ByteArray
  | 0 => tA
  | 1 => tB
  | 2 => tC
  | _ => tD
def ents (ms : List Int) : List Ent := [tA, tB, tC].zip ms
theorem cab : cmpS tA tB < 0 := by decide +kernel
theorem cac : cmpS tA tC < 0 := by decide +kernel
theorem cbc : cmpS tB tC < 0 := by decide +kernel
theorem caa : ¬ cmpS tA tA < 0 := by decide +kernel
theorem cbb : ¬ cmpS tB tB < 0 := by decide +kernel
theorem ccc : ¬ cmpS tC tC < 0 := by decide +kernel
theorem ents_len {ms : List Int} (h : ms.length ≤ 3) : (ents ms).length = ms.length := by simp [ents]; omega
theorem put_ents {ms : List Int} (m : Int) (h : ms.length < 3) : putE (ents ms) (nmK ms.length) m = ents (ms ++ [m]) := by
  match ms, h with
  | [], _ => rfl
  | [a], _ => simp [ents, nmK, putE, pos, cab]
  | [a, b], _ => simp [ents, nmK, putE, pos, cac, cbc]
theorem get_ents {ms : List Int} (m : Int) (h : ms.length < 3) : getE (ents (ms ++ [m])) (nmK ms.length) = some m := by
  match ms, h with
  | [], _ => simp [ents, nmK, getE]
  | [a], _ => simp [ents, nmK, getE]
  | [a, b], _ => simp [ents, nmK, getE]
theorem get_none {ms : List Int} (h : ms.length ≤ 3) : getE (ents ms) (nmK ms.length) = none := by
  match ms, h with
  | [], _ => simp [ents, nmK, getE]
  | [a], _ => simp [ents, nmK, getE]
  | [a, b], _ => simp [ents, nmK, getE]
  | [a, b, c], _ => simp [ents, nmK, getE]
theorem del_ents {ms : List Int} (m : Int) (h : ms.length < 3) : delE (ents (ms ++ [m])) (nmK ms.length) = ents ms := by
  match ms, h with
  | [], _ => simp [ents, nmK, delE, pos, caa]
  | [a], _ => simp [ents, nmK, delE, pos, cab, cbb]
  | [a, b], _ => simp [ents, nmK, delE, pos, cac, cbc, ccc]
theorem right_nm (k : Nat) : right (nmK k) = true := by
  match k with
  | 0 => decide +kernel
  | 1 => decide +kernel
  | 2 => decide +kernel
  | _ + 3 => show right tD = true; decide +kernel
/-- The root holds a, b, c as far as there are nodes; nothing else lives. -/
structure RR (T : Tr) (ms : List Int) (nx : Nat) : Prop where
  r : ∃ r, T.nd 1 = some r ∧ r.kind = 1 ∧ r.names = 1 ∧ r.ins = ents ms
  y : ∀ m ∈ ms, 2 ≤ m ∧ ∃ y, T.nd m = some y ∧ y.names = 1 ∧ y.holds = 0 ∧ y.ins = []
  nd : ms.Nodup
  md : T.made + 1 = nx ∧ T.most = 4
  lv : T.live = 1 + ms.length
  len : ms.length ≤ 3
theorem RR.new : RR (Tr.new 4 0) [] 2 := ⟨⟨_, rfl, rfl, rfl, rfl⟩, fun m h => absurd h (by simp), List.nodup_nil, ⟨rfl, rfl⟩, by decide +kernel, by simp⟩
theorem cnt_at {n : Nat} (m : Nat) (h : m < n) : cnt n (fun k => decide (k = m)) = 1 := by
  induction n with
  | zero => omega
  | succ n ih =>
    rw [cnt_succ]
    by_cases e : m = n
    · subst e
      rw [cnt_none (fun k hk => by simp; omega)]
      simp
    · rw [ih (by omega)]
      have : ¬ n = m := fun h' => e h'.symm
      simp [this]
section
variable {T : Tr} {ms : List Int} {nx B : Nat}
theorem RR.makeE (h : RR T ms nx) : T.makeE 1 (nmK ms.length) 3 ⟨#[]⟩ = if ms.length < 3 then 0 else 43 := by
  obtain ⟨r, r1, r2, r3, r4⟩ := h.r
  have hf : fitsB 3 ⟨#[]⟩ = true := by decide +kernel
  have hd : T.dir 1 = some r := Tr.dir_some.2 ⟨r1, r2⟩
  have hr : refusesE r (nmK ms.length) = 0 := by simp [refusesE, r4, get_none h.len, r3]
  have hl : T.left = 3 - (ms.length : Int) := by simp only [Tr.left, h.lv, h.md.2]; omega
  simp only [Tr.makeE, hd, right_nm, hf, hr, hl]
  have := h.len
  by_cases e : ms.length < 3
  · rw [if_pos e]; simp; omega
  · rw [if_neg e]; simp; omega
theorem RR.make (h : RR T ms nx) (hw : Wk B T) (hl : ms.length < 3) : T.makeN 1 (nmK ms.length) 3 ⟨#[]⟩ = nx ∧ RR (T.make 1 (nmK ms.length) 3 0 0 0 ⟨#[]⟩) (ms ++ [(nx : Int)]) (nx + 1) := by
  obtain ⟨r, r1, r2, r3, r4⟩ := h.r
  have hE : T.makeE 1 (nmK ms.length) 3 ⟨#[]⟩ = 0 := by rw [h.makeE, if_pos hl]
  have hnd := Tr.make_nd (mode := 0) (uid := 0) (gid := 0) hw hE r1
  have hm : ((T.made : Nat) : Int) + 1 = (nx : Int) := by have := h.md.1; omega
  rw [hm] at hnd
  have hk1 := hw.key 1 r r1
  have hlt : ∀ m ∈ ms, m < (nx : Int) := fun m hm' => by
    obtain ⟨_, y, h1, _⟩ := h.y m hm'
    have := hw.key m y h1
    omega
  have hmd : (T.make 1 (nmK ms.length) 3 0 0 0 ⟨#[]⟩).made = T.made + 1 ∧ (T.make 1 (nmK ms.length) 3 0 0 0 ⟨#[]⟩).most = T.most := by
    rw [Tr.make, if_pos hE]
    have hd5 : (T.add 3 0 0 0 ⟨#[]⟩).nd 1 = some r := by simp only [Tr.add]; rw [if_neg (by omega)]; exact r1
    have hn5 : ∃ x, (T.add 3 0 0 0 ⟨#[]⟩).nd ((T.made : Int) + 1) = some x := ⟨_, by simp only [Tr.add, if_true]; rfl⟩
    obtain ⟨x, hx⟩ := hn5
    simp only [Tr.give, hd5, hx]
    exact ⟨rfl, rfl⟩
  refine ⟨by rw [Tr.makeN, if_pos hE]; exact hm, ⟨_, (hnd 1).trans ((if_neg (by omega)).trans (if_pos rfl)), r2, r3, ?_⟩, ?_, ?_, ⟨by rw [hmd.1, ← h.md.1], by rw [hmd.2]; exact h.md.2⟩, ?_, by simp; omega⟩
  · simp only [r4]
    exact put_ents _ hl
  · intro m hm'
    rcases List.mem_append.1 hm' with h1 | h1
    · obtain ⟨h2, y, h3, h4⟩ := h.y m h1
      have := hlt m h1
      exact ⟨h2, y, by rw [hnd, if_neg (by omega), if_neg (by omega)]; exact h3, h4⟩
    · obtain rfl := List.mem_singleton.1 h1
      exact ⟨by omega, _, (hnd _).trans (if_pos rfl), rfl, rfl, rfl⟩
  · refine List.nodup_append.2 ⟨h.nd, by simp, fun a ha b hb => ?_⟩
    obtain rfl := List.mem_singleton.1 hb
    have := hlt a ha
    omega
  · have := h.lv
    simp only [Tr.live] at this ⊢
    rw [hmd.1, cnt_succ, cnt_congr (q := fun k => (T.nd (k : Int)).isSome), this]
    · have e : ((T.make 1 (nmK ms.length) 3 0 0 0 ⟨#[]⟩).nd ((T.made + 1 : Nat) : Int)).isSome = true := by rw [hnd, if_pos (by omega)]; rfl
      rw [if_pos e]
      simp
      omega
    · intro k hk
      rw [hnd, if_neg (by omega)]
      by_cases e : (k : Int) = 1
      · rw [if_pos e, e, r1]; rfl
      · rw [if_neg e]
theorem RR.full (h : RR T ms nx) (hl : ¬ ms.length < 3) : T.makeN 1 (nmK ms.length) 3 ⟨#[]⟩ = 0 ∧ T.make 1 (nmK ms.length) 3 0 0 0 ⟨#[]⟩ = T := by
  have hE : T.makeE 1 (nmK ms.length) 3 ⟨#[]⟩ = 43 := by rw [h.makeE, if_neg hl]
  constructor
  · rw [Tr.makeN, if_neg (by rw [hE]; decide)]
  · rw [Tr.make, if_neg (by rw [hE]; decide)]
theorem RR.part {m : Int} (h : RR T (ms ++ [m]) nx) (hw : Wk B T) : T.partE 1 (nmK ms.length) = 0 ∧ RR (T.part 1 (nmK ms.length)) ms nx := by
  have hl : ms.length < 3 := by have := h.len; simp at this; omega
  obtain ⟨r, r1, r2, r3, r4⟩ := h.r
  obtain ⟨hm2, y, y1, y2, y3, y4⟩ := h.y m (by simp)
  have hg : getE r.ins (nmK ms.length) = some m := by rw [r4]; exact get_ents m hl
  have hE : T.partE 1 (nmK ms.length) = 0 := by simp [Tr.partE, Tr.dir, r1, r2, hg, Tr.insOf, y1, y4]
  have hdn : (1 : Int) ≠ m := by omega
  have hnd := Tr.take_nd r1 hg y1 hdn
  obtain ⟨m1, m2, _⟩ := Tr.take_rest r1 hg y1 hdn
  have e : T.part 1 (nmK ms.length) = T.take 1 (nmK ms.length) := by rw [Tr.part, if_pos hE]
  rw [e]
  have hnot : ∀ a ∈ ms, a ≠ m := fun a ha => (List.nodup_append.1 h.nd).2.2 a ha m (by simp)
  have hnm : ((T.take 1 (nmK ms.length)).nd m) = none := by rw [hnd, if_pos rfl, if_neg (by omega)]
  refine ⟨hE, ⟨_, (hnd 1).trans ((if_neg (by omega)).trans (if_pos rfl)), r2, r3, ?_⟩, ?_, (List.nodup_append.1 h.nd).1, by rw [m1, m2]; exact h.md, ?_, by omega⟩
  · simp only [r4]
    exact del_ents m hl
  · intro a ha
    obtain ⟨h2, z, h3, h4⟩ := h.y a (by simp [ha])
    exact ⟨h2, z, by rw [hnd, if_neg (hnot a ha), if_neg (by omega)]; exact h3, h4⟩
  · have hlv := h.lv
    have hmk := hw.key m y y1
    simp only [Tr.live] at hlv ⊢
    rw [m1]
    have hc := cnt_add (n := T.made + 1) (r := fun k => (T.nd (k : Int)).isSome) (p := fun k => ((T.take 1 (nmK ms.length)).nd (k : Int)).isSome) (q := fun k => decide (k = m.toNat)) (fun k hk => by
      by_cases e : (k : Int) = m
      · have : k = m.toNat := by omega
        rw [e, y1, hnm]; simp [this]
      · have : ¬ k = m.toNat := by omega
        rw [hnd, if_neg e]
        by_cases e1 : (k : Int) = 1
        · rw [if_pos e1, e1, r1]; rfl
        · rw [if_neg e1]; simp [this]) (fun k hk => by
      by_cases e : (k : Int) = m
      · rw [e, hnm]; rfl
      · have : ¬ k = m.toNat := by omega
        simp [this])
    rw [cnt_at _ (by omega), hlv] at hc
    simp at hc
    omega
theorem RR.names (h : RR T ms nx) : (T.names 1).length = ms.length := by
  obtain ⟨r, r1, r2, r3, r4⟩ := h.r
  have hd : T.dir 1 = some r := Tr.dir_some.2 ⟨r1, r2⟩
  simp only [Tr.names, hd, r4, List.length_map, ents_len h.len]
end
/-- What lies while the law runs. -/
structure NR (w W : World) (t : Nat) (hv nx i : Nat) : Prop where
  t : ∃ T ms, ms.length = hv ∧ Tq w.heap.size 0 W t T (1 + 2 * i) ∧ RR T ms nx
  b : Below w.heap.size w W
section
variable {w W : World} {t hv nx i : Nat}
theorem NR.below {W' : World} (h : NR w W t hv nx i) (g : Below W.heap.size W W') : NR w W' t hv nx i := by
  obtain ⟨⟨T, ms, h0, h1, h2⟩, h3⟩ := h
  exact ⟨⟨T, ms, h0, h1.below g, h2⟩, h3.trans (g.mono h3.size)⟩
theorem NR.hv3 (h : NR w W t hv nx i) : hv ≤ 3 := by
  obtain ⟨⟨T, ms, rfl, h1, h2⟩, h3⟩ := h
  exact h2.len
theorem NR.part (h : NR w W t (hv + 1) nx i) (hi : i < 60) : Calls Try.prog 6 #[P0 t, I 1, .string (nmK hv)] W fun e W' => e = .returned (I 0) ∧ Hid (NR w W' t hv nx (i + 1)) := by
  obtain ⟨⟨T, ms, h0, h1, h2⟩, h3⟩ := h
  obtain ⟨ms', m, rfl⟩ : ∃ ms' m, ms = ms' ++ [m] := ⟨ms.dropLast, ms.getLast (by intro e; simp [e] at h0), (List.dropLast_concat_getLast _).symm⟩
  obtain rfl : ms'.length = hv := by simp at h0; omega
  refine (part_Q h1 (by omega) (by decide) (nmK ms'.length) 0 _ (h2.part h1.f.k).1 rfl).mono ?_
  rintro e W' ⟨rfl, h4, h5⟩
  exact ⟨rfl, ⟨_, ms', rfl, (unhide h4).mono (by omega), (h2.part h1.f.k).2⟩, (unhide h5).fst h3 (Nat.le_refl _)⟩
theorem NR.make (h : NR w W t hv nx i) (hi : i < 60) (hl : hv < 3) : Calls Try.prog 7 #[P0 t, I 1, .string (nmK hv), stV 0 3 0 0 0 0 0, .string ⟨#[]⟩] W fun e W' => e = .returned (.tuple #[I nx, I 0]) ∧ Hid (NR w W' t (hv + 1) (nx + 1) (i + 1)) := by
  obtain ⟨⟨T, ms, rfl, h1, h2⟩, h3⟩ := h
  obtain ⟨g1, g2⟩ := h2.make h1.f.k hl
  refine (make_Q h1 (by omega) (by decide) (nmK ms.length) 0 3 0 0 0 0 0 ⟨#[]⟩ (by decide) _ 0 _ g1 (by rw [h2.makeE, if_pos hl]) rfl).mono ?_
  rintro e W' ⟨rfl, h4, h5⟩
  exact ⟨rfl, ⟨_, _, by simp, (unhide h4).mono (by omega), g2⟩, (unhide h5).fst h3 (Nat.le_refl _)⟩
theorem NR.full (h : NR w W t hv nx i) (hi : i < 60) (hl : ¬ hv < 3) : Calls Try.prog 7 #[P0 t, I 1, .string (nmK hv), stV 0 3 0 0 0 0 0, .string ⟨#[]⟩] W fun e W' => e = .returned (.tuple #[I 0, I 43]) ∧ Hid (NR w W' t hv nx (i + 1)) := by
  obtain ⟨⟨T, ms, rfl, h1, h2⟩, h3⟩ := h
  obtain ⟨g1, g2⟩ := h2.full hl
  refine (make_Q h1 (by omega) (by decide) (nmK ms.length) 0 3 0 0 0 0 0 ⟨#[]⟩ (by decide) 0 43 T g1 (by rw [h2.makeE, if_neg hl]) g2).mono ?_
  rintro e W' ⟨rfl, h4, h5⟩
  exact ⟨rfl, ⟨_, _, rfl, (unhide h4).mono (by omega), h2⟩, (unhide h5).fst h3 (Nat.le_refl _)⟩
theorem NR.names (h : NR w W t hv nx i) (hi : i ≤ 60) : Calls Try.prog 8 #[P0 t, I 1] W fun e W' => ∃ ad cap, e = .returned (.slice ad hv cap) ∧ Hid (Below W.heap.size W W') := by
  obtain ⟨⟨T, ms, rfl, ⟨⟨q, p, nb, ev, h1⟩, hf⟩, h2⟩, h3⟩ := h
  refine (names_any h1 hf.k (by omega) (by decide)).mono ?_
  rintro e W' ⟨v, rfl, hr, hb⟩
  obtain ⟨ad, cap, hv⟩ := own_form hr
  rw [h2.names] at hv
  exact ⟨ad, cap, by rw [hv], hb⟩
end
end Go.Proofs.Ytiedobpgfhmidab
