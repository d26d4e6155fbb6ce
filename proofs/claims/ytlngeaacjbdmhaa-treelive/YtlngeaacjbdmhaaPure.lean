/-
  What files hold, as plain functions of places.
-/
import Derived.Test.YtlngeaacjbdmhaaBase
namespace Go.Proofs.Ytlngeaacjbdmhaa
open Go.RowKit Go.Maps

/-- The bytes from a on, n of them. -/
def lst (f : Nat → Int) (a n : Nat) : List Value := (List.range n).map fun j => U (f (a + j))
theorem lst_length (f : Nat → Int) (a n : Nat) : (lst f a n).length = n := by simp [lst]
theorem lst_get (f : Nat → Int) (a n j : Nat) : (lst f a n)[j]? = if j < n then some (U (f (a + j))) else none := by
  simp only [lst, List.getElem?_map]
  by_cases h : j < n
  · simp [h]
  · simp [h]
theorem lst_get' {f : Nat → Int} {a n j : Nat} (h : j < n) : (lst f a n)[j]? = some (U (f (a + j))) := by rw [lst_get, if_pos h]
theorem lst_congr {f g : Nat → Int} {a b n : Nat} (h : ∀ j, j < n → f (a + j) = g (b + j)) : lst f a n = lst g b n := by
  apply List.ext_getElem?
  intro j
  rw [lst_get, lst_get]
  by_cases hj : j < n
  · rw [if_pos hj, if_pos hj, h j hj]
  · rw [if_neg hj, if_neg hj]
theorem lst_one (f : Nat → Int) (a n : Nat) : ∀ v ∈ lst f a n, v.oneCell' = true := by
  intro v hv
  simp [lst] at hv
  obtain ⟨j, _, rfl⟩ := hv
  rfl
theorem lst_all (f : Nat → Int) (a n : Nat) : (lst f a n).toArray.all (·.oneCell') = true := all_oneCell_toArray (lst_one f a n)
theorem splice_get {α : Type} (L : List α) (off : Nat) (cs : List α) (h : off + cs.length ≤ L.length) (j : Nat) :
    (splice L off cs)[j]? = if off ≤ j ∧ j < off + cs.length then cs[j - off]? else L[j]? := by
  unfold splice
  rw [List.getElem?_append, List.length_take, Nat.min_eq_left (by omega)]
  by_cases h1 : j < off
  · rw [if_pos h1, if_neg (by omega), List.getElem?_take, if_pos h1]
  · rw [if_neg h1, List.getElem?_append]
    by_cases h2 : j < off + cs.length
    · rw [if_pos (by omega), if_pos (by omega)]
    · rw [if_neg (by omega), if_neg (by omega), List.getElem?_drop]
      congr 1
      omega
theorem splice_lst {f g h : Nat → Int} {a c n off m : Nat} (h1 : off + m ≤ n) (hin : ∀ j, j < m → h (a + (off + j)) = g (c + j)) (hout : ∀ j, j < n → j < off ∨ off + m ≤ j → h (a + j) = f (a + j)) :
    splice (lst f a n) off (lst g c m) = lst h a n := by
  apply List.ext_getElem?
  intro j
  rw [splice_get _ _ _ (by rw [lst_length, lst_length]; exact h1), lst_length, lst_get, lst_get, lst_get]
  by_cases hj : off ≤ j ∧ j < off + m
  · rw [if_pos hj, if_pos (by omega), if_pos (by omega), ← hin _ (by omega)]
    congr 3
    omega
  · rw [if_neg hj]
    by_cases hn : j < n
    · rw [if_pos hn, if_pos hn, hout j hn (by omega)]
    · rw [if_neg hn, if_neg hn]

/-- The blocks of a file, by their numbers. -/
def bk (f : Nat → Int) (h : Nat → Bool) : Int → Option Value := fun k => if 0 ≤ k ∧ h k.toNat = true then some (.agg (lst f (16 * k.toNat) 16).toArray) else none
theorem bk_some (f : Nat → Int) (h : Nat → Bool) (k : Nat) : (bk f h (k : Int)).isSome = h k := by
  simp only [bk]
  cases e : h k <;> simp [e]
theorem bk_get (f : Nat → Int) (h : Nat → Bool) (k : Nat) : bk f h (k : Int) = if h k = true then some (.agg (lst f (16 * k) 16).toArray) else none := by
  simp [bk]
theorem bk_sup {f : Nat → Int} {h : Nat → Bool} {n : Nat} (hs : ∀ k, h k = true → k < n) (k : Int) (_ : (kl k).wf = true) (e : (bk f h k).isSome = true) : 0 ≤ k ∧ k < (n : Int) := by
  simp only [bk] at e
  split at e
  · rename_i h1
    have := hs _ h1.2
    omega
  · cases e
theorem bk_cnt (f : Nat → Int) (h : Nat → Bool) (n : Nat) : cnt n (fun k => (bk f h (k : Int)).isSome) = cnt n h := cnt_congr fun k _ => bk_some f h k
/-- Of a hole and of a block alike: its bytes. -/
theorem bk_row {f : Nat → Int} {h : Nat → Bool} {k : Nat} (hh : ∀ i, h (i / 16) = false → f i = 0) :
    (bk f h (k : Int)).getD (.agg (lst (fun _ => 0) 0 16).toArray) = .agg (lst f (16 * k) 16).toArray := by
  rw [bk_get]
  cases e : h k with
  | true => rfl
  | false =>
    simp only [Bool.false_eq_true, if_false, Option.getD_none]
    congr 2
    exact lst_congr fun j hj => (hh _ (by rw [show (16 * k + j) / 16 = k by omega]; exact e)).symm
theorem upd_bk {f g : Nat → Int} {h h' : Nat → Bool} {k : Nat} (hk : h' k = true) (ho : ∀ j, j ≠ k → h' j = h j ∧ (h j = true → ∀ i, i / 16 = j → g i = f i)) :
    ∀ j, upd (bk f h) (k : Int) (some (.agg (lst g (16 * k) 16).toArray)) j = bk g h' j := by
  intro j
  simp only [upd]
  by_cases e : j = (k : Int)
  · subst e
    rw [if_pos rfl, bk_get, hk]
    rfl
  · rw [if_neg e]
    simp only [bk]
    by_cases h0 : 0 ≤ j
    · have hne : j.toNat ≠ k := by omega
      rw [(ho _ hne).1]
      by_cases h1 : h j.toNat = true
      · rw [if_pos ⟨h0, h1⟩, if_pos ⟨h0, h1⟩]
        congr 3
        exact lst_congr fun i hi => ((ho _ hne).2 h1 _ (by omega)).symm
      · rw [if_neg (fun h2 => h1 h2.2), if_neg (fun h2 => h1 h2.2)]
    · rw [if_neg (fun h2 => h0 h2.1), if_neg (fun h2 => h0 h2.1)]

theorem bk_cong {f g : Nat → Int} {h : Nat → Bool} (ho : ∀ j, h j = true → ∀ i, i / 16 = j → g i = f i) (k : Int) : bk f h k = bk g h k := by
  simp only [bk]
  split
  · rename_i h1
    congr 3
    exact lst_congr fun i hi => (ho _ h1.2 _ (by omega)).symm
  · rfl
/-- What a file is: how long, its bytes, its blocks. -/
structure F where
  size : Nat
  byte : Nat → Int
  has : Nat → Bool
structure F.Ok (x : F) : Prop where
  most : x.size ≤ 1024
  beh : ∀ i, x.size ≤ i → x.byte i = 0
  hol : ∀ i, x.has (i / 16) = false → x.byte i = 0
  inn : ∀ k, x.has k = true → 16 * k < x.size
def F.empty : F := ⟨0, fun _ => 0, fun _ => false⟩
theorem F.empty_ok : F.empty.Ok := ⟨by simp [F.empty], fun _ _ => rfl, fun _ _ => rfl, fun k h => by cases h⟩
def F.used (x : F) : Nat := cnt 64 x.has
theorem F.Ok.sup {x : F} (h : x.Ok) (k : Nat) (e : x.has k = true) : k < 64 := by
  have := h.inn k e
  have := h.most
  omega
/-- Bytes over others. -/
def lay (f : Nat → Int) (a n : Nat) (g : Nat → Int) : Nat → Int := fun i => if a ≤ i ∧ i < a + n then g (i - a) else f i
def layH (h : Nat → Bool) (a n : Nat) : Nat → Bool := fun k => h k || decide (a / 16 ≤ k ∧ 16 * k < a + n ∧ 0 < n)
def cutF (f : Nat → Int) (n : Nat) : Nat → Int := fun i => if i < n then f i else 0
def cutH (h : Nat → Bool) (n : Nat) : Nat → Bool := fun k => h k && decide (16 * k < n)
def F.write (x : F) (a n : Nat) (g : Nat → Int) : F := ⟨max x.size (a + n), lay x.byte a n g, layH x.has a n⟩
def F.cut (x : F) (n : Nat) : F := ⟨n, cutF x.byte n, cutH x.has n⟩
def F.lacks (x : F) (a n : Nat) : Nat := cnt 64 (fun k => decide (a / 16 ≤ k ∧ 16 * k < a + n) && !x.has k)
theorem lay_zero (f : Nat → Int) (a : Nat) (g : Nat → Int) : lay f a 0 g = f := by
  funext i
  simp only [lay]
  rw [if_neg (by omega)]
theorem layH_zero (h : Nat → Bool) (a : Nat) : layH h a 0 = h := by
  funext k
  simp [layH]
theorem lay_hol {f : Nat → Int} {h : Nat → Bool} (hh : ∀ i, h (i / 16) = false → f i = 0) (a n : Nat) (g : Nat → Int) : ∀ i, layH h a n (i / 16) = false → lay f a n g i = 0 := by
  intro i hi
  simp only [layH, Bool.or_eq_false_iff, decide_eq_false_iff_not] at hi
  simp only [lay]
  rw [if_neg (by omega)]
  exact hh i hi.1
theorem F.write_ok {x : F} (h : x.Ok) {a n : Nat} (g : Nat → Int) (ha : a + n ≤ 1024) : (x.write a n g).Ok := by
  refine ⟨?_, fun i hi => ?_, lay_hol h.hol a n g, fun k hk => ?_⟩
  · have := h.most
    simp only [F.write]
    omega
  · simp only [F.write, lay] at *
    rw [if_neg (by omega)]
    exact h.beh i (by omega)
  · simp only [F.write, layH, Bool.or_eq_true, decide_eq_true_eq] at *
    rcases hk with hk | hk
    · have := h.inn k hk
      omega
    · omega
theorem F.cut_ok {x : F} (h : x.Ok) {n : Nat} (hn : n ≤ 1024) : (x.cut n).Ok := by
  refine ⟨hn, fun i hi => ?_, fun i hi => ?_, fun k hk => ?_⟩
  · simp only [F.cut, cutF] at *
    rw [if_neg (by omega)]
  · simp only [F.cut, cutF, cutH, Bool.and_eq_false_iff, decide_eq_false_iff_not] at *
    by_cases hi' : i < n
    · rw [if_pos hi']
      rcases hi with hi | hi
      · exact h.hol i hi
      · omega
    · rw [if_neg hi']
  · simp only [F.cut, cutH, Bool.and_eq_true, decide_eq_true_eq] at *
    omega
theorem F.used_write (x : F) {a n : Nat} (g : Nat → Int) (hn : 0 < n) : (x.write a n g).used = x.used + x.lacks a n := by
  refine cnt_add (fun k _ => ?_) fun k _ => ?_
  · simp only [F.write, layH]
    cases x.has k <;> simp [hn]
  · cases x.has k <;> simp
theorem F.used_cut (x : F) (n : Nat) : (x.cut n).used ≤ x.used := cnt_mono fun k _ h => by
  simp only [F.cut, cutH, Bool.and_eq_true] at h
  exact h.1
/-- The pool: blocks that nobody has; the files, none where one was dropped. -/
structure S where
  left : Nat
  fs : List (Option F)
def S.get (s : S) (f : Int) : Option F := if 1 ≤ f then (s.fs[f.toNat - 1]?).join else none
def S.put (s : S) (f : Int) (o : Option F) (n : Nat) : S := ⟨n, s.fs.set (f.toNat - 1) o⟩
def usedO : Option F → Nat
  | none => 0
  | some x => x.used
def total : List (Option F) → Nat
  | [] => 0
  | o :: l => usedO o + total l
theorem total_append (l : List (Option F)) (o : Option F) : total (l ++ [o]) = total l + usedO o := by
  induction l with
  | nil => simp [total]
  | cons a l ih => simp [total, ih]; omega
theorem total_set : ∀ (l : List (Option F)) (i : Nat) (o o' : Option F), l[i]? = some o → total (l.set i o') + usedO o = total l + usedO o'
  | [], i, o, o', h => by simp at h
  | a :: l, 0, o, o', h => by
    simp at h
    subst h
    simp [total]
    omega
  | a :: l, i + 1, o, o', h => by
    have := total_set l i o o' (by simpa using h)
    simp [total]
    omega
theorem S.get_at {s : S} {f : Int} {x : F} (h : s.get f = some x) : 1 ≤ f ∧ s.fs[f.toNat - 1]? = some (some x) := by
  simp only [S.get] at h
  split at h
  · rename_i h1
    refine ⟨h1, ?_⟩
    cases e : s.fs[f.toNat - 1]? with
    | none => rw [e] at h; cases h
    | some o => rw [e] at h; simp at h; rw [h]
  · cases h
theorem S.get_lt {s : S} {f : Int} {x : F} (h : s.get f = some x) : 1 ≤ f ∧ f ≤ s.fs.length := by
  obtain ⟨h1, h2⟩ := S.get_at h
  have := (List.getElem?_eq_some_iff.1 h2).1
  omega
theorem S.get_put {s : S} {f : Int} {x : F} (h : s.get f = some x) (o : Option F) (n : Nat) (j : Int) : (s.put f o n).get j = if j = f then o else s.get j := by
  obtain ⟨h1, h2⟩ := S.get_at h
  have hl := (List.getElem?_eq_some_iff.1 h2).1
  simp only [S.get, S.put]
  by_cases e : j = f
  · subst e
    rw [if_pos h1, if_pos rfl, List.getElem?_set_self hl]
    cases o <;> rfl
  · rw [if_neg e]
    by_cases hj : 1 ≤ j
    · rw [if_pos hj, if_pos hj, List.getElem?_set_ne (by omega)]
    · rw [if_neg hj, if_neg hj]
def S.add (s : S) : S := ⟨s.left, s.fs ++ [some F.empty]⟩
theorem S.get_add (s : S) (j : Int) : s.add.get j = if j = s.fs.length + 1 then some F.empty else s.get j := by
  simp only [S.get, S.add]
  by_cases e : j = s.fs.length + 1
  · subst e
    rw [if_pos (by omega), if_pos rfl]
    simp
  · rw [if_neg e]
    by_cases hj : 1 ≤ j
    · rw [if_pos hj, if_pos hj]
      by_cases hl : j.toNat - 1 < s.fs.length
      · rw [List.getElem?_append_left hl]
      · rw [List.getElem?_append_right (by omega), List.getElem?_eq_none (by simp; omega), List.getElem?_eq_none (by omega)]
    · rw [if_neg hj, if_neg hj]
end Go.Proofs.Ytlngeaacjbdmhaa
