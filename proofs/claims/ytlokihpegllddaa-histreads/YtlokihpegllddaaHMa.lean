/-
  slices.Clone and slices.SortFunc at rows of calls as Ops answers them: they are in order already.
-/
import Derived.Test.YtlokihpegllddaaHU
import Derived.Test.YtlokihpegllddaaShelfB
namespace Go.Proofs.Ytlokihpegllddaa.Cl
open Go.RowKit Go.Shelf Go.Lib Go.Sort

instance : Inhabited Om := ⟨⟨⟨0, cc0, rr0, 0, 0⟩, sl0, sl0, sl0⟩⟩
def cfO (x y : Om) : Int := ordI x.o.fr x.o.tt y.o.fr y.o.tt
theorem ci_lt (x y : Int) : ci x y < 0 ↔ x < y := by
  unfold ci Lib.compareInt
  split
  · omega
  · split <;> omega
theorem ci_zero (x y : Int) : ci x y = 0 ↔ x = y := by
  unfold ci Lib.compareInt
  split
  · omega
  · split <;> omega
theorem ordI_lt (f1 t1 f2 t2 : Int) : ordI f1 t1 f2 t2 < 0 ↔ f1 < f2 ∨ (f1 = f2 ∧ t1 < t2) := by
  unfold ordI
  have h1 := ci_lt f1 f2
  have h2 := ci_zero f1 f2
  have h3 := ci_lt t1 t2
  split
  · rw [h3]; have := h2.1 ‹_›; omega
  · rw [h1]; have : f1 ≠ f2 := fun e => ‹¬ _› (h2.2 e); omega
theorem swo : SWO (ltOf cfO) where
  irrefl x := by
    simp only [ltOf, cfO, decide_eq_false_iff_not, ordI_lt]
    omega
  trans x y z h1 h2 := by
    simp only [ltOf, cfO, decide_eq_true_eq, ordI_lt] at h1 h2 ⊢
    omega
  ntrans x y z h1 h2 := by
    simp only [ltOf, cfO, decide_eq_false_iff_not, ordI_lt] at h1 h2 ⊢
    omega
/-- A row in order that is sorted stays. -/
theorem sort_same {xs : List Om} (hG : Good (xs.map (·.o))) {d : Array Om} (h1 : PermIn 0 xs.toArray.size xs.toArray d) (h2 : SortedIn (ltOf cfO) 0 xs.toArray.size d) : d = xs.toArray := by
  obtain ⟨hs, -, hp⟩ := h1
  have hp2 : d.toList.Perm xs := by
    have e1 : d.extract 0 xs.toArray.size = d := by rw [← hs]; simp
    rw [e1] at hp
    simpa using hp
  have hlen : d.toList.length = xs.length := hp2.length_eq
  have hx : xs.Pairwise fun a b => ¬ cfO b a < 0 := by
    rw [List.pairwise_iff_getElem]
    intro i j hi hj hij
    have := hG.up i j xs[i].o xs[j].o hij (by simp [hi]) (by simp [hj])
    simp only [cfO, ordI_lt]
    omega
  have hd : d.toList.Pairwise fun a b => ¬ cfO b a < 0 := by
    rw [List.pairwise_iff_getElem]
    intro i j hi hj hij
    have h := h2 i j (Nat.zero_le _) hij (by rw [List.size_toArray, ← hlen]; exact hj)
    simp only [Array.length_toList] at hi hj
    rw [getElem!_pos d j hj, getElem!_pos d i hi] at h
    simpa [ltOf] using h
  have : d.toList = xs := by
    refine List.Perm.eq_of_pairwise (le := fun a b => ¬ cfO b a < 0) ?_ hd hx hp2
    intro a b ha hb hab hba
    have ha' : a ∈ xs := hp2.subset ha
    obtain ⟨i, hi, rfl⟩ := List.getElem_of_mem ha'
    obtain ⟨j, hj, rfl⟩ := List.getElem_of_mem hb
    simp only [cfO, ordI_lt] at hab hba
    rcases Nat.lt_trichotomy i j with h | h | h
    · have := hG.up i j xs[i].o xs[j].o h (by simp [hi]) (by simp [hj]); omega
    · subst h; rfl
    · have := hG.up j i xs[j].o xs[i].o h (by simp [hj]) (by simp [hi]); omega
  rw [← this]
theorem flat_get {xs : List Om} {k : Nat} {x : Om} (h : xs[k]? = some x) {j : Nat} {v : Value} (hj : x.cs[j]? = some v) : (flatK rowO 23 xs.toArray)[k * 23 + j]! = v := by
  have hj23 : j < 23 := by
    have := (Array.getElem?_eq_some_iff.1 hj).1
    simpa [Om.cs] using this
  have hk := (List.getElem?_eq_some_iff.1 h).1
  have e1 : (k * 23 + j) / 23 = k := by omega
  have e2 : (k * 23 + j) % 23 = j := by omega
  rw [get_flatK rowO 23 xs.toArray (k * 23 + j) (by simp; omega), e1, e2]
  rw [getElem!_pos xs.toArray k (by simpa using hk)]
  have : xs.toArray[k]'(by simpa using hk) = x := by
    have := (List.getElem?_eq_some_iff.1 h).2
    simpa using this
  rw [this]
  have h2 : (rowO x)[j]? = some v := by simpa [rowO] using hj
  obtain ⟨h3, h4⟩ := List.getElem?_eq_some_iff.1 h2
  rw [getElem!_pos (rowO x) j h3, h4]
/-- A row of calls, in a block of its own. -/
def Hr (W : World) (g : Nat) (xs : List Om) : Prop := HoldsK rowO 23 W g 0 xs.toArray
theorem Hr.cell {W : World} {g : Nat} {xs : List Om} (h : Hr W g xs) {k : Nat} {x : Om} (hx : xs[k]? = some x) (j : Nat) (v : Value) (hj : x.cs[j]? = some v) : W.cell? ⟨g, k * 23 + j, none⟩ = some v := by
  have hj23 : j < 23 := by
    have := (Array.getElem?_eq_some_iff.1 hj).1
    simpa [Om.cs] using this
  have hk := (List.getElem?_eq_some_iff.1 hx).1
  have h1 := (h (k * 23 + j) (by simp; omega)).1
  rw [Nat.zero_add, flat_get hx hj] at h1
  exact h1
theorem Hr.of {W : World} {g : Nat} {cur : Array Value} {T : TypeId} {xs : List Om} (h : W.heap[g]? = some (.cells cur T)) (ht : cur.toList.take (xs.length * 23) = xs.flatMap rowO) : Hr W g xs := by
  intro t ht2
  have ht3 : t < xs.length * 23 := by simpa using ht2
  have hk : t / 23 < xs.length := by omega
  obtain ⟨x, hx⟩ : ∃ x, xs[t / 23]? = some x := ⟨_, List.getElem?_eq_getElem hk⟩
  have hj : t % 23 < x.cs.size := Nat.mod_lt _ (by decide)
  have e : t = t / 23 * 23 + t % 23 := by omega
  refine ⟨?_, frozen_of h _⟩
  have h1 := rows_get hx (Array.getElem?_eq_getElem hj)
  have h2 := flat_get hx (Array.getElem?_eq_getElem hj)
  rw [← e] at h1 h2
  rw [h2, Nat.zero_add, cell_of h]
  rw [← ht, List.getElem?_take_of_lt ht3] at h1
  simpa using h1
theorem Hr.keep {W W' : World} {g : Nat} {xs : List Om} (h : Hr W g xs) (e : W'.heap[g]? = W.heap[g]?) : Hr W' g xs := fun t ht => by
  obtain ⟨h1, h2⟩ := h t ht
  refine ⟨(World.cell?_of_block e).trans h1, ?_⟩
  rw [← h2]
  simp [World.frozen?, e]
theorem info40' : (Try.prog.info? 40).map (fun i => (i.zero, i.size, i.bytes)) = some (some (.agg Z23), 23, 248) := info40
theorem cloneO_any (xs : List Om) (b off n c : Nat) (hn : n = xs.length) (hs : n ≤ 1000) (w : World) (hO : Os w w.heap.size (some ⟨b, off, none⟩) xs) :
    Calls Try.prog 21 #[.slice (some ⟨b, off, none⟩) n c] w fun e w' => ∃ g cap, e = .returned (.slice (some ⟨g, 0, none⟩) n cap) ∧ w.heap.size ≤ g ∧ n ≤ cap ∧ g < w'.heap.size ∧ Hr w' g xs ∧ Below w.heap.size w w' := by
  obtain ⟨i, hi, hi2⟩ : ∃ i, Try.prog.info? 40 = some i ∧ (i.zero, i.size, i.bytes) = (some (.agg Z23), 23, 248) := Option.map_eq_some_iff.1 info40
  simp only [Prod.mk.injEq] at hi2
  obtain ⟨hz0, hz1, hz2⟩ := hi2
  have h := AnyE.slices_Clone Try.cloneO i (.agg Z23) 23 248 hi hz0 hz1 hz2 rfl (by decide) Try.sizeOf40 b off n c (xs.flatMap rowO) w (by rw [rows_len, hn]) (by unfold maxLen; omega) (by omega)
    (fun j u hj => by
      have hl : j < xs.length * 23 := by rw [← rows_len]; exact (List.getElem?_eq_some_iff.1 hj).1
      obtain ⟨x, hx⟩ : ∃ x, xs[j / 23]? = some x := ⟨_, List.getElem?_eq_getElem (by omega)⟩
      have hm : j % 23 < x.cs.size := Nat.mod_lt _ (by decide)
      have h1 := rows_get hx (Array.getElem?_eq_getElem hm)
      have e : j = j / 23 * 23 + j % 23 := by omega
      rw [← e, hj] at h1
      obtain ⟨g, o, e1, -, e3, -⟩ := hO _ x hx
      simp only [Option.some.injEq, Addr.mk.injEq, and_true] at e1
      obtain ⟨rfl, rfl⟩ := e1
      have := e3 (j % 23) _ (Array.getElem?_eq_getElem hm)
      rw [Nat.add_assoc, ← e] at this
      rw [this, h1])
    (fun u hu => by
      obtain ⟨x, -, hx⟩ := List.mem_flatMap.1 hu
      exact rowO_one x u hx)
  refine h.mono ?_
  rintro e w' ⟨v', rfl, ⟨-, ⟨e1, -⟩ | ⟨g, cap, cur, e1, e2, e3, e4, e5, e6, e7⟩⟩, hnn, hB⟩
  · exact absurd e1 hnn
  · exact ⟨g, cap, by rw [e1], e2, e4, lt_of_heap e3, Hr.of e3 (by rw [← hn]; exact e7), hB⟩
theorem grown_sortK {w : World} {g m : Nat} {d : Array Om} {os : Array Obj} : w.grownBy (sortWorldK rowO 23 w g 0 m d os) (some g) := by
  refine ⟨rfl, rfl, rfl, size_sortWorldK_c rowO 23 w g 0 m d os, fun k hk hne => ?_⟩
  unfold sortWorldK
  rw [Sort.heap_grow_old _ _ (by rw [size_putRowK]; exact hk)]
  have : g ≠ k := fun e => hne (by rw [e])
  simp [putRowK, putRow, mapBlock, Sort.ahead, Array.getElem?_modify, this]
theorem sortO_any (xs : List Om) (g cap : Nat) (w : World) (hH : Hr w g xs) (hg : g < w.heap.size) (hG : Good (xs.map (·.o))) (hs : xs.length ≤ 1000) :
    Calls Try.prog 22 #[.slice (some ⟨g, 0, none⟩) xs.length cap, .func (.func 23) #[] #[]] w fun e w' => e = .returned (.tuple #[]) ∧ Hr w' g xs ∧ w.grownBy w' (some g) := by
  have h := AnyQ.slices_SortFunc Try.sortO 23 Try.isAgg40 Try.sizeOf40 rowO rowO_len rowO_one cfO swo 23 #[] g 0 cap xs.toArray w (enters_of Try.func23 (by kernel_rfl) rfl)
    (fun m os dk _ x y => by
      simp only [Array.append_empty]
      exact order_g x.cs y.cs x.o.fr x.o.tt y.o.fr y.o.tt rfl rfl rfl rfl _) hH hg (by simp; omega)
  refine h.mono ?_
  rintro e w' ⟨rfl, d', m, os, h1, h2, rfl⟩
  obtain rfl := sort_same hG h1 h2
  exact ⟨rfl, holdsK_sortWorldK_c rowO 23 w g 0 xs.toArray xs.toArray m os hH hg rfl, grown_sortK⟩
end Go.Proofs.Ytlokihpegllddaa.Cl
