/-
  The contract of Down: the top of the last of those that lie over one another.
-/
import Derived.Test.YthmdipfdloennaaLp15
import Derived.WalkKit
import Derived.Test.YthmdipfdloennaaRows
namespace Go.Proofs.Ythmdipfdloennaa.Mt
open Go.RowKit
attribute [local go_sem ↓] Go.wp_at_zero Go.wp_at_succ

/-- A mount lies at a place of an elder one. -/
def Eld (md : Int) (es : Ents) : Prop := ∀ p ∈ es, p.am < p.n ∧ p.n ≤ md
theorem fst_mem {es : Ents} {P : Ld → Bool} (h : any es P = true) : fst es P ∈ es ∧ P (fst es P) = true := by
  unfold any at h
  obtain ⟨p, hp⟩ := Option.isSome_iff_exists.1 h
  rw [fst, hp]
  exact ⟨List.mem_of_find?_eq_some hp, List.find?_some hp⟩
/-- Down, at most so many steps. -/
def dn (es : Ents) : Nat → Int → Int → Int × Int
  | 0, m, n => (m, n)
  | k + 1, m, n => if any es (isAt m n) then dn es k (fst es (isAt m n)).n (fst es (isAt m n)).top else (m, n)
/-- How many steps are enough. -/
def fuel (md m : Int) : Nat := (md + 1 - m).toNat
def down (md : Int) (es : Ents) (m n : Int) : Int × Int := dn es (fuel md m) m n
theorem Eld.next {md : Int} {es : Ents} (h : Eld md es) {m n : Int} (ha : any es (isAt m n) = true) : m < (fst es (isAt m n)).n ∧ (fst es (isAt m n)).n ≤ md := by
  obtain ⟨h1, h2⟩ := fst_mem ha
  have h3 := h _ h1
  simp only [isAt, decide_eq_true_eq] at h2
  rw [h2.1] at h3
  exact h3
theorem dn_stop {es : Ents} (k : Nat) {m n : Int} (ha : any es (isAt m n) = false) : dn es k m n = (m, n) := by
  cases k with
  | zero => rfl
  | succ j => rw [dn, ha]; rfl
theorem dn_same {md : Int} {es : Ents} (h : Eld md es) : ∀ (k k' : Nat) (m n : Int), fuel md m ≤ k → fuel md m ≤ k' → dn es k m n = dn es k' m n := by
  intro k
  induction k with
  | zero =>
    intro k' m n hk _
    cases ha : any es (isAt m n) with
    | false => rw [dn_stop _ ha, dn_stop _ ha]
    | true =>
      obtain ⟨h1, h2⟩ := h.next ha
      simp only [fuel] at hk
      omega
  | succ k ih =>
    intro k' m n hk hk'
    cases ha : any es (isAt m n) with
    | false => rw [dn_stop _ ha, dn_stop _ ha]
    | true =>
      obtain ⟨h1, h2⟩ := h.next ha
      cases k' with
      | zero => simp only [fuel] at hk'; omega
      | succ j =>
        rw [dn, dn, ha]
        simp only [if_true]
        exact ih _ _ _ (by simp only [fuel] at *; omega) (by simp only [fuel] at *; omega)
theorem dn_fuel {md : Int} {es : Ents} (h : Eld md es) (k : Nat) (m n : Int) (hk : fuel md m ≤ k) : dn es k m n = down md es m n := dn_same h _ _ _ _ hk (Nat.le_refl _)
theorem down_step {md : Int} {es : Ents} (h : Eld md es) {m n : Int} (ha : any es (isAt m n) = true) : down md es m n = down md es (fst es (isAt m n)).n (fst es (isAt m n)).top := by
  obtain ⟨h1, h2⟩ := h.next ha
  have e : fuel md m = (fuel md m - 1) + 1 := by simp only [fuel] at *; omega
  rw [down, e, dn, ha]
  simp only [if_true]
  exact dn_fuel h _ _ _ (by simp only [fuel] at *; omega)
theorem down_stop {md : Int} {es : Ents} {m n : Int} (ha : any es (isAt m n) = false) : down md es m n = (m, n) := by
  rw [down]
  cases fuel md m with
  | zero => rfl
  | succ j => rw [dn, ha]; rfl
def cInt (W : World) (h : Nat) : Int := match W.cell? ⟨h, 0, none⟩ with | some (.int _ x) => x | _ => 0
set_option maxRecDepth 100000 in
set_option maxHeartbeats 1000000 in
theorem down_any (base b : Nat) (rt md m n : Int) (es : Ents) (w : World) (hG : Ls base w b rt md es) (hes : es.length ≤ 1000) (hE : Eld md es) :
    Calls Try.prog 32 #[.pointer (some ⟨b, 0, none⟩), pv m n] w fun e w' => e = .returned (pv (down md es m n).1 (down md es m n).2) ∧ Below w.heap.size w w' := by
  have HE := hide hE
  have hbl := hG.lt
  have HL := hide (fun m n W (hB : Below w.heap.size w W) => lyingAt_any base b rt md m n es W (hG.below hB) hes)
  obtain ⟨r, hr⟩ : ∃ r, r = down md es m n := ⟨_, rfl⟩
  rw [← hr]
  have Hr := hide hr
  obtain ⟨V, hV, hs, hx, hz, hb⟩ := two0 w (.cells #[I m, I n] 34) (.cells #[I 0, I 0] 34)
  have HB := hide hb
  have HX := hide hx
  have HZ := hide hz
  clear hG hE hr hb hx hz
  unfold pv
  go_enter Try.func32, Try.ntmps32
  go_wp2_with fail
  generalize hh : w.heap.size = h at *
  go_loopw [6] (fun _ wr => ∃ m n : Int, r = down md es m n ∧ wr.heap[h]? = some (.cells #[I m, I n] 34) ∧ wr.heap[h + 1]? = some (.cells #[I 0, I 0] 34) ∧ Below h w wr) (fun _ wr => (md + 1 - cInt wr h).toNat)
  case atStart => exact ⟨m, n, unhide Hr, unhide HX, unhide HZ, unhide HB⟩
  case round =>
    clear hV hs HB HX HZ Hr
    obtain ⟨m, n, hr, hx, hz, hb⟩ := hrel
    have HF := hide (unhide HL m n wr hb)
    obtain ⟨x0, x1⟩ := cells2 hx
    have HX := hide hx
    have HZ := hide hz
    have HB := hide hb
    have Hr := hide hr
    clear hx hz hb hr
    have hcm : cInt wr h = m := by rw [cInt, x0]
    have Hc := hide hcm
    clear hcm
    obtain ⟨x, hx⟩ : ∃ x, x = fst es (isAt m n) := ⟨_, rfl⟩
    rw [← hx] at HF
    have HP : Hid (any es (isAt m n) = true → m < x.n ∧ x.n ≤ md ∧ r = down md es x.n x.top) := by
      intro ha
      obtain ⟨h1, h2⟩ := (unhide HE).next ha
      rw [hx]
      exact ⟨h1, h2, (unhide Hr).trans (down_step (unhide HE) ha)⟩
    clear hx
    cases ha : any es (isAt m n) with
    | false =>
      rw [ha] at HF
      have He : Hid (r = (m, n)) := hide ((unhide Hr).trans (down_stop ha))
      clear ha HP Hr HL HE
      go_wp2_with fail
      refine (unhide HF).mono ?_
      rintro e w1 ⟨rfl, hB⟩
      have hz1 := (Below.heap_alloc w1 (.cells #[I x.n, I x.top, I x.am, I x.an] 109) _ (by have := hB.size; have := lt_of_heap (unhide HZ); omega)).trans ((hB.block _ (lt_of_heap (unhide HZ))).trans (unhide HZ))
      have hx1 := (Below.heap_alloc w1 (.cells #[I x.n, I x.top, I x.am, I x.an] 109) _ (by have := hB.size; have := lt_of_heap (unhide HX); omega)).trans ((hB.block _ (lt_of_heap (unhide HX))).trans (unhide HX))
      have hB2 : Below h w (w1.alloc (.cells #[I x.n, I x.top, I x.am, I x.an] 109)) := ((unhide HB).trans (hB.mono (by have := lt_of_heap (unhide HX); omega))).alloc (by have := hB.size; have := lt_of_heap (unhide HX); omega) _
      obtain ⟨W2, hW2⟩ : ∃ W2, w1.alloc (.cells #[I x.n, I x.top, I x.am, I x.an] 109) = W2 := ⟨_, rfl⟩
      rw [hW2] at hz1 hx1 hB2
      obtain ⟨p0, p1⟩ := cells2 hx1
      obtain ⟨X1, X2, ⟨x1', x2'⟩, ⟨c0, c1⟩, ⟨f0, f1⟩, q1, hfr, hsx⟩ := store2 hz1 (I m) (I n)
      obtain ⟨z0, z1⟩ := cells2 q1
      have HE := hide (hB2.trans (hfr.base (B := h) (by have := lt_of_heap hx1; omega) (by simp)))
      clear hfr hsx q1 hB2 hz1 hx1 hB HF HB HX HZ x0 x1
      unfold lv
      go_wp2_with fail
      refine bodyPost_ret (v := .agg #[I m, I n]) (by simp [results, Try.results32, go_sem, z0, z1]) rfl ?_
      rw [unhide He, hh]
      exact ⟨rfl, unhide HE⟩
    | true =>
      rw [ha] at HF
      obtain ⟨g1, g2, g3⟩ := unhide HP ha
      have Hg := hide (⟨g1, g2, g3⟩ : m < x.n ∧ x.n ≤ md ∧ r = down md es x.n x.top)
      clear ha HP Hr HL HE g1 g2 g3
      go_wp2_with fail
      refine (unhide HF).mono ?_
      rintro e w1 ⟨rfl, hB⟩
      have hz1 := (Below.heap_alloc w1 (.cells #[I x.n, I x.top, I x.am, I x.an] 109) _ (by have := hB.size; have := lt_of_heap (unhide HZ); omega)).trans ((hB.block _ (lt_of_heap (unhide HZ))).trans (unhide HZ))
      have hx1 := (Below.heap_alloc w1 (.cells #[I x.n, I x.top, I x.am, I x.an] 109) _ (by have := hB.size; have := lt_of_heap (unhide HX); omega)).trans ((hB.block _ (lt_of_heap (unhide HX))).trans (unhide HX))
      have hm1 : (w1.alloc (.cells #[I x.n, I x.top, I x.am, I x.an] 109)).heap[w1.heap.size]? = some (.cells #[I x.n, I x.top, I x.am, I x.an] 109) := putAll _ _ rfl
      have hB2 : Below h w (w1.alloc (.cells #[I x.n, I x.top, I x.am, I x.an] 109)) := ((unhide HB).trans (hB.mono (by have := lt_of_heap (unhide HX); omega))).alloc (by have := hB.size; have := lt_of_heap (unhide HX); omega) _
      obtain ⟨W2, hW2⟩ : ∃ W2, w1.alloc (.cells #[I x.n, I x.top, I x.am, I x.an] 109) = W2 := ⟨_, rfl⟩
      rw [hW2] at hz1 hx1 hm1 hB2
      obtain ⟨p0, p1⟩ := cells2 hx1
      obtain ⟨l0, l1, l2, l3⟩ := cells4 hm1
      obtain ⟨X1, X2, ⟨x1', x2'⟩, ⟨c0, c1⟩, ⟨f0, f1⟩, q1, hfr, hsx⟩ := store2 hx1 (I x.n) (I x.top)
      have HE := hide (hB2.trans (hfr.base (B := h) (by have := lt_of_heap hx1; omega) (by simp)))
      have Hq := hide q1
      have Hz := hide ((hfr.blk (h + 1) (lt_of_heap hz1) (by simp)).trans hz1)
      clear hfr hsx q1 hB2 hz1 hx1 hm1 hB HF HB HX HZ x0 x1
      unfold lv
      go_wp2_with fail
      go_roundw
      case rel => exact ⟨x.n, x.top, (unhide Hg).2.2, unhide Hq, unhide Hz, unhide HE⟩
      case measure =>
        have e1 : cInt X2 h = x.n := by rw [cInt, cell_of (unhide Hq)]; rfl
        rw [e1, unhide Hc]
        have := unhide Hg
        omega
end Go.Proofs.Ythmdipfdloennaa.Mt

/-
  Paths as plain lists of bytes: what stands between slashes, what is read, written and cleaned; no program is named here.
-/
namespace Go.Proofs.Ythmdipfdloennaa.Nm

/-- What stands between slashes, empty pieces too. -/
def split : List UInt8 → List (List UInt8)
  | [] => [[]]
  | c :: r => if c = 47 then [] :: split r else match split r with
    | [] => [[c]]
    | h :: t => (c :: h) :: t
/-- The parts: those that are not empty. -/
def parts (l : List UInt8) : List (List UInt8) := (split l).filter fun p => !p.isEmpty
def piece (l : List UInt8) : List (List UInt8) := if l = [] then [] else [l]
def before (l : List UInt8) : List UInt8 := l.takeWhile fun c => c != 47
def behind (l : List UInt8) : List UInt8 := (l.dropWhile fun c => c != 47).drop 1

theorem split_ne (l : List UInt8) : split l ≠ [] := by
  cases l with
  | nil => simp [split]
  | cons c r =>
    unfold split
    split
    · simp
    · split <;> simp
theorem split_app (a b : List UInt8) : split (a ++ 47 :: b) = split a ++ split b := by
  induction a with
  | nil => simp [split]
  | cons c r ih =>
    simp only [List.cons_append, split]
    split
    · rw [ih]; simp
    · rw [ih]
      cases h : split r with
      | nil => exact absurd h (split_ne r)
      | cons x t => simp
theorem parts_app (a b : List UInt8) : parts (a ++ 47 :: b) = parts a ++ parts b := by
  unfold parts; rw [split_app, List.filter_append]
theorem split_plain {l : List UInt8} (h : (47 : UInt8) ∉ l) : split l = [l] := by
  induction l with
  | nil => rfl
  | cons c r ih =>
    simp only [List.mem_cons, not_or] at h
    simp [split, ih h.2, Ne.symm h.1]
theorem parts_plain {l : List UInt8} (h : (47 : UInt8) ∉ l) : parts l = piece l := by
  unfold parts piece
  rw [split_plain h]
  cases l <;> simp
theorem parts_nil : parts [] = [] := rfl
theorem parts_slash (r : List UInt8) : parts (47 :: r) = parts r := by
  have := parts_app [] r
  simpa [parts_nil] using this
theorem not_before (l : List UInt8) : (47 : UInt8) ∉ before l := by
  induction l with
  | nil => simp [before]
  | cons c r ih =>
    by_cases hc : c = 47
    · subst hc; simp [before]
    · have e1 : before (c :: r) = c :: before r := by simp [before, hc]
      rw [e1, List.mem_cons, not_or]
      exact ⟨Ne.symm hc, ih⟩
theorem split_at (l : List UInt8) : ((47 : UInt8) ∉ l ∧ before l = l ∧ behind l = []) ∨ l = before l ++ 47 :: behind l := by
  induction l with
  | nil => exact .inl ⟨by simp, rfl, rfl⟩
  | cons c r ih =>
    by_cases hc : c = 47
    · subst hc; exact .inr (by simp [before, behind])
    · have e1 : before (c :: r) = c :: before r := by simp [before, hc]
      have e2 : behind (c :: r) = behind r := by simp [behind, hc]
      rw [e1, e2]
      rcases ih with ⟨h1, h2, h3⟩ | h
      · exact .inl ⟨by simp only [List.mem_cons, not_or]; exact ⟨Ne.symm hc, h1⟩, by rw [h2], h3⟩
      · exact .inr (by rw [List.cons_append, ← h])
theorem parts_cut (l : List UInt8) : parts l = piece (before l) ++ parts (behind l) := by
  rcases split_at l with ⟨h1, h2, h3⟩ | h
  · rw [h2, h3, parts_plain h1]; simp [parts_nil]
  · conv => lhs; rw [h, parts_app, parts_plain (not_before l)]
theorem behind_lt {l : List UInt8} (h : l ≠ []) : (behind l).length < l.length := by
  rcases split_at l with ⟨_, _, h3⟩ | h1
  · rw [h3]; cases l with
    | nil => exact absurd rfl h
    | cons c r => simp
  · conv => rhs; rw [h1]
    simp; omega
theorem behind_le (l : List UInt8) : (behind l).length ≤ l.length := by
  by_cases h : l = []
  · subst h; exact Nat.le_refl _
  · exact Nat.le_of_lt (behind_lt h)
theorem mem_split {l p : List UInt8} (h : p ∈ split l) : ∀ c ∈ p, c ∈ l ∧ c ≠ 47 := by
  induction l generalizing p with
  | nil => simp [split] at h; subst h; simp
  | cons x r ih =>
    unfold split at h
    split at h
    · rcases List.mem_cons.1 h with rfl | h
      · simp
      · intro c hc; exact ⟨List.mem_cons_of_mem _ (ih h c hc).1, (ih h c hc).2⟩
    · rename_i hx
      split at h
      · rename_i hs; exact absurd hs (split_ne r)
      · rename_i y t hs
        rcases List.mem_cons.1 h with rfl | h
        · intro c hc
          rcases List.mem_cons.1 hc with rfl | hc
          · exact ⟨List.mem_cons_self, hx⟩
          · have := ih (p := y) (by rw [hs]; exact List.mem_cons_self) c hc
            exact ⟨List.mem_cons_of_mem _ this.1, this.2⟩
        · intro c hc
          have := ih (p := p) (by rw [hs]; exact List.mem_cons_of_mem _ h) c hc
          exact ⟨List.mem_cons_of_mem _ this.1, this.2⟩
theorem mem_parts {l p : List UInt8} (h : p ∈ parts l) : p ≠ [] ∧ ∀ c ∈ p, c ∈ l ∧ c ≠ 47 := by
  unfold parts at h
  obtain ⟨h1, h2⟩ := List.mem_filter.1 h
  refine ⟨?_, mem_split h1⟩
  rintro rfl
  simp at h2

/-- Part behind part, a slash between. -/
def joinS : List (List UInt8) → List UInt8
  | [] => []
  | p :: r => p ++ (match r with | [] => [] | _ :: _ => 47 :: joinS r)
theorem joinS_one (p : List UInt8) : joinS [p] = p := by simp [joinS]
theorem joinS_cons (p q : List UInt8) (r : List (List UInt8)) : joinS (p :: q :: r) = p ++ 47 :: joinS (q :: r) := by simp [joinS]
def pw (root slash : Bool) (ps : List (List UInt8)) : List UInt8 :=
  (if root then [47] else []) ++ joinS ps ++ (if slash && !ps.isEmpty then [47] else [])

/-- Parts that may be: not empty, without a slash. -/
def Plain (ps : List (List UInt8)) : Prop := ∀ p ∈ ps, p ≠ [] ∧ (47 : UInt8) ∉ p
theorem plain_parts (l : List UInt8) : Plain (parts l) := fun _ hp => ⟨(mem_parts hp).1, fun h => ((mem_parts hp).2 47 h).2 rfl⟩
theorem parts_join {ps : List (List UInt8)} (h : Plain ps) : parts (joinS ps) = ps := by
  induction ps with
  | nil => rfl
  | cons p r ih =>
    obtain ⟨h1, h2⟩ := h p List.mem_cons_self
    have hr : Plain r := fun q hq => h q (List.mem_cons_of_mem _ hq)
    cases r with
    | nil => rw [joinS_one, parts_plain h2]; simp [piece, h1]
    | cons q t => rw [joinS_cons, parts_app, parts_plain h2, ih hr]; simp [piece, h1]
theorem parts_wr {root slash : Bool} {ps : List (List UInt8)} (h : Plain ps) : parts (pw root slash ps) = ps := by
  unfold pw
  have e1 : ∀ m, parts (m ++ (if slash && !ps.isEmpty then [47] else [])) = parts m := by
    intro m; split
    · rw [parts_app, parts_nil, List.append_nil]
    · rw [List.append_nil]
  rw [e1]
  cases root
  · simp [parts_join h]
  · simp only [if_true]; rw [List.singleton_append, parts_slash, parts_join h]

/-- Is a text refused, and why (P7.1)? -/
def err (l : List UInt8) : Int :=
  if l = [] then 32 else if 4096 < l.length then 45 else if (0 : UInt8) ∈ l then 39 else if (parts l).any (fun p => decide (255 < p.length)) then 45 else 0
def rt (l : List UInt8) : Bool := decide (err l = 0) && ([47] : List UInt8).isPrefixOf l
def sl (l : List UInt8) : Bool := decide (err l = 0) && ([47] : List UInt8).isSuffixOf l
def ps (l : List UInt8) : List (List UInt8) := if err l = 0 then parts l else []
def nodots (q : List (List UInt8)) : List (List UInt8) := q.filter fun p => decide (p ≠ [46])
def cl (l : List UInt8) : List UInt8 :=
  if err l = 0 then (if nodots (parts l) = [] ∧ rt l = false then [46] else pw (rt l) (sl l) (nodots (parts l))) else []

theorem err_ok {l : List UInt8} (h : err l = 0) : l ≠ [] ∧ l.length ≤ 4096 ∧ (0 : UInt8) ∉ l ∧ ∀ p ∈ parts l, p.length ≤ 255 := by
  unfold err at h
  split at h
  · omega
  · split at h
    · omega
    · split at h
      · omega
      · split at h
        · omega
        · rename_i h1 h2 h3 h4
          refine ⟨h1, by omega, h3, fun p hp => ?_⟩
          simp only [List.any_eq_true, decide_eq_true_eq, not_exists, not_and] at h4
          have := h4 p hp
          omega
theorem err_of {l : List UInt8} (h1 : l ≠ []) (h2 : l.length ≤ 4096) (h3 : (0 : UInt8) ∉ l) (h4 : ∀ p ∈ parts l, p.length ≤ 255) : err l = 0 := by
  unfold err
  rw [if_neg h1, if_neg (by omega), if_neg h3, if_neg]
  simp only [List.any_eq_true, decide_eq_true_eq, not_exists, not_and]
  intro p hp
  have := h4 p hp
  omega
theorem err_val (l : List UInt8) : err l = 0 ∨ err l = 32 ∨ err l = 39 ∨ err l = 45 := by
  unfold err
  split
  · simp
  · split
    · simp
    · split
      · simp
      · split <;> simp
theorem prefix_cons (c : UInt8) (r : List UInt8) : ([47] : List UInt8).isPrefixOf (c :: r) = (c == 47) := by
  by_cases h : c = 47
  · subst h; rfl
  · have h2 : ((47 : UInt8) == c) = false := by simpa using Ne.symm h
    have h3 : (c == 47) = false := by simpa using h
    rw [h3]; simp [List.isPrefixOf, h2]
theorem suffix_app (a : List UInt8) (c : UInt8) : ([47] : List UInt8).isSuffixOf (a ++ [c]) = (c == 47) := by
  simp only [List.isSuffixOf, List.reverse_append, List.reverse_cons, List.reverse_nil, List.nil_append, List.singleton_append]
  exact prefix_cons c _
theorem suffix_cons (c d : UInt8) (r : List UInt8) : ([47] : List UInt8).isSuffixOf (c :: d :: r) = ([47] : List UInt8).isSuffixOf (d :: r) := by
  obtain ⟨a, x, h⟩ : ∃ a x, d :: r = a ++ [x] := ⟨_, _, (List.dropLast_concat_getLast (by simp)).symm⟩
  rw [h, ← List.cons_append, suffix_app, suffix_app]
theorem suffix_cat (a : List UInt8) {b : List UInt8} (h : b ≠ []) : ([47] : List UInt8).isSuffixOf (a ++ b) = ([47] : List UInt8).isSuffixOf b := by
  obtain ⟨c, x, rfl⟩ : ∃ c x, b = c ++ [x] := ⟨_, _, (List.dropLast_concat_getLast h).symm⟩
  rw [← List.append_assoc, suffix_app, suffix_app]
theorem suffix_nil : ([47] : List UInt8).isSuffixOf [] = false := rfl

/-- The bytes of parts, and one for each. -/
def wt : List (List UInt8) → Nat
  | [] => 0
  | p :: r => p.length + 1 + wt r
theorem wt_app (a b : List (List UInt8)) : wt (a ++ b) = wt a + wt b := by
  induction a with
  | nil => simp [wt]
  | cons p r ih => simp [wt, ih]; omega
theorem wt_filter (f : List UInt8 → Bool) (a : List (List UInt8)) : wt (a.filter f) ≤ wt a := by
  induction a with
  | nil => simp [wt]
  | cons p r ih =>
    rw [List.filter_cons]
    split
    · simp [wt]; omega
    · simp [wt]; omega
theorem wt_piece (l : List UInt8) : wt (piece l) ≤ l.length + 1 := by unfold piece; split <;> simp [wt]
/-- One, unless a text is empty or ends with a slash. -/
def ende (l : List UInt8) : Nat := if l = [] ∨ ([47] : List UInt8).isSuffixOf l = true then 0 else 1
theorem wt_parts (n : Nat) : ∀ l : List UInt8, l.length ≤ n → wt (parts l) ≤ l.length + ende l := by
  induction n with
  | zero =>
    intro l h
    have : l = [] := List.length_eq_zero_iff.1 (by omega)
    subst this
    simp [parts_nil, wt]
  | succ n ih =>
    intro l h
    by_cases h0 : l = []
    · subst h0; simp [parts_nil, wt]
    rw [parts_cut, wt_app]
    rcases split_at l with ⟨h1, h2, h3⟩ | h1
    · rw [h2, h3, parts_nil]
      have hw := wt_piece l
      have he : ende l = 1 := by
        unfold ende
        rw [if_neg]
        rintro (h4 | h4)
        · exact h0 h4
        · obtain ⟨a, x, rfl⟩ : ∃ a x, l = a ++ [x] := ⟨_, _, (List.dropLast_concat_getLast h0).symm⟩
          rw [suffix_app] at h4
          simp at h4 h1
          exact h1.2 h4.symm
      rw [he]; simp [wt]; omega
    · have hl := behind_lt h0
      have i1 := ih (behind l) (by omega)
      have hw := wt_piece (before l)
      have e1 : l.length = (before l).length + 1 + (behind l).length := by
        conv => lhs; rw [h1]
        simp; omega
      have e2 : ende l = ende (behind l) := by
        unfold ende
        by_cases hb : behind l = []
        · have h5 : ([47] : List UInt8).isSuffixOf l = true := by
            rw [hb] at h1
            have h6 := suffix_app (before l) 47
            rw [← h1] at h6
            exact h6
          rw [if_pos (.inr h5), if_pos (.inl hb)]
        · have : ([47] : List UInt8).isSuffixOf l = ([47] : List UInt8).isSuffixOf (behind l) := by
            conv => lhs; rw [h1]
            rw [suffix_cat _ (by simp)]
            have := suffix_cat [47] hb
            simpa using this
          simp only [h0, hb, this, false_or]
      omega
theorem wt_root (l : List UInt8) (h0 : l ≠ []) : wt (parts l) + (([47] : List UInt8).isPrefixOf l).toNat ≤ l.length + ende l := by
  cases l with
  | nil => exact absurd rfl h0
  | cons c r =>
    rw [prefix_cons]
    by_cases hc : c = 47
    · subst hc
      rw [parts_slash]
      have := wt_parts _ r (Nat.le_refl _)
      have e : ende (47 :: r) = ende r := by
        unfold ende
        cases r with
        | nil => rfl
        | cons d t => rw [suffix_cons]; simp
      rw [e]; simp; omega
    · have := wt_parts _ (c :: r) (Nat.le_refl _)
      have h3 : (c == 47) = false := by simpa using hc
      rw [h3]; simpa using this
theorem join_len (q : List (List UInt8)) (h : q ≠ []) : (joinS q).length + 1 = wt q := by
  induction q with
  | nil => exact absurd rfl h
  | cons p r ih =>
    cases r with
    | nil => rw [joinS_one]; simp [wt]
    | cons x t => rw [joinS_cons]; have := ih (by simp); simp [wt] at this ⊢; omega
theorem join_le (q : List (List UInt8)) : (joinS q).length ≤ wt q := by
  by_cases h : q = []
  · subst h; simp [joinS]
  · have := join_len q h; omega
theorem wr_le (a b : Bool) (q : List (List UInt8)) : (pw a b q).length ≤ wt q + 2 := by
  have := join_le q
  unfold pw
  cases a <;> simp <;> split <;> simp <;> omega
/-- What is written of some of a text's parts is no longer than the text. -/
theorem wr_len {l : List UInt8} (h0 : l ≠ []) (f : List UInt8 → Bool) :
    (pw (([47] : List UInt8).isPrefixOf l) (([47] : List UInt8).isSuffixOf l) ((parts l).filter f)).length ≤ l.length := by
  have hw := wt_root l h0
  have hf := wt_filter f (parts l)
  have hl : 1 ≤ l.length := by cases l with
    | nil => exact absurd rfl h0
    | cons _ _ => simp
  by_cases hq : (parts l).filter f = []
  · rw [hq]; unfold pw; split <;> simp [joinS] <;> omega
  · have hj := join_len _ hq
    have he : ende l + (([47] : List UInt8).isSuffixOf l).toNat = 1 := by
      unfold ende
      cases hs : ([47] : List UInt8).isSuffixOf l <;> simp [h0]
    unfold pw
    have hne : ((parts l).filter f).isEmpty = false := by simpa using hq
    rw [hne]
    cases hp : ([47] : List UInt8).isPrefixOf l <;> cases hs : ([47] : List UInt8).isSuffixOf l <;> rw [hp] at hw <;> rw [hs] at he <;> simp at hw he ⊢ <;> omega
end Go.Proofs.Ythmdipfdloennaa.Nm

/-
  Bits of numbers, as remainders: what and, or and and-not answer where seven, and the like, is the other one.
-/
namespace Go.Proofs.Ythmdipfdloennaa.Kr
open Go.RowKit

theorem toNat_of (x : Int) : ((BitVec.ofInt 64 x).toNat : Int) = x % 18446744073709551616 := by
  rw [BitVec.toNat_ofInt]
  omega
theorem wrap_small {n : Nat} (h : n < 9223372036854775808) : IntKind.i64.wrap (n : Int) = n := by
  simp only [IntKind.wrap, IntKind.bits, IntKind.signed]
  simp
  omega
theorem wrap_zero {n : Nat} (h : n < 18446744073709551616) : IntKind.i64.wrap (n : Int) = 0 ↔ n = 0 := by
  simp only [IntKind.wrap, IntKind.bits, IntKind.signed]
  simp
  split <;> omega
theorem and_mask (n k m : Nat) (h : m &&& (2 ^ k - 1) = m) : n &&& m = (n % 2 ^ k) &&& m := by
  rw [← Nat.and_two_pow_sub_one_eq_mod, Nat.and_assoc, Nat.and_comm (2 ^ k - 1) m, h]
/-- The lowest three bits. -/
def lo (x : Int) : Nat := (x % 8).toNat
theorem lo_lt (x : Int) : lo x < 8 := by unfold lo; omega
theorem lo_cast (x : Int) : (lo x : Int) = x % 8 := by unfold lo; omega
theorem lo_mod (x : Int) : (BitVec.ofInt 64 x).toNat % 8 = lo x := by
  have := toNat_of x
  unfold lo
  omega
/-- And with a mask of ten bits at most. -/
theorem and_of (x : Int) (m : Nat) (hm : m < 1024) : bits .and .i64 x m = (((x % 1024).toNat &&& m : Nat) : Int) := by
  have h0 : m &&& (2 ^ 10 - 1) = m := by rw [Nat.and_two_pow_sub_one_eq_mod]; omega
  have h1 := toNat_of x
  have h2 : (BitVec.ofInt 64 x).toNat % 2 ^ 10 = (x % 1024).toNat := by omega
  have h3 : (BitVec.ofInt 64 (m : Int)).toNat = m := by have := toNat_of m; omega
  show IntKind.i64.wrap ((BitVec.ofInt 64 x &&& BitVec.ofInt 64 (m : Int)).toNat : Int) = _
  rw [BitVec.toNat_and, h3, and_mask _ 10 m h0, h2]
  apply wrap_small
  have : (x % 1024).toNat &&& m ≤ m := Nat.and_le_right
  omega
theorem and7 (x : Int) : bits .and .i64 x 7 = lo x := by
  rw [show (7 : Int) = ((7 : Nat) : Int) from rfl, and_of x 7 (by omega), and_mask _ 3 7 (by decide), show (7 : Nat) = 2 ^ 3 - 1 from rfl, Nat.and_two_pow_sub_one_eq_mod]
  unfold lo
  omega
theorem fin448 : ∀ n : Fin 1024, n.val &&& 448 = n.val / 64 % 8 * 64 := by decide +kernel
theorem fin56 : ∀ n : Fin 1024, n.val &&& 56 = n.val / 8 % 8 * 8 := by decide +kernel
theorem and448 (x : Int) : bits .and .i64 x 448 = x / 64 % 8 * 64 := by
  rw [show (448 : Int) = ((448 : Nat) : Int) from rfl, and_of x 448 (by omega)]
  have := fin448 ⟨(x % 1024).toNat, by omega⟩
  simp only at this
  rw [this]
  omega
theorem and56 (x : Int) : bits .and .i64 x 56 = x / 8 % 8 * 8 := by
  rw [show (56 : Int) = ((56 : Nat) : Int) from rfl, and_of x 56 (by omega)]
  have := fin56 ⟨(x % 1024).toNat, by omega⟩
  simp only at this
  rw [this]
  omega
/-- Has who has these all that is wanted? -/
def has (w m : Nat) : Bool := w &&& m == w
theorem lo_nat {n : Nat} (h : n < 8) : lo (n : Int) = n := by unfold lo; omega
theorem bv_not (a b : BitVec 64) : a &&& ~~~b = 0#64 ↔ a &&& b = a := by
  constructor
  · intro h
    ext i hi
    have := congrArg (fun v => v.getLsbD i) h
    simp [BitVec.getLsbD_eq_getElem hi] at this
    simp
    exact this
  · intro h
    ext i hi
    have := congrArg (fun v => v.getLsbD i) h
    simp [BitVec.getLsbD_eq_getElem hi] at this
    simp
    exact this
theorem andNot_zero (w : Nat) (hw : w < 8) (b : Int) : (bits .andNot .i64 (w : Int) b == 0) = has w (lo b) := by
  have h1 := toNat_of (w : Int)
  have h3 : (BitVec.ofInt 64 (w : Int)).toNat = w := by omega
  have key : bits .andNot .i64 (w : Int) b = 0 ↔ w &&& lo b = w := by
    show IntKind.i64.wrap ((BitVec.ofInt 64 (w : Int) &&& ~~~BitVec.ofInt 64 b).toNat : Int) = 0 ↔ _
    rw [wrap_zero (BitVec.isLt _)]
    have e1 : ((BitVec.ofInt 64 (w : Int) &&& ~~~BitVec.ofInt 64 b).toNat = 0) ↔ (BitVec.ofInt 64 (w : Int) &&& ~~~BitVec.ofInt 64 b) = 0#64 := by
      constructor
      · intro h; exact BitVec.eq_of_toNat_eq (by simpa using h)
      · intro h; rw [h]; rfl
    rw [e1, bv_not]
    have e2 : (BitVec.ofInt 64 (w : Int) &&& BitVec.ofInt 64 b).toNat = w &&& lo b := by
      rw [BitVec.toNat_and, h3, Nat.and_comm, and_mask _ 3 w (by rw [Nat.and_two_pow_sub_one_eq_mod]; omega), lo_mod, Nat.and_comm]
    constructor
    · intro h
      rw [← e2, h, h3]
    · intro h
      apply BitVec.eq_of_toNat_eq
      rw [e2, h, h3]
  rw [Bool.eq_iff_iff, beq_iff_eq, key]
  simp [has]
theorem fin_and : ∀ a b : Fin 8, bits .and .i64 (a.val : Int) (b.val : Int) = ((a.val &&& b.val : Nat) : Int) := by decide +kernel
theorem fin_or : ∀ a b : Fin 8, bits .or .i64 (a.val : Int) (b.val : Int) = ((a.val ||| b.val : Nat) : Int) := by decide +kernel
theorem fin_lo : ∀ a b : Fin 8, a.val ||| b.val < 8 := by decide +kernel
theorem fin_has : ∀ a b m : Fin 8, has (a.val ||| b.val) m.val = (has a.val m.val && has b.val m.val) := by decide +kernel
theorem and_lo (a b : Int) : bits .and .i64 (lo a : Int) (lo b : Int) = ((lo a &&& lo b : Nat) : Int) := fin_and ⟨_, lo_lt a⟩ ⟨_, lo_lt b⟩
theorem or_lo (a b : Int) : bits .or .i64 (lo a : Int) (lo b : Int) = ((lo a ||| lo b : Nat) : Int) := fin_or ⟨_, lo_lt a⟩ ⟨_, lo_lt b⟩
theorem or_lt (a b : Int) : lo a ||| lo b < 8 := fin_lo ⟨_, lo_lt a⟩ ⟨_, lo_lt b⟩
theorem has_or (a b m : Int) : has (lo a ||| lo b) (lo m) = (has (lo a) (lo m) && has (lo b) (lo m)) := fin_has ⟨_, lo_lt a⟩ ⟨_, lo_lt b⟩ ⟨_, lo_lt m⟩
theorem has_and (w m : Int) : (bits .and .i64 (lo m : Int) (lo w : Int) == (lo w : Int)) = has (lo w) (lo m) := by
  rw [and_lo, Nat.and_comm]
  rw [Bool.eq_iff_iff, beq_iff_eq, has, beq_iff_eq]
  omega
theorem has_zero (m : Nat) : has 0 m = true := by simp [has]
theorem has_seven (w : Int) : has (lo w) 7 = true := by
  have : ∀ a : Fin 8, has a.val 7 = true := by decide +kernel
  exact this ⟨_, lo_lt w⟩
/-- Those bits that count for one of this owner and group, as a number whose lowest three they are. -/
def cnt (cu cg m su sg : Int) : Int := if cu = 0 then 7 else if cu = su then m / 64 else if cg = sg then m / 8 else m
/-- May: has c all of want? -/
def may (cu cg m su sg w : Int) : Bool := has (lo w) (lo (cnt cu cg m su sg))
def owns (cu su : Int) : Bool := cu == 0 || cu == su
def stk (cu dm du su : Int) : Bool := (bits .and .i64 dm 512 != 0) && !owns cu du && !owns cu su
end Go.Proofs.Ythmdipfdloennaa.Kr
