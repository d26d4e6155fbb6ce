/-
  The document's run: its store; what a store into one of its lists leaves; the contracts of next and work.
-/
import Derived.Test.YtkgeapmafpeapaaRSys
namespace Go.Proofs.Ytkgeapmafpeapaa
open Go.RowKit
attribute [local go_sem ↓] Go.wp_at_zero Go.wp_at_succ

set_option maxRecDepth 100000 in
set_option maxHeartbeats 1000000 in
theorem rstore (rr b c aa ca la sa n cap k more at0 : Nat) (jp : Option Addr) (ws : List Int) (st v' : Int) (xs : List RJ) (x : RJ) (w : World) (h : RSys w rr b c aa ca la sa n jp cap ws st xs) (hk : xs[k]? = some x) (hat : x.job.at_ = (at0 : Int)) (hn : at0 + more < n) (hm : more ≤ 2) (s0 : 0 ≤ st) (s1 : st ≤ 1000000) :
    Calls Try.prog 40 #[.pointer (some ⟨rr, 0, none⟩), .int .i64 (k : Int), .int .i64 (more : Int), .int .i64 v'] w fun e w' => e = .returned (.tuple #[]) ∧ RSys w' rr b c aa ca la sa n jp cap (ws.set (at0 + more) v') (st + 1) xs ∧ FrR b c aa ca la sa w w' := by
  have l8 := h.l8
  have hkl := (List.getElem?_eq_some_iff.1 hk).1
  obtain ⟨r0, r1, r2, r3, r4, r5⟩ := h.rcells
  obtain ⟨jb, jo, rfl, hjl, c0, c1, c2, c3, c4⟩ := h.hj k x.job (by simp [hk])
  rw [hat] at c1
  obtain ⟨kk, a, o, v, d, hm0⟩ := h.drew.mem
  have n64 := hm0.hi
  have ew : IntKind.i64.wrap ((at0 : Int) + (more : Int)) = ((at0 + more : Nat) : Int) := by rw [wrap_small _ (by omega) (by omega)]; omega
  have K := do2_h b c n (at0 + more) ws st kk a o v d 0 v' w.drew hm0 hn s0 s1 _ rfl
  rw [← ew] at K
  have HK := hide K
  have j1 : (k : Int) < (xs.length : Int) := by omega
  have j0 : (0 : Int) ≤ (k : Int) := by omega
  have hrl : rr < w.drew.heap.size := (Array.getElem?_eq_some_iff.1 h.hr).1
  have hjl' : jb < w.drew.heap.size := hjl
  have nr1 := h.nr.1
  have nr2 := h.nr.2.1
  have np1 := (h.hp _ rfl).1
  have np2 := (h.hp _ rfl).2.1
  clear K ew hat hm0 hn hm l8 n64
  generalize xs.length = l at *
  generalize ws.getD (at0 + more) 0 = held at *
  go_enter Try.func40, Try.ntmps40
  go_wp2_with fail
  go_region_held3 (fun w' => w'.cell? ⟨rr, 0, none⟩ = some (.pointer (some ⟨b, 0, none⟩)) ∧ w'.cell? ⟨rr, 1, none⟩ = some (.slice (some ⟨jb, jo, none⟩) l cap) ∧ w'.cell? ⟨jb, jo + k * 5 + 1, none⟩ = some (.int .i64 (at0 : Int))) (go_keep)
    (first | (go_at_call 37; refine (unhide HK).mono ?_; rintro e w1 ⟨rfl, hM1, hF1⟩; have v0 := (World.cell?_of_block (w := w.drew) (a := ⟨rr, 0, none⟩) (hF1.block rr hrl nr1 nr2)).trans r0; have v1 := (World.cell?_of_block (w := w.drew) (a := ⟨rr, 1, none⟩) (hF1.block rr hrl nr1 nr2)).trans r1; have v2 := (World.cell?_of_block (w := w.drew) (a := ⟨jb, jo + k * 5 + 1, none⟩) (hF1.block jb hjl' np1 np2)).trans c1))
  go_wp2_with fail
  go_end0
  exact ⟨rfl, h.drew.acc ⟨_, _, _, _, _, hM1⟩ hF1, (FrR.refl b c aa ca la sa w).drew.trans (.of_frm hF1)⟩

theorem map_set_same {α β : Type} {xs : List α} {k : Nat} {x x' : α} (hk : xs[k]? = some x) (g : α → β) (hg : g x' = g x) : (xs.set k x').map g = xs.map g := by
  apply List.ext_getElem?
  intro i
  have hl := (List.getElem?_eq_some_iff.1 hk).1
  rw [List.getElem?_map, List.getElem?_map]
  by_cases h : k = i
  · subst h; rw [List.getElem?_set_self hl, hk]; simp [hg]
  · rw [List.getElem?_set_ne h]

/-- What is said of a run whose list of jobs is turned in one field. -/
theorem RSys.turn {W W' : World} {rr b c aa ca la sa n cap : Nat} {jp : Option Addr} {ws : List Int} {st : Int} {xs : List RJ} (h : RSys W rr b c aa ca la sa n jp cap ws st xs) {k : Nat} {x x' : RJ} (hk : xs[k]? = some x) (hj : x'.job = x.job) {t : Nat} (ht : t = aa ∨ t = ca ∨ t = la ∨ t = sa) (hb : ∀ i, i ≠ t → W'.heap[i]? = W.heap[i]?) (hz : W'.heap.size = W.heap.size)
    (ha : W'.heap[aa]? = some (.cells ((xs.set k x').map (fun x => Value.int .i64 x.pl)).toArray 3)) (hc : W'.heap[ca]? = some (.cells ((xs.set k x').map (fun x => Value.int .i64 x.cnt)).toArray 2))
    (hl : W'.heap[la]? = some (.cells ((xs.set k x').map (fun x => Value.int .i64 x.lft)).toArray 3)) (hs : W'.heap[sa]? = some (.cells (rowsOf St.row ((xs.set k x').map RJ.st)).toArray 50)) : RSys W' rr b c aa ca la sa n jp cap ws st (xs.set k x') := by
  obtain ⟨nr1, nr2, nr3, nr4, nr5, nr6⟩ := h.nr
  obtain ⟨na1, na2, -, -, -⟩ := h.na
  obtain ⟨nc1, nc2, -, -⟩ := h.nc
  obtain ⟨nl1, nl2, -⟩ := h.nl
  obtain ⟨ns1, ns2⟩ := h.ns
  obtain ⟨kk, a, o, v, d, hm⟩ := h.mem
  have key : ∀ i, i ≠ aa → i ≠ ca → i ≠ la → i ≠ sa → i ≠ t := by
    intro i h1 h2 h3 h4
    rcases ht with rfl | rfl | rfl | rfl
    · exact h1
    · exact h2
    · exact h3
    · exact h4
  refine ⟨⟨kk, a, o, v, d, hm.of (hb b (key b (Ne.symm na1) (Ne.symm nc1) (Ne.symm nl1) (Ne.symm ns1))) (hb c (key c (Ne.symm na2) (Ne.symm nc2) (Ne.symm nl2) (Ne.symm ns2)))⟩, ?_, ?_, ha, hc, hl, hs, h.hp, h.nr, h.na, h.nc, h.nl, h.ns, by rw [List.length_set]; exact h.l8⟩
  · rw [List.length_set]; exact (hb rr (key rr nr3 nr4 nr5 nr6)).trans h.hr
  · rw [map_set_same hk RJ.job hj]
    exact h.hj.keep (Nat.le_of_eq hz.symm) (fun a ha _ => hb _ (key _ (h.hp a ha).2.2.1 (h.hp a ha).2.2.2.1 (h.hp a ha).2.2.2.2.1 (h.hp a ha).2.2.2.2.2))
theorem size_set (W : World) (p : Addr) (v : Value) : (W.setCell p v).heap.size = W.heap.size := by simp [World.setCell]

theorem ints_put {α : Type} {f : α → Int} {W : World} {g k : Nat} {xs : List α} {x x' : α} {T : TypeId} (h : W.heap[g]? = some (.cells (xs.map (fun x => Value.int .i64 (f x))).toArray T)) (_hk : xs[k]? = some x) (v : Int) (hv : f x' = v) :
    (W.setCell ⟨g, k, none⟩ (.int .i64 v)).heap[g]? = some (.cells ((xs.set k x').map (fun x => Value.int .i64 (f x))).toArray T) := by
  rw [heap_set h k _]
  simp [List.map_set, hv]
theorem RSys.setPl {W : World} {rr b c aa ca la sa n cap : Nat} {jp : Option Addr} {ws : List Int} {st : Int} {xs : List RJ} (h : RSys W rr b c aa ca la sa n jp cap ws st xs) {k : Nat} {x : RJ} (hk : xs[k]? = some x) (v : Int) : RSys (W.setCell ⟨aa, k, none⟩ (.int .i64 v)) rr b c aa ca la sa n jp cap ws st (xs.set k { x with pl := v }) := by
  obtain ⟨na1, na2, na3, na4, na5⟩ := h.na
  have hb : ∀ i, i ≠ aa → (W.setCell ⟨aa, k, none⟩ (.int .i64 v)).heap[i]? = W.heap[i]? := fun i hi => Below.heap_setCell _ _ _ _ hi
  exact h.turn hk rfl (.inl rfl) hb (size_set _ _ _) (ints_put h.ha hk v rfl) ((hb ca (Ne.symm na3)).trans (by rw [map_set_same (x' := { x with pl := v }) hk (fun x => Value.int .i64 x.cnt) rfl]; exact h.hc)) ((hb la (Ne.symm na4)).trans (by rw [map_set_same (x' := { x with pl := v }) hk (fun x => Value.int .i64 x.lft) rfl]; exact h.hl)) ((hb sa (Ne.symm na5)).trans (by rw [map_set_same (x' := { x with pl := v }) hk RJ.st rfl]; exact h.hs))
theorem RSys.setCnt {W : World} {rr b c aa ca la sa n cap : Nat} {jp : Option Addr} {ws : List Int} {st : Int} {xs : List RJ} (h : RSys W rr b c aa ca la sa n jp cap ws st xs) {k : Nat} {x : RJ} (hk : xs[k]? = some x) (v : Int) : RSys (W.setCell ⟨ca, k, none⟩ (.int .i64 v)) rr b c aa ca la sa n jp cap ws st (xs.set k { x with cnt := v }) := by
  obtain ⟨na1, na2, na3, na4, na5⟩ := h.na
  obtain ⟨nc1, nc2, nc3, nc4⟩ := h.nc
  have hb : ∀ i, i ≠ ca → (W.setCell ⟨ca, k, none⟩ (.int .i64 v)).heap[i]? = W.heap[i]? := fun i hi => Below.heap_setCell _ _ _ _ hi
  exact h.turn hk rfl (.inr (.inl rfl)) hb (size_set _ _ _) ((hb aa na3).trans (by rw [map_set_same (x' := { x with cnt := v }) hk (fun x => Value.int .i64 x.pl) rfl]; exact h.ha)) (ints_put h.hc hk v rfl) ((hb la (Ne.symm nc3)).trans (by rw [map_set_same (x' := { x with cnt := v }) hk (fun x => Value.int .i64 x.lft) rfl]; exact h.hl)) ((hb sa (Ne.symm nc4)).trans (by rw [map_set_same (x' := { x with cnt := v }) hk RJ.st rfl]; exact h.hs))
theorem RSys.setLft {W : World} {rr b c aa ca la sa n cap : Nat} {jp : Option Addr} {ws : List Int} {st : Int} {xs : List RJ} (h : RSys W rr b c aa ca la sa n jp cap ws st xs) {k : Nat} {x : RJ} (hk : xs[k]? = some x) (v : Int) : RSys (W.setCell ⟨la, k, none⟩ (.int .i64 v)) rr b c aa ca la sa n jp cap ws st (xs.set k { x with lft := v }) := by
  obtain ⟨na1, na2, na3, na4, na5⟩ := h.na
  obtain ⟨nc1, nc2, nc3, nc4⟩ := h.nc
  obtain ⟨nl1, nl2, nl3⟩ := h.nl
  have hb : ∀ i, i ≠ la → (W.setCell ⟨la, k, none⟩ (.int .i64 v)).heap[i]? = W.heap[i]? := fun i hi => Below.heap_setCell _ _ _ _ hi
  exact h.turn hk rfl (.inr (.inr (.inl rfl))) hb (size_set _ _ _) ((hb aa na4).trans (by rw [map_set_same (x' := { x with lft := v }) hk (fun x => Value.int .i64 x.pl) rfl]; exact h.ha)) ((hb ca nc3).trans (by rw [map_set_same (x' := { x with lft := v }) hk (fun x => Value.int .i64 x.cnt) rfl]; exact h.hc)) (ints_put h.hl hk v rfl) ((hb sa (Ne.symm nl3)).trans (by rw [map_set_same (x' := { x with lft := v }) hk RJ.st rfl]; exact h.hs))
theorem RSys.setSt {W : World} {rr b c aa ca la sa n cap : Nat} {jp : Option Addr} {ws : List Int} {st : Int} {xs : List RJ} (h : RSys W rr b c aa ca la sa n jp cap ws st xs) {k : Nat} {x : RJ} (hk : xs[k]? = some x) (f : Nat) (hf : f < 4) (v : Value) (s' : St) (he : s'.row = x.st.row.set f v) : RSys (W.setCell ⟨sa, k * 4 + f, none⟩ v) rr b c aa ca la sa n jp cap ws st (xs.set k { x with st := s' }) := by
  obtain ⟨na1, na2, na3, na4, na5⟩ := h.na
  obtain ⟨nc1, nc2, nc3, nc4⟩ := h.nc
  obtain ⟨nl1, nl2, nl3⟩ := h.nl
  have hb : ∀ i, i ≠ sa → (W.setCell ⟨sa, k * 4 + f, none⟩ v).heap[i]? = W.heap[i]? := fun i hi => Below.heap_setCell _ _ _ _ hi
  have hks : (xs.map RJ.st)[k]? = some x.st := by simp [hk]
  refine h.turn hk rfl (.inr (.inr (.inr rfl))) hb (size_set _ _ _) ((hb aa na5).trans (by rw [map_set_same (x' := { x with st := s' }) hk (fun x => Value.int .i64 x.pl) rfl]; exact h.ha)) ((hb ca nc4).trans (by rw [map_set_same (x' := { x with st := s' }) hk (fun x => Value.int .i64 x.cnt) rfl]; exact h.hc)) ((hb la nl3).trans (by rw [map_set_same (x' := { x with st := s' }) hk (fun x => Value.int .i64 x.lft) rfl]; exact h.hl)) ?_
  rw [rows_put St.row_length h.hs hks f hf v s' he, List.map_set]
end Go.Proofs.Ytkgeapmafpeapaa
