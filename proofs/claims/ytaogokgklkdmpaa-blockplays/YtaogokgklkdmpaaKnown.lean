/-
  The calls with their answers named; the runs that every law asks for again answer true.
-/
import Derived.Test.YtaogokgklkdmpaaOpsC
import Derived.Lib.SlBytesConst
namespace Go.Proofs.Ytaogokgklkdmpaa
open Go.RowKit Go.Maps

section
variable {base n : Nat} {W : World} {p : Nat} {s : S}
theorem new_Z (N : Int) (n : Nat) (hN : N = (n : Int)) (hn : n ≤ 256) (w : World) : Calls Try.prog 9 #[I N] w fun e w' => ∃ p, e = .returned (.tuple #[P0 p, I 0]) ∧ Hid (Pl w.heap.size n w' p ⟨n, []⟩) ∧ Hid (Below w.heap.size w w') := by
  subst hN
  exact new_good n hn w
theorem file_Z (h : Hid (Pl base n W p s)) (x : Int) (hx : x = ((s.fs.length + 1 : Nat) : Int)) (hl : s.fs.length < 1000000) {u : World} (B : Hid (Below base u W)) :
    Calls Try.prog 10 #[P0 p] W fun e w' => e = .returned (I x) ∧ Hid (Pl base n w' p s.add) ∧ Hid (Nx base W w') ∧ Hid (Below base u w') := by
  subst hx
  exact (file_any (unhide h) hl).mono fun e w' ⟨h1, h2, h3⟩ => ⟨h1, h2, h3, (unhide B).trans h3.bel⟩
theorem drop_Z (h : Hid (Pl base n W p s)) (f : Int) (hf : (kl f).wf = true) (x : Int) (hx : dropE s f = x) {u : World} (B : Hid (Below base u W)) :
    Calls Try.prog 15 #[P0 p, I f] W fun e w' => e = .returned (I x) ∧ Hid (Pl base n w' p (dropS s f)) ∧ Hid (Nx base W w') ∧ Hid (Below base u w') := by
  subst hx
  exact (drop_any (unhide h) hf).mono fun e w' ⟨h1, h2, h3⟩ => ⟨h1, h2, h3, (unhide B).trans h3.bel⟩
theorem write_Z (h : Hid (Pl base n W p s)) (f : Int) (hf : (kl f).wf = true) (a : Int) (ha : (kl a).wf = true) (ad : Option Addr) (m cap : Nat) (g : Nat → Int) (hi : In W ad m cap g) (x : Int) (hx : writeE s f a m = x) {u : World} (B : Hid (Below base u W)) :
    Calls Try.prog 11 #[P0 p, I f, I a, .slice ad m cap] W fun e w' => e = .returned (I x) ∧ Hid (Pl base n w' p (writeS s f a m g)) ∧ Hid (Nx base W w') ∧ Hid (Below base u w') := by
  subst hx
  exact (write_any (unhide h) hf a ha ad m cap g hi).mono fun e w' ⟨h1, h2, h3⟩ => ⟨h1, h2, h3, (unhide B).trans h3.bel⟩
theorem cut_Z (h : Hid (Pl base n W p s)) (f : Int) (hf : (kl f).wf = true) (z : Int) (x : Int) (hx : cutE (s.get f) z = x) {u : World} (B : Hid (Below base u W)) :
    Calls Try.prog 12 #[P0 p, I f, I z] W fun e w' => e = .returned (I x) ∧ Hid (Pl base n w' p (cutS s f z)) ∧ Hid (Nx base W w') ∧ Hid (Below base u w') := by
  subst hx
  exact (cut_any (unhide h) hf z).mono fun e w' ⟨h1, h2, h3⟩ => ⟨h1, h2, h3, (unhide B).trans h3.bel⟩
theorem Pl.bs (h : Pl base n W p s) : base ≤ W.heap.size := let ⟨_, _, _, h⟩ := h; h.bs
theorem read_Z (h : Hid (Pl base n W p s)) (f : Int) (hf : (kl f).wf = true) (a k : Int) (ha : (kl a).wf = true) (x : Int) (hx : readE (s.get f) a k = x) (m : Nat) (hm : readM (s.get f) a k = m) {u : World} (B : Hid (Below base u W)) :
    Calls Try.prog 16 #[P0 p, I f, I a, I k] W fun e w' => ∃ v, e = .returned (.tuple #[v, I x]) ∧ Hid (Sl W.heap.size w' v (byteO (s.get f)) a.toNat m) ∧ Hid (Below W.heap.size W w') ∧ Hid (Pl base n w' p s) ∧ Hid (Below base u w') := by
  subst hx
  subst hm
  exact (read_any (unhide h) hf a k ha).mono fun e w' ⟨v, h1, h2, h3⟩ => ⟨v, h1, h2, h3, (unhide h).below h3, (unhide B).trans (h3.mono (unhide h).bs)⟩
theorem used_Z (h : Hid (Pl base n W p s)) (f : Int) (hf : (kl f).wf = true) (x : Int) (hx : ((usedO (s.get f) : Nat) : Int) = x) : Calls Try.prog 13 #[P0 p, I f] W fun e w' => e = .returned (I x) ∧ w' = W := by
  subst hx
  exact used_any (unhide h) hf
theorem size_Z (h : Hid (Pl base n W p s)) (f : Int) (hf : (kl f).wf = true) (x : Int) (hx : ((sizeO (s.get f) : Nat) : Int) = x) : Calls Try.prog 26 #[P0 p, I f] W fun e w' => e = .returned (I x) ∧ w' = W := by
  subst hx
  exact size_any (unhide h) hf
theorem left_Z (h : Hid (Pl base n W p s)) (x : Int) (hx : ((s.left : Nat) : Int) = x) : Calls Try.prog 14 #[P0 p] W fun e w' => e = .returned (I x) ∧ w' = W := by
  subst hx
  exact left_any (unhide h)
end
theorem Sl.pos {lo : Nat} {W : World} {v : Value} {f : Nat → Int} {a m : Nat} (h : Sl lo W v f a m) (hm : 0 < m) : ∃ g, lo ≤ g ∧ v = .slice (some ⟨g, 0, none⟩) m m ∧ W.heap[g]? = some (.cells (lst f a m).toArray 5) := by
  rcases h with ⟨h1, _⟩ | h
  · omega
  · exact h
theorem Pl.alloc {base n : Nat} {W : World} {p : Nat} {s : S} (h : Pl base n W p s) (o : Obj) : Pl base n (W.alloc o) p s := h.below ((Below.refl _ W).alloc (Nat.le_refl _) o)
theorem in_one (w : World) (x : Int) (z : Nat × Nat) : In (w.alloc (.cells #[U x] 5 z)) (some ⟨w.heap.size, 0, none⟩) 1 1 (fun _ => x) := fun _ => ⟨w.heap.size, 0, rfl, fun j hj => by
  obtain rfl : j = 0 := by omega
  rw [cell_of (heap_alloc_new _ _)]
  rfl, Nat.le_refl _⟩
theorem conv28 (w : World) (C : Array Value) (n c : Nat) : (convert 28 28 (.slice (some ⟨w.heap.size, 0, none⟩) n c)).run Try.prog (w.alloc (.cells C 5)) = .ok (.slice (some ⟨w.heap.size, 0, none⟩) n c) (w.alloc (.cells C 5 (C.size, C.size + 1))) :=
  Lib.run_convert_bytes_const w 28 5 C n c Try.underlying28 Try.underlying5
/-- The text of bytes. -/
def str (f : Nat → Int) (a n : Nat) : ByteArray := strOfNums ((List.range n).map fun j => f (a + j))
theorem str_congr {f g : Nat → Int} {a b n : Nat} (h : ∀ j, j < n → f (a + j) = g (b + j)) : str f a n = str g b n := by
  unfold str
  congr 1
  exact List.map_congr_left fun j hj => h j (List.mem_range.1 hj)
theorem str_zero (f : Nat → Int) (a : Nat) : str f a 0 = ByteArray.empty := rfl
theorem conv_bs {W : World} {sb so n : Nat} {g : Nat → Int} (h : Bs W sb so n g) (cap : Nat) : (convert 28 9 (.slice (some ⟨sb, so, none⟩) n cap)).run Try.prog W = .ok (.string (str g 0 n)) W := by
  refine run_convert_bytes_arg W 28 5 Try.underlying28 Try.underlying5 sb so n cap _ (by simp) ?_ 9 Try.underlying9
  intro i hi
  rw [h i hi]
  simp [hi]
theorem conv_nil (l c : Nat) (W : World) : (convert 28 9 (.slice none l c)).run Try.prog W = .ok (.string ByteArray.empty) W := run_convert_bytes_nil W 28 5 Try.underlying28 Try.underlying5 l c 9 Try.underlying9
theorem Bs.of_row {W : World} {g : Nat} {f : Nat → Int} {a m : Nat} (h : W.heap[g]? = some (.cells (lst f a m).toArray 5)) : Bs W g 0 m (fun j => f (a + j)) := fun j hj => by
  rw [cell_of h, Nat.zero_add]
  simp only [List.getElem?_toArray]
  exact lst_get' hj
theorem conv_sl {lo : Nat} {W : World} {v : Value} {f : Nat → Int} {a m : Nat} (h : Sl lo W v f a m) : (convert 28 9 v).run Try.prog W = .ok (.string (str f a m)) W := by
  rcases h with ⟨rfl, rfl⟩ | ⟨g, _, rfl, hg⟩
  · exact conv_nil _ _ _
  · rw [conv_bs (Bs.of_row hg)]
    congr 2
    exact str_congr fun j _ => by simp
def kS1 : S := (⟨1, []⟩ : S).add
def kS2 : S := writeS kS1 1 20 1 (fun _ => 120)
set_option maxRecDepth 100000 in
theorem known_any (w : World) : Calls Try.prog 17 #[] w fun e w' => e = .returned (.bool true) ∧ Below w.heap.size w w' := by
  have hcv := conv28
  go_enter Try.func17, Try.ntmps17
  go_wp2_with fail
  refine (new_Z _ 1 rfl (by omega) _).mono ?_
  rintro e w1 ⟨p, rfl, P1, B1⟩
  go_wp2_with fail
  refine (file_Z (s := ⟨1, []⟩) P1 1 rfl (by decide) B1).mono ?_
  rintro e w2 ⟨rfl, P2, _, B2⟩
  clear P1 B1
  go_wp2_with fail
  refine (write_Z (s := kS1) (hide ((unhide P2).alloc _)) 1 (by decide) 20 (by decide) _ 1 1 _ (in_one _ _ _) 0 (by decide +kernel) (hide ((unhide B2).alloc (unhide P2).bs _))).mono ?_
  rintro e w3 ⟨rfl, P3, _, B3⟩
  clear P2 B2
  go_wp2_with fail
  refine (read_Z (s := kS2) P3 1 (by decide) 0 99 (by decide) 0 (by decide +kernel) 21 (by decide +kernel) B3).mono ?_
  rintro e w4 ⟨v, rfl, S4, _, P4, B4⟩
  clear P3 B3
  obtain ⟨g, _, rfl, hg⟩ := (unhide S4).pos (by omega)
  have k0 : w4.cell? ⟨g, 0, none⟩ = some (U 0) := by
    have := Bs.of_row hg 0 (by omega)
    simp only [show byteO (kS2.get 1) ((0 : Int).toNat + 0) = 0 by decide +kernel] at this
    exact this
  have k20 : w4.cell? ⟨g, 20, none⟩ = some (U 120) := by
    have := Bs.of_row hg 20 (by omega)
    simp only [show byteO (kS2.get 1) ((0 : Int).toNat + 20) = 120 by decide +kernel] at this
    exact this
  clear hg S4
  go_wp2_with fail
  refine (used_Z (s := kS2) P4 1 (by decide) 1 (by decide +kernel)).mono ?_
  rintro e w5 ⟨rfl, rfl⟩
  go_wp2_with fail
  refine (left_Z (s := kS2) P4 0 (by decide +kernel)).mono ?_
  rintro e w6 ⟨rfl, rfl⟩
  go_wp2_with fail
  go_ret
  exact ⟨rfl, unhide B4⟩
end Go.Proofs.Ytaogokgklkdmpaa
