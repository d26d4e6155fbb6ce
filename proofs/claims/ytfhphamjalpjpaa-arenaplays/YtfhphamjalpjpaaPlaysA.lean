/-
  The program's arena and the document's side by side: what each call does to either, told once for good handles and bad ones.
-/
import Derived.Test.YtfhphamjalpjpaaRefD
import Derived.ProofKit
import Derived.Deep.Slices
namespace Go.Proofs.Ytfhphamjalpjpaa
open Go.ChangeShapes Go.WideShapes Go.ChangeAt Go.RowKit Go.Deep

/-- A state: the slots, the free ones in their turn, how many calls came too late. -/
abbrev Sa := List Slot × List Nat × Int
/-- A handle is refused, or good. -/
def Found (gs : List Slot) (s x : Int) (e m : Int) : Prop := ∀ C : Prop,
  (Bad gs s x e m → C) →
  (∀ (k : Nat) (u : Int), s = k → gs[k]? = some (x, u) → x % 2 = 1 → 0 ≤ x → e = 0 → m = 0 → C) → C
theorem Found.bad {gs : List Slot} {s x : Int} {e m : Int} (h : Bad gs s x e m) : Found gs s x e m := fun _ t _ => t h
theorem Found.ok {gs : List Slot} {s x : Int} {e m : Int} (k : Nat) (u : Int) (h1 : s = k) (h2 : gs[k]? = some (x, u)) (h3 : x % 2 = 1) (h4 : 0 ≤ x) (h5 : e = 0) (h6 : m = 0) : Found gs s x e m := fun _ _ t => t k u h1 h2 h3 h4 h5 h6
theorem Found.el {gs : List Slot} {s x : Int} {e m : Int} {motive : Found gs s x e m → Prop}
    (bad : ∀ (h : Bad gs s x e m), motive (.bad h))
    (ok : ∀ (k : Nat) (u : Int) (h1 : s = k) (h2 : gs[k]? = some (x, u)) (h3 : x % 2 = 1) (h4 : 0 ≤ x) (h5 : e = 0) (h6 : m = 0), motive (.ok k u h1 h2 h3 h4 h5 h6))
    (t : Found gs s x e m) : motive t :=
  t (motive t) (fun h => bad h) (fun k u h1 h2 h3 h4 h5 h6 => ok k u h1 h2 h3 h4 h5 h6)
theorem found {n : Nat} {B : Int} {gs : List Slot} {q : List Nat} (h : Fit n B gs q) (s x : Int) : ∃ e m, Found gs s x e m ∧ 0 ≤ m ∧ m ≤ 1 := by
  by_cases hs : s < 0 ∨ (gs.length : Int) ≤ s
  · exact ⟨1, 0, .bad (.inl ⟨rfl, rfl, hs⟩), by omega, by omega⟩
  · obtain ⟨k, rfl⟩ := Int.eq_ofNat_of_zero_le (show 0 ≤ s by omega)
    have hk : k < gs.length := by omega
    obtain ⟨g, u, hg⟩ : ∃ g u, gs[k]? = some (g, u) := ⟨_, _, List.getElem?_eq_getElem hk⟩
    have hb := h.bd k g u hg
    by_cases ho : g % 2 = 1 ∧ g = x
    · obtain ⟨h1, rfl⟩ := ho
      exact ⟨0, 0, .ok k u rfl hg h1 hb.1 rfl rfl, by omega, by omega⟩
    · exact ⟨14, 1, .bad (.inr ⟨rfl, rfl, k, g, u, rfl, hg, hb.1, ho⟩), by omega, by omega⟩

def setK (gs : List Slot) (s : Int) (y : Slot) : List Slot := gs.set s.toNat y
/-- What Free, Set, Get do to a state: by the error. -/
def freed (a : Sa) (s x e m : Int) : Sa := if e = 0 then (setK a.1 s (x + 1, 0), a.2.1 ++ [s.toNat], a.2.2) else (a.1, a.2.1, a.2.2 + m)
def seten (a : Sa) (s x e m v : Int) : Sa := if e = 0 then (setK a.1 s (x, v), a.2.1, a.2.2) else (a.1, a.2.1, a.2.2 + m)
def gotten (a : Sa) (s e : Int) : Int := if e = 0 then (a.1.getD s.toNat (0, 0)).2 else 0

/-- An ask in its block. -/
abbrev kObj (k o v s x : Int) : Obj := .cells #[.int .i64 k, .int .i64 o, .int .i64 v, .int .i64 s, .int .i64 x] 43
structure PS (h : Nat) (w1 : World) (b c d n B rb gb vb : Nat) (v8 : Value) (xs : List Slot) (B10 B11 : Nat) (kk ko kv ks kx s x : Int) (W : World) (a r : Sa) : Prop where
  ar : Ar W b c d n a.1 a.2.1 a.2.2
  ra : ∃ tv, RA B W rb gb vb n r.1 r.2.1 tv r.2.2
  hs : Hs h W v8 xs
  k10 : W.heap[B10]? = some (kObj kk ko kv ks kx)
  k11 : W.heap[B11]? = some (hObj s x)
  be : Below h w1 W
  sz : B ≤ W.heap.size
  lo : h ≤ b ∧ h ≤ c ∧ h ≤ d ∧ b < B ∧ c < B ∧ d < B ∧ h ≤ B
section
variable {h : Nat} {w1 : World} {b c d n B rb gb vb : Nat} {v8 : Value} {xs : List Slot} {B10 B11 : Nat} {kk ko kv ks kx s x : Int} {W W' : World} {a r : Sa}
theorem PS.below (P : PS h w1 b c d n B rb gb vb v8 xs B10 B11 kk ko kv ks kx s x W a r) (g : Below W.heap.size W W') : PS h w1 b c d n B rb gb vb v8 xs B10 B11 kk ko kv ks kx s x W' a r := by
  obtain ⟨tv, R⟩ := P.ra
  exact ⟨P.ar.below g, ⟨tv, R.below g⟩, P.hs.below g, (g.block _ (lt_of_heap P.k10)).trans P.k10, (g.block _ (lt_of_heap P.k11)).trans P.k11, P.be.trans (g.mono (by have := P.lo; have := P.sz; omega)), Nat.le_trans P.sz g.size, P.lo⟩
theorem PS.drew (P : PS h w1 b c d n B rb gb vb v8 xs B10 B11 kk ko kv ks kx s x W a r) : PS h w1 b c d n B rb gb vb v8 xs B10 B11 kk ko kv ks kx s x W.drew a r := P.below ⟨rfl, rfl, rfl, Nat.le_refl _, fun _ _ => rfl⟩
theorem PS.fr (P : PS h w1 b c d n B rb gb vb v8 xs B10 B11 kk ko kv ks kx s x W a r) {a' : Sa} (hA : Ar W' b c d n a'.1 a'.2.1 a'.2.2) (g : Fr b c d W W') : PS h w1 b c d n B rb gb vb v8 xs B10 B11 kk ko kv ks kx s x W' a' r := by
  obtain ⟨tv, R⟩ := P.ra
  obtain ⟨l1, l2, l3, l4, l5, l6, l7⟩ := P.lo
  obtain ⟨rr, hr, hl⟩ := P.ar.hd
  have kp : ∀ {k : Nat} {o : Obj}, W.heap[k]? = some o → (∀ cur, o ≠ .cells cur 65 (0, 0)) → (∀ cur, o ≠ .cells cur 70 (0, 0)) → (∀ cur, o ≠ .cells cur 3 (0, 0)) → W'.heap[k]? = some o := by
    intro k o h1 h2 h3 h4
    refine (g.block k (lt_of_heap h1) ?_ ?_ ?_).trans h1
    · rintro rfl; rw [P.ar.hb] at h1; exact h2 _ (Option.some.inj h1).symm
    · rintro rfl; rw [P.ar.hc] at h1; exact h3 _ (Option.some.inj h1).symm
    · rintro rfl; rw [hr] at h1; exact h4 _ (Option.some.inj h1).symm
  exact ⟨hA, ⟨tv, R.fr g l4 l5 l6⟩, P.hs.fr P.ar g, kp P.k10 (by simp) (by simp) (by simp), kp P.k11 (by simp) (by simp) (by simp), P.be.trans (g.below l1 l2 l3 (by have := P.sz; omega)), Nat.le_trans P.sz g.size, P.lo⟩
theorem PS.frs (P : PS h w1 b c d n B rb gb vb v8 xs B10 B11 kk ko kv ks kx s x W a r) {r' : Sa} (hR : ∃ tv, RA B W' rb gb vb n r'.1 r'.2.1 tv r'.2.2) (g : FrS B W W') : PS h w1 b c d n B rb gb vb v8 xs B10 B11 kk ko kv ks kx s x W' a r' := by
  obtain ⟨l1, l2, l3, l4, l5, l6, l7⟩ := P.lo
  have hs := P.sz
  exact ⟨P.ar.of (g.be.block b l4) (g.be.block c l5) (g.be.block d l6), hR, P.hs.keep (fun k cur _ hc => g.hk k cur 29 (.inl rfl) hc), (g.hk _ _ 43 (.inr rfl) P.k10).trans P.k10, (g.hk _ _ 29 (.inl rfl) P.k11).trans P.k11, P.be.trans (g.be.mono l7), Nat.le_trans hs g.be.size, P.lo⟩
/-- What a walk reads of the two boxes. -/
theorem PS.cells (P : PS h w1 b c d n B rb gb vb v8 xs B10 B11 kk ko kv ks kx s x W a r) : W.cell? ⟨B10, 0, none⟩ = some (.int .i64 kk) ∧ W.cell? ⟨B10, 2, none⟩ = some (.int .i64 kv) ∧ W.cell? ⟨B11, 0, none⟩ = some (.int .i64 s) ∧ W.cell? ⟨B11, 1, none⟩ = some (.int .i64 x) :=
  ⟨by rw [cell_of P.k10]; rfl, by rw [cell_of P.k10]; rfl, (hcells P.k11).1, (hcells P.k11).2.1⟩

theorem p_in (P : PS h w1 b c d n B rb gb vb v8 xs B10 B11 kk ko kv ks kx s x W a r) : Calls Try.prog 20 #[.agg #[.int .i64 s, .int .i64 x]] W fun e w' => e = .returned (.agg #[.int .i64 s, .int .i64 x]) ∧ (w'.cell? ⟨B10, 2, none⟩ = some (.int .i64 kv) ∧ w'.cell? ⟨B11, 0, none⟩ = some (.int .i64 s) ∧ w'.cell? ⟨B11, 1, none⟩ = some (.int .i64 x)) ∧ PS h w1 b c d n B rb gb vb v8 xs B10 B11 kk ko kv ks kx s x w' a r := by
  refine (in_any s x W).mono ?_
  rintro e w' ⟨rfl, hB⟩
  have P' := P.below hB
  exact ⟨rfl, P'.cells.2, P'⟩
theorem p_free {e m : Int} (P : PS h w1 b c d n B rb gb vb v8 xs B10 B11 kk ko kv ks kx s x W a r) (hF : Found a.1 s x e m) (hq : e = 0 → a.2.1.length < n) (s0 : 0 ≤ a.2.2) (s1 : a.2.2 ≤ 1000000) (hx : e = 0 → x ≤ 1000000) :
    Calls Try.prog 12 #[.pointer (some ⟨b, 0, none⟩), .agg #[.int .i64 s, .int .i64 x]] W fun e' w' => e' = .returned (.int .i64 e) ∧ (w'.cell? ⟨B10, 2, none⟩ = some (.int .i64 kv) ∧ w'.cell? ⟨B11, 0, none⟩ = some (.int .i64 s) ∧ w'.cell? ⟨B11, 1, none⟩ = some (.int .i64 x)) ∧ PS h w1 b c d n B rb gb vb v8 xs B10 B11 kk ko kv ks kx s x w' (freed a s x e m) r := by
  cases hF using Found.el with
  | bad hb =>
    refine (free_bad b c d n a.1 a.2.1 a.2.2 s x e m W P.ar hb s0 s1).mono ?_
    rintro e' w' ⟨rfl, hA, hF⟩
    have P' := P.fr (a' := freed a s x e m) (by unfold freed; rw [if_neg hb.ne]; exact hA) hF
    exact ⟨rfl, P'.cells.2, P'⟩
  | ok k u h1 h2 h3 h4 h5 h6 =>
    subst h1 h5 h6
    refine (free_ok b c d n k a.1 a.2.1 a.2.2 x u W P.ar h2 h4 h3 (hx rfl) (hq rfl)).mono ?_
    rintro e' w' ⟨rfl, hA, hF⟩
    have P' := P.fr (a' := freed a (k : Int) x 0 0) (by unfold freed setK; rw [if_pos rfl]; exact hA) hF
    exact ⟨rfl, P'.cells.2, P'⟩
theorem p_rfree {e m : Int} (P : PS h w1 b c d n B rb gb vb v8 xs B10 B11 kk ko kv ks kx s x W a r) (hF : Found r.1 s x e m) (hq : e = 0 → r.2.1.length < n) (s0 : 0 ≤ r.2.2) (s1 : r.2.2 ≤ 1000000) (hx : e = 0 → x ≤ 1000000) :
    Calls Try.prog 21 #[.pointer (some ⟨rb, 0, none⟩), .agg #[.int .i64 s, .int .i64 x]] W fun e' w' => e' = .returned (.int .i64 e) ∧ (w'.cell? ⟨B10, 2, none⟩ = some (.int .i64 kv) ∧ w'.cell? ⟨B11, 0, none⟩ = some (.int .i64 s) ∧ w'.cell? ⟨B11, 1, none⟩ = some (.int .i64 x)) ∧ PS h w1 b c d n B rb gb vb v8 xs B10 B11 kk ko kv ks kx s x w' a (freed r s x e m) := by
  obtain ⟨tv, R⟩ := P.ra
  cases hF using Found.el with
  | bad hb =>
    refine (rfree_bad B rb gb vb n r.1 r.2.1 tv r.2.2 s x e m W R hb s0 s1 P.sz).mono ?_
    rintro e' w' ⟨rfl, hA, hF⟩
    have P' := P.frs (r' := freed r s x e m) ⟨tv, by unfold freed; rw [if_neg hb.ne]; exact hA⟩ hF
    exact ⟨rfl, P'.cells.2, P'⟩
  | ok k u h1 h2 h3 h4 h5 h6 =>
    subst h1 h5 h6
    refine (rfree_ok B rb gb vb n k r.1 r.2.1 tv r.2.2 x u W R h2 h4 h3 (hx rfl) (hq rfl) P.sz).mono ?_
    rintro e' w' ⟨rfl, ⟨tv', hA⟩, hF⟩
    have P' := P.frs (r' := freed r (k : Int) x 0 0) ⟨tv', by unfold freed setK; rw [if_pos rfl]; exact hA⟩ hF
    exact ⟨rfl, P'.cells.2, P'⟩
theorem p_set {e m v : Int} (P : PS h w1 b c d n B rb gb vb v8 xs B10 B11 kk ko kv ks kx s x W a r) (hF : Found a.1 s x e m) (s0 : 0 ≤ a.2.2) (s1 : a.2.2 ≤ 1000000) :
    Calls Try.prog 11 #[.pointer (some ⟨b, 0, none⟩), .agg #[.int .i64 s, .int .i64 x], .int .i64 v] W fun e' w' => e' = .returned (.int .i64 e) ∧ (w'.cell? ⟨B10, 2, none⟩ = some (.int .i64 kv) ∧ w'.cell? ⟨B11, 0, none⟩ = some (.int .i64 s) ∧ w'.cell? ⟨B11, 1, none⟩ = some (.int .i64 x)) ∧ PS h w1 b c d n B rb gb vb v8 xs B10 B11 kk ko kv ks kx s x w' (seten a s x e m v) r := by
  cases hF using Found.el with
  | bad hb =>
    refine (set_bad b c d n a.1 a.2.1 a.2.2 s x e m v W P.ar hb s0 s1).mono ?_
    rintro e' w' ⟨rfl, hA, hF⟩
    have P' := P.fr (a' := seten a s x e m v) (by unfold seten; rw [if_neg hb.ne]; exact hA) hF
    exact ⟨rfl, P'.cells.2, P'⟩
  | ok k u h1 h2 h3 h4 h5 h6 =>
    subst h1 h5 h6
    refine (set_ok b c d n k a.1 a.2.1 a.2.2 x u v W P.ar h2 h4 h3).mono ?_
    rintro e' w' ⟨rfl, hA, hF⟩
    have P' := P.fr (a' := seten a (k : Int) x 0 0 v) (by unfold seten setK; rw [if_pos rfl]; exact hA) hF
    exact ⟨rfl, P'.cells.2, P'⟩
theorem p_rset {e m v : Int} (P : PS h w1 b c d n B rb gb vb v8 xs B10 B11 kk ko kv ks kx s x W a r) (hF : Found r.1 s x e m) (s0 : 0 ≤ r.2.2) (s1 : r.2.2 ≤ 1000000) :
    Calls Try.prog 23 #[.pointer (some ⟨rb, 0, none⟩), .agg #[.int .i64 s, .int .i64 x], .int .i64 v] W fun e' w' => e' = .returned (.int .i64 e) ∧ (w'.cell? ⟨B10, 2, none⟩ = some (.int .i64 kv) ∧ w'.cell? ⟨B11, 0, none⟩ = some (.int .i64 s) ∧ w'.cell? ⟨B11, 1, none⟩ = some (.int .i64 x)) ∧ PS h w1 b c d n B rb gb vb v8 xs B10 B11 kk ko kv ks kx s x w' a (seten r s x e m v) := by
  obtain ⟨tv, R⟩ := P.ra
  cases hF using Found.el with
  | bad hb =>
    refine (rset_bad B rb gb vb n r.1 r.2.1 tv r.2.2 s x e m v W R hb s0 s1 P.sz).mono ?_
    rintro e' w' ⟨rfl, hA, hF⟩
    have P' := P.frs (r' := seten r s x e m v) ⟨tv, by unfold seten; rw [if_neg hb.ne]; exact hA⟩ hF
    exact ⟨rfl, P'.cells.2, P'⟩
  | ok k u h1 h2 h3 h4 h5 h6 =>
    subst h1 h5 h6
    refine (rset_ok B rb gb vb n k r.1 r.2.1 tv r.2.2 x u v W R h2 h4 h3 P.sz).mono ?_
    rintro e' w' ⟨rfl, hA, hF⟩
    have P' := P.frs (r' := seten r (k : Int) x 0 0 v) ⟨tv, by unfold seten setK; rw [if_pos rfl]; exact hA⟩ hF
    exact ⟨rfl, P'.cells.2, P'⟩
theorem gotten_ok {a : Sa} {k : Nat} {x u : Int} (h2 : a.1[k]? = some (x, u)) : gotten a (k : Int) 0 = u := by
  unfold gotten; rw [if_pos rfl, Int.toNat_natCast, List.getD_eq_getElem?_getD, h2]; rfl
theorem p_get {e m : Int} (P : PS h w1 b c d n B rb gb vb v8 xs B10 B11 kk ko kv ks kx s x W a r) (hF : Found a.1 s x e m) (s0 : 0 ≤ a.2.2) (s1 : a.2.2 ≤ 1000000) :
    Calls Try.prog 9 #[.pointer (some ⟨b, 0, none⟩), .agg #[.int .i64 s, .int .i64 x]] W fun e' w' => e' = .returned (.tuple #[.int .i64 (gotten a s e), .int .i64 e]) ∧ PS h w1 b c d n B rb gb vb v8 xs B10 B11 kk ko kv ks kx s x w' (a.1, a.2.1, a.2.2 + m) r := by
  cases hF using Found.el with
  | bad hb =>
    refine (get_bad b c d n a.1 a.2.1 a.2.2 s x e m W P.ar hb s0 s1).mono ?_
    rintro e' w' ⟨rfl, hA, hF⟩
    exact ⟨by unfold gotten; rw [if_neg hb.ne], P.fr (a' := (a.1, a.2.1, a.2.2 + m)) hA hF⟩
  | ok k u h1 h2 h3 h4 h5 h6 =>
    subst h1 h5 h6
    refine (get_ok b c d n k a.1 a.2.1 a.2.2 x u W P.ar h2 h4 h3).mono ?_
    rintro e' w' ⟨rfl, hB⟩
    exact ⟨by rw [gotten_ok h2], by rw [Int.add_zero]; exact P.below hB⟩
theorem p_rget {e m : Int} (P : PS h w1 b c d n B rb gb vb v8 xs B10 B11 kk ko kv ks kx s x W a r) (hF : Found r.1 s x e m) (s0 : 0 ≤ r.2.2) (s1 : r.2.2 ≤ 1000000) :
    Calls Try.prog 22 #[.pointer (some ⟨rb, 0, none⟩), .agg #[.int .i64 s, .int .i64 x]] W fun e' w' => e' = .returned (.tuple #[.int .i64 (gotten r s e), .int .i64 e]) ∧ PS h w1 b c d n B rb gb vb v8 xs B10 B11 kk ko kv ks kx s x w' a (r.1, r.2.1, r.2.2 + m) := by
  obtain ⟨tv, R⟩ := P.ra
  cases hF using Found.el with
  | bad hb =>
    refine (rget_bad B rb gb vb n r.1 r.2.1 tv r.2.2 s x e m W R hb s0 s1 P.sz).mono ?_
    rintro e' w' ⟨rfl, hA, hF⟩
    exact ⟨by unfold gotten; rw [if_neg hb.ne], P.frs (r' := (r.1, r.2.1, r.2.2 + m)) ⟨tv, hA⟩ hF⟩
  | ok k u h1 h2 h3 h4 h5 h6 =>
    subst h1 h5 h6
    refine (rget_ok B rb gb vb n k r.1 r.2.1 tv r.2.2 x u W R h2 h4 h3).mono ?_
    rintro e' w' ⟨rfl, hB⟩
    exact ⟨by rw [gotten_ok h2], by rw [Int.add_zero]; exact P.below hB⟩
end

/-- A state that fits stays one. -/
theorem Found.free {n : Nat} {B : Int} {a : Sa} {s x e m : Int} (hF : Found a.1 s x e m) (h : Fit n B a.1 a.2.1) : Fit n (B + 1) (freed a s x e m).1 (freed a s x e m).2.1 ∧ (e = 0 → a.2.1.length < n) ∧ (freed a s x e m).2.2 = a.2.2 + m := by
  cases hF using Found.el with
  | bad hb => unfold freed; rw [if_neg hb.ne]; exact ⟨h.mono (by omega), fun he => absurd he hb.ne, rfl⟩
  | ok k u h1 h2 h3 h4 h5 h6 =>
    subst h1 h5 h6
    unfold freed setK
    rw [if_pos rfl]
    obtain ⟨f1, f2⟩ := h.free (v := 0) h2 h3
    exact ⟨f1, fun _ => f2, by simp⟩
theorem Found.put {n : Nat} {B : Int} {a : Sa} {s x e m v : Int} (hF : Found a.1 s x e m) (h : Fit n B a.1 a.2.1) : Fit n B (seten a s x e m v).1 (seten a s x e m v).2.1 ∧ (seten a s x e m v).2.2 = a.2.2 + m := by
  cases hF using Found.el with
  | bad hb => unfold seten; rw [if_neg hb.ne]; exact ⟨h, rfl⟩
  | ok k u h1 h2 h3 h4 h5 h6 =>
    subst h1 h5 h6
    unfold seten setK
    rw [if_pos rfl]
    exact ⟨h.put h2 h3, by simp⟩
theorem Found.small {n : Nat} {B : Int} {gs : List Slot} {q : List Nat} {s x e m : Int} (hF : Found gs s x e m) (h : Fit n B gs q) (he : e = 0) : x ≤ B := by
  cases hF using Found.el with
  | bad hb => exact absurd he hb.ne
  | ok k u h1 h2 h3 h4 h5 h6 => exact (h.bd k x u h2).2
end Go.Proofs.Ytfhphamjalpjpaa
