/-
  Items: what Right, Encode and Decode answer, as pure functions.
-/
import Derived.Test.YtcopjhidijhlaaaCBackP
namespace Go.Proofs.Ytcopjhidijhlaaa.Cl
open Go.RowKit

theorem ccr_01 (x : Cc) : 0 ≤ x.right ∧ x.right ≤ 3 := by
  unfold Cc.right
  repeat' split
  all_goals decide
/-- An item. -/
structure It where
  kind : Int
  thread : Int
  n : Int
  c : Cc
def It.cs (x : It) (d : Value) : Array Value := #[I x.kind, I x.thread, I x.n, I x.c.op, S x.c.path, S x.c.dst, I x.c.fd, I x.c.fl, I x.c.mo, I x.c.n, I x.c.m, d]
def it0 : It := ⟨0, 0, 0, cc0⟩
/-- Is there nothing in the call? -/
def Cc.bare (x : Cc) : Bool := (x.op == 0) && (x.path.isEmpty && (x.dst.isEmpty && ((x.fd == 0) && ((x.fl == 0) && ((x.mo == 0) && ((x.n == 0) && ((x.m == 0) && x.data.isEmpty)))))))
/-- Why an item can't be written. -/
def It.right (x : It) : Int :=
  if x.thread < 0 ∨ 255 < x.thread ∨ x.n < 0 ∨ 65535 < x.n then 1
  else if x.kind = 1 then (if x.n = 0 then x.c.right else 1)
  else if x.kind = 2 ∨ x.kind = 3 then (if x.thread = 0 ∧ x.c.bare = true then 0 else 1) else 1
/-- An item's bytes. -/
def It.enc (x : It) : List UInt8 := if x.kind = 1 then be 1 x.kind ++ (be 1 x.thread ++ x.c.enc) else be 1 x.kind ++ be 2 x.n
def encs (l : List It) : List UInt8 := l.flatMap It.enc
/-- The first refusal. -/
def whys : List It → Int
  | [] => 0
  | x :: l => if x.right ≠ 0 then x.right else whys l
/-- The item with which b begins, and how many bytes are its. -/
def fone (b : List UInt8) : It × Nat :=
  match b with
  | [] => (it0, 0)
  | k :: r =>
    if k.toNat = 1 then
      match r with
      | [] => (it0, b.length)
      | t :: q => if dwhy q = 0 then (⟨1, t.toNat, 0, dcc q⟩, 2 + (q.length - (q9 q).1.length)) else (it0, b.length)
    else if k.toNat = 2 ∨ k.toNat = 3 then
      match r with
      | h :: l :: _ => (⟨k.toNat, 0, (h.toNat * 256 + l.toNat : Nat), cc0⟩, 3)
      | _ => (it0, b.length)
    else (it0, 1)
def decs : Nat → List UInt8 → List It
  | 0, _ => []
  | _ + 1, [] => []
  | k + 1, c :: r => (fone (c :: r)).1 :: decs k ((c :: r).drop (fone (c :: r)).2)

theorem It.right_01 (x : It) : 0 ≤ x.right ∧ x.right ≤ 3 := by
  unfold It.right
  have := ccr_01 x.c
  repeat' split
  all_goals omega
theorem It.right_ok {x : It} (h : x.right = 0) : (0 ≤ x.thread ∧ x.thread ≤ 255) ∧ (0 ≤ x.n ∧ x.n ≤ 65535) ∧ ((x.kind = 1 ∧ x.n = 0 ∧ x.c.right = 0) ∨ ((x.kind = 2 ∨ x.kind = 3) ∧ x.thread = 0 ∧ x.c.bare = true)) := by
  unfold It.right at h
  split at h
  · omega
  · split at h
    · split at h
      · exact ⟨by omega, by omega, .inl ⟨by assumption, by assumption, h⟩⟩
      · omega
    · split at h
      · split at h
        · rename_i h1 h2 h3 h4
          exact ⟨by omega, by omega, .inr ⟨h3, h4.1, h4.2⟩⟩
        · omega
      · omega
theorem Cc.bare_eq {x : Cc} (h : x.bare = true) : x = cc0 := by
  obtain ⟨op, path, dst, fd, fl, mo, n, m, data⟩ := x
  simp [Cc.bare] at h
  simp [cc0, h]
theorem cc0_bare : cc0.bare = true := rfl
theorem whys_01 (l : List It) : 0 ≤ whys l ∧ whys l ≤ 3 := by
  induction l with
  | nil => simp [whys]
  | cons x l ih =>
    unfold whys
    have := x.right_01
    split <;> omega
theorem whys_ok {l : List It} (h : whys l = 0) : ∀ x ∈ l, x.right = 0 := by
  induction l with
  | nil => intro x hx; cases hx
  | cons y l ih =>
    unfold whys at h
    split at h
    · contradiction
    · rename_i h1
      intro x hx
      rcases List.mem_cons.1 hx with rfl | hx
      · simpa using h1
      · exact ih h x hx
theorem whys_of {l : List It} (h : ∀ x ∈ l, x.right = 0) : whys l = 0 := by
  induction l with
  | nil => rfl
  | cons y l ih =>
    unfold whys
    rw [if_neg (by simpa using h y (by simp))]
    exact ih fun x hx => h x (by simp [hx])
theorem whys_at {l : List It} {k : Nat} {x : It} (hk : l[k]? = some x) (h : ∀ j y, j < k → l[j]? = some y → y.right = 0) (hx : x.right ≠ 0) : whys l = x.right := by
  induction l generalizing k with
  | nil => simp at hk
  | cons y l ih =>
    unfold whys
    cases k with
    | zero =>
      simp at hk
      subst hk
      rw [if_pos hx]
    | succ k =>
      rw [if_neg (by simpa using h 0 y (by omega) rfl)]
      exact ih (by simpa using hk) fun j z hj hz => h (j + 1) z (by omega) (by simpa using hz)
theorem encs_snoc (l : List It) (x : It) : encs (l ++ [x]) = encs l ++ x.enc := by simp [encs]
theorem encs_app (l m : List It) : encs (l ++ m) = encs l ++ encs m := by simp [encs]
theorem encs_cons (x : It) (l : List It) : encs (x :: l) = x.enc ++ encs l := by simp [encs]
theorem encs_take {l : List It} {k : Nat} {x : It} (h : l[k]? = some x) : encs (l.take (k + 1)) = encs (l.take k) ++ x.enc := by
  rw [List.take_add_one, h, encs_app]
  simp [encs]
theorem It.enc_len {x : It} (h : x.right = 0) : x.enc.length ≤ 12029 ∧ 3 ≤ x.enc.length := by
  obtain ⟨-, -, ⟨h1, -, h2⟩ | ⟨h1, -⟩⟩ := It.right_ok h
  · obtain ⟨-, -, l1, l2, l3⟩ := Cc.right_ok h2
    have := x.c.enc_len
    unfold It.enc
    rw [if_pos h1]
    simp [be_len]
    omega
  · unfold It.enc
    rw [if_neg (by omega)]
    simp [be_len]
theorem encs_len {l : List It} (h : ∀ x ∈ l, x.right = 0) : (encs l).length ≤ 12029 * l.length := by
  induction l with
  | nil => simp [encs]
  | cons x l ih =>
    have h1 := It.enc_len (h x (by simp))
    have h2 := ih fun y hy => h y (by simp [hy])
    rw [encs_cons, List.length_append, List.length_cons]
    omega
theorem fone_le (b : List UInt8) : (fone b).2 ≤ b.length := by
  unfold fone
  repeat' split
  all_goals simp_all
  all_goals omega
theorem fone_pos (c : UInt8) (r : List UInt8) : 0 < (fone (c :: r)).2 := by
  unfold fone
  repeat' split
  all_goals simp_all
  all_goals (try omega)
theorem decs_nil (k : Nat) : decs k [] = [] := by cases k <;> rfl
theorem decs_len (k : Nat) : ∀ b : List UInt8, (decs k b).length ≤ k ∧ (decs k b).length ≤ b.length := by
  induction k with
  | zero => intro b; simp [decs]
  | succ k ih =>
    intro b
    cases b with
    | nil => simp [decs]
    | cons c r =>
      have h1 := ih ((c :: r).drop (fone (c :: r)).2)
      have h2 := fone_pos c r
      have h3 := fone_le (c :: r)
      simp only [decs, List.length_cons, List.length_drop] at h1 h3 ⊢
      omega
end Go.Proofs.Ytcopjhidijhlaaa.Cl
