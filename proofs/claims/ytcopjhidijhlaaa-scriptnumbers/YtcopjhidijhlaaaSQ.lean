/-
  What is written is read, what is cut off, what stands behind: plain reasoning on items.
-/
import Derived.Test.YtcopjhidijhlaaaSP
namespace Go.Proofs.Ytcopjhidijhlaaa.Cl
open Go.RowKit

theorem dwhy_zero {q : List UInt8} (h : dwhy q = 0) : (q9 q).2 = false ∧ (dcc q).right = 0 := by
  unfold dwhy at h
  cases hq : (q9 q).2 with
  | false =>
    rw [hq] at h
    simpa using h
  | true => rw [hq] at h; simp at h
theorem be1_eq (n : Int) : be 1 n = [byt n 0] := by simp [be]
theorem be2_eq (n : Int) : be 2 n = [byt n 1, byt n 0] := by simp [be]
theorem byt0 (n : Int) (h0 : 0 ≤ n) (h1 : n ≤ 255) : ((byt n 0).toNat : Int) = n := by
  rw [byt_val]
  simp
  omega
theorem byt0_nat (n : Int) (h0 : 0 ≤ n) (h1 : n ≤ 255) : (byt n 0).toNat = n.toNat := by
  have := byt0 n h0 h1
  omega
/-- What is written is read, whatever stands behind it. -/
theorem fone_enc (x : It) (hr : x.right = 0) (m : List UInt8) : fone (x.enc ++ m) = (x, x.enc.length) := by
  obtain ⟨kd, th, n, c⟩ := x
  obtain ⟨h1, h2, hc⟩ := It.right_ok hr
  simp only at h1 h2 hc
  rcases hc with ⟨rfl, rfl, hcr⟩ | ⟨hk, rfl, hb⟩
  · have e : (It.mk 1 th 0 c).enc = byt 1 0 :: byt th 0 :: c.enc := by
      unfold It.enc
      rw [if_pos rfl, be1_eq, be1_eq]
      rfl
    obtain ⟨d1, d2⟩ := dec_enc c hcr m
    have dw : dwhy (c.enc ++ m) = 0 := by
      unfold dwhy
      rw [d1, d2, hcr]
      rfl
    have hk1 : (byt 1 0).toNat = 1 := byt0_nat 1 (by omega) (by omega)
    rw [e]
    show fone (byt 1 0 :: byt th 0 :: (c.enc ++ m)) = _
    unfold fone
    simp only [hk1, if_true, dw, d1, d2]
    refine Prod.ext ?_ ?_
    · simp only [It.mk.injEq, true_and, and_true]
      exact byt0 th h1.1 h1.2
    · simp
      omega
  · obtain rfl := Cc.bare_eq hb
    have e : (It.mk kd 0 n cc0).enc = [byt kd 0, byt n 1, byt n 0] := by
      unfold It.enc
      rw [if_neg (by simp only; omega), be1_eq, be2_eq]
      rfl
    have hk1 : (byt kd 0).toNat = kd.toNat := byt0_nat kd (by omega) (by omega)
    have hn : (byt n 1).toNat * 256 + (byt n 0).toNat = n.toNat := by
      have a1 := byt_val n 1
      have a0 := byt_val n 0
      simp at a1 a0
      omega
    rw [e]
    show fone (byt kd 0 :: byt n 1 :: byt n 0 :: m) = _
    unfold fone
    simp only [hk1]
    rw [if_neg (by omega), if_pos (by omega)]
    simp only [hn]
    refine Prod.ext ?_ (by simp)
    simp only [It.mk.injEq, true_and, and_true]
    omega
theorem enc_ne {x : It} (hr : x.right = 0) : x.enc ≠ [] := by
  intro h
  have := It.enc_len hr
  rw [h] at this
  simp at this
theorem decs_cons (k : Nat) (x : It) (hr : x.right = 0) (m : List UInt8) : decs (k + 1) (x.enc ++ m) = x :: decs k m := by
  have hf := fone_enc x hr m
  obtain ⟨c, r, hcr⟩ : ∃ c r, x.enc ++ m = c :: r := by
    cases h : x.enc with
    | nil => exact absurd h (enc_ne hr)
    | cons c r => exact ⟨c, r ++ m, rfl⟩
  rw [hcr] at hf ⊢
  simp only [decs, hf]
  rw [← hcr, List.drop_left]
/-- A script that is written is read as itself, whatever stands behind it. -/
theorem dec_encs (l : List It) : ∀ (k : Nat) (m : List UInt8), (∀ x ∈ l, x.right = 0) → l.length ≤ k → decs k (encs l ++ m) = l ++ decs (k - l.length) m := by
  induction l with
  | nil => intro k m _ _; simp [encs]
  | cons x l ih =>
    intro k m h hk
    obtain ⟨k, rfl⟩ : ∃ k', k = k' + 1 := ⟨k - 1, by simp at hk; omega⟩
    rw [encs_cons, List.append_assoc, decs_cons k x (h x (by simp)), ih k m (fun y hy => h y (by simp [hy])) (by simpa using hk)]
    simp
theorem fone_right (b : List UInt8) (h : (fone b).1.kind ≠ 0) : (fone b).1.right = 0 := by
  unfold fone at h ⊢
  split
  · simp [it0] at h
  · rename_i k r
    simp only at h
    split
    · rename_i hk
      rw [if_pos hk] at h
      cases r with
      | nil => simp [it0] at h
      | cons t q =>
        simp only at h ⊢
        split
        · rename_i hd
          have ht := t.toNat_lt
          unfold It.right
          rw [if_neg (by simp only; omega), if_pos rfl, if_pos rfl]
          exact (dwhy_zero hd).2
        · rename_i hd
          rw [if_neg hd] at h
          simp [it0] at h
    · rename_i hk
      rw [if_neg hk] at h
      split
      · rename_i hk2
        rw [if_pos hk2] at h
        match r with
        | [] => simp [it0] at h
        | [_] => simp [it0] at h
        | t :: u :: q =>
          have ht := t.toNat_lt
          have hu := u.toNat_lt
          simp only
          unfold It.right
          rw [if_neg (by simp only; omega), if_neg (by simp only; omega), if_pos (by simp only; omega), if_pos ⟨rfl, cc0_bare⟩]
      · rename_i hk2
        rw [if_neg hk2] at h
        simp [it0] at h
theorem decs_right (k : Nat) : ∀ (b : List UInt8), ∀ x ∈ decs k b, x.kind ≠ 0 → x.right = 0 := by
  induction k with
  | zero => intro b x hx; simp [decs] at hx
  | succ k ih =>
    intro b x hx hk
    cases b with
    | nil => simp [decs] at hx
    | cons c r =>
      simp only [decs, List.mem_cons] at hx
      rcases hx with rfl | hx
      · exact fone_right _ hk
      · exact ih _ x hx hk
theorem right_kind {x : It} (h : x.right = 0) : x.kind ≠ 0 := by
  obtain ⟨-, -, h | h⟩ := It.right_ok h <;> omega
/-- An item that is cut off is none. -/
theorem fone_cut (x : It) (hr : x.right = 0) (k : Nat) (h0 : 0 < k) (h1 : k < x.enc.length) : fone (x.enc.take k) = (it0, k) := by
  obtain ⟨kd, th, n, c⟩ := x
  obtain ⟨g1, g2, hc⟩ := It.right_ok hr
  simp only at g1 g2 hc
  rcases hc with ⟨rfl, rfl, hcr⟩ | ⟨hk, rfl, hb⟩
  · have e : (It.mk 1 th 0 c).enc = byt 1 0 :: byt th 0 :: c.enc := by
      unfold It.enc
      rw [if_pos rfl, be1_eq, be1_eq]
      rfl
    have hk1 : (byt 1 0).toNat = 1 := byt0_nat 1 (by omega) (by omega)
    rw [e] at h1 ⊢
    simp at h1
    match k, h0 with
    | 1, _ =>
      show fone [byt 1 0] = _
      unfold fone
      simp only [hk1, if_true]
      rfl
    | k + 2, _ =>
      have hd : dwhy (c.enc.take k) = 10 := dec_cut c hcr _ (c.enc.drop k) (List.take_append_drop ..) (by
        intro e
        have := congrArg List.length e
        rw [List.length_drop, List.length_nil] at this
        omega)
      show fone (byt 1 0 :: byt th 0 :: c.enc.take k) = _
      unfold fone
      simp only [hk1, if_true, hd]
      rw [if_neg (by decide)]
      simp
      omega
  · have e : (It.mk kd 0 n c).enc = [byt kd 0, byt n 1, byt n 0] := by
      unfold It.enc
      rw [if_neg (by simp only; omega), be1_eq, be2_eq]
      rfl
    have hk1 : (byt kd 0).toNat = kd.toNat := byt0_nat kd (by omega) (by omega)
    rw [e] at h1 ⊢
    simp at h1
    match k, h0, h1 with
    | 1, _, _ =>
      show fone [byt kd 0] = _
      unfold fone
      simp only [hk1]
      rw [if_neg (by omega), if_pos (by omega)]
      rfl
    | 2, _, _ =>
      show fone [byt kd 0, byt n 1] = _
      unfold fone
      simp only [hk1]
      rw [if_neg (by omega), if_pos (by omega)]
      rfl
theorem decs_one (k : Nat) (b : List UInt8) (h : b ≠ []) (hf : fone b = (it0, b.length)) : decs (k + 1) b = [it0] := by
  cases b with
  | nil => exact absurd rfl h
  | cons c r =>
    simp only [decs, hf]
    rw [List.drop_length, decs_nil]
/-- A script's bytes that are cut off. -/
theorem cut_dec (l : List It) : ∀ (K k : Nat), (∀ x ∈ l, x.right = 0) → l.length < K → k ≤ (encs l).length →
    ∃ j, j ≤ l.length ∧ (decs K ((encs l).take k) = l.take j ∨ decs K ((encs l).take k) = l.take j ++ [it0]) ∧ (k = (encs l).length → j = l.length) := by
  induction l with
  | nil => intro K k _ _ hk; exact ⟨0, Nat.le_refl _, .inl (by simp [encs, decs_nil]), fun _ => rfl⟩
  | cons x l ih =>
    intro K k h hK hk
    obtain ⟨K, rfl⟩ : ∃ K', K = K' + 1 := ⟨K - 1, by omega⟩
    have hx := h x (by simp)
    rw [encs_cons] at hk ⊢
    rw [List.length_append] at hk ⊢
    rcases Nat.lt_or_ge k x.enc.length with hlt | hge
    · refine ⟨0, by omega, ?_, fun e => by omega⟩
      rw [List.take_append_of_le_length (by omega)]
      rcases Nat.eq_zero_or_pos k with rfl | hpos
      · left; simp [decs]
      · right
        have hf := fone_cut x hx k hpos hlt
        rw [decs_one K _ (by
          intro e
          have := congrArg List.length e
          rw [List.length_take, List.length_nil] at this
          omega) (by rw [hf, List.length_take, Nat.min_eq_left (by omega)])]
        simp
    · obtain ⟨j, h1, h2, h3⟩ := ih K (k - x.enc.length) (fun y hy => h y (by simp [hy])) (by simp at hK; omega) (by omega)
      rw [List.take_append, List.take_of_length_le hge, decs_cons K x hx]
      refine ⟨j + 1, by simp; omega, ?_, fun e => by simp; exact h3 (by omega)⟩
      rcases h2 with h2 | h2
      · left; rw [h2]; rfl
      · right; rw [h2]; rfl
theorem decs_more (K : Nat) : ∀ (K' : Nat) (b : List UInt8), b.length ≤ K → b.length ≤ K' → decs K b = decs K' b := by
  induction K with
  | zero =>
    intro K' b h _
    obtain rfl := List.eq_nil_of_length_eq_zero (by omega : b.length = 0)
    rw [decs_nil, decs_nil]
  | succ K ih =>
    intro K' b h h'
    cases b with
    | nil => rw [decs_nil, decs_nil]
    | cons c r =>
      obtain ⟨K', rfl⟩ : ∃ k, K' = k + 1 := ⟨K' - 1, by simp at h'; omega⟩
      simp only [decs]
      have hp := fone_pos c r
      rw [ih K' _ (by rw [List.length_drop]; simp at h ⊢; omega) (by rw [List.length_drop]; simp at h' ⊢; omega)]
end Go.Proofs.Ytcopjhidijhlaaa.Cl
