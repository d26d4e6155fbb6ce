/-
  What is written is read, and what is read is written: plain reasoning on bytes.
-/
import Derived.Test.YtcopjhidijhlaaaCPure
namespace Go.Proofs.Ytcopjhidijhlaaa.Cl
open Go.RowKit

theorem rT_app (t m : List UInt8) (h : t.length < 65536) : rT (txt t ++ m, false) = (m, false) ∧ vT (txt t ++ m, false) = t := by
  obtain ⟨h1, h2⟩ := rN_app (be 2 t.length) (t ++ m)
  rw [be_len] at h1 h2
  have hn : nat (be 2 t.length) = t.length := by
    have := nat_be 2 t.length
    omega
  obtain ⟨h3, -⟩ := rN_app t m
  have e : txt t ++ m = be 2 t.length ++ (t ++ m) := by simp [txt]
  unfold rT vT
  rw [e, h1, h2, hn, h3]
  refine ⟨rfl, ?_⟩
  simp [tkn]
  intro h
  omega
theorem sx_be (n : Int) (h : okN n = true) : sx (nat (be 4 n)) = n := by
  obtain ⟨h1, h2⟩ := okN_true h
  have h3 := nat_be 4 n
  unfold sx
  split <;> omega
theorem Cc.enc_eq (x : Cc) (m : List UInt8) : x.enc ++ m = be 1 x.op ++ (txt x.path ++ (txt x.dst ++ (be 4 x.fd ++ (be 4 x.fl ++ (be 4 x.mo ++ (be 4 x.n ++ (be 4 x.m ++ (txt x.data ++ m)))))))) := by
  simp [Cc.enc, Cc.head, Cc.mid, Cc.num]
/-- A call that is written is read, whatever stands behind it. -/
theorem dec_enc (x : Cc) (hr : x.right = 0) (m : List UInt8) : q9 (x.enc ++ m) = (m, false) ∧ dcc (x.enc ++ m) = x := by
  obtain ⟨⟨o1, o2⟩, hok, l1, l2, l3⟩ := Cc.right_ok hr
  have k0 := Cc.okNs_get hok 0
  have k1 := Cc.okNs_get hok 1
  have k2 := Cc.okNs_get hok 2
  have k3 := Cc.okNs_get hok 3
  have k4 := Cc.okNs_get hok 4
  simp only [Cc.num] at k0 k1 k2 k3 k4
  have e := x.enc_eq m
  obtain ⟨a1, a2⟩ := rN_app (be 1 x.op) (txt x.path ++ (txt x.dst ++ (be 4 x.fd ++ (be 4 x.fl ++ (be 4 x.mo ++ (be 4 x.n ++ (be 4 x.m ++ (txt x.data ++ m))))))))
  obtain ⟨b1, b2⟩ := rT_app x.path (txt x.dst ++ (be 4 x.fd ++ (be 4 x.fl ++ (be 4 x.mo ++ (be 4 x.n ++ (be 4 x.m ++ (txt x.data ++ m))))))) (by omega)
  obtain ⟨c1, c2⟩ := rT_app x.dst (be 4 x.fd ++ (be 4 x.fl ++ (be 4 x.mo ++ (be 4 x.n ++ (be 4 x.m ++ (txt x.data ++ m)))))) (by omega)
  obtain ⟨d1, d2⟩ := rN_app (be 4 x.fd) (be 4 x.fl ++ (be 4 x.mo ++ (be 4 x.n ++ (be 4 x.m ++ (txt x.data ++ m)))))
  obtain ⟨e1, e2⟩ := rN_app (be 4 x.fl) (be 4 x.mo ++ (be 4 x.n ++ (be 4 x.m ++ (txt x.data ++ m))))
  obtain ⟨f1, f2⟩ := rN_app (be 4 x.mo) (be 4 x.n ++ (be 4 x.m ++ (txt x.data ++ m)))
  obtain ⟨g1, g2⟩ := rN_app (be 4 x.n) (be 4 x.m ++ (txt x.data ++ m))
  obtain ⟨h1, h2⟩ := rN_app (be 4 x.m) (txt x.data ++ m)
  obtain ⟨i1, i2⟩ := rT_app x.data m (by omega)
  rw [be_len] at a1 a2 d1 d2 e1 e2 f1 f2 g1 g2 h1 h2
  have ho : ((nat (be 1 x.op) : Nat) : Int) = x.op := by
    have := nat_be 1 x.op
    omega
  refine ⟨?_, ?_⟩
  · simp only [q9, qn, q3, e, a1, b1, c1, d1, e1, f1, g1, h1, i1]
  · obtain ⟨op, path, dst, fd, fl, mo, n, mm, data⟩ := x
    simp only at *
    simp only [dcc, qn, q3, e, a1, a2, b1, b2, c1, c2, d1, d2, e1, e2, f1, f2, g1, g2, h1, h2, i2, ho, sx_be _ k0, sx_be _ k1, sx_be _ k2, sx_be _ k3, sx_be _ k4]
theorem rN_ext (s : Nat) (q : Rs) (m : List UInt8) (h : (rN s q).2 = false) : rN s (q.1 ++ m, false) = ((rN s q).1 ++ m, false) ∧ vN s (q.1 ++ m, false) = vN s q ∧ q.2 = false := by
  by_cases hl : q.1.length < s
  · simp [rN, ctt, hl] at h
  · have hl2 : ¬ q.1.length + m.length < s := by omega
    simp only [rN, ctt, hl, if_false] at h
    refine ⟨?_, ?_, h⟩
    · simp [rN, lft, ctt, hl, hl2, List.drop_append_of_le_length (show s ≤ q.1.length by omega)]
    · simp [vN, tkn, hl, hl2, List.take_append_of_le_length (show s ≤ q.1.length by omega)]
theorem rT_ext (q : Rs) (m : List UInt8) (h : (rT q).2 = false) : rT (q.1 ++ m, false) = ((rT q).1 ++ m, false) ∧ q.2 = false := by
  unfold rT at h ⊢
  obtain ⟨h1, -, h3⟩ := rN_ext _ _ m h
  obtain ⟨h4, h5, h6⟩ := rN_ext _ _ m h3
  rw [h4, h5, h1]
  exact ⟨rfl, h6⟩
theorem qn_ext (b m : List UInt8) (k : Nat) (h : (qn b k).2 = false) : qn (b ++ m) k = ((qn b k).1 ++ m, false) := by
  induction k with
  | zero =>
    simp only [qn, q3] at h ⊢
    obtain ⟨h1, h2⟩ := rT_ext _ m h
    obtain ⟨h3, h4⟩ := rT_ext _ m h2
    obtain ⟨h5, -, -⟩ := rN_ext 1 (b, false) m h4
    rw [h5, h3, h1]
  | succ k ih =>
    simp only [qn] at h ⊢
    obtain ⟨h1, -, h3⟩ := rN_ext 4 _ m h
    rw [ih h3, h1]
theorem q9_ext (b m : List UInt8) (h : (q9 b).2 = false) : q9 (b ++ m) = ((q9 b).1 ++ m, false) := by
  unfold q9 at h ⊢
  obtain ⟨h1, h2⟩ := rT_ext _ m h
  rw [qn_ext b m 5 h2, h1]
/-- A call that is cut off is refused. -/
theorem dec_cut (x : Cc) (hr : x.right = 0) (p m : List UInt8) (h : p ++ m = x.enc) (hm : m ≠ []) : dwhy p = 10 := by
  unfold dwhy
  cases hc : (q9 p).2 with
  | true => simp
  | false =>
    have h1 := q9_ext p m hc
    have h2 := (dec_enc x hr []).1
    rw [h, ← List.append_nil x.enc, h2] at h1
    simp at h1
    exact absurd h1.2 hm
end Go.Proofs.Ytcopjhidijhlaaa.Cl
