/-
  The contract of a tree's Write; numbers brought within bounds.
-/
import Derived.Test.YtiedobpgfhmidaaKnown
import Derived.Test.YtiedobpgfhmidaaOpsC
namespace Go.Proofs.Ytiedobpgfhmidaa
open Go.RowKit Go.Maps

theorem In.keep {W W' : World} {a : Option Addr} {n cap : Nat} {g : Nat → Int} (h : In W a n cap g) (k : ∀ b : Nat, b < W.heap.size → W'.heap[b]? = W.heap[b]?) : In W' a n cap g := fun hn => by
  obtain ⟨sb, so, h1, h2, h3⟩ := h hn
  exact ⟨sb, so, h1, fun j hj => (cell_same (k sb (h2.lt hn)) _).trans (h2 j hj), h3⟩
set_option maxHeartbeats 400000 in
theorem within_any (v hi : Int) (w : World) (h0 : 0 ≤ hi) (h1 : hi ≤ 1000) :
    Calls Try.prog 24 #[.int .i64 v, .int .i64 0, .int .i64 hi] w fun e w' => (∃ r : Nat, (r : Int) ≤ hi ∧ e = .returned (I (r : Int))) ∧ w' = w := by
  have t1 : v.tmod (hi + 1) < hi + 1 := Int.tmod_lt_of_pos v (by omega)
  have t2 : -(hi + 1) < v.tmod (hi + 1) := by
    have h := Int.tmod_lt_of_pos (-v) (show 0 < hi + 1 by omega)
    rw [Int.neg_tmod] at h
    omega
  have t3 : ¬ hi + 1 = 0 := by omega
  by_cases hn : v.tmod (hi + 1) < 0
  · go_enter Try.func24, Try.ntmps24
    go_wp2
    go_ret
    refine ⟨⟨(v.tmod (hi + 1) + hi + 1).toNat, by omega, ?_⟩, rfl⟩
    rw [Int.toNat_of_nonneg (by omega)]
    rfl
  · go_enter Try.func24, Try.ntmps24
    go_wp2
    go_ret
    refine ⟨⟨(v.tmod (hi + 1)).toNat, by omega, ?_⟩, rfl⟩
    rw [Int.toNat_of_nonneg (by omega)]
    rfl
section
variable {lo N : Nat} {W W' : World} {t : Nat} {T : Tr} {q p : Nat} {nb : Int → Nat} {ev : Int → Value} {B : Nat}
theorem drewN_add (w : World) (k j : Nat) : (w.drewN k).drewN j = w.drewN (k + j) := by simp [World.drewN, Nat.add_assoc]
theorem writeS_len (s : S) (f a : Int) (n : Nat) (g : Nat → Int) : (writeS s f a n g).fs.length = s.fs.length := by
  simp only [writeS]
  repeat' split
  all_goals simp [S.put]
theorem Wf.pool {T : Tr} (hw : Wf B T) {s : S} (hs : s.fs.length ≤ B) : Wf B { T with pool := s } :=
  ⟨⟨hw.k.key, hw.k.srt, hw.k.liv, hw.k.made, hw.k.bnd, hw.k.nam, hw.k.txt, hw.k.fil, hw.k.knd, hw.k.upw, hw.k.num, hs, hw.k.mst⟩, hw.root, hw.one, hw.upd, hw.emp, fun n x hx hk => by
    obtain ⟨l, hl⟩ := hw.chn n x hx hk
    exact ⟨l, Ab.congr (T := T) (T' := { T with pool := s }) (fun _ => True) (fun _ _ => rfl) (fun _ _ _ => trivial) trivial hl⟩, hw.alv⟩
set_option maxRecDepth 100000 in
set_option maxHeartbeats 1000000 in
theorem twrite_Q (h : Tq lo N W t T B) (hB : B ≤ 880) {n : Int} (hn : (kl n).wf = true) (a : Int) (ha : (kl a).wf = true) (ad : Option Addr) (m cap : Nat) (g : Nat → Int) (hi : In W ad m cap g) :
    Calls Try.prog 25 #[P0 t, I n, I a, .slice ad m cap] W fun e w' => e = .returned (I (writeE T.pool (T.fileOf n) a m)) ∧ Hid (Tq lo N w' t { T with pool := writeS T.pool (T.fileOf n) a m g } B) ∧ Hid (Tx lo W w') := by
  obtain ⟨⟨q, p, nb, ev, h1⟩, h2⟩ := h
  obtain ⟨c0, c1, c2, c3, cf⟩ := h1.cells
  have hfw : (kl (T.fileOf n)).wf = true := by
    simp only [Tr.fileOf]
    cases hx : T.nd n with
    | none => exact wf_of (by simp)
    | some x => exact wf_of (by have := h2.k.fil n x hx; have := h2.k.made; simp only; omega)
  have HW : Hid (∀ k, Calls Try.prog 44 #[P0 p, I (T.fileOf n), I a, .slice ad m cap] (W.drewN k) fun e w' => e = .returned (I (writeE T.pool (T.fileOf n) a m)) ∧ Hid (Tq lo N w' t { T with pool := writeS T.pool (T.fileOf n) a m g } B) ∧ Hid (Tx lo W w')) := fun k => by
    have hk := h1.below (below_n W k)
    refine (write_any hk.pl hfw a ha ad m cap g (hi.keep fun b _ => rfl)).mono ?_
    rintro e w' ⟨e1, P1, nx⟩
    obtain ⟨T1, X1⟩ := hk.poolT P1 nx
    exact ⟨e1, ⟨⟨q, p, nb, ev, T1⟩, h2.pool (by rw [writeS_len]; exact h2.k.pol)⟩, (Tx.of_below (below_n W k) h1.bd.2.2.1).trans X1⟩
  have HF : Hid (∀ k, Calls Try.prog 45 #[P0 t, I n] (W.drewN k) fun e w' => e = .returned (I (T.fileOf n)) ∧ ∃ j, w' = W.drewN j) := fun k => (file_of (h1.below (below_n W k)) hn).mono fun e w' ⟨e1, j, e2⟩ => ⟨e1, k + j, by rw [e2, drewN_add]⟩
  obtain ⟨fl, hfl⟩ : ∃ fl, fl = T.fileOf n := ⟨_, rfl⟩
  obtain ⟨E, hE⟩ : ∃ E, E = writeE T.pool (T.fileOf n) a m := ⟨_, rfl⟩
  rw [← hE] at HW ⊢
  rw [← hfl] at HW HF ⊢
  clear h1 h2 hfl hE c0 c1 c2 hi hfw
  go_enter Try.func25, Try.ntmps25
  go_wp2_with fail
  go_region_with (first
    | (go_at_call 45; refine (unhide HF 1).mono ?_; rintro e w1 ⟨rfl, j, rfl⟩)
    | (go_at_call 44; refine (unhide HW _).mono ?_; rintro e w2 ⟨rfl, F1, F2⟩))
  all_goals
    go_wp2_with fail
    go_ret
    exact ⟨rfl, F1, F2⟩
end
end Go.Proofs.Ytiedobpgfhmidaa
