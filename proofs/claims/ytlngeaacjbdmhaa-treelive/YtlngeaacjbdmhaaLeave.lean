/-
  The contracts of leave, Hold and Loose.
-/
import Derived.Test.YtlngeaacjbdmhaaAdd
import Derived.Deep.RegionWith
namespace Go.Proofs.Ytlngeaacjbdmhaa
open Go.RowKit Go.Maps

section
variable {lo N : Nat} {W W' : World} {t : Nat} {T : Tr} {q p : Nat} {nb : Int → Nat} {ev : Int → Value} {B : Nat}
/-- A node less. -/
theorem TrI.gone (h : TrI lo N W t T q p nb ev) {n : Int} (hm : Mp W' q (T.made + 1) (upd (fun k => if (T.nd k).isSome = true then some (P0 (nb k)) else none) n none)) (F : Fr [q] W W') : TrI lo N W' t (T.set n none) q p nb ev ∧ Tx lo W W' := by
  have kc : ∀ (b : Nat) (cs : Array Value) (ty : TypeId) (f : Nat × Nat), W.heap[b]? = some (.cells cs ty f) → W'.heap[b]? = W.heap[b]? := fun b cs ty f e => F.blk b (lt_of_heap e) (by simp only [List.mem_cons, List.not_mem_nil, or_false]; exact fun e2 => map_blk h.hm (by rw [← e2]; exact e))
  have hold : ∀ k x, (T.set n none).nd k = some x → T.nd k = some x := fun k x hk => by
    by_cases e : k = n
    · subst e; rw [Tr.set_same] at hk; cases hk
    · rwa [Tr.set_other _ _ e] at hk
  refine ⟨⟨(kc _ _ _ _ h.ht).trans h.ht, hm.congr fun k => ?_, fun k x hk => ⟨(kc _ _ _ _ (h.hn k x (hold k x hk)).1).trans (h.hn k x (hold k x hk)).1, (h.hn k x (hold k x hk)).2.same fun g hg => ?_⟩, fun j k x y hj hk => h.dn j k x y (hold j x hj) (hold k y hk), ?_, ⟨h.bd.1, h.bd.2.1, Nat.le_trans h.bd.2.2.1 F.size, fun k x hk => h.bd.2.2.2 k x (hold k x hk)⟩⟩, ⟨F.base h.bd.2.2.1 (by simp; exact h.bd.2.1), fun b cs ty f e _ _ _ _ _ => (kc b cs ty f e).trans e⟩⟩
  · simp only [upd]
    by_cases e : k = n
    · subst e; simp [Tr.set]
    · simp [Tr.set, e]
  · obtain ⟨_, cur, hc⟩ := (h.hn k x (hold k x hk)).2.blk hg
    exact kc _ _ _ _ hc
  · exact h.pl.keepK F.size (fun b es k e hK => F.blk b (lt_of_heap e) (by simpa using hK)) fun b cs ty f e _ => kc b cs ty f e
set_option maxRecDepth 100000 in
set_option maxHeartbeats 1000000 in
theorem leave_any (h : TrI lo N W t T q p nb ev) (hB : B ≤ 900) {n : Int} {x : Nd} (hn : (kl n).wf = true) (hx : T.nd n = some x) (hf : 0 ≤ x.file ∧ x.file ≤ B) :
    Calls Try.prog 34 #[P0 t, I n] W fun e w' => e = .returned (.tuple #[]) ∧ TrI lo N w' t (T.leave n) q p nb ev ∧ Tx lo W w' := by
  obtain ⟨c0, c1, c2, c3, cf⟩ := h.cells
  have hl := h.look hn
  rw [hx] at hl
  simp only [Option.isSome_some, if_true] at hl
  obtain ⟨-, -, -, -, d4, d5, -, -, d8, -, df⟩ := ndcells (h.hn n x hx).1
  have hlo := h.bd.2.2.1
  by_cases hk : 0 < x.names ∨ 0 < x.holds
  · have e : T.leave n = T := by simp [Tr.leave, hx, hk]
    rw [e]
    have HH := hide h
    obtain ⟨m, hm⟩ : ∃ m : Int, m = (x.names : Int) := ⟨_, rfl⟩
    obtain ⟨k, hk2⟩ : ∃ k : Int, k = (x.holds : Int) := ⟨_, rfl⟩
    rw [← hm] at d4
    rw [← hk2] at d5
    by_cases hk1 : 0 < x.names
    · have g1 : (0 : Int) < m := by omega
      clear h hx e hm hk2 hk hk1 hf hB c0 c1 c3
      go_enter Try.func34, Try.ntmps34
      go_wp2_with fail
      refine bodyPost_ret (results_none rfl _ _ _) rfl ?_
      exact ⟨rfl, unhide HH, .refl hlo⟩
    · have g1 : m = 0 := by omega
      have g2 : (0 : Int) < k := by omega
      subst g1
      clear h hx e hk hk1 hk2 hf hB c0 c1 c3
      go_enter Try.func34, Try.ntmps34
      go_wp2_with fail
      refine bodyPost_ret (results_none rfl _ _ _) rfl ?_
      exact ⟨rfl, unhide HH, .refl hlo⟩
  · have e : T.leave n = ({ T with pool := dropS T.pool x.file } : Tr).set n none := by simp [Tr.leave, hx, hk, Tr.set]
    rw [e]
    have g1 : (x.names : Int) = 0 := by omega
    have g2 : (x.holds : Int) = 0 := by omega
    rw [g1] at d4
    rw [g2] at d5
    have hd := h.below (below_drew (Below.refl _ W))
    have HD := drop_any hd.pl (f := x.file) (wf_of (by omega))
    have HDD : Hid (Calls Try.prog 48 #[P0 p, I x.file] W.drew fun e w' => e = .returned (I (dropE T.pool x.file)) ∧ (w'.cell? ⟨t, 2, none⟩ = some (.map (some q))) ∧ ∃ V, (∀ ty, (Builtin.delete_ #[55, 3] ty #[.map (some q), I n]).run Try.prog w' = .ok (.tuple #[]) V) ∧ Hid (TrI lo N V t (({ T with pool := dropS T.pool x.file } : Tr).set n none) q p nb ev ∧ Tx lo W V)) := by
      refine HD.mono ?_
      rintro e1 w1 ⟨h1, P1, nx⟩
      obtain ⟨T1, X1⟩ := hd.poolT P1 nx
      replace X1 := (Tx.of_below (below_drew (Below.refl _ W)) hlo).trans X1
      obtain ⟨V, hrun, M2, F2, _⟩ := T1.hm.drop htN hn 0
      refine ⟨h1, T1.cells.2.2.1, V, fun ty => by rw [← hrun]; rfl, ?_⟩
      obtain ⟨T2, X2⟩ := T1.gone M2 F2
      exact ⟨T2, X1.trans X2⟩
    clear h hx e hk HD g1 g2 hf hB c0 c1 hd
    go_enter Try.func34, Try.ntmps34
    go_wp2_with fail
    go_region_with (go_at_call 48; refine (unhide HDD).mono ?_; rintro e w1 ⟨rfl, y2, V, hrun, FF⟩)
    all_goals
      go_wp2_with fail
      go_end0
      exact ⟨rfl, unhide FF⟩
set_option maxRecDepth 100000 in
set_option maxHeartbeats 1000000 in
theorem hold_any (h : TrI lo N W t T q p nb ev) {n : Int} (hn : (kl n).wf = true) (hb : ∀ x, T.nd n = some x → x.holds < 900) :
    Calls Try.prog 11 #[P0 t, I n] W fun e w' => e = .returned (I (T.holdE n)) ∧ ∃ ev', TrI lo N w' t (T.hold n) q p nb ev' ∧ Tx lo W w' := by
  obtain ⟨c0, c1, c2, c3, cf⟩ := h.cells
  have hl := h.look_ok hn
  have hlo := h.bd.2.2.1
  have HH := hide h
  unfold Tr.holdE Tr.hold
  cases hx : T.nd n with
  | none =>
    rw [hx] at hl
    simp only [Option.isSome_none, Bool.false_eq_true, if_false] at hl
    clear h hx
    go_enter Try.func11, Try.ntmps11
    go_wp2_with fail
    go_ret
    exact ⟨rfl, ev, unhide HH, .refl hlo⟩
  | some x =>
    dsimp only
    rw [hx] at hl
    simp only [Option.isSome_some, if_true] at hl
    have hbx := (h.hn n x hx).1
    obtain ⟨-, -, -, -, -, d5, -, -, -, -, df⟩ := ndcells hbx
    have hlt := hb x hx
    have FIN : Hid (∃ ev', TrI lo N (W.setCell ⟨nb n, 5, none⟩ (I ((x.holds : Int) + 1))) t (T.set n (some { x with holds := x.holds + 1 })) q p nb ev' ∧ Tx lo W (W.setCell ⟨nb n, 5, none⟩ (I ((x.holds : Int) + 1)))) := by
      obtain ⟨T6, X6⟩ := h.turn (y := { x with holds := x.holds + 1 }) (v := ev n) hx (W' := W.setCell ⟨nb n, 5, none⟩ (I ((x.holds : Int) + 1))) ((Fn.refl _ _ _).set 5 _) (by rw [heap_set hbx]; simp [ndC]) ((h.hn n x hx).2.same fun g hg => Below.heap_setCell _ _ _ _ (fun e => by obtain ⟨_, cur, hc⟩ := (h.hn n x hx).2.blk hg; rw [show g = nb n from e, hbx] at hc; simp [ndC] at hc)) (.inl rfl)
      exact ⟨_, T6, X6⟩
    obtain ⟨m, hm⟩ : ∃ m, m = x.holds := ⟨_, rfl⟩
    rw [← hm] at d5 hlt FIN
    have hm1 : (m : Int) < 900 := by omega
    rw [← hm]
    clear h hx hbx hb hm
    go_enter Try.func11, Try.ntmps11
    go_wp2_with fail
    go_ret
    exact ⟨rfl, unhide FIN⟩
set_option maxRecDepth 100000 in
set_option maxHeartbeats 1000000 in
theorem loose_any (h : TrI lo N W t T q p nb ev) (hB : B ≤ 900) {n : Int} (hn : (kl n).wf = true) (hb : ∀ x, T.nd n = some x → x.holds < 900 ∧ 0 ≤ x.file ∧ x.file ≤ B) :
    Calls Try.prog 12 #[P0 t, I n] W fun e w' => e = .returned (I (T.looseE n)) ∧ ∃ ev', TrI lo N w' t (T.loose n) q p nb ev' ∧ Tx lo W w' := by
  obtain ⟨c0, c1, c2, c3, cf⟩ := h.cells
  have hl := h.look_ok hn
  have hlo := h.bd.2.2.1
  have HH := hide h
  unfold Tr.looseE Tr.loose
  cases hx : T.nd n with
  | none =>
    rw [hx] at hl
    simp only [Option.isSome_none, Bool.false_eq_true, if_false] at hl
    clear h hx
    go_enter Try.func12, Try.ntmps12
    go_wp2_with fail
    go_ret
    exact ⟨rfl, ev, unhide HH, .refl hlo⟩
  | some x =>
    dsimp only
    rw [hx] at hl
    simp only [Option.isSome_some, if_true] at hl
    have hbx := (h.hn n x hx).1
    obtain ⟨-, -, -, -, -, d5, -, -, -, -, df⟩ := ndcells hbx
    obtain ⟨hlt, hf1, hf2⟩ := hb x hx
    by_cases hz : x.holds = 0
    · have hz2 : (x.holds : Int) = 0 := by omega
      rw [hz2] at d5
      simp only [if_pos hz]
      clear h hx hbx hz hz2 hb
      go_enter Try.func12, Try.ntmps12
      go_wp2_with fail
      go_ret
      exact ⟨rfl, ev, unhide HH, .refl hlo⟩
    · simp only [if_neg hz]
      have FIN : Hid (Calls Try.prog 34 #[P0 t, I n] (W.setCell ⟨nb n, 5, none⟩ (I ((x.holds : Int) - 1))) fun e w' => e = .returned (.tuple #[]) ∧ ∃ ev', TrI lo N w' t ((T.set n (some { x with holds := x.holds - 1 })).leave n) q p nb ev' ∧ Tx lo W w') := by
        obtain ⟨T6, X6⟩ := h.turn (y := { x with holds := x.holds - 1 }) (v := ev n) hx (W' := W.setCell ⟨nb n, 5, none⟩ (I ((x.holds : Int) - 1))) ((Fn.refl _ _ _).set 5 _) (by rw [heap_set hbx]; simp [ndC]; omega) ((h.hn n x hx).2.same fun g hg => Below.heap_setCell _ _ _ _ (fun e => by obtain ⟨_, cur, hc⟩ := (h.hn n x hx).2.blk hg; rw [show g = nb n from e, hbx] at hc; simp [ndC] at hc)) (.inl rfl)
        refine (leave_any (B := B) T6 hB hn (Tr.set_same _ _ _) ⟨hf1, hf2⟩).mono ?_
        rintro e w' ⟨h1, h2, h3⟩
        exact ⟨h1, _, h2, X6.trans h3⟩
      obtain ⟨m, hm⟩ : ∃ m, m = x.holds := ⟨_, rfl⟩
      rw [← hm] at d5 hlt FIN hz
      have hm1 : (m : Int) < 900 := by omega
      have hm2 : ¬ ((m : Int) = 0) := by omega
      have hm3 : (0 : Int) ≤ (m : Int) := by omega
      rw [← hm]
      clear h hx hbx hb hm hz hlt hf1 hf2 hB c0 c1 c3
      go_enter Try.func12, Try.ntmps12
      go_wp2_with (go_at_call 34; refine (unhide FIN).mono ?_; rintro e w1 ⟨rfl, FF⟩; have HF := hide FF; clear FF)
      go_ret
      exact ⟨rfl, unhide HF⟩
end
end Go.Proofs.Ytlngeaacjbdmhaa
