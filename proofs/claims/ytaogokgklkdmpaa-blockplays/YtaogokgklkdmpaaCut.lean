/-
  A file that is cut: the contracts of the closure, of maps.DeleteFunc and of cut.
-/
import Derived.Test.YtaogokgklkdmpaaRead
namespace Go.Proofs.Ytaogokgklkdmpaa
open Go.RowKit Go.Maps

/-- The closure: does the block lie wholly behind the size? -/
theorem closure_any (cb : Nat) (s : Nat) (hs : s ≤ 1024) (k : Nat) (hk : k < 64) (R : Array Value) (w : World) (hc : w.cell? ⟨cb, 0, none⟩ = some (I (s : Int))) :
    Calls Try.prog 40 #[I (k : Int), .agg R, P0 cb] w fun e w' => e = .returned (.bool (decide (s ≤ 16 * k))) ∧ Below w.heap.size w w' := by
  have h1 : (s : Int) ≤ 1024 := by omega
  have h2 : (k : Int) < 64 := by omega
  have h3 : cb < w.heap.size := by
    cases Nat.lt_or_ge cb w.heap.size with
    | inl h' => exact h'
    | inr h' => simp [World.cell?, Array.getElem?_eq_none h'] at hc
  have hc2 : ∀ o, (w.alloc o).cell? ⟨cb, 0, none⟩ = some (I (s : Int)) := fun o => by simp [World.cell?, Below.heap_alloc _ _ _ h3]; simpa [World.cell?] using hc
  go_enter Try.func40, Try.ntmps40
  go_wp2_with fail
  go_ret
  refine ⟨?_, (Below.refl _ w).alloc (Nat.le_refl _) _⟩
  have e : (decide ((s : Int) ≤ (k : Int) * 16)) = decide (s ≤ 16 * k) := by rw [decide_eq_decide]; omega
  rw [← e]
  rfl

/-- A step of a range over a map of blocks. -/
theorem next_data (w : World) {ops : Array Oper} {rest : List Oper} {o : Oper} {a : Act} {Q : Exit → Act → World → Prop} (hg : o.guard = none) (it : Operand) (hop : o.op = Op.next it false) (b r n : Nat) (D : DataW Value) (left : Lit → Bool) (cnt : Nat)
    (hit : a.eval it = .pointer (some ⟨r, 0, none⟩)) (h : w.ranges Try.prog 3 hE b r n D left cnt) (shape : ∀ (x : Int) (v : Value), (kl x).wf = true → (∀ zd, D.atKey (kl x) zd = .held v) → ∃ R : Array Value, v = .agg R ∧ R.size = 16 ∧ R.all (·.oneCell') = true)
    (hDone : (∀ z, left z = false) → wpList Try.prog ops Q rest (a.put o.dst (.tuple #[.bool false])) w)
    (hMore : ∀ (x : Int) (R : Array Value) (w' : World) (cnt' : Nat), R.size = 16 → Hid (R.all (·.oneCell') = true) → (kl x).wf = true → left (kl x) = true → Maps.has D (kl x) = true → w'.ranges Try.prog 3 hE b r n D (fun z => left z && !z.sameKey (kl x)) cnt' → cnt' < cnt →
      w.grownBy w' (some r) → w'.heap.size = w.heap.size → (Instr.entry (.pointer (some ⟨r, 0, none⟩))).run Try.prog w' = .ok (.tuple #[I x, .agg R]) w' → wpList Try.prog ops Q rest (a.put o.dst (.tuple #[.bool true, I x, .agg R])) w') :
    wpList Try.prog ops Q (o :: rest) a w := by
  refine wpList_plain hg fun K' hK' => ?_
  unfold Oper.wp
  rcases h.next law o.type with ⟨h0, hl, hrun⟩ | ⟨key, v, z, y, w', cnt', hkey, hlk, hv, hat, hrun, hrg, hlt, hgr, hsz, hen⟩
  · simp [execOp, hop, hit, hrun, Result.andThen]
    exact hK' _ _ (hDone hl)
  · obtain ⟨x, rfl, rfl, hx⟩ := Maps.keyOf_int_inv Try.underlying3 hkey
    simp only [hE, Option.some.injEq] at hv
    have hat' : ∀ zd, D.atKey (kl x) zd = .held v := fun zd => by rw [hat zd, ← hv]
    obtain ⟨R, rfl, hR1, hR2⟩ := shape x v hx hat'
    simp [execOp, hop, hit, hrun, Result.andThen]
    exact hK' _ _ (hMore x R w' cnt' hR1 (hide hR2) hx hlk (has_true_of_atKey hat') hrg hlt hgr hsz hen)
/-- Of which blocks those that are still to come, and those ahead of the size, are there. -/
def swept (f : Int → Option Value) (s : Nat) (left : Lit → Bool) : Int → Option Value := fun k => if left (kl k) = true ∨ 16 * k < (s : Int) then f k else none
theorem swept_strike (f : Int → Option Value) (s : Nat) (left : Lit → Bool) (k : Nat) : swept f s (fun z => left z && !z.sameKey (kl k)) = if s ≤ 16 * k then upd (swept f s left) k none else swept f s left := by
  funext j
  by_cases e : j = (k : Int)
  · subst e
    simp only [swept, WideAt.sameKey_self (isKey _), Bool.not_true, Bool.and_false, Bool.false_eq_true, false_or]
    by_cases h : s ≤ 16 * k
    · rw [if_pos h, if_neg (by omega)]
      simp [upd]
    · rw [if_neg h, if_pos (by omega)]
      simp only [swept]
      rw [if_pos (.inr (by omega))]
  · have h1 : (kl j).sameKey (kl k) = false := sameKey_ne (kl_ne e)
    have h2 : swept f s (fun z => left z && !z.sameKey (kl k)) j = swept f s left j := by simp [swept, h1]
    rw [h2]
    split
    · simp [upd, e]
    · rfl
theorem grown_of {a b : World} (h : Below a.heap.size a b) : a.grownBy b none := ⟨h.os, h.tape, h.output, h.size, fun i hi _ => h.block i hi⟩
set_option maxHeartbeats 1000000 in
theorem deleteFunc_any {W : World} {m cb s : Nat} {f : Nat → Int} {h : Nat → Bool} (hM : Mp W m 64 (bk f h)) (hh : ∀ k, h k = true → k < 64) (hs : s ≤ 1024) (hc : W.cell? ⟨cb, 0, none⟩ = some (I (s : Int))) :
    Calls Try.prog 39 #[.map (some m), .func (.func 40) #[] #[P0 cb]] W fun e w' => e = .returned (.tuple #[]) ∧ Mp w' m 64 (bk f (cutH h s)) ∧ Fr [m] W w' := by
  obtain ⟨D, hown, hD⟩ := hM
  have hcl : cb < W.heap.size := by
    cases Nat.lt_or_ge cb W.heap.size with
    | inl h' => exact h'
    | inr h' => simp [World.cell?, Array.getElem?_eq_none h'] at hc
  have hcm : cb ≠ m := by
    rintro rfl
    obtain ⟨es, k, h1, _⟩ := hown
    simp [World.cell?, h1] at hc
  have HD := hide hD
  have HC := hide hc
  have HH := hide hh
  clear hD hc hh
  go_enter Try.func39, Try.ntmps39
  go_wp2_with (first | (at_range; refine wpList_range_own _ rfl _ 55 rfl 3 74 law ht55 _ m 64 D rfl hown ?_; intro w0 hrg0 hg0 hs0) | go_in)
  go_frame
  go_loopw [4] (fun _ wr => ∃ left cnt D', Hid (wr.ranges Try.prog 3 hE m W.heap.size 64 D' left cnt) ∧ Hid (Holds D' (swept (bk f h) s left)) ∧ Hid (Fr [m] W wr)) (fun _ wr => wr.rangeLeft m W.heap.size)
  case atStart =>
    refine ⟨_, _, D, hide hrg0, hide ?_, hide ((Fr.refl _ W).grown hg0 (by simp))⟩
    intro k hk
    have hk' := unhide HD k hk
    have e : swept (bk f h) s (Maps.has D) k = bk f h k := by
      simp only [swept]
      rw [hk'.1]
      cases e2 : bk f h k with
      | none => simp
      | some v => simp
    rw [e]
    exact hk'
  case round =>
    obtain ⟨left, cnt, D', hrg, hD', hF⟩ := hrel
    clear hrg0 hg0 hs0 hown
    have hrg := unhide hrg
    have shape : ∀ (x : Int) (v : Value), (kl x).wf = true → (∀ zd, D'.atKey (kl x) zd = .held v) → ∃ R : Array Value, v = .agg R ∧ R.size = 16 ∧ R.all (·.oneCell') = true := by
      intro x v hx hat
      have h1 := unhide hD' x hx
      have h2 := has_true_of_atKey hat
      rw [h1.1] at h2
      obtain ⟨v', hv'⟩ := Option.isSome_iff_exists.1 h2
      have h3 := h1.2 v' hv' (.held v)
      rw [hat] at h3
      injection h3 with h3
      subst h3
      simp only [swept] at hv'
      split at hv'
      · simp only [bk] at hv'
        split at hv'
        · injection hv' with hv'
          exact ⟨_, hv'.symm, by simp [lst_length], lst_all _ _ _⟩
        · cases hv'
      · cases hv'
    go_wp2_with (first | (at_next; refine next_data _ rfl _ rfl m W.heap.size 64 D' left cnt rfl hrg shape ?_ ?_) | go_in)
    · intro hl
      clear shape
      go_wp2_with fail
      go_end0
      refine ⟨rfl, ?_, unhide hF⟩
      have hM : Mp wr m 64 (swept (bk f h) s left) := ⟨D', hrg.owns, unhide hD'⟩
      refine hM.congr fun k => ?_
      simp only [swept, hl, Bool.false_eq_true, false_or, bk, cutH]
      by_cases h0 : 0 ≤ k
      · by_cases h1 : 16 * k < (s : Int)
        · have : 16 * k.toNat < s := by omega
          simp [h0, h1, this]
        · have : ¬ 16 * k.toNat < s := by omega
          simp [h0, h1, this]
      · simp [h0]
    · intro x R w1 cnt1 hR1 hR2 hx hlx hhas hrg1 hlt hgr hsz hen
      clear shape
      have hsw := unhide hD' x hx
      rw [hhas] at hsw
      have hxs : 0 ≤ x ∧ x < 64 := by
        obtain ⟨v', hv'⟩ := Option.isSome_iff_exists.1 hsw.1.symm
        simp only [swept] at hv'
        split at hv'
        · simp only [bk] at hv'
          split at hv'
          · rename_i h1
            have := unhide HH _ h1.2
            omega
          · cases hv'
        · cases hv'
      obtain ⟨k, rfl⟩ : ∃ k : Nat, x = (k : Int) := ⟨x.toNat, by omega⟩
      have hk : k < 64 := by omega
      clear hsw
      have hst := store74 hR1 (by simpa using unhide hR2)
      have hld := fun w : World => run_loadAt_new (P := Try.prog) w 74 R 16 5 Try.underlying74 (by rw [hR1]; exact size74)
      have F1 : Fr [m] W w1 := (unhide hF).grown hgr (by simp)
      have HF1 := hide F1
      have HR1 := hide hrg1
      have HG := hide hgr
      have HL := hide hlx
      have HR := hide hrg
      have HHas := hide hhas
      have HSZ := hide hsz
      clear F1 hrg1 hgr hlx hrg hhas hsz
      go_wp2_with fail
      have hc1 : (w1.alloc (.cells R 74)).cell? ⟨cb, 0, none⟩ = some (I (s : Int)) := by
        have h1 := (unhide HF1).alloc (.cells R 74)
        have h2 := h1.blk cb hcl (by simpa using hcm)
        have h3 := unhide HC
        simp only [World.cell?, h2] at h3 ⊢
        exact h3
      refine (closure_any cb s hs k hk _ _ hc1).mono ?_
      rintro e w2 ⟨rfl, B2⟩
      have HR2 := ((unhide HR1).alloc (.cells R 74)).kept (grown_of B2) (by simp) (by simp)
      have F2 : Fr [m] W w2 := ((unhide HF1).alloc (.cells R 74)).trans (.of_below B2)
      clear hst hld hc1 HR1 hen
      have HH2 := unhide hD'
      by_cases hsk : s ≤ 16 * k
      · rw [decide_eq_true hsk]
        go_wp2_with (first | (at_delete; refine wpList_delete_ranges _ rfl _ _ 55 3 rfl 74 law ht55 hE m W.heap.size 64 D' _ cnt1 rfl HR2 _ _ rfl (key_of hx) ?_; intro w3 cnt3 hrg3 hle hturn; go_frame) | go_in)
        rw [Maps.strike_twice] at hrg3
        refine ⟨⟨_, cnt3, D'.del (kl k), hide hrg3, hide ?_, hide (F2.grown hturn.grown (by simp))⟩, ?_⟩
        · rw [swept_strike, if_pos hsk]
          exact HH2.del k
        · rw [hrg3.left_eq, (unhide HR).left_eq]
          omega
      · rw [decide_eq_false hsk]
        go_wp2_with fail
        refine ⟨⟨_, cnt1, D', hide HR2, hide ?_, hide F2⟩, ?_⟩
        · rw [swept_strike, if_neg hsk]
          exact HH2
        · rw [HR2.left_eq, (unhide HR).left_eq]
          omega
end Go.Proofs.Ytaogokgklkdmpaa
