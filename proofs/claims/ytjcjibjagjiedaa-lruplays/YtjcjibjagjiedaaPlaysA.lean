/-
  The program's list and the document's own, side by side: what a call of the one leaves of the other; the calls of both answer alike.
-/
import Derived.Test.YtjcjibjagjiedaaRefD
import Derived.Test.YtjcjibjagjiedaaRefE
namespace Go.Proofs.Ytjcjibjagjiedaa
open Go.RowKit

/-- What is known of the entries behind so many calls. -/
structure Iv (t : Nat) (es : Ents) : Prop where
  fit : Fit t es
  uni : Uni es
theorem Iv.mono {t t' : Nat} {es : Ents} (h : Iv t es) (ht : t ≤ t') : Iv t' es := ⟨h.fit.mono ht, h.uni⟩
theorem Iv.use {t : Nat} {mo : Int} {es : Ents} (h : Iv t es) (k : ByteArray) : Iv (t + 1) (useS mo es k).2.2 := ⟨h.fit.use k, (h.uni.endM k).sub use_cases⟩
theorem Iv.drop {t : Nat} {es : Ents} (h : Iv t es) (k : ByteArray) : Iv (t + 1) (dropM es k) := ⟨(h.fit.drop k).mono (by omega), h.uni.sub (dropM_sub _ _)⟩
theorem set_keys {es : Ents} {k : ByteArray} (h : has es k = true) (x : Int) : (es.set (ix es k) (k, x)).map (·.1) = es.map (·.1) := by
  obtain ⟨hp, _⟩ := pins_at h
  apply List.ext_getElem?
  intro j
  rw [List.getElem?_map, List.getElem?_map, List.getElem?_set]
  split
  · rename_i e
    subst e
    have hl := (List.getElem?_eq_some_iff.1 hp).1
    rw [if_pos hl, hp]; rfl
  · rfl
theorem Iv.pin {t : Nat} {es : Ents} (h : Iv t es) (k : ByteArray) : Iv (t + 1) (pinM es k) := by
  refine ⟨h.fit.pinM k, ?_⟩
  unfold Uni pinM
  cases hh : has es k with
  | true => simp only [if_true]; rw [set_keys hh]; exact h.uni
  | false => exact h.uni
theorem Iv.unpin {t : Nat} {es : Ents} (h : Iv t es) (k : ByteArray) : Iv (t + 1) (unpinM es k) := by
  refine ⟨(h.fit.unpinM k).mono (by omega), ?_⟩
  unfold Uni unpinM
  cases hh : has es k with
  | true =>
    simp only [Bool.true_and]
    split
    · rw [set_keys hh]; exact h.uni
    · exact h.uni
  | false => exact h.uni
theorem shr_sub (n : Int) : ∀ (l : Ents) (q : List ByteArray × Ents), (l.foldl (stepS n) q).2.Sublist (q.2 ++ l)
  | [], q => by simp
  | p :: l, q => by
    rw [List.foldl_cons]
    refine (shr_sub n l _).trans ?_
    unfold stepS
    split
    · exact List.Sublist.append (List.Sublist.refl _) (List.sublist_cons_self _ _)
    · simp
theorem Iv.shr {t : Nat} {es : Ents} (h : Iv t es) (n : Int) : Iv (t + 1) (shr n es).2 := by
  have hs : (Ytjcjibjagjiedaa.shr n es).2.Sublist es := by have := shr_sub n es ([], []); simpa [Ytjcjibjagjiedaa.shr] using this
  exact ⟨⟨by have := hs.length_le; have := h.fit.len; omega, fun p hp => by have := h.fit.pin p (hs.subset hp); omega⟩, h.uni.sub hs⟩

/-- Both, and the call that is made. -/
structure PP (w : World) (b rb : Nat) (mo : Int) (ob : Nat) (kd nn : Int) (key : ByteArray) (W : World) (eg er : Ents) : Prop where
  ls : Ls w.heap.size W b mo eg
  rl : Rl w.heap.size W rb mo er
  bo : W.heap[ob]? = some (.cells #[.int .i64 kd, .int .i64 nn, .string key] 38)
  be : Below w.heap.size w W
section
variable {w : World} {b rb : Nat} {mo : Int} {ob : Nat} {kd nn : Int} {key : ByteArray} {W W' : World} {eg er es eg' er' : Ents} {t : Nat}
theorem PP.c1 (P : PP w b rb mo ob kd nn key W eg er) : W.cell? ⟨ob, 1, none⟩ = some (.int .i64 nn) := by rw [cell_of P.bo]; rfl
theorem PP.c2 (P : PP w b rb mo ob kd nn key W eg er) : W.cell? ⟨ob, 2, none⟩ = some (.string key) := by rw [cell_of P.bo]; rfl
theorem PP.below (P : PP w b rb mo ob kd nn key W eg er) (B : Below W.heap.size W W') : PP w b rb mo ob kd nn key W' eg er :=
  ⟨P.ls.below B, P.rl.below B, (B.block _ (lt_of_heap P.bo)).trans P.bo, P.be.trans (B.mono P.ls.base_le)⟩
theorem PP.drew (P : PP w b rb mo ob kd nn key W eg er) : PP w b rb mo ob kd nn key W.drew eg er := P.below ⟨rfl, rfl, rfl, Nat.le_refl _, fun _ _ => rfl⟩
theorem PP.opG (P : PP w b rb mo ob kd nn key W eg er) (L : Ls w.heap.size W' b mo eg') (F : Fr w.heap.size b W W') : PP w b rb mo ob kd nn key W' eg' er := by
  obtain ⟨_, _, q, _⟩ := P.ls.hb
  have kp : ∀ {k : Nat} {cur : Array Value} {ty : TypeId}, W.heap[k]? = some (.cells cur ty (0, 0)) → ty ≠ 47 → ty ≠ 54 → W'.heap[k]? = some (.cells cur ty (0, 0)) := by
    intro k cur ty hc h1 h2
    refine F.blk k _ hc ?_ ?_
    · rintro rfl; rw [q] at hc; simp at hc; exact h1 hc.2.symm
    · intro c e; simp at e; exact h2 e.2
  refine ⟨L, P.rl.keep fun k cur ty hc ho => ?_, kp P.bo (by decide) (by decide), P.be.trans F.below⟩
  obtain ⟨_, _, q2, _⟩ := P.rl.hb
  refine (kp hc ?_ ?_).trans hc.symm
  · rcases ho with rfl | rfl
    · rw [q2] at hc; simp at hc; rw [← hc.2]; decide
    · decide
  · rcases ho with rfl | rfl
    · rw [q2] at hc; simp at hc; rw [← hc.2]; decide
    · decide
theorem PP.opR (P : PP w b rb mo ob kd nn key W eg er) (L : Rl w.heap.size W' rb mo er') (F : RFr w.heap.size rb W W') : PP w b rb mo ob kd nn key W' eg er' := by
  obtain ⟨_, _, q, _⟩ := P.rl.hb
  have kp : ∀ {k : Nat} {cur : Array Value} {ty : TypeId}, W.heap[k]? = some (.cells cur ty (0, 0)) → ty ≠ 60 → ty ≠ 63 → W'.heap[k]? = some (.cells cur ty (0, 0)) := by
    intro k cur ty hc h1 h2
    refine F.blk k _ hc ?_ ?_
    · rintro rfl; rw [q] at hc; simp at hc; exact h1 hc.2.symm
    · intro c e; simp at e; exact h2 e.2
  refine ⟨P.ls.keep fun k cur ty hc ho => ?_, L, kp P.bo (by decide) (by decide), P.be.trans F.below⟩
  obtain ⟨_, _, q2, _⟩ := P.ls.hb
  refine (kp hc ?_ ?_).trans hc.symm
  · rcases ho with rfl | rfl
    · rw [q2] at hc; simp at hc; rw [← hc.2]; decide
    · decide
  · rcases ho with rfl | rfl
    · rw [q2] at hc; simp at hc; rw [← hc.2]; decide
    · decide

/-- The cells of the call that the law reads. -/
abbrev Cs (W : World) (ob : Nat) (nn : Int) (key : ByteArray) : Prop := W.cell? ⟨ob, 1, none⟩ = some (.int .i64 nn) ∧ W.cell? ⟨ob, 2, none⟩ = some (.string key)
theorem PP.cs (P : PP w b rb mo ob kd nn key W eg er) : Cs W ob nn key := ⟨P.c1, P.c2⟩

theorem q_use (P : PP w b rb mo ob kd nn key W es es) (I : Iv t es) (ht : t ≤ 900) :
    Calls Try.prog 9 #[.pointer (some ⟨b, 0, none⟩), .string key] W fun e w' => e = .returned (.tuple #[.string (useS mo es key).1, .bool (useS mo es key).2.1]) ∧ Cs w' ob nn key ∧ Hid (PP w b rb mo ob kd nn key w' (useS mo es key).2.2 es) :=
  (use_any _ b mo es key W P.ls (by have := I.fit.len; omega)).mono fun _ _ ⟨he, L, F⟩ => ⟨he, (P.opG L F).cs, P.opG L F⟩
theorem q_ruse (P : PP w b rb mo ob kd nn key W eg es) (I : Iv t es) (ht : t ≤ 900) :
    Calls Try.prog 19 #[.pointer (some ⟨rb, 0, none⟩), .string key] W fun e w' => e = .returned (.tuple #[.string (useS mo es key).1, .bool (useS mo es key).2.1]) ∧ Cs w' ob nn key ∧ Hid (PP w b rb mo ob kd nn key w' eg (useS mo es key).2.2) :=
  (ruse_any _ rb mo t es key W P.rl I.fit ht I.uni).mono fun _ _ ⟨he, L, F⟩ => ⟨he, (P.opR L F).cs, P.opR L F⟩
theorem q_drop (P : PP w b rb mo ob kd nn key W es es) (I : Iv t es) (ht : t ≤ 900) :
    Calls Try.prog 16 #[.pointer (some ⟨b, 0, none⟩), .string key] W fun e w' => e = .returned (.bool (has es key)) ∧ Cs w' ob nn key ∧ Hid (PP w b rb mo ob kd nn key w' (dropM es key) es) :=
  (drop_any _ b mo es key W P.ls (by have := I.fit.len; omega)).mono fun _ _ ⟨he, L, F⟩ => ⟨he, (P.opG L F).cs, P.opG L F⟩
theorem q_rdrop (P : PP w b rb mo ob kd nn key W eg es) (I : Iv t es) (ht : t ≤ 900) :
    Calls Try.prog 20 #[.pointer (some ⟨rb, 0, none⟩), .string key] W fun e w' => e = .returned (.bool (has es key)) ∧ Cs w' ob nn key ∧ Hid (PP w b rb mo ob kd nn key w' eg (dropM es key)) :=
  (rdrop_any _ rb mo es key W P.rl (by have := I.fit.len; omega)).mono fun _ _ ⟨he, L, F⟩ => ⟨he, (P.opR L F).cs, P.opR L F⟩
theorem q_pin (P : PP w b rb mo ob kd nn key W es es) (I : Iv t es) (ht : t ≤ 900) :
    Calls Try.prog 10 #[.pointer (some ⟨b, 0, none⟩), .string key] W fun e w' => e = .returned (.bool (has es key)) ∧ Cs w' ob nn key ∧ Hid (PP w b rb mo ob kd nn key w' (pinM es key) es) :=
  (pin_any _ b mo es key W P.ls (I.fit.mono (by omega))).mono fun _ _ ⟨he, L, F⟩ => ⟨he, (P.opG L F).cs, P.opG L F⟩
theorem q_rpin (P : PP w b rb mo ob kd nn key W eg es) (I : Iv t es) (ht : t ≤ 900) :
    Calls Try.prog 21 #[.pointer (some ⟨rb, 0, none⟩), .string key] W fun e w' => e = .returned (.bool (has es key)) ∧ Cs w' ob nn key ∧ Hid (PP w b rb mo ob kd nn key w' eg (pinM es key)) :=
  (rpin_any _ rb mo es key W P.rl (I.fit.mono (by omega))).mono fun _ _ ⟨he, L, F⟩ => ⟨he, (P.opR L F).cs, P.opR L F⟩
theorem q_unpin (P : PP w b rb mo ob kd nn key W es es) (I : Iv t es) (ht : t ≤ 900) :
    Calls Try.prog 13 #[.pointer (some ⟨b, 0, none⟩), .string key] W fun e w' => e = .returned (.bool (has es key && decide (0 < pins es key))) ∧ Cs w' ob nn key ∧ Hid (PP w b rb mo ob kd nn key w' (unpinM es key) es) :=
  (unpin_any _ b mo es key W P.ls (I.fit.mono (by omega))).mono fun _ _ ⟨he, L, F⟩ => ⟨he, (P.opG L F).cs, P.opG L F⟩
theorem q_runpin (P : PP w b rb mo ob kd nn key W eg es) (I : Iv t es) (ht : t ≤ 900) :
    Calls Try.prog 22 #[.pointer (some ⟨rb, 0, none⟩), .string key] W fun e w' => e = .returned (.bool (has es key && decide (0 < pins es key))) ∧ Cs w' ob nn key ∧ Hid (PP w b rb mo ob kd nn key w' eg (unpinM es key)) :=
  (runpin_any _ rb mo es key W P.rl (I.fit.mono (by omega))).mono fun _ _ ⟨he, L, F⟩ => ⟨he, (P.opR L F).cs, P.opR L F⟩
theorem q_shrink (P : PP w b rb mo ob kd nn key W es es) (I : Iv t es) (ht : t ≤ 900) :
    Calls Try.prog 12 #[.pointer (some ⟨b, 0, none⟩), .int .i64 nn] W fun e w' => ∃ a c, e = .returned (.slice a (shr nn es).1.length c) ∧ Cs w' ob nn key ∧ Hid (PP w b rb mo ob kd nn key w' (shr nn es).2 es ∧ w'.ownsRow W.heap.size 9 1 (.slice a (shr nn es).1.length c) (shr nn es).1.length (strs (shr nn es).1)) :=
  (shrink_any _ b mo nn es W P.ls (by have := I.fit.len; omega)).mono fun _ _ ⟨v, he, own, L, F⟩ => by
    obtain ⟨a, c, rfl⟩ := own_form own
    exact ⟨a, c, he, (P.opG L F).cs, P.opG L F, own⟩
theorem q_rshrink {B : Nat} {a : Option Addr} {c m : Nat} {xs : List ByteArray} (P : PP w b rb mo ob kd nn key W eg es ∧ W.ownsRow B 9 1 (.slice a m c) m (strs xs)) (I : Iv t es) (ht : t ≤ 900) :
    Calls Try.prog 23 #[.pointer (some ⟨rb, 0, none⟩), .int .i64 nn] W fun e w' => ∃ a2 c2, e = .returned (.slice a2 (shr nn es).1.length c2) ∧ Cs w' ob nn key ∧ Hid (PP w b rb mo ob kd nn key w' eg (shr nn es).2 ∧ RowO w' a xs ∧ RowO w' a2 (shr nn es).1) :=
  (rshrink_any _ rb mo nn es W P.1.rl (I.fit.mono (by omega))).mono fun _ _ ⟨a2, c2, he, own, L, F⟩ => ⟨a2, c2, he, (P.1.opR L F).cs, P.1.opR L F, RowO.of_own (own_rfr F P.1.rl (by decide) (by decide) P.2), RowO.of_own own⟩
theorem q_same {a a2 : Option Addr} {c c2 m : Nat} {xs : List ByteArray} (P : PP w b rb mo ob kd nn key W eg er ∧ RowO W a xs ∧ RowO W a2 xs) (hm : xs.length = m) (hl : m ≤ 1000) :
    Calls Try.prog 15 #[.slice a m c, .slice a2 m c2] W fun e w' => e = .returned (.bool true) ∧ Cs w' ob nn key ∧ Hid (PP w b rb mo ob kd nn key w' eg er) :=
  (same_yes a a2 c c2 m xs hm (by omega) W P.2.1 P.2.2).mono fun _ _ ⟨he, B⟩ => ⟨he, (P.1.below B).cs, P.1.below B⟩
theorem q_len (P : PP w b rb mo ob kd nn key W es er) :
    Calls Try.prog 11 #[.pointer (some ⟨b, 0, none⟩)] W fun e w' => e = .returned (.int .i64 (es.length : Int)) ∧ Cs w' ob nn key ∧ Hid (PP w b rb mo ob kd nn key w' es er) :=
  (len_any _ b mo es W P.ls).mono fun _ w' ⟨he, hw⟩ => by
    subst hw
    exact ⟨he, P.cs, P⟩
theorem q_rlen (P : PP w b rb mo ob kd nn key W eg es) :
    Calls Try.prog 24 #[.pointer (some ⟨rb, 0, none⟩)] W fun e w' => e = .returned (.int .i64 (es.length : Int)) ∧ Cs w' ob nn key ∧ Hid (PP w b rb mo ob kd nn key w' eg es) :=
  (rlen_any _ rb mo es W P.rl).mono fun _ w' ⟨he, hw⟩ => by
    subst hw
    exact ⟨he, P.cs, P⟩
theorem q_has (P : PP w b rb mo ob kd nn key W es er) (I : Iv t es) (ht : t ≤ 900) :
    Calls Try.prog 25 #[.pointer (some ⟨b, 0, none⟩), .string key] W fun e w' => e = .returned (.bool (has es key)) ∧ Cs w' ob nn key ∧ Hid (PP w b rb mo ob kd nn key w' es er) :=
  (has_any _ b mo es key W P.ls (by have := I.fit.len; omega)).mono fun _ _ ⟨he, B⟩ => ⟨he, (P.below B).cs, P.below B⟩
theorem q_rhas (P : PP w b rb mo ob kd nn key W eg es) (I : Iv t es) (ht : t ≤ 900) :
    Calls Try.prog 26 #[.pointer (some ⟨rb, 0, none⟩), .string key] W fun e w' => e = .returned (.bool (has es key)) ∧ Cs w' ob nn key ∧ Hid (PP w b rb mo ob kd nn key w' eg es) :=
  (rhas_any _ rb mo es key (by have := I.fit.len; omega) W P.rl).mono fun _ w' ⟨he, hw⟩ => by
    subst hw
    exact ⟨he, P.cs, P⟩
theorem q_old (P : PP w b rb mo ob kd nn key W es er) (I : Iv t es) (ht : t ≤ 900) (n : Int) :
    Calls Try.prog 14 #[.pointer (some ⟨b, 0, none⟩), .int .i64 n] W fun e w' => ∃ a c, e = .returned (.slice a (olds es n).length c) ∧ Cs w' ob nn key ∧ Hid (PP w b rb mo ob kd nn key w' es er ∧ RowO w' a (olds es n)) :=
  (oldest_any _ b mo n es W P.ls (by have := I.fit.len; omega)).mono fun _ _ ⟨v, he, own, B⟩ => by
    obtain ⟨a, c, rfl⟩ := own_form own
    exact ⟨a, c, he, (P.below B).cs, P.below B, RowO.of_own own⟩
theorem q_rold {a : Option Addr} {xs : List ByteArray} (P : PP w b rb mo ob kd nn key W eg es ∧ RowO W a xs) (I : Iv t es) (ht : t ≤ 900) (n : Int) :
    Calls Try.prog 27 #[.pointer (some ⟨rb, 0, none⟩), .int .i64 n] W fun e w' => ∃ a2 c2, e = .returned (.slice a2 (olds es n).length c2) ∧ Cs w' ob nn key ∧ Hid (PP w b rb mo ob kd nn key w' eg es ∧ RowO w' a xs ∧ RowO w' a2 (olds es n)) :=
  (roldest_any _ rb mo n es W P.1.rl (by have := I.fit.len; omega)).mono fun _ _ ⟨a2, c2, he, own, B⟩ => ⟨a2, c2, he, (P.1.below B).cs, P.1.below B, P.2.below B, RowO.of_own own⟩
theorem olds_le (es : Ents) (n : Int) : (olds es n).length ≤ es.length := by simp [olds]; omega
end
end Go.Proofs.Ytjcjibjagjiedaa
