/-
  The document's table: Drop, found or not.
-/
import Derived.Test.YtbmcnfdciogmjaaRefD
namespace Go.Proofs.Ytbmcnfdciogmjaa
open Go.RowKit Go.Sort
attribute [local go_sem ↓] Go.wp_at_zero Go.wp_at_succ

set_option maxHeartbeats 400000 in
theorem rdrop_any (base rb : Nat) (m : Pairs) (key : ByteArray) (w : World) (h : Rf base w rb m) (hm : m.length ≤ 64) :
    Calls Try.prog 21 #[.pointer (some ⟨rb, 0, none⟩), .string key] w fun e w' => e = .returned (.tuple #[.int .i64 (val m key), .int .i64 (dropE m key)]) ∧ Rf base w' rb (drop m key) ∧ RFr base w w' := by
  have hb : base ≤ w.heap.size := by
    obtain ⟨a, cap, h1, _⟩ := h.hb
    have := h.kb; have := lt_of_heap h1; omega
  unfold dropE
  cases hh : has m key with
  | false =>
    have HF := hide (rfind_any base rb m key hm w h)
    rw [show pos m key = -1 by simp [pos, hh]] at HF
    rw [val_none hh, drop_none hh]
    have HR0 := hide h
    clear hh h
    go_enter Try.func21, Try.ntmps21
    go_wp2_with fail
    refine (unhide HF).mono ?_
    rintro e w1 ⟨rfl, rfl⟩
    go_wp2_with fail
    go_ret2
    exact ⟨rfl, unhide HR0, .of_below (Below.refl _ _) hb⟩
  | true =>
    obtain ⟨j, hp, hj, hx⟩ := pos_has hh
    rw [drop_at hx (List.getElem?_eq_some_iff.1 hj).1]
    exact rdrop_in base rb j m key _ w h hm hp hj
end Go.Proofs.Ytbmcnfdciogmjaa
