/-
  opName, outcome and Text.
-/
import Derived.Test.YtnkkfomekdipiaaDoorCLine
import Derived.Test.YtnkkfomekdipiaaDoorCNames
import Derived.Deep.RegionWith
import Derived.Lib.ItoaLen
import Derived.Sort.AtCall
namespace Go.Proofs.YtnkkfomekdipiaaDoor.Cl
open Go.RowKit Go.Shelf
attribute [local go_sem ↓] Go.wp_at_zero Go.wp_at_succ

def onames : List (List UInt8) := [[109, 107, 100, 105, 114], [114, 109, 100, 105, 114], [111, 112, 101, 110], [99, 108, 111, 115, 101], [114, 101, 97, 100], [119, 114, 105, 116, 101], [115, 101, 101, 107], [116, 114, 117, 110, 99, 97, 116, 101], [108, 105, 110, 107], [117, 110, 108, 105, 110, 107], [115, 121, 109, 108, 105, 110, 107], [114, 101, 97, 100, 108, 105, 110, 107], [114, 101, 110, 97, 109, 101], [105, 110, 102, 111], [99, 104, 109, 111, 100], [99, 104, 111, 119, 110], [99, 104, 100, 105, 114], [108, 105, 115, 116], [98, 105, 110, 100], [117, 110, 98, 105, 110, 100]]
/-- The table of the calls' names lies in block 0. -/
def On (W : World) : Prop := ∀ (k : Nat) (t : List UInt8), onames[k]? = some t → W.cell? ⟨0, k, none⟩ = some (S t)
theorem On.below {W W' : World} {B : Nat} (h : On W) (hB : 0 < B) (g : Below B W W') : On W' := fun k t hk => (World.cell?_of_block (g.block 0 hB)).trans (h k t hk)
def opn (op : Int) : List UInt8 := if op < 1 ∨ 20 < op then [110, 111, 110, 101] else onames.getD (op - 1).toNat []
theorem opn_len (op : Int) : (opn op).length ≤ 20 := by
  unfold opn
  split
  · decide
  · have : ∀ k : Nat, (onames.getD k []).length ≤ 20 := by
      intro k
      by_cases hk : k < 20
      · have h : ∀ j : Fin 20, (onames.getD j.val []).length ≤ 20 := by decide +kernel
        exact h ⟨k, hk⟩
      · rw [List.getD_eq_getElem?_getD, List.getElem?_eq_none (by simp [onames]; omega)]
        simp
    exact this _
set_option maxRecDepth 100000 in
set_option maxHeartbeats 1000000 in
theorem opName_any (op : Int) (W : World) (hO : On W) : Calls Tryd.prog 31 #[I op] W fun e W' => e = .returned (S (opn op)) ∧ W' = W := by
  by_cases hop : op < 1 ∨ 20 < op
  · have hr : opn op = [110, 111, 110, 101] := by unfold opn; rw [if_pos hop]
    rw [hr]
    rcases hop with hop | hop
    · go_enter Tryd.func31, Tryd.ntmps31
      go_wp2_with fail
      go_ret
      exact ⟨rfl, rfl⟩
    · have o1 : ¬ op < 1 := by omega
      go_enter Tryd.func31, Tryd.ntmps31
      go_wp2_with fail
      go_ret
      exact ⟨rfl, rfl⟩
  · have o1 : ¬ op < 1 := by omega
    have o2 : ¬ 20 < op := by omega
    obtain ⟨k, hk⟩ : ∃ k : Nat, op - 1 = (k : Int) := ⟨(op - 1).toNat, by omega⟩
    have hk2 : (k : Int) < 20 := by omega
    have hk3 : k < 20 := by omega
    have hk0 : (0 : Int) ≤ (k : Int) := by omega
    have hr : opn op = onames.getD k [] := by unfold opn; rw [if_neg hop, hk]; simp
    have hc : W.cell? ⟨0, k, none⟩ = some (S (opn op)) := by
      rw [hr]
      exact hO k _ (by rw [List.getD_eq_getElem?_getD, List.getElem?_eq_getElem (by simpa [onames] using hk3)]; rfl)
    clear hr hop hO
    go_enter Tryd.func31, Tryd.ntmps31
    go_wp2_with fail
    go_ret
    exact ⟨rfl, rfl⟩
theorem bs_app (a b : List UInt8) : bs a ++ bs b = bs (a ++ b) := by
  apply ByteArray.ext
  simp [ByteArray.data_append]
/-- Two texts, one behind the other. -/
theorem add_run (a b : List UInt8) (h : a.length + b.length ≤ 9223372036854775807) (w : World) : (Op.stringOp .add (bs a) (bs b)).run Tryd.prog w = .ok (S (a ++ b)) w := by
  have hs : ∀ l : List UInt8, (bs l).size = l.length := fun l => by simp [ByteArray.size]
  rw [run_string_add_sum w (bs a) (bs b) (by rw [hs, hs]; omega), bs_app]
/-- How a call went. -/
def oc (why : Int) : List UInt8 := if why = 0 then [111, 107] else [101, 114, 114, 111, 114, 32] ++ Lib.itoa why
theorem itoa_len (n : Int) (h0 : -9223372036854775808 ≤ n) (h1 : n ≤ 9223372036854775807) : (Lib.itoa n).length ≤ 21 := Lib.itoa_length_le n h0 h1
theorem itoa_any (n : Int) (h0 : -9223372036854775808 ≤ n) (h1 : n ≤ 9223372036854775807) (w : World) (ht : Tab w.heap.size w) : Calls Tryd.prog 54 #[I n] w fun e w' => e = .returned (S (Lib.itoa n)) ∧ Below w.heap.size w w' := by
  refine (Any.strconv_Itoa Tryd.lays171 n h0 h1 w ht.here).mono ?_
  rintro e w' ⟨rfl, k, os, rfl⟩
  refine ⟨rfl, rfl, rfl, rfl, ?_, fun j hj => ?_⟩
  · show w.heap.size ≤ (w.heap ++ os).size
    rw [Array.size_append]
    omega
  · show (w.heap ++ os)[j]? = w.heap[j]?
    exact Array.getElem?_append_left hj
set_option maxRecDepth 100000 in
set_option maxHeartbeats 1000000 in
theorem outcome_any (why : Int) (h0 : -9223372036854775808 ≤ why) (h1 : why ≤ 9223372036854775807) (w : World) (ht : Tab w.heap.size w) : Calls Tryd.prog 36 #[I why] w fun e w' => e = .returned (S (oc why)) ∧ Below w.heap.size w w' := by
  have HI := hide (itoa_any why h0 h1 w ht)
  have hil := itoa_len why h0 h1
  by_cases hw : why = 0
  · subst hw
    go_enter Tryd.func36, Tryd.ntmps36
    go_wp2_with fail
    go_ret
    exact ⟨rfl, Below.refl _ _⟩
  · have hw2 : (why == 0) = false := by simpa using hw
    have hr : oc why = [101, 114, 114, 111, 114, 32] ++ Lib.itoa why := by unfold oc; rw [if_neg hw]
    rw [hr]
    have HR : ∀ w, (Op.stringOp .add (bs [101, 114, 114, 111, 114, 32]) (bs (Lib.itoa why))).run Tryd.prog w = .ok (S ([101, 114, 114, 111, 114, 32] ++ Lib.itoa why)) w := fun w => add_run _ _ (by simp; omega) w
    clear ht hr
    go_enter Tryd.func36, Tryd.ntmps36
    go_wp2_with fail
    refine (unhide HI).mono ?_
    rintro e w1 ⟨rfl, hB⟩
    go_wp2_with fail
    go_ret
    exact ⟨rfl, hB⟩
end Go.Proofs.YtnkkfomekdipiaaDoor.Cl
