/-
  The contract of a run's Pick.
-/
import Derived.Test.YtkgeapmafpeapaaStepM
namespace Go.Proofs.Ytkgeapmafpeapaa
open Go.RowKit

def doneAt (ms : List Mach) (i : Nat) : Bool := match ms[i]? with | some M => M.done | none => true
def opens (ms : List Mach) (k : Nat) : List Nat := (List.range k).filter (fun i => !doneAt ms i)
theorem opens_done {ms : List Mach} {k : Nat} (h : doneAt ms k = true) : opens ms (k + 1) = opens ms k := by
  simp [opens, List.range_succ, List.filter_append, h]
theorem opens_open {ms : List Mach} {k : Nat} (h : doneAt ms k = false) : opens ms (k + 1) = opens ms k ++ [k] := by
  simp [opens, List.range_succ, List.filter_append, h]
theorem opens_le (ms : List Mach) (k : Nat) : (opens ms k).length ≤ k := by
  have := List.length_filter_le (fun i => !doneAt ms i) (List.range k)
  simpa [opens] using this

theorem info3 : (Try.prog.info? 3).map (fun i => (i.zero, i.size, i.bytes)) = some (some (.int .i64 0), 1, 8) := by kernel_rfl

/-- What the slice of those that are open is, behind an append of one more. -/
theorem grown_below {B : Nat} {w wr w1 : World} {o : Obj} {v : Value} {e : TypeId} {s n : Nat} {xs : List Value} (hB : Below B w wr) (hown : wr.ownsRow B e s v n xs) (hg : (wr.alloc o).grownBy w1 v.ownBlock) (hb : B ≤ wr.heap.size) : Below B w w1 := by
  refine ⟨hg.os.trans hB.os, hg.tape.trans hB.tape, hg.output.trans hB.output, ?_, ?_⟩
  · have := hg.size; have := hB.size; simp at *; omega
  · intro k hk
    have h1 : some k ≠ v.ownBlock := by
      intro h
      have := hown.lt k h.symm
      omega
    rw [hg.block k (by simp; omega) h1, Below.heap_alloc _ _ _ (by omega)]
    exact hB.block k hk

def pickAt (n : Int) : Int := if n < 0 then -(n + 1) else n
def picked (ms : List Mach) (n : Int) : Nat := (opens ms ms.length).getD ((pickAt n).toNat % (opens ms ms.length).length) 0

set_option maxRecDepth 100000 in
set_option maxHeartbeats 1000000 in
theorem pick_any (r b c q n : Nat) (ws : List Int) (st x : Int) (ms : List Mach) (w : World) (hR : Run w r b c q n ws st ms) (x0 : -9223372036854775808 ≤ x) (x1 : x ≤ 9223372036854775807) :
    Calls Try.prog 13 #[.pointer (some ⟨r, 0, none⟩), .int .i64 x] w fun e w' => e = .returned (.tuple #[.int .i64 (picked ms x : Nat), .bool (!(opens ms ms.length).isEmpty)]) ∧ Below w.heap.size w w' := by
  obtain ⟨i0, hi, hz0, hz1, hz2⟩ := info_parts info3
  have l8 := hR.l8
  obtain ⟨h0, h1⟩ := hR.cells
  have hr := hR.rlt
  have hq := hR.sys.qlt
  have hd : ∀ i, i < ms.length → w.cell? ⟨q, i * 15 + 6, none⟩ = some (.bool (doneAt ms i)) := by
    intro i hi
    have e : ms[i]? = some ms[i] := List.getElem?_eq_getElem hi
    have := (hR.sys.cells e).c6
    rw [Nat.mul_comm] at this
    rw [this]
    simp [doneAt, e]
  have HD := hide hd
  clear hd
  unfold picked
  generalize hl : ms.length = l at *
  have HL := hide hl
  clear hl
  generalize hpk : (opens ms l).getD ((pickAt x).toNat % (opens ms l).length) 0 = pk
  generalize heb : (!(opens ms l).isEmpty) = eb
  have HPK := hide hpk
  have HEB := hide heb
  clear hpk heb
  go_enter Try.func13, Try.ntmps13
  go_wp2_with fail
  go_loopw [6, 13] (fun v i wr => ∃ k : Nat, k ≤ l ∧ i = .int .i64 k ∧ wr.ownsRow w.heap.size 3 1 v (opens ms k).length ((opens ms k).map (fun j : Nat => Value.int .i64 (j : Int))) ∧ Below w.heap.size w wr) (fun _ i _ => l - (intOf i).toNat)
  case atStart => exact ⟨0, Nat.zero_le _, rfl, World.ownsRow_nil _ _ _ _, Below.refl _ _⟩
  case round =>
    obtain ⟨k, hk, rfl, hown, hB⟩ := hrel
    have hs := hB.size
    have hlen := opens_le ms k
    have g0 := (hB.cell (p := ⟨r, 0, none⟩) hr).trans h0
    have g1 := (hB.cell (p := ⟨r, 1, none⟩) hr).trans h1
    by_cases hkl : k < l
    · have j1 : (k : Int) < (l : Int) := by omega
      have j0 : (0 : Int) ≤ (k : Int) := by omega
      have hc := (hB.cell (p := ⟨q, k * 15 + 6, none⟩) hq).trans (unhide HD k hkl)
      cases hdk : doneAt ms k
      · rw [hdk] at hc
        have HK := hide hdk
        clear hdk
        go_wp2_with (first
          | (at_builtin; refine wpList_append_own _ rfl _ _ 41 rfl w.heap.size 3 i0 (.int .i64 0) 1 8 Try.underlying41 hi hz0 hz1 hz2 rfl (by decide) _ _ _ rfl (hown.alloc _) ⟨wr.heap.size, 0, none⟩ 1 1 [.int .i64 (k : Int)] rfl rfl ?c1 ?c2 ?c3 ?c4 ?c5 ?_))
        case c1 =>
          intro j u hj
          match j, hj with
          | 0, hj => simp at hj; subst hj; simp [Addr.add]
        case c2 => intro u hu; simp at hu; subst hu; rfl
        case c3 => unfold maxLen; omega
        case c4 => omega
        case c5 => simp; omega
        intro v' w1 hown' hgrow _
        have hB1 := grown_below hB hown hgrow hs
        have e1 := opens_open (unhide HK)
        have hown1 : w1.ownsRow w.heap.size 3 1 v' (opens ms (k + 1)).length ((opens ms (k + 1)).map (fun j : Nat => Value.int .i64 (j : Int))) := by
          rw [e1]; simpa using hown'
        have HO := hide hown1
        clear e1 hown' hgrow hown hc hown1
        go_wp2_with fail
        go_roundw
        case rel => exact ⟨k + 1, by omega, by go_num, unhide HO, hB1⟩
        case measure => simp [intOf]; omega
      · rw [hdk] at hc
        have e1 := opens_done hdk
        have HO : Hid (wr.ownsRow w.heap.size 3 1 u6 (opens ms (k + 1)).length ((opens ms (k + 1)).map (fun j : Nat => Value.int .i64 (j : Int)))) := by
          rw [e1]; exact hown
        clear hdk e1 hown
        go_wp2_with fail
        go_roundw
        case rel => exact ⟨k + 1, by omega, by go_num, unhide HO, hB⟩
        case measure => simp [intOf]; omega
    · obtain rfl : k = l := by omega
      clear hkl
      generalize opens ms k = os at *
      have hp0 : 0 ≤ pickAt x := by unfold pickAt; split <;> omega
      obtain ⟨-, ⟨rfl, hz⟩ | ⟨g, cap, cur, rfl, hgb, hgg, hcap, hcm, hcs, htk⟩⟩ := hown
      · have e0 : os = [] := List.length_eq_zero_iff.1 hz
        subst e0
        go_wp2_with fail
        go_ret2
        exact ⟨by rw [← unhide HPK, ← unhide HEB]; rfl, hB⟩
      · by_cases hz : os = []
        · subst hz
          go_wp2_with fail
          go_ret2
          exact ⟨by rw [← unhide HPK, ← unhide HEB]; rfl, hB⟩
        · have hL : 0 < os.length := List.length_pos_iff.2 hz
          have hem : os.isEmpty = false := by cases os; exact absurd rfl hz; rfl
          have hcell : ∀ d, d < os.length → wr.cell? ⟨g, d, none⟩ = some (.int .i64 ((os.getD d 0 : Nat) : Int)) := by
            intro d hd
            have hcd : d < cur.size := by rw [hcs]; omega
            rw [cell_of hgg]
            have h2 : (cur.toList.take (os.length * 1))[d]? = (os.map (fun j : Nat => Value.int .i64 (j : Int)))[d]? := by rw [htk]
            rw [List.getElem?_take_of_lt (by omega)] at h2
            rw [Array.getElem?_toList] at h2
            rw [h2]
            simp [hd]
          have HC := hide hcell
          clear hcell htk hgg hz
          have hmod : (pickAt x).toNat % os.length < os.length := Nat.mod_lt _ hL
          have htm : (pickAt x).tmod (os.length : Int) = (((pickAt x).toNat % os.length : Nat) : Int) := by
            rw [Int.tmod_eq_emod_of_nonneg hp0]
            have : pickAt x = ((pickAt x).toNat : Int) := (Int.toNat_of_nonneg hp0).symm
            rw [this]; simp
          have hcd := unhide HC _ hmod
          generalize hd : (pickAt x).toNat % os.length = d at *
          have HDd := hide hd
          clear hd
          generalize hy : os.getD d 0 = y at *
          have HY := hide hy
          clear hy
          generalize hL2 : os.length = L at *
          have HLL := hide hL2
          clear hL2
          have L0 : ¬ (L : Int) = 0 := by omega
          have d1 : (d : Int) < (L : Int) := by omega
          have HEM := hide hem
          clear hem
          by_cases hx : x < 0
          · have hpx : pickAt x = -(x + 1) := by unfold pickAt; rw [if_pos hx]
            rw [hpx] at htm
            clear hpx hp0
            go_wp2_with fail
            go_ret2
            exact ⟨by rw [← unhide HPK, ← unhide HEB, unhide HEM]; rfl, hB⟩
          · have hpx : pickAt x = x := by unfold pickAt; rw [if_neg hx]
            rw [hpx] at htm
            clear hpx hp0
            go_wp2_with fail
            go_ret2
            exact ⟨by rw [← unhide HPK, ← unhide HEB, unhide HEM]; rfl, hB⟩
end Go.Proofs.Ytkgeapmafpeapaa
