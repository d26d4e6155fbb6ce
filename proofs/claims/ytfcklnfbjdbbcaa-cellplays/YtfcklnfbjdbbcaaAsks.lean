/-
  What a walk is told of a slice of Asks that came in: each element below its length is four numbers in a row.
-/
import Derived.Test.YtfcklnfbjdbbcaaWithin
import Derived.ProofKit
import Derived.Deep.Slices
namespace Go.Proofs.Ytfcklnfbjdbbcaa
open Go.ChangeShapes Go.WideShapes Go.ChangeAt Go.RowKit Go.Deep

theorem Frm.cell {b c : Nat} {w w' : World} (h : Frm b c w w') {p : Addr} (h0 : p.block < w.heap.size) (h1 : p.block ≠ b) (h2 : p.block ≠ c) : w'.cell? p = w.cell? p := World.cell?_of_block (w := w) (h.block p.block h0 h1 h2)

theorem below_dn {B : Nat} {a w : World} (h : Below B a w) (n : Nat) : Below B a (w.drewN n) := h.trans ⟨rfl, rfl, rfl, Nat.le_refl _, fun _ _ => rfl⟩

def Asks (w : World) (a : Option Addr) (len : Nat) : Prop :=
  len ≤ maxLen ∧ ∀ i, i < len → ∃ (b off : Nat) (k at_ o n : Int), a = some ⟨b, off, none⟩ ∧ b < w.heap.size ∧ w.cell? ⟨b, off + i * 4, none⟩ = some (.int .i64 k) ∧ w.cell? ⟨b, off + i * 4 + 1, none⟩ = some (.int .i64 at_) ∧
    w.cell? ⟨b, off + i * 4 + 2, none⟩ = some (.int .i64 o) ∧ w.cell? ⟨b, off + i * 4 + 3, none⟩ = some (.int .i64 n)

theorem addr_add (b off i : Nat) : (⟨b, off, none⟩ : Addr).add i = ⟨b, off + i, none⟩ := by unfold Addr.add; split <;> simp_all

theorem spot_none {w : World} {b off : Nat} {sp : Option Nat} {v : Value} (h : w.cell? ⟨b, off, sp⟩ = some v) : sp = none := by
  unfold World.cell? at h
  cases sp with
  | none => rfl
  | some s => cases hq : w.heap[b]? with
    | none => simp [hq] at h
    | some o => cases o <;> simp [hq] at h

theorem cells42 : Try.prog.cellsOf 42 = 4 := by kernel_rfl
theorem cells3 : Try.prog.cellsOf 3 = 1 := by kernel_rfl
theorem cells2 : Try.prog.cellsOf 2 = 1 := by kernel_rfl

theorem asks_of {H : Type} {enc : TypeId × Value → H} {w : World} {held : Bool} {fuel : Nat} {a : Option Addr} {len cap : Nat} {x : DataW H × List MemPlace}
    (h : DataW.trod enc Try.prog w 0 (fun _ => true) held fuel 38 [.slice a len cap] = some x) : Asks w a len := by
  rcases open_slice Try.underlying38 h with ⟨hcs, _⟩ | ⟨y, l, c, m, n, D, Pl, hcs, _, hl, hm, hmm, _, hx⟩
  · simp at hcs
    obtain ⟨rfl, rfl, rfl⟩ := hcs
    exact ⟨Nat.zero_le _, fun i hi => absurd hi (Nat.not_lt_zero _)⟩
  · simp at hcs
    obtain ⟨rfl, rfl, rfl⟩ := hcs
    simp at hmm
    subst hmm
    refine ⟨Nat.le_trans hl hm, fun i hi => ?_⟩
    obtain ⟨cs', h1, h2⟩ := hx i (by omega)
    rw [cells42] at h1
    obtain ⟨_, hlen, hcell⟩ := World.cells?_some h1
    obtain ⟨xs, k, hk, hxy, _, hxl, hf⟩ := DataW.trod_struct Try.underlying42 h2
    match xs, hxl, cs', hlen with
    | [y0, y1, y2, y3], _, [v0, v1, v2, v3], _ =>
      have g0 := hf 0 _ rfl
      have g1 := hf 1 _ rfl
      have g2 := hf 2 _ rfl
      have g3 := hf 3 _ rfl
      simp [cells3, cells2] at g0 g1 g2 g3
      obtain ⟨n0, e0, _, _⟩ := DataW.trod_int Try.underlying3 g0
      obtain ⟨n1, e1, _, _⟩ := DataW.trod_int Try.underlying3 g1
      obtain ⟨n2, e2, _, _⟩ := DataW.trod_int Try.underlying2 g2
      obtain ⟨n3, e3, _, _⟩ := DataW.trod_int Try.underlying2 g3
      simp at e0 e1 e2 e3
      subst e0 e1 e2 e3
      have c0 := hcell 0 (by omega)
      have c1 := hcell 1 (by omega)
      have c2 := hcell 2 (by omega)
      have c3 := hcell 3 (by omega)
      rw [add_add] at c0 c1 c2 c3
      obtain ⟨b, off, sp⟩ := y
      have hsp : sp = none := by
        by_cases hz : i = 0
        · subst hz
          have e : (⟨b, off, sp⟩ : Addr).add (0 * 4 + 0) = ⟨b, off, sp⟩ := rfl
          rw [e] at c0
          exact spot_none (v := .int .i64 n0) (by simpa using c0)
        · obtain ⟨cs0, q1, q2⟩ := hx 0 (by omega)
          rw [cells42] at q1
          obtain ⟨_, ql, qc⟩ := World.cells?_some q1
          have d0 := qc 0 (by omega)
          have e : ((⟨b, off, sp⟩ : Addr).add (0 * 4)).add 0 = ⟨b, off, sp⟩ := rfl
          rw [e] at d0
          match cs0, ql, d0 with
          | u :: _, _, d0 => exact spot_none (v := u) (by simpa using d0)
      subst hsp
      rw [addr_add] at c0 c1 c2 c3
      exact ⟨b, off, n0, n1, n2, n3, rfl, cell_lt (v := .int .i64 n0) (by simpa using c0), by simpa using c0, by simpa [Nat.add_assoc] using c1, by simpa [Nat.add_assoc] using c2, by simpa [Nat.add_assoc] using c3⟩

end Go.Proofs.Ytfcklnfbjdbbcaa
