/-
  A file's bytes, read: the contract of read.
-/
import Derived.Test.YtlngeaacjbdmhaaInner
namespace Go.Proofs.Ytlngeaacjbdmhaa
open Go.RowKit Go.Maps

theorem info5 : (Try.prog.info? 5).map (fun i => (i.zero, i.size, i.bytes)) = some (some (.int .u8 0), 1, 1) := by kernel_rfl
theorem size5 : (Try.prog.info? 5).map (·.size) = some 1 := by kernel_rfl
theorem make_run (n : Nat) (hn : n ≤ 1000000) (w : World) : (Instr.makeSlice 30 (.int .i64 (n : Int)) (.int .i64 (n : Int))).run Try.prog w = .ok (.slice (some ⟨w.heap.size, 0, none⟩) n n) (w.alloc (.cells (lst (fun _ => 0) 0 n).toArray 5)) := by
  obtain ⟨i0, hi, hz0, hz1, hz2⟩ := info_parts info5
  have h := run_make w 30 5 i0 (.int .u8 0) Try.underlying30 hi hz0 .i64 .i64 (n : Int) (n : Int) (by omega) (by omega) (by rw [hz2]; omega) (by omega)
  rw [h, hz1]
  simp only [Int.toNat_natCast]
  have e : madeCells (Value.int .u8 0).cells (n * 1) = (lst (fun _ => 0) 0 n).toArray := by
    apply Array.ext
    · simp [madeCells, lst_length]
    · intro j h1 h2
      simp [madeCells, lst, Value.cells, Nat.mod_one]
  rw [e]
theorem slice74 (b r : Nat) (hr : r < 16) (w : World) : (Instr.sliceAt 149 (.pointer (some ⟨b, 0, none⟩)) (some (.int .i64 (r : Int))) none none).run Try.prog w = .ok (.slice (some ⟨b, r, none⟩) (16 - r) (16 - r)) w := by
  have h1 : Try.prog.underlying 149 = some (.array 16 5) := Try.underlying149
  obtain ⟨i0, hi, hz0, hz1, hz2⟩ := info_parts info5
  have e3 : ¬ (16 = r) := by omega
  have e4 : r ≤ 16 := by omega
  simp [Instr.sliceAt, Instr.sureAddr, run_underlying h1, Instr.sliceBounds, Instr.sliceBound, asIntOf, sizeOf, typeInfo, hi, hz1, e3, e4]
  rw [Addr.add_mid, Nat.zero_add]
theorem Below.lay {u w : World} (h : Below u.heap.size u w) (o : Obj) : Below u.heap.size u (w.alloc o) := h.alloc h.size o
theorem wrap_ok {d m : Nat} (h : d + m ≤ 1000000) : IntKind.i64.wrap ((d : Int) + (m : Int)) = ((d + m : Nat) : Int) := by
  rw [IntKind.wrap_i64]; omega
end Go.Proofs.Ytlngeaacjbdmhaa
