/-
  The contracts of Read, Write and Cut.
-/
import Derived.Test.YtiedobpgfhmidabOpsB
import Derived.Test.YtiedobpgfhmidabWrite
namespace Go.Proofs.Ytiedobpgfhmidab
open Go.RowKit Go.Maps

theorem wf_bounds {x : Int} (h : (Lit.int .i64 x).wf = true) : -9223372036854775808 ≤ x ∧ x ≤ 9223372036854775807 := by
  simp [Lit.wf] at h
  exact h
end Go.Proofs.Ytiedobpgfhmidab
