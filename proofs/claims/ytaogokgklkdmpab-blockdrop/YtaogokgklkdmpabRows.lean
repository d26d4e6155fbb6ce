/-
  No cell of these rows narrows 'for every input' (looked for: loops, veiled, ifaces, maps, wideKeys, modest, calm, conditions, laid).
  DERIVED. THE GIVEN ROWS OF THIS SEAT. 2 by the template 'for every input the law returns true; each argument reads behind the call as it read before'; 0 by the template 'total and deterministic' (their statements: YtaogokgklkdmpabTotals.lean).
  GIVEN WITH THE SEED: the statements are not yours to turn. If you find one false, say at which input.
  Laid BY PROGRAM, IN A SANDBOX (cutbox-rows.mjs): the forced cells as the released guide's own fill.sh prints them over the translation f644332d3c4b5800… (all of the seat's roots in one cut). By AI agents, Wed Nov 11 2026. No macro, syntax, notation, axiom, sorry.
-/
import Derived.Test.YtaogokgklkdmpabChecked
import GoSem.Claim
import GoSem.ClaimJoined
import GoSem.ClaimMapViews
import Derived.JoinedTies
import Derived.KernelRfl
namespace Go.Proofs.Ytaogokgklkdmpab
/- THE CELL 'sum', in the pinned program and in every row, IS THE sha256 OF THE DUMP (.gsa) THAT YtaogokgklkdmpabProg.lean LOADS. Nothing in Lean hashes anything: it is a label: what it is worth is what the hold of that sum in a sandbox is worth. -/
noncomputable def Try.pinned : Pinned := { name := "ytaogokgklkdmpab", sum := "f644332d3c4b58008bd2326f16dc1808da215c1069e9172914abb116bf8b20f2", checked := Try.checked }
namespace Rows
def none {H : Type} : Left H := { results := [], args := [] }

/-- 'warrenlaw9.BlockRefused': WHATEVER THE INPUT: true; the input reads as it did. -/
def blockRefusedSpec : ChangeSpec := { name := "blockRefused", fn := fun _ => fun
  | [d1, d2, d3, d4] => { results := [.lit (.bool true)], args := [d1, d2, d3, d4] }
  | _ => none }
def blockRefusedRow : OpenClaim := { program := "ytaogokgklkdmpab", sum := "f644332d3c4b58008bd2326f16dc1808da215c1069e9172914abb116bf8b20f2", func := "warren/warrenlaw9.BlockRefused", spec := "blockRefused", apart := false }
def BlockRefusedSaid : Prop := blockRefusedRow.holds Try.pinned (OpenSpec.ofChange blockRefusedSpec)

/-- ITS FALSE NEIGHBOUR: 'it returns false'. Refute it at one input. -/
def blockRefusedWrong : ChangeSpec := { name := "blockRefused", fn := fun _ => fun
  | [d1, d2, d3, d4] => { results := [.lit (.bool false)], args := [d1, d2, d3, d4] }
  | _ => none }
def BlockRefusedWrongFalsely : Prop := blockRefusedRow.holds Try.pinned (OpenSpec.ofChange blockRefusedWrong)

/-- 'warrenlaw9.BlockDrop': WHATEVER THE INPUT: true; the input reads as it did. -/
def blockDropSpec : ChangeSpec := { name := "blockDrop", fn := fun _ => fun
  | [d1, d2, d3] => { results := [.lit (.bool true)], args := [d1, d2, d3] }
  | _ => none }
def blockDropRow : OpenClaim := { program := "ytaogokgklkdmpab", sum := "f644332d3c4b58008bd2326f16dc1808da215c1069e9172914abb116bf8b20f2", func := "warren/warrenlaw9.BlockDrop", spec := "blockDrop", apart := false }
def BlockDropSaid : Prop := blockDropRow.holds Try.pinned (OpenSpec.ofChange blockDropSpec)

/-- ITS FALSE NEIGHBOUR: 'it returns false'. Refute it at one input. -/
def blockDropWrong : ChangeSpec := { name := "blockDrop", fn := fun _ => fun
  | [d1, d2, d3] => { results := [.lit (.bool false)], args := [d1, d2, d3] }
  | _ => none }
def BlockDropWrongFalsely : Prop := blockDropRow.holds Try.pinned (OpenSpec.ofChange blockDropWrong)

/- THE SECOND FORM. 'bulk': how many values and letters a reading holds, each counted each time it is reached (what is shared counts as often as it is met; a slice's spare places count too). A statement '..UptoSaid' is the law's where the arguments, and the package variables that the reading takes, are together of bulk at most 1048576: NARROWER than '..Said'. Prove '..Said' where nothing that the law and all that it calls make is longer than what came in: it says more and counts as full. Else prove '..UptoSaid'. A law counts once. -/
mutual
def uptoBulk {H : Type} : DataW H → Nat
  | .lit (.string bytes) => bytes.length + 1
  | .lit _ => 1
  | .nil => 1
  | .ptr d => uptoBulk d + 1
  | .slice elems spare => uptoBulkAll elems + uptoBulkAll spare + 1
  | .agg parts => uptoBulkAll parts + 1
  | .iface _ d => uptoBulk d + 1
  | .map entries => uptoBulkEntries entries + 1
  | .held _ => 1
def uptoBulkAll {H : Type} : List (DataW H) → Nat
  | [] => 0
  | d :: r => uptoBulk d + uptoBulkAll r
def uptoBulkEntries {H : Type} : List (Lit × DataW H) → Nat
  | [] => 0
  | x :: r => uptoBulkEntry x + uptoBulkEntries r
def uptoBulkEntry {H : Type} : Lit × DataW H → Nat
  | (.string bytes, d) => bytes.length + uptoBulk d + 1
  | (_, d) => uptoBulk d + 1
 end
def uptoSmall : (H : Type) → List (DataW H) → Bool := fun _ ds => decide (uptoBulkAll ds ≤ 1048576)
def OpenSpec.upto (s : _root_.Go.ChangeSpec) : _root_.Go.OpenSpec := { _root_.Go.OpenSpec.ofChange s with cond := some uptoSmall }

/-- 'warrenlaw9.BlockRefused', WHERE WHAT IT READS IS OF BULK AT MOST 1048576: true; the input reads as it did. -/
def blockRefusedUptoRow : OpenClaim := { program := "ytaogokgklkdmpab", sum := "f644332d3c4b58008bd2326f16dc1808da215c1069e9172914abb116bf8b20f2", func := "warren/warrenlaw9.BlockRefused", spec := "blockRefused", apart := false, narrowed := true }
def BlockRefusedUptoSaid : Prop := blockRefusedUptoRow.holds Try.pinned (OpenSpec.upto blockRefusedSpec)

/-- 'warrenlaw9.BlockDrop', WHERE WHAT IT READS IS OF BULK AT MOST 1048576: true; the input reads as it did. -/
def blockDropUptoRow : OpenClaim := { program := "ytaogokgklkdmpab", sum := "f644332d3c4b58008bd2326f16dc1808da215c1069e9172914abb116bf8b20f2", func := "warren/warrenlaw9.BlockDrop", spec := "blockDrop", apart := false, narrowed := true }
def BlockDropUptoSaid : Prop := blockDropUptoRow.holds Try.pinned (OpenSpec.upto blockDropSpec)

end Rows
end Go.Proofs.Ytaogokgklkdmpab
