/-
  No cell of these rows narrows 'for every input' (looked for: loops, veiled, ifaces, maps, wideKeys, modest, calm, conditions, laid).
  DERIVED. THE GIVEN ROWS OF THIS SEAT. 13 by the template 'for every input the law returns true; each argument reads behind the call as it read before'; 0 by the template 'total and deterministic' (their statements: YtlngeaacjbdmhaaGreatTotals.lean).
  GIVEN WITH THE SEED: the statements are not yours to turn. If you find one false, say at which input.
  Laid BY PROGRAM, IN A SANDBOX (cutbox-rows.mjs): the forced cells as the released guide's own fill.sh prints them over the translation 337325724ff2841f… (all of the seat's roots in one cut). By AI agents, Wed Nov 11 2026. No macro, syntax, notation, axiom, sorry.
-/
import Derived.Test.YtlngeaacjbdmhaaGreatChecked
import GoSem.Claim
import GoSem.ClaimJoined
import GoSem.ClaimMapViews
import Derived.JoinedTies
import Derived.KernelRfl
namespace Go.Proofs.YtlngeaacjbdmhaaGreat
/- THE CELL 'sum', in the pinned program and in every row, IS THE sha256 OF THE DUMP (.gsa) THAT YtlngeaacjbdmhaaGreatProg.lean LOADS. Nothing in Lean hashes anything: it is a label: what it is worth is what the hold of that sum in a sandbox is worth. -/
noncomputable def Tryz.pinned : Pinned := { name := "ytlngeaacjbdmhaagreat", sum := "337325724ff2841f5fdc670d5a6d328662d93d8b75adb40ea90a1a7b54c63b45", checked := Tryz.checked }
namespace Rows
def none {H : Type} : Left H := { results := [], args := [] }

/-- 'warrenlaw10.TreePlays': WHATEVER THE INPUT: true; the input reads as it did. -/
def treePlaysSpec : ChangeSpec := { name := "treePlays", fn := fun _ => fun
  | [d1, d2, d3] => { results := [.lit (.bool true)], args := [d1, d2, d3] }
  | _ => none }
def treePlaysRow : OpenClaim := { program := "ytlngeaacjbdmhaagreat", sum := "337325724ff2841f5fdc670d5a6d328662d93d8b75adb40ea90a1a7b54c63b45", func := "warren/warrenlaw10.TreePlays", spec := "treePlays", inPlace := ["internal/bytealg.IndexByteString", "internal/bytealg.IndexString", "internal/bytealg.abigen_runtime_cmpstring", "slices.overlaps[warren/tree.entry]"], unfollowed := true, recurses := true, named := ["internal/bytealg.MaxLen"], apart := false }
def TreePlaysSaid : Prop := treePlaysRow.holds Tryz.pinned (OpenSpec.ofChange treePlaysSpec)

/-- ITS FALSE NEIGHBOUR: 'it returns false'. Refute it at one input. -/
def treePlaysWrong : ChangeSpec := { name := "treePlays", fn := fun _ => fun
  | [d1, d2, d3] => { results := [.lit (.bool false)], args := [d1, d2, d3] }
  | _ => none }
def TreePlaysWrongFalsely : Prop := treePlaysRow.holds Tryz.pinned (OpenSpec.ofChange treePlaysWrong)

/-- 'warrenlaw10.TreeTame': WHATEVER THE INPUT: true; the input reads as it did. -/
def treeTameSpec : ChangeSpec := { name := "treeTame", fn := fun _ => fun
  | [d1, d2] => { results := [.lit (.bool true)], args := [d1, d2] }
  | _ => none }
def treeTameRow : OpenClaim := { program := "ytlngeaacjbdmhaagreat", sum := "337325724ff2841f5fdc670d5a6d328662d93d8b75adb40ea90a1a7b54c63b45", func := "warren/warrenlaw10.TreeTame", spec := "treeTame", inPlace := ["internal/bytealg.IndexByteString", "internal/bytealg.IndexString", "internal/bytealg.abigen_runtime_cmpstring", "slices.overlaps[warren/tree.entry]"], unfollowed := true, recurses := true, named := ["internal/bytealg.MaxLen"], apart := false }
def TreeTameSaid : Prop := treeTameRow.holds Tryz.pinned (OpenSpec.ofChange treeTameSpec)

/-- ITS FALSE NEIGHBOUR: 'it returns false'. Refute it at one input. -/
def treeTameWrong : ChangeSpec := { name := "treeTame", fn := fun _ => fun
  | [d1, d2] => { results := [.lit (.bool false)], args := [d1, d2] }
  | _ => none }
def TreeTameWrongFalsely : Prop := treeTameRow.holds Tryz.pinned (OpenSpec.ofChange treeTameWrong)

/-- 'warrenlaw12.WalkNumbers': WHATEVER THE INPUT: true; the input reads as it did. -/
def walkNumbersSpec : ChangeSpec := { name := "walkNumbers", fn := fun _ => fun
  | [] => { results := [.lit (.bool true)], args := [] }
  | _ => none }
def walkNumbersRow : OpenClaim := { program := "ytlngeaacjbdmhaagreat", sum := "337325724ff2841f5fdc670d5a6d328662d93d8b75adb40ea90a1a7b54c63b45", func := "warren/warrenlaw12.WalkNumbers", spec := "walkNumbers", inPlace := ["internal/bytealg.IndexByteString", "internal/bytealg.IndexString", "internal/bytealg.abigen_runtime_cmpstring", "slices.overlaps[warren/tree.entry]", "internal/abi.NoEscape"], unfollowed := true, recurses := true, named := ["internal/bytealg.MaxLen"], apart := false }
def WalkNumbersSaid : Prop := walkNumbersRow.holds Tryz.pinned (OpenSpec.ofChange walkNumbersSpec)

/-- ITS FALSE NEIGHBOUR: 'it returns false'. Refute it at one input. -/
def walkNumbersWrong : ChangeSpec := { name := "walkNumbers", fn := fun _ => fun
  | [] => { results := [.lit (.bool false)], args := [] }
  | _ => none }
def WalkNumbersWrongFalsely : Prop := walkNumbersRow.holds Tryz.pinned (OpenSpec.ofChange walkNumbersWrong)

/-- 'warrenlaw12.WalkPlays': WHATEVER THE INPUT: true; the input reads as it did. -/
def walkPlaysSpec : ChangeSpec := { name := "walkPlays", fn := fun _ => fun
  | [d1, d2, d3, d4, d5, d6] => { results := [.lit (.bool true)], args := [d1, d2, d3, d4, d5, d6] }
  | _ => none }
def walkPlaysRow : OpenClaim := { program := "ytlngeaacjbdmhaagreat", sum := "337325724ff2841f5fdc670d5a6d328662d93d8b75adb40ea90a1a7b54c63b45", func := "warren/warrenlaw12.WalkPlays", spec := "walkPlays", inPlace := ["internal/bytealg.IndexByteString", "internal/bytealg.IndexString", "internal/bytealg.abigen_runtime_cmpstring", "slices.overlaps[warren/tree.entry]", "internal/abi.NoEscape"], unfollowed := true, recurses := true, named := ["internal/bytealg.MaxLen"], apart := false }
def WalkPlaysSaid : Prop := walkPlaysRow.holds Tryz.pinned (OpenSpec.ofChange walkPlaysSpec)

/-- ITS FALSE NEIGHBOUR: 'it returns false'. Refute it at one input. -/
def walkPlaysWrong : ChangeSpec := { name := "walkPlays", fn := fun _ => fun
  | [d1, d2, d3, d4, d5, d6] => { results := [.lit (.bool false)], args := [d1, d2, d3, d4, d5, d6] }
  | _ => none }
def WalkPlaysWrongFalsely : Prop := walkPlaysRow.holds Tryz.pinned (OpenSpec.ofChange walkPlaysWrong)

/-- 'warrenlaw12.WalkParts': WHATEVER THE INPUT: true; the input reads as it did. -/
def walkPartsSpec : ChangeSpec := { name := "walkParts", fn := fun _ => fun
  | [d1, d2, d3, d4] => { results := [.lit (.bool true)], args := [d1, d2, d3, d4] }
  | _ => none }
def walkPartsRow : OpenClaim := { program := "ytlngeaacjbdmhaagreat", sum := "337325724ff2841f5fdc670d5a6d328662d93d8b75adb40ea90a1a7b54c63b45", func := "warren/warrenlaw12.WalkParts", spec := "walkParts", inPlace := ["internal/bytealg.IndexByteString", "internal/bytealg.IndexString", "internal/bytealg.abigen_runtime_cmpstring", "slices.overlaps[warren/tree.entry]", "internal/abi.NoEscape"], unfollowed := true, recurses := true, named := ["internal/bytealg.MaxLen"], apart := false }
def WalkPartsSaid : Prop := walkPartsRow.holds Tryz.pinned (OpenSpec.ofChange walkPartsSpec)

/-- ITS FALSE NEIGHBOUR: 'it returns false'. Refute it at one input. -/
def walkPartsWrong : ChangeSpec := { name := "walkParts", fn := fun _ => fun
  | [d1, d2, d3, d4] => { results := [.lit (.bool false)], args := [d1, d2, d3, d4] }
  | _ => none }
def WalkPartsWrongFalsely : Prop := walkPartsRow.holds Tryz.pinned (OpenSpec.ofChange walkPartsWrong)

/-- 'warrenlaw12.WalkSteps': WHATEVER THE INPUT: true; the input reads as it did. -/
def walkStepsSpec : ChangeSpec := { name := "walkSteps", fn := fun _ => fun
  | [d1, d2, d3, d4] => { results := [.lit (.bool true)], args := [d1, d2, d3, d4] }
  | _ => none }
def walkStepsRow : OpenClaim := { program := "ytlngeaacjbdmhaagreat", sum := "337325724ff2841f5fdc670d5a6d328662d93d8b75adb40ea90a1a7b54c63b45", func := "warren/warrenlaw12.WalkSteps", spec := "walkSteps", inPlace := ["internal/bytealg.IndexByteString", "internal/bytealg.IndexString", "internal/bytealg.abigen_runtime_cmpstring", "slices.overlaps[warren/tree.entry]", "internal/abi.NoEscape"], unfollowed := true, recurses := true, named := ["internal/bytealg.MaxLen"], apart := false }
def WalkStepsSaid : Prop := walkStepsRow.holds Tryz.pinned (OpenSpec.ofChange walkStepsSpec)

/-- ITS FALSE NEIGHBOUR: 'it returns false'. Refute it at one input. -/
def walkStepsWrong : ChangeSpec := { name := "walkSteps", fn := fun _ => fun
  | [d1, d2, d3, d4] => { results := [.lit (.bool false)], args := [d1, d2, d3, d4] }
  | _ => none }
def WalkStepsWrongFalsely : Prop := walkStepsRow.holds Tryz.pinned (OpenSpec.ofChange walkStepsWrong)

/-- 'warrenlaw12.WalkRoots': WHATEVER THE INPUT: true; the input reads as it did. -/
def walkRootsSpec : ChangeSpec := { name := "walkRoots", fn := fun _ => fun
  | [d1, d2, d3, d4, d5] => { results := [.lit (.bool true)], args := [d1, d2, d3, d4, d5] }
  | _ => none }
def walkRootsRow : OpenClaim := { program := "ytlngeaacjbdmhaagreat", sum := "337325724ff2841f5fdc670d5a6d328662d93d8b75adb40ea90a1a7b54c63b45", func := "warren/warrenlaw12.WalkRoots", spec := "walkRoots", inPlace := ["internal/bytealg.IndexByteString", "internal/bytealg.IndexString", "internal/bytealg.abigen_runtime_cmpstring", "slices.overlaps[warren/tree.entry]", "internal/abi.NoEscape"], unfollowed := true, recurses := true, named := ["internal/bytealg.MaxLen"], apart := false }
def WalkRootsSaid : Prop := walkRootsRow.holds Tryz.pinned (OpenSpec.ofChange walkRootsSpec)

/-- ITS FALSE NEIGHBOUR: 'it returns false'. Refute it at one input. -/
def walkRootsWrong : ChangeSpec := { name := "walkRoots", fn := fun _ => fun
  | [d1, d2, d3, d4, d5] => { results := [.lit (.bool false)], args := [d1, d2, d3, d4, d5] }
  | _ => none }
def WalkRootsWrongFalsely : Prop := walkRootsRow.holds Tryz.pinned (OpenSpec.ofChange walkRootsWrong)

/-- 'warrenlaw13.DiropNumbers': WHATEVER THE INPUT: true; the input reads as it did. -/
def diropNumbersSpec : ChangeSpec := { name := "diropNumbers", fn := fun _ => fun
  | [] => { results := [.lit (.bool true)], args := [] }
  | _ => none }
def diropNumbersRow : OpenClaim := { program := "ytlngeaacjbdmhaagreat", sum := "337325724ff2841f5fdc670d5a6d328662d93d8b75adb40ea90a1a7b54c63b45", func := "warren/warrenlaw13.DiropNumbers", spec := "diropNumbers", inPlace := ["internal/bytealg.IndexByteString", "internal/bytealg.IndexString", "internal/bytealg.abigen_runtime_cmpstring", "internal/abi.NoEscape", "slices.overlaps[warren/tree.entry]"], unfollowed := true, recurses := true, named := ["internal/bytealg.MaxLen"], apart := false }
def DiropNumbersSaid : Prop := diropNumbersRow.holds Tryz.pinned (OpenSpec.ofChange diropNumbersSpec)

/-- ITS FALSE NEIGHBOUR: 'it returns false'. Refute it at one input. -/
def diropNumbersWrong : ChangeSpec := { name := "diropNumbers", fn := fun _ => fun
  | [] => { results := [.lit (.bool false)], args := [] }
  | _ => none }
def DiropNumbersWrongFalsely : Prop := diropNumbersRow.holds Tryz.pinned (OpenSpec.ofChange diropNumbersWrong)

/-- 'warrenlaw13.DiropPlays': WHATEVER THE INPUT: true; the input reads as it did. -/
def diropPlaysSpec : ChangeSpec := { name := "diropPlays", fn := fun _ => fun
  | [d1, d2, d3, d4] => { results := [.lit (.bool true)], args := [d1, d2, d3, d4] }
  | _ => none }
def diropPlaysRow : OpenClaim := { program := "ytlngeaacjbdmhaagreat", sum := "337325724ff2841f5fdc670d5a6d328662d93d8b75adb40ea90a1a7b54c63b45", func := "warren/warrenlaw13.DiropPlays", spec := "diropPlays", inPlace := ["internal/bytealg.IndexByteString", "internal/bytealg.IndexString", "internal/bytealg.abigen_runtime_cmpstring", "slices.overlaps[warren/tree.entry]", "internal/abi.NoEscape"], unfollowed := true, recurses := true, named := ["internal/bytealg.MaxLen"], apart := false }
def DiropPlaysSaid : Prop := diropPlaysRow.holds Tryz.pinned (OpenSpec.ofChange diropPlaysSpec)

/-- ITS FALSE NEIGHBOUR: 'it returns false'. Refute it at one input. -/
def diropPlaysWrong : ChangeSpec := { name := "diropPlays", fn := fun _ => fun
  | [d1, d2, d3, d4] => { results := [.lit (.bool false)], args := [d1, d2, d3, d4] }
  | _ => none }
def DiropPlaysWrongFalsely : Prop := diropPlaysRow.holds Tryz.pinned (OpenSpec.ofChange diropPlaysWrong)

/-- 'warrenlaw13.DiropRefused': WHATEVER THE INPUT: true; the input reads as it did. -/
def diropRefusedSpec : ChangeSpec := { name := "diropRefused", fn := fun _ => fun
  | [d1, d2, d3] => { results := [.lit (.bool true)], args := [d1, d2, d3] }
  | _ => none }
def diropRefusedRow : OpenClaim := { program := "ytlngeaacjbdmhaagreat", sum := "337325724ff2841f5fdc670d5a6d328662d93d8b75adb40ea90a1a7b54c63b45", func := "warren/warrenlaw13.DiropRefused", spec := "diropRefused", inPlace := ["internal/bytealg.IndexByteString", "internal/bytealg.IndexString", "internal/bytealg.abigen_runtime_cmpstring", "slices.overlaps[warren/tree.entry]", "internal/abi.NoEscape"], unfollowed := true, recurses := true, named := ["internal/bytealg.MaxLen"], apart := false }
def DiropRefusedSaid : Prop := diropRefusedRow.holds Tryz.pinned (OpenSpec.ofChange diropRefusedSpec)

/-- ITS FALSE NEIGHBOUR: 'it returns false'. Refute it at one input. -/
def diropRefusedWrong : ChangeSpec := { name := "diropRefused", fn := fun _ => fun
  | [d1, d2, d3] => { results := [.lit (.bool false)], args := [d1, d2, d3] }
  | _ => none }
def DiropRefusedWrongFalsely : Prop := diropRefusedRow.holds Tryz.pinned (OpenSpec.ofChange diropRefusedWrong)

/-- 'warrenlaw13.DiropRenames': WHATEVER THE INPUT: true; the input reads as it did. -/
def diropRenamesSpec : ChangeSpec := { name := "diropRenames", fn := fun _ => fun
  | [d1, d2, d3] => { results := [.lit (.bool true)], args := [d1, d2, d3] }
  | _ => none }
def diropRenamesRow : OpenClaim := { program := "ytlngeaacjbdmhaagreat", sum := "337325724ff2841f5fdc670d5a6d328662d93d8b75adb40ea90a1a7b54c63b45", func := "warren/warrenlaw13.DiropRenames", spec := "diropRenames", inPlace := ["internal/bytealg.IndexByteString", "internal/bytealg.IndexString", "internal/bytealg.abigen_runtime_cmpstring", "slices.overlaps[warren/tree.entry]", "internal/abi.NoEscape"], unfollowed := true, recurses := true, named := ["internal/bytealg.MaxLen"], apart := false }
def DiropRenamesSaid : Prop := diropRenamesRow.holds Tryz.pinned (OpenSpec.ofChange diropRenamesSpec)

/-- ITS FALSE NEIGHBOUR: 'it returns false'. Refute it at one input. -/
def diropRenamesWrong : ChangeSpec := { name := "diropRenames", fn := fun _ => fun
  | [d1, d2, d3] => { results := [.lit (.bool false)], args := [d1, d2, d3] }
  | _ => none }
def DiropRenamesWrongFalsely : Prop := diropRenamesRow.holds Tryz.pinned (OpenSpec.ofChange diropRenamesWrong)

/-- 'warrenlaw13.DiropAsks': WHATEVER THE INPUT: true; the input reads as it did. -/
def diropAsksSpec : ChangeSpec := { name := "diropAsks", fn := fun _ => fun
  | [d1, d2, d3] => { results := [.lit (.bool true)], args := [d1, d2, d3] }
  | _ => none }
def diropAsksRow : OpenClaim := { program := "ytlngeaacjbdmhaagreat", sum := "337325724ff2841f5fdc670d5a6d328662d93d8b75adb40ea90a1a7b54c63b45", func := "warren/warrenlaw13.DiropAsks", spec := "diropAsks", inPlace := ["internal/bytealg.IndexByteString", "internal/bytealg.IndexString", "internal/bytealg.abigen_runtime_cmpstring", "slices.overlaps[warren/tree.entry]", "internal/abi.NoEscape"], unfollowed := true, recurses := true, named := ["internal/bytealg.MaxLen"], apart := false }
def DiropAsksSaid : Prop := diropAsksRow.holds Tryz.pinned (OpenSpec.ofChange diropAsksSpec)

/-- ITS FALSE NEIGHBOUR: 'it returns false'. Refute it at one input. -/
def diropAsksWrong : ChangeSpec := { name := "diropAsks", fn := fun _ => fun
  | [d1, d2, d3] => { results := [.lit (.bool false)], args := [d1, d2, d3] }
  | _ => none }
def DiropAsksWrongFalsely : Prop := diropAsksRow.holds Tryz.pinned (OpenSpec.ofChange diropAsksWrong)

/-- 'warrenlaw13.DiropMakes': WHATEVER THE INPUT: true; the input reads as it did. -/
def diropMakesSpec : ChangeSpec := { name := "diropMakes", fn := fun _ => fun
  | [d1, d2, d3, d4] => { results := [.lit (.bool true)], args := [d1, d2, d3, d4] }
  | _ => none }
def diropMakesRow : OpenClaim := { program := "ytlngeaacjbdmhaagreat", sum := "337325724ff2841f5fdc670d5a6d328662d93d8b75adb40ea90a1a7b54c63b45", func := "warren/warrenlaw13.DiropMakes", spec := "diropMakes", inPlace := ["internal/bytealg.IndexByteString", "internal/bytealg.IndexString", "internal/bytealg.abigen_runtime_cmpstring", "slices.overlaps[warren/tree.entry]", "internal/abi.NoEscape"], unfollowed := true, recurses := true, named := ["internal/bytealg.MaxLen"], apart := false }
def DiropMakesSaid : Prop := diropMakesRow.holds Tryz.pinned (OpenSpec.ofChange diropMakesSpec)

/-- ITS FALSE NEIGHBOUR: 'it returns false'. Refute it at one input. -/
def diropMakesWrong : ChangeSpec := { name := "diropMakes", fn := fun _ => fun
  | [d1, d2, d3, d4] => { results := [.lit (.bool false)], args := [d1, d2, d3, d4] }
  | _ => none }
def DiropMakesWrongFalsely : Prop := diropMakesRow.holds Tryz.pinned (OpenSpec.ofChange diropMakesWrong)

/- THE SECOND FORM. 'bulk': how many values and letters a reading holds, each counted each time it is reached (what is shared counts as often as it is met; a slice's spare places count too). A statement '..UptoSaid' is the law's where the arguments, and the package variables that the reading takes, are together of bulk at most 1048576: NARROWER than '..Said'. Prove '..Said' where nothing that the law and all that it calls make is longer than what came in: it says more and counts as full. Else prove '..UptoSaid'. A law counts once. -/
mutual
def uptoBulk {H : Type} : DataW H → Nat
  | .lit (.string bytes) => bytes.length + 1
  | .lit _ => 1
  | .nil => 1
  | .ptr d => uptoBulk d + 1
  | .slice elems spare => uptoBulkAll elems + uptoBulkAll spare + 1
  | .agg parts => uptoBulkAll parts + 1
  | .iface _ d => uptoBulk d + 1
  | .map entries => uptoBulkEntries entries + 1
  | .held _ => 1
def uptoBulkAll {H : Type} : List (DataW H) → Nat
  | [] => 0
  | d :: r => uptoBulk d + uptoBulkAll r
def uptoBulkEntries {H : Type} : List (Lit × DataW H) → Nat
  | [] => 0
  | x :: r => uptoBulkEntry x + uptoBulkEntries r
def uptoBulkEntry {H : Type} : Lit × DataW H → Nat
  | (.string bytes, d) => bytes.length + uptoBulk d + 1
  | (_, d) => uptoBulk d + 1
 end
def uptoSmall : (H : Type) → List (DataW H) → Bool := fun _ ds => decide (uptoBulkAll ds ≤ 1048576)
def OpenSpec.upto (s : _root_.Go.ChangeSpec) : _root_.Go.OpenSpec := { _root_.Go.OpenSpec.ofChange s with cond := some uptoSmall }

/-- 'warrenlaw10.TreePlays', WHERE WHAT IT READS IS OF BULK AT MOST 1048576: true; the input reads as it did. -/
def treePlaysUptoRow : OpenClaim := { program := "ytlngeaacjbdmhaagreat", sum := "337325724ff2841f5fdc670d5a6d328662d93d8b75adb40ea90a1a7b54c63b45", func := "warren/warrenlaw10.TreePlays", spec := "treePlays", inPlace := ["internal/bytealg.IndexByteString", "internal/bytealg.IndexString", "internal/bytealg.abigen_runtime_cmpstring", "slices.overlaps[warren/tree.entry]"], unfollowed := true, recurses := true, named := ["internal/bytealg.MaxLen"], apart := false, narrowed := true }
def TreePlaysUptoSaid : Prop := treePlaysUptoRow.holds Tryz.pinned (OpenSpec.upto treePlaysSpec)

/-- 'warrenlaw10.TreeTame', WHERE WHAT IT READS IS OF BULK AT MOST 1048576: true; the input reads as it did. -/
def treeTameUptoRow : OpenClaim := { program := "ytlngeaacjbdmhaagreat", sum := "337325724ff2841f5fdc670d5a6d328662d93d8b75adb40ea90a1a7b54c63b45", func := "warren/warrenlaw10.TreeTame", spec := "treeTame", inPlace := ["internal/bytealg.IndexByteString", "internal/bytealg.IndexString", "internal/bytealg.abigen_runtime_cmpstring", "slices.overlaps[warren/tree.entry]"], unfollowed := true, recurses := true, named := ["internal/bytealg.MaxLen"], apart := false, narrowed := true }
def TreeTameUptoSaid : Prop := treeTameUptoRow.holds Tryz.pinned (OpenSpec.upto treeTameSpec)

/-- 'warrenlaw12.WalkNumbers', WHERE WHAT IT READS IS OF BULK AT MOST 1048576: true; the input reads as it did. -/
def walkNumbersUptoRow : OpenClaim := { program := "ytlngeaacjbdmhaagreat", sum := "337325724ff2841f5fdc670d5a6d328662d93d8b75adb40ea90a1a7b54c63b45", func := "warren/warrenlaw12.WalkNumbers", spec := "walkNumbers", inPlace := ["internal/bytealg.IndexByteString", "internal/bytealg.IndexString", "internal/bytealg.abigen_runtime_cmpstring", "slices.overlaps[warren/tree.entry]", "internal/abi.NoEscape"], unfollowed := true, recurses := true, named := ["internal/bytealg.MaxLen"], apart := false, narrowed := true }
def WalkNumbersUptoSaid : Prop := walkNumbersUptoRow.holds Tryz.pinned (OpenSpec.upto walkNumbersSpec)

/-- 'warrenlaw12.WalkPlays', WHERE WHAT IT READS IS OF BULK AT MOST 1048576: true; the input reads as it did. -/
def walkPlaysUptoRow : OpenClaim := { program := "ytlngeaacjbdmhaagreat", sum := "337325724ff2841f5fdc670d5a6d328662d93d8b75adb40ea90a1a7b54c63b45", func := "warren/warrenlaw12.WalkPlays", spec := "walkPlays", inPlace := ["internal/bytealg.IndexByteString", "internal/bytealg.IndexString", "internal/bytealg.abigen_runtime_cmpstring", "slices.overlaps[warren/tree.entry]", "internal/abi.NoEscape"], unfollowed := true, recurses := true, named := ["internal/bytealg.MaxLen"], apart := false, narrowed := true }
def WalkPlaysUptoSaid : Prop := walkPlaysUptoRow.holds Tryz.pinned (OpenSpec.upto walkPlaysSpec)

/-- 'warrenlaw12.WalkParts', WHERE WHAT IT READS IS OF BULK AT MOST 1048576: true; the input reads as it did. -/
def walkPartsUptoRow : OpenClaim := { program := "ytlngeaacjbdmhaagreat", sum := "337325724ff2841f5fdc670d5a6d328662d93d8b75adb40ea90a1a7b54c63b45", func := "warren/warrenlaw12.WalkParts", spec := "walkParts", inPlace := ["internal/bytealg.IndexByteString", "internal/bytealg.IndexString", "internal/bytealg.abigen_runtime_cmpstring", "slices.overlaps[warren/tree.entry]", "internal/abi.NoEscape"], unfollowed := true, recurses := true, named := ["internal/bytealg.MaxLen"], apart := false, narrowed := true }
def WalkPartsUptoSaid : Prop := walkPartsUptoRow.holds Tryz.pinned (OpenSpec.upto walkPartsSpec)

/-- 'warrenlaw12.WalkSteps', WHERE WHAT IT READS IS OF BULK AT MOST 1048576: true; the input reads as it did. -/
def walkStepsUptoRow : OpenClaim := { program := "ytlngeaacjbdmhaagreat", sum := "337325724ff2841f5fdc670d5a6d328662d93d8b75adb40ea90a1a7b54c63b45", func := "warren/warrenlaw12.WalkSteps", spec := "walkSteps", inPlace := ["internal/bytealg.IndexByteString", "internal/bytealg.IndexString", "internal/bytealg.abigen_runtime_cmpstring", "slices.overlaps[warren/tree.entry]", "internal/abi.NoEscape"], unfollowed := true, recurses := true, named := ["internal/bytealg.MaxLen"], apart := false, narrowed := true }
def WalkStepsUptoSaid : Prop := walkStepsUptoRow.holds Tryz.pinned (OpenSpec.upto walkStepsSpec)

/-- 'warrenlaw12.WalkRoots', WHERE WHAT IT READS IS OF BULK AT MOST 1048576: true; the input reads as it did. -/
def walkRootsUptoRow : OpenClaim := { program := "ytlngeaacjbdmhaagreat", sum := "337325724ff2841f5fdc670d5a6d328662d93d8b75adb40ea90a1a7b54c63b45", func := "warren/warrenlaw12.WalkRoots", spec := "walkRoots", inPlace := ["internal/bytealg.IndexByteString", "internal/bytealg.IndexString", "internal/bytealg.abigen_runtime_cmpstring", "slices.overlaps[warren/tree.entry]", "internal/abi.NoEscape"], unfollowed := true, recurses := true, named := ["internal/bytealg.MaxLen"], apart := false, narrowed := true }
def WalkRootsUptoSaid : Prop := walkRootsUptoRow.holds Tryz.pinned (OpenSpec.upto walkRootsSpec)

/-- 'warrenlaw13.DiropNumbers', WHERE WHAT IT READS IS OF BULK AT MOST 1048576: true; the input reads as it did. -/
def diropNumbersUptoRow : OpenClaim := { program := "ytlngeaacjbdmhaagreat", sum := "337325724ff2841f5fdc670d5a6d328662d93d8b75adb40ea90a1a7b54c63b45", func := "warren/warrenlaw13.DiropNumbers", spec := "diropNumbers", inPlace := ["internal/bytealg.IndexByteString", "internal/bytealg.IndexString", "internal/bytealg.abigen_runtime_cmpstring", "internal/abi.NoEscape", "slices.overlaps[warren/tree.entry]"], unfollowed := true, recurses := true, named := ["internal/bytealg.MaxLen"], apart := false, narrowed := true }
def DiropNumbersUptoSaid : Prop := diropNumbersUptoRow.holds Tryz.pinned (OpenSpec.upto diropNumbersSpec)

/-- 'warrenlaw13.DiropPlays', WHERE WHAT IT READS IS OF BULK AT MOST 1048576: true; the input reads as it did. -/
def diropPlaysUptoRow : OpenClaim := { program := "ytlngeaacjbdmhaagreat", sum := "337325724ff2841f5fdc670d5a6d328662d93d8b75adb40ea90a1a7b54c63b45", func := "warren/warrenlaw13.DiropPlays", spec := "diropPlays", inPlace := ["internal/bytealg.IndexByteString", "internal/bytealg.IndexString", "internal/bytealg.abigen_runtime_cmpstring", "slices.overlaps[warren/tree.entry]", "internal/abi.NoEscape"], unfollowed := true, recurses := true, named := ["internal/bytealg.MaxLen"], apart := false, narrowed := true }
def DiropPlaysUptoSaid : Prop := diropPlaysUptoRow.holds Tryz.pinned (OpenSpec.upto diropPlaysSpec)

/-- 'warrenlaw13.DiropRefused', WHERE WHAT IT READS IS OF BULK AT MOST 1048576: true; the input reads as it did. -/
def diropRefusedUptoRow : OpenClaim := { program := "ytlngeaacjbdmhaagreat", sum := "337325724ff2841f5fdc670d5a6d328662d93d8b75adb40ea90a1a7b54c63b45", func := "warren/warrenlaw13.DiropRefused", spec := "diropRefused", inPlace := ["internal/bytealg.IndexByteString", "internal/bytealg.IndexString", "internal/bytealg.abigen_runtime_cmpstring", "slices.overlaps[warren/tree.entry]", "internal/abi.NoEscape"], unfollowed := true, recurses := true, named := ["internal/bytealg.MaxLen"], apart := false, narrowed := true }
def DiropRefusedUptoSaid : Prop := diropRefusedUptoRow.holds Tryz.pinned (OpenSpec.upto diropRefusedSpec)

/-- 'warrenlaw13.DiropRenames', WHERE WHAT IT READS IS OF BULK AT MOST 1048576: true; the input reads as it did. -/
def diropRenamesUptoRow : OpenClaim := { program := "ytlngeaacjbdmhaagreat", sum := "337325724ff2841f5fdc670d5a6d328662d93d8b75adb40ea90a1a7b54c63b45", func := "warren/warrenlaw13.DiropRenames", spec := "diropRenames", inPlace := ["internal/bytealg.IndexByteString", "internal/bytealg.IndexString", "internal/bytealg.abigen_runtime_cmpstring", "slices.overlaps[warren/tree.entry]", "internal/abi.NoEscape"], unfollowed := true, recurses := true, named := ["internal/bytealg.MaxLen"], apart := false, narrowed := true }
def DiropRenamesUptoSaid : Prop := diropRenamesUptoRow.holds Tryz.pinned (OpenSpec.upto diropRenamesSpec)

/-- 'warrenlaw13.DiropAsks', WHERE WHAT IT READS IS OF BULK AT MOST 1048576: true; the input reads as it did. -/
def diropAsksUptoRow : OpenClaim := { program := "ytlngeaacjbdmhaagreat", sum := "337325724ff2841f5fdc670d5a6d328662d93d8b75adb40ea90a1a7b54c63b45", func := "warren/warrenlaw13.DiropAsks", spec := "diropAsks", inPlace := ["internal/bytealg.IndexByteString", "internal/bytealg.IndexString", "internal/bytealg.abigen_runtime_cmpstring", "slices.overlaps[warren/tree.entry]", "internal/abi.NoEscape"], unfollowed := true, recurses := true, named := ["internal/bytealg.MaxLen"], apart := false, narrowed := true }
def DiropAsksUptoSaid : Prop := diropAsksUptoRow.holds Tryz.pinned (OpenSpec.upto diropAsksSpec)

/-- 'warrenlaw13.DiropMakes', WHERE WHAT IT READS IS OF BULK AT MOST 1048576: true; the input reads as it did. -/
def diropMakesUptoRow : OpenClaim := { program := "ytlngeaacjbdmhaagreat", sum := "337325724ff2841f5fdc670d5a6d328662d93d8b75adb40ea90a1a7b54c63b45", func := "warren/warrenlaw13.DiropMakes", spec := "diropMakes", inPlace := ["internal/bytealg.IndexByteString", "internal/bytealg.IndexString", "internal/bytealg.abigen_runtime_cmpstring", "slices.overlaps[warren/tree.entry]", "internal/abi.NoEscape"], unfollowed := true, recurses := true, named := ["internal/bytealg.MaxLen"], apart := false, narrowed := true }
def DiropMakesUptoSaid : Prop := diropMakesUptoRow.holds Tryz.pinned (OpenSpec.upto diropMakesSpec)

end Rows
end Go.Proofs.YtlngeaacjbdmhaaGreat
