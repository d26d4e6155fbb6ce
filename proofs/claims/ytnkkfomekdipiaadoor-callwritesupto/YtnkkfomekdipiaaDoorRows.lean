/-
  NARROWER THAN 'FOR EVERY INPUT', by the rows' own cells (each row's printed sentence says how): CallNumbers: laid · CallWrites: laid · CallReads: laid · CallBack: laid · CallTexts: laid · CallSizes: laid.
  DERIVED. THE GIVEN ROWS OF THIS SEAT. 6 by the template 'for every input the law returns true; each argument reads behind the call as it read before'; 0 by the template 'total and deterministic' (their statements: YtnkkfomekdipiaaDoorTotals.lean).
  GIVEN WITH THE SEED: the statements are not yours to turn. If you find one false, say at which input.
  Laid BY PROGRAM, IN A SANDBOX (cutbox-rows.mjs): the forced cells as the released guide's own fill.sh prints them over the translation 0293e9145dae4a53… (all of the seat's roots in one cut). By AI agents, Wed Nov 11 2026. No macro, syntax, notation, axiom, sorry.
-/
import Derived.Test.YtnkkfomekdipiaaDoorChecked
import GoSem.Claim
import GoSem.ClaimJoined
import GoSem.ClaimMapViews
import Derived.JoinedTies
import Derived.KernelRfl
namespace Go.Proofs.YtnkkfomekdipiaaDoor
/- THE CELL 'sum', in the pinned program and in every row, IS THE sha256 OF THE DUMP (.gsa) THAT YtnkkfomekdipiaaDoorProg.lean LOADS. Nothing in Lean hashes anything: it is a label: what it is worth is what the hold of that sum in a sandbox is worth. -/
noncomputable def Tryd.pinned : Pinned := { name := "ytnkkfomekdipiaadoor", sum := "0293e9145dae4a5356308cb09074800e09e3f2f58e1458e63a8a8509ae697c6f", checked := Tryd.checked }
namespace Rows
def none {H : Type} : Left H := { results := [], args := [] }

/- WHAT THE LISTED PACKAGE-LEVEL VARIABLES READ AS WHEN THE CALL BEGINS. Each datum BY PROGRAM (the guide's laid-datum.mjs) off the statement by which the dump's own 'gosem.cut.vars' lays the variable. In a bare row this is a premise. The card (YtnkkfomekdipiaaDoorCards.lean) ties it to the program's text. -/
def laid_math_bits_deBruijn32tab {H : Type} : DataW H := .agg [.lit (.int .u8 0), .lit (.int .u8 1), .lit (.int .u8 28), .lit (.int .u8 2), .lit (.int .u8 29), .lit (.int .u8 14), .lit (.int .u8 24), .lit (.int .u8 3), .lit (.int .u8 30), .lit (.int .u8 22), .lit (.int .u8 20), .lit (.int .u8 15), .lit (.int .u8 25), .lit (.int .u8 17), .lit (.int .u8 4), .lit (.int .u8 8), .lit (.int .u8 31), .lit (.int .u8 27), .lit (.int .u8 13), .lit (.int .u8 23), .lit (.int .u8 21), .lit (.int .u8 19), .lit (.int .u8 16), .lit (.int .u8 7), .lit (.int .u8 26), .lit (.int .u8 12), .lit (.int .u8 18), .lit (.int .u8 6), .lit (.int .u8 11), .lit (.int .u8 5), .lit (.int .u8 10), .lit (.int .u8 9)]
def laid_math_bits_deBruijn64tab {H : Type} : DataW H := .agg [.lit (.int .u8 0), .lit (.int .u8 1), .lit (.int .u8 56), .lit (.int .u8 2), .lit (.int .u8 57), .lit (.int .u8 49), .lit (.int .u8 28), .lit (.int .u8 3), .lit (.int .u8 61), .lit (.int .u8 58), .lit (.int .u8 42), .lit (.int .u8 50), .lit (.int .u8 38), .lit (.int .u8 29), .lit (.int .u8 17), .lit (.int .u8 4), .lit (.int .u8 62), .lit (.int .u8 47), .lit (.int .u8 59), .lit (.int .u8 36), .lit (.int .u8 45), .lit (.int .u8 43), .lit (.int .u8 51), .lit (.int .u8 22), .lit (.int .u8 53), .lit (.int .u8 39), .lit (.int .u8 33), .lit (.int .u8 30), .lit (.int .u8 24), .lit (.int .u8 18), .lit (.int .u8 12), .lit (.int .u8 5), .lit (.int .u8 63), .lit (.int .u8 55), .lit (.int .u8 48), .lit (.int .u8 27), .lit (.int .u8 60), .lit (.int .u8 41), .lit (.int .u8 37), .lit (.int .u8 16), .lit (.int .u8 46), .lit (.int .u8 35), .lit (.int .u8 44), .lit (.int .u8 21), .lit (.int .u8 52), .lit (.int .u8 32), .lit (.int .u8 23), .lit (.int .u8 11), .lit (.int .u8 54), .lit (.int .u8 26), .lit (.int .u8 40), .lit (.int .u8 15), .lit (.int .u8 34), .lit (.int .u8 20), .lit (.int .u8 31), .lit (.int .u8 10), .lit (.int .u8 25), .lit (.int .u8 14), .lit (.int .u8 19), .lit (.int .u8 9), .lit (.int .u8 13), .lit (.int .u8 8), .lit (.int .u8 7), .lit (.int .u8 6)]
def laid_internal_strconv_uint64pow10 {H : Type} : DataW H := .agg [.lit (.int .u64 1), .lit (.int .u64 10), .lit (.int .u64 100), .lit (.int .u64 1000), .lit (.int .u64 10000), .lit (.int .u64 100000), .lit (.int .u64 1000000), .lit (.int .u64 10000000), .lit (.int .u64 100000000), .lit (.int .u64 1000000000), .lit (.int .u64 10000000000), .lit (.int .u64 100000000000), .lit (.int .u64 1000000000000), .lit (.int .u64 10000000000000), .lit (.int .u64 100000000000000), .lit (.int .u64 1000000000000000), .lit (.int .u64 10000000000000000), .lit (.int .u64 100000000000000000), .lit (.int .u64 1000000000000000000), .lit (.int .u64 10000000000000000000)]
def laid_warren_call_opNames {H : Type} : DataW H := .agg [.lit (.string [109, 107, 100, 105, 114]), .lit (.string [114, 109, 100, 105, 114]), .lit (.string [111, 112, 101, 110]), .lit (.string [99, 108, 111, 115, 101]), .lit (.string [114, 101, 97, 100]), .lit (.string [119, 114, 105, 116, 101]), .lit (.string [115, 101, 101, 107]), .lit (.string [116, 114, 117, 110, 99, 97, 116, 101]), .lit (.string [108, 105, 110, 107]), .lit (.string [117, 110, 108, 105, 110, 107]), .lit (.string [115, 121, 109, 108, 105, 110, 107]), .lit (.string [114, 101, 97, 100, 108, 105, 110, 107]), .lit (.string [114, 101, 110, 97, 109, 101]), .lit (.string [105, 110, 102, 111]), .lit (.string [99, 104, 109, 111, 100]), .lit (.string [99, 104, 111, 119, 110]), .lit (.string [99, 104, 100, 105, 114]), .lit (.string [108, 105, 115, 116]), .lit (.string [98, 105, 110, 100]), .lit (.string [117, 110, 98, 105, 110, 100])]

/-- 'warrenlaw16.CallNumbers': WHATEVER THE INPUT: true; the input reads as it did. -/
def callNumbersSpec : ChangeSpec := { name := "callNumbers", fn := fun _ => fun
  | [] => { results := [.lit (.bool true)], args := [] }
  | _ => none }
def callNumbersRow : OpenClaim := { program := "ytnkkfomekdipiaadoor", sum := "0293e9145dae4a5356308cb09074800e09e3f2f58e1458e63a8a8509ae697c6f", func := "warren/warrenlaw16.CallNumbers", spec := "callNumbers", unfollowed := true, recurses := true, named := ["warren/call.opNames", "internal/strconv.uint64pow10", "math/bits.deBruijn32tab", "math/bits.deBruijn64tab"], apart := false, laid := [("math/bits.deBruijn32tab", laid_math_bits_deBruijn32tab), ("math/bits.deBruijn64tab", laid_math_bits_deBruijn64tab), ("internal/strconv.uint64pow10", laid_internal_strconv_uint64pow10), ("warren/call.opNames", laid_warren_call_opNames)] }
def CallNumbersSaid : Prop := callNumbersRow.holds Tryd.pinned (OpenSpec.ofChange callNumbersSpec)

/-- ITS FALSE NEIGHBOUR: 'it returns false'. Refute it at one input. -/
def callNumbersWrong : ChangeSpec := { name := "callNumbers", fn := fun _ => fun
  | [] => { results := [.lit (.bool false)], args := [] }
  | _ => none }
def CallNumbersWrongFalsely : Prop := callNumbersRow.holds Tryd.pinned (OpenSpec.ofChange callNumbersWrong)

/-- 'warrenlaw16.CallWrites': WHATEVER THE INPUT: true; the input reads as it did. -/
def callWritesSpec : ChangeSpec := { name := "callWrites", fn := fun _ => fun
  | [d1, d2] => { results := [.lit (.bool true)], args := [d1, d2] }
  | _ => none }
def callWritesRow : OpenClaim := { program := "ytnkkfomekdipiaadoor", sum := "0293e9145dae4a5356308cb09074800e09e3f2f58e1458e63a8a8509ae697c6f", func := "warren/warrenlaw16.CallWrites", spec := "callWrites", unfollowed := true, recurses := true, named := ["warren/call.opNames", "internal/strconv.uint64pow10", "math/bits.deBruijn32tab", "math/bits.deBruijn64tab"], apart := false, laid := [("math/bits.deBruijn32tab", laid_math_bits_deBruijn32tab), ("math/bits.deBruijn64tab", laid_math_bits_deBruijn64tab), ("internal/strconv.uint64pow10", laid_internal_strconv_uint64pow10), ("warren/call.opNames", laid_warren_call_opNames)] }
def CallWritesSaid : Prop := callWritesRow.holds Tryd.pinned (OpenSpec.ofChange callWritesSpec)

/-- ITS FALSE NEIGHBOUR: 'it returns false'. Refute it at one input. -/
def callWritesWrong : ChangeSpec := { name := "callWrites", fn := fun _ => fun
  | [d1, d2] => { results := [.lit (.bool false)], args := [d1, d2] }
  | _ => none }
def CallWritesWrongFalsely : Prop := callWritesRow.holds Tryd.pinned (OpenSpec.ofChange callWritesWrong)

/-- 'warrenlaw16.CallReads': WHATEVER THE INPUT: true; the input reads as it did. -/
def callReadsSpec : ChangeSpec := { name := "callReads", fn := fun _ => fun
  | [d1, d2, d3, d4] => { results := [.lit (.bool true)], args := [d1, d2, d3, d4] }
  | _ => none }
def callReadsRow : OpenClaim := { program := "ytnkkfomekdipiaadoor", sum := "0293e9145dae4a5356308cb09074800e09e3f2f58e1458e63a8a8509ae697c6f", func := "warren/warrenlaw16.CallReads", spec := "callReads", unfollowed := true, recurses := true, named := ["warren/call.opNames", "internal/strconv.uint64pow10", "math/bits.deBruijn32tab", "math/bits.deBruijn64tab"], apart := false, laid := [("math/bits.deBruijn32tab", laid_math_bits_deBruijn32tab), ("math/bits.deBruijn64tab", laid_math_bits_deBruijn64tab), ("internal/strconv.uint64pow10", laid_internal_strconv_uint64pow10), ("warren/call.opNames", laid_warren_call_opNames)] }
def CallReadsSaid : Prop := callReadsRow.holds Tryd.pinned (OpenSpec.ofChange callReadsSpec)

/-- ITS FALSE NEIGHBOUR: 'it returns false'. Refute it at one input. -/
def callReadsWrong : ChangeSpec := { name := "callReads", fn := fun _ => fun
  | [d1, d2, d3, d4] => { results := [.lit (.bool false)], args := [d1, d2, d3, d4] }
  | _ => none }
def CallReadsWrongFalsely : Prop := callReadsRow.holds Tryd.pinned (OpenSpec.ofChange callReadsWrong)

/-- 'warrenlaw16.CallBack': WHATEVER THE INPUT: true; the input reads as it did. -/
def callBackSpec : ChangeSpec := { name := "callBack", fn := fun _ => fun
  | [d1, d2] => { results := [.lit (.bool true)], args := [d1, d2] }
  | _ => none }
def callBackRow : OpenClaim := { program := "ytnkkfomekdipiaadoor", sum := "0293e9145dae4a5356308cb09074800e09e3f2f58e1458e63a8a8509ae697c6f", func := "warren/warrenlaw16.CallBack", spec := "callBack", unfollowed := true, recurses := true, named := ["warren/call.opNames", "internal/strconv.uint64pow10", "math/bits.deBruijn32tab", "math/bits.deBruijn64tab"], apart := false, laid := [("math/bits.deBruijn32tab", laid_math_bits_deBruijn32tab), ("math/bits.deBruijn64tab", laid_math_bits_deBruijn64tab), ("internal/strconv.uint64pow10", laid_internal_strconv_uint64pow10), ("warren/call.opNames", laid_warren_call_opNames)] }
def CallBackSaid : Prop := callBackRow.holds Tryd.pinned (OpenSpec.ofChange callBackSpec)

/-- ITS FALSE NEIGHBOUR: 'it returns false'. Refute it at one input. -/
def callBackWrong : ChangeSpec := { name := "callBack", fn := fun _ => fun
  | [d1, d2] => { results := [.lit (.bool false)], args := [d1, d2] }
  | _ => none }
def CallBackWrongFalsely : Prop := callBackRow.holds Tryd.pinned (OpenSpec.ofChange callBackWrong)

/-- 'warrenlaw16.CallTexts': WHATEVER THE INPUT: true; the input reads as it did. -/
def callTextsSpec : ChangeSpec := { name := "callTexts", fn := fun _ => fun
  | [d1, d2] => { results := [.lit (.bool true)], args := [d1, d2] }
  | _ => none }
def callTextsRow : OpenClaim := { program := "ytnkkfomekdipiaadoor", sum := "0293e9145dae4a5356308cb09074800e09e3f2f58e1458e63a8a8509ae697c6f", func := "warren/warrenlaw16.CallTexts", spec := "callTexts", unfollowed := true, recurses := true, named := ["warren/call.opNames", "internal/strconv.uint64pow10", "math/bits.deBruijn32tab", "math/bits.deBruijn64tab"], apart := false, laid := [("math/bits.deBruijn32tab", laid_math_bits_deBruijn32tab), ("math/bits.deBruijn64tab", laid_math_bits_deBruijn64tab), ("internal/strconv.uint64pow10", laid_internal_strconv_uint64pow10), ("warren/call.opNames", laid_warren_call_opNames)] }
def CallTextsSaid : Prop := callTextsRow.holds Tryd.pinned (OpenSpec.ofChange callTextsSpec)

/-- ITS FALSE NEIGHBOUR: 'it returns false'. Refute it at one input. -/
def callTextsWrong : ChangeSpec := { name := "callTexts", fn := fun _ => fun
  | [d1, d2] => { results := [.lit (.bool false)], args := [d1, d2] }
  | _ => none }
def CallTextsWrongFalsely : Prop := callTextsRow.holds Tryd.pinned (OpenSpec.ofChange callTextsWrong)

/-- 'warrenlaw16.CallSizes': WHATEVER THE INPUT: true; the input reads as it did. -/
def callSizesSpec : ChangeSpec := { name := "callSizes", fn := fun _ => fun
  | [d1, d2] => { results := [.lit (.bool true)], args := [d1, d2] }
  | _ => none }
def callSizesRow : OpenClaim := { program := "ytnkkfomekdipiaadoor", sum := "0293e9145dae4a5356308cb09074800e09e3f2f58e1458e63a8a8509ae697c6f", func := "warren/warrenlaw16.CallSizes", spec := "callSizes", unfollowed := true, recurses := true, named := ["warren/call.opNames", "internal/strconv.uint64pow10", "math/bits.deBruijn32tab", "math/bits.deBruijn64tab"], apart := false, laid := [("math/bits.deBruijn32tab", laid_math_bits_deBruijn32tab), ("math/bits.deBruijn64tab", laid_math_bits_deBruijn64tab), ("internal/strconv.uint64pow10", laid_internal_strconv_uint64pow10), ("warren/call.opNames", laid_warren_call_opNames)] }
def CallSizesSaid : Prop := callSizesRow.holds Tryd.pinned (OpenSpec.ofChange callSizesSpec)

/-- ITS FALSE NEIGHBOUR: 'it returns false'. Refute it at one input. -/
def callSizesWrong : ChangeSpec := { name := "callSizes", fn := fun _ => fun
  | [d1, d2] => { results := [.lit (.bool false)], args := [d1, d2] }
  | _ => none }
def CallSizesWrongFalsely : Prop := callSizesRow.holds Tryd.pinned (OpenSpec.ofChange callSizesWrong)

/- THE SECOND FORM. 'bulk': how many values and letters a reading holds, each counted each time it is reached (what is shared counts as often as it is met; a slice's spare places count too). A statement '..UptoSaid' is the law's where the arguments, and the package variables that the reading takes, are together of bulk at most 1048576: NARROWER than '..Said'. Prove '..Said' where nothing that the law and all that it calls make is longer than what came in: it says more and counts as full. Else prove '..UptoSaid'. A law counts once. -/
mutual
def uptoBulk {H : Type} : DataW H → Nat
  | .lit (.string bytes) => bytes.length + 1
  | .lit _ => 1
  | .nil => 1
  | .ptr d => uptoBulk d + 1
  | .slice elems spare => uptoBulkAll elems + uptoBulkAll spare + 1
  | .agg parts => uptoBulkAll parts + 1
  | .iface _ d => uptoBulk d + 1
  | .map entries => uptoBulkEntries entries + 1
  | .held _ => 1
def uptoBulkAll {H : Type} : List (DataW H) → Nat
  | [] => 0
  | d :: r => uptoBulk d + uptoBulkAll r
def uptoBulkEntries {H : Type} : List (Lit × DataW H) → Nat
  | [] => 0
  | x :: r => uptoBulkEntry x + uptoBulkEntries r
def uptoBulkEntry {H : Type} : Lit × DataW H → Nat
  | (.string bytes, d) => bytes.length + uptoBulk d + 1
  | (_, d) => uptoBulk d + 1
 end
def uptoSmall : (H : Type) → List (DataW H) → Bool := fun _ ds => decide (uptoBulkAll ds ≤ 1048576)
def OpenSpec.upto (s : _root_.Go.ChangeSpec) : _root_.Go.OpenSpec := { _root_.Go.OpenSpec.ofChange s with cond := some uptoSmall }

/-- 'warrenlaw16.CallNumbers', WHERE WHAT IT READS IS OF BULK AT MOST 1048576: true; the input reads as it did. -/
def callNumbersUptoRow : OpenClaim := { program := "ytnkkfomekdipiaadoor", sum := "0293e9145dae4a5356308cb09074800e09e3f2f58e1458e63a8a8509ae697c6f", func := "warren/warrenlaw16.CallNumbers", spec := "callNumbers", unfollowed := true, recurses := true, named := ["warren/call.opNames", "internal/strconv.uint64pow10", "math/bits.deBruijn32tab", "math/bits.deBruijn64tab"], apart := false, laid := [("math/bits.deBruijn32tab", laid_math_bits_deBruijn32tab), ("math/bits.deBruijn64tab", laid_math_bits_deBruijn64tab), ("internal/strconv.uint64pow10", laid_internal_strconv_uint64pow10), ("warren/call.opNames", laid_warren_call_opNames)], narrowed := true }
def CallNumbersUptoSaid : Prop := callNumbersUptoRow.holds Tryd.pinned (OpenSpec.upto callNumbersSpec)

/-- 'warrenlaw16.CallWrites', WHERE WHAT IT READS IS OF BULK AT MOST 1048576: true; the input reads as it did. -/
def callWritesUptoRow : OpenClaim := { program := "ytnkkfomekdipiaadoor", sum := "0293e9145dae4a5356308cb09074800e09e3f2f58e1458e63a8a8509ae697c6f", func := "warren/warrenlaw16.CallWrites", spec := "callWrites", unfollowed := true, recurses := true, named := ["warren/call.opNames", "internal/strconv.uint64pow10", "math/bits.deBruijn32tab", "math/bits.deBruijn64tab"], apart := false, laid := [("math/bits.deBruijn32tab", laid_math_bits_deBruijn32tab), ("math/bits.deBruijn64tab", laid_math_bits_deBruijn64tab), ("internal/strconv.uint64pow10", laid_internal_strconv_uint64pow10), ("warren/call.opNames", laid_warren_call_opNames)], narrowed := true }
def CallWritesUptoSaid : Prop := callWritesUptoRow.holds Tryd.pinned (OpenSpec.upto callWritesSpec)

/-- 'warrenlaw16.CallReads', WHERE WHAT IT READS IS OF BULK AT MOST 1048576: true; the input reads as it did. -/
def callReadsUptoRow : OpenClaim := { program := "ytnkkfomekdipiaadoor", sum := "0293e9145dae4a5356308cb09074800e09e3f2f58e1458e63a8a8509ae697c6f", func := "warren/warrenlaw16.CallReads", spec := "callReads", unfollowed := true, recurses := true, named := ["warren/call.opNames", "internal/strconv.uint64pow10", "math/bits.deBruijn32tab", "math/bits.deBruijn64tab"], apart := false, laid := [("math/bits.deBruijn32tab", laid_math_bits_deBruijn32tab), ("math/bits.deBruijn64tab", laid_math_bits_deBruijn64tab), ("internal/strconv.uint64pow10", laid_internal_strconv_uint64pow10), ("warren/call.opNames", laid_warren_call_opNames)], narrowed := true }
def CallReadsUptoSaid : Prop := callReadsUptoRow.holds Tryd.pinned (OpenSpec.upto callReadsSpec)

/-- 'warrenlaw16.CallBack', WHERE WHAT IT READS IS OF BULK AT MOST 1048576: true; the input reads as it did. -/
def callBackUptoRow : OpenClaim := { program := "ytnkkfomekdipiaadoor", sum := "0293e9145dae4a5356308cb09074800e09e3f2f58e1458e63a8a8509ae697c6f", func := "warren/warrenlaw16.CallBack", spec := "callBack", unfollowed := true, recurses := true, named := ["warren/call.opNames", "internal/strconv.uint64pow10", "math/bits.deBruijn32tab", "math/bits.deBruijn64tab"], apart := false, laid := [("math/bits.deBruijn32tab", laid_math_bits_deBruijn32tab), ("math/bits.deBruijn64tab", laid_math_bits_deBruijn64tab), ("internal/strconv.uint64pow10", laid_internal_strconv_uint64pow10), ("warren/call.opNames", laid_warren_call_opNames)], narrowed := true }
def CallBackUptoSaid : Prop := callBackUptoRow.holds Tryd.pinned (OpenSpec.upto callBackSpec)

/-- 'warrenlaw16.CallTexts', WHERE WHAT IT READS IS OF BULK AT MOST 1048576: true; the input reads as it did. -/
def callTextsUptoRow : OpenClaim := { program := "ytnkkfomekdipiaadoor", sum := "0293e9145dae4a5356308cb09074800e09e3f2f58e1458e63a8a8509ae697c6f", func := "warren/warrenlaw16.CallTexts", spec := "callTexts", unfollowed := true, recurses := true, named := ["warren/call.opNames", "internal/strconv.uint64pow10", "math/bits.deBruijn32tab", "math/bits.deBruijn64tab"], apart := false, laid := [("math/bits.deBruijn32tab", laid_math_bits_deBruijn32tab), ("math/bits.deBruijn64tab", laid_math_bits_deBruijn64tab), ("internal/strconv.uint64pow10", laid_internal_strconv_uint64pow10), ("warren/call.opNames", laid_warren_call_opNames)], narrowed := true }
def CallTextsUptoSaid : Prop := callTextsUptoRow.holds Tryd.pinned (OpenSpec.upto callTextsSpec)

/-- 'warrenlaw16.CallSizes', WHERE WHAT IT READS IS OF BULK AT MOST 1048576: true; the input reads as it did. -/
def callSizesUptoRow : OpenClaim := { program := "ytnkkfomekdipiaadoor", sum := "0293e9145dae4a5356308cb09074800e09e3f2f58e1458e63a8a8509ae697c6f", func := "warren/warrenlaw16.CallSizes", spec := "callSizes", unfollowed := true, recurses := true, named := ["warren/call.opNames", "internal/strconv.uint64pow10", "math/bits.deBruijn32tab", "math/bits.deBruijn64tab"], apart := false, laid := [("math/bits.deBruijn32tab", laid_math_bits_deBruijn32tab), ("math/bits.deBruijn64tab", laid_math_bits_deBruijn64tab), ("internal/strconv.uint64pow10", laid_internal_strconv_uint64pow10), ("warren/call.opNames", laid_warren_call_opNames)], narrowed := true }
def CallSizesUptoSaid : Prop := callSizesUptoRow.holds Tryd.pinned (OpenSpec.upto callSizesSpec)

end Rows
end Go.Proofs.YtnkkfomekdipiaaDoor
