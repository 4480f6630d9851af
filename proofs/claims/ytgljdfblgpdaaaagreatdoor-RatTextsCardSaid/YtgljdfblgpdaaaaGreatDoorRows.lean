/-
  NARROWER THAN 'FOR EVERY INPUT', by the rows' own cells (each row's printed sentence says how): NumArithmetic: laid · RatMakes: laid · RatComputes: laid · RatCommon: laid · RatSimplest: laid · RatField: laid · RatTexts: laid · RatStays: laid.
  DERIVED. THE GIVEN ROWS OF THIS SEAT. 8 by the template 'for every input the law returns true; each argument reads behind the call as it read before'; 0 by the template 'total and deterministic' (their statements: YtgljdfblgpdaaaaGreatDoorTotals.lean).
  GIVEN WITH THE SEED: the statements are not yours to turn. If you find one false, say at which input.
  Laid BY PROGRAM, IN A SANDBOX (cutbox-rows.mjs): the forced cells as the released guide's own fill.sh prints them over the translation f76235feff4a4dfc… (all of the seat's roots in one cut). By AI agents, Wed Nov 11 2026. No macro, syntax, notation, axiom, sorry.
-/
import Derived.Test.YtgljdfblgpdaaaaGreatDoorChecked
import GoSem.Claim
import GoSem.ClaimJoined
import GoSem.ClaimMapViews
import Derived.JoinedTies
import Derived.KernelRfl
namespace Go.Proofs.YtgljdfblgpdaaaaGreatDoor
/- THE CELL 'sum', in the pinned program and in every row, IS THE sha256 OF THE DUMP (.gsa) THAT YtgljdfblgpdaaaaGreatDoorProg.lean LOADS. Nothing in Lean hashes anything: it is a label: what it is worth is what the hold of that sum in a sandbox is worth. -/
noncomputable def Tryz.pinned : Pinned := { name := "ytgljdfblgpdaaaagreatdoor", sum := "f76235feff4a4dfc9d8f5770e8b0e9f18949e8790550a0384cfdec65910168de", checked := Tryz.checked }
namespace Rows
def none {H : Type} : Left H := { results := [], args := [] }

/- WHAT THE LISTED PACKAGE-LEVEL VARIABLES READ AS WHEN THE CALL BEGINS. Each datum BY PROGRAM (the guide's laid-datum.mjs) off the statement by which the dump's own 'gosem.cut.vars' lays the variable. In a bare row this is a premise. The card (YtgljdfblgpdaaaaGreatDoorCards.lean) ties it to the program's text. -/
def laid_quadratrix_num_tens {H : Type} : DataW H := .agg [.lit (.int .u32 1), .lit (.int .u32 10), .lit (.int .u32 100), .lit (.int .u32 1000), .lit (.int .u32 10000), .lit (.int .u32 100000), .lit (.int .u32 1000000), .lit (.int .u32 10000000), .lit (.int .u32 100000000), .lit (.int .u32 1000000000)]

/-- 'quadratrixlaw01.NumArithmetic': WHATEVER THE INPUT: true; the input reads as it did. -/
def numArithmeticSpec : ChangeSpec := { name := "numArithmetic", fn := fun _ => fun
  | [d1, d2] => { results := [.lit (.bool true)], args := [d1, d2] }
  | _ => none }
def numArithmeticRow : OpenClaim := { program := "ytgljdfblgpdaaaagreatdoor", sum := "f76235feff4a4dfc9d8f5770e8b0e9f18949e8790550a0384cfdec65910168de", func := "quadratrix/quadratrixlaw01.NumArithmetic", spec := "numArithmetic", unfollowed := true, recurses := true, named := ["quadratrix/num.tens"], apart := false, laid := [("quadratrix/num.tens", laid_quadratrix_num_tens)] }
def NumArithmeticSaid : Prop := numArithmeticRow.holds Tryz.pinned (OpenSpec.ofChange numArithmeticSpec)

/-- ITS FALSE NEIGHBOUR: 'it returns false'. Refute it at one input. -/
def numArithmeticWrong : ChangeSpec := { name := "numArithmetic", fn := fun _ => fun
  | [d1, d2] => { results := [.lit (.bool false)], args := [d1, d2] }
  | _ => none }
def NumArithmeticWrongFalsely : Prop := numArithmeticRow.holds Tryz.pinned (OpenSpec.ofChange numArithmeticWrong)

/-- 'quadratrixlaw02.RatMakes': WHATEVER THE INPUT: true; the input reads as it did. -/
def ratMakesSpec : ChangeSpec := { name := "ratMakes", fn := fun _ => fun
  | [d1, d2, d3, d4, d5] => { results := [.lit (.bool true)], args := [d1, d2, d3, d4, d5] }
  | _ => none }
def ratMakesRow : OpenClaim := { program := "ytgljdfblgpdaaaagreatdoor", sum := "f76235feff4a4dfc9d8f5770e8b0e9f18949e8790550a0384cfdec65910168de", func := "quadratrix/quadratrixlaw02.RatMakes", spec := "ratMakes", inPlace := ["internal/bytealg.IndexByteString", "internal/bytealg.IndexString"], unfollowed := true, recurses := true, named := ["internal/bytealg.MaxLen", "quadratrix/num.tens"], apart := false, laid := [("quadratrix/num.tens", laid_quadratrix_num_tens)] }
def RatMakesSaid : Prop := ratMakesRow.holds Tryz.pinned (OpenSpec.ofChange ratMakesSpec)

/-- ITS FALSE NEIGHBOUR: 'it returns false'. Refute it at one input. -/
def ratMakesWrong : ChangeSpec := { name := "ratMakes", fn := fun _ => fun
  | [d1, d2, d3, d4, d5] => { results := [.lit (.bool false)], args := [d1, d2, d3, d4, d5] }
  | _ => none }
def RatMakesWrongFalsely : Prop := ratMakesRow.holds Tryz.pinned (OpenSpec.ofChange ratMakesWrong)

/-- 'quadratrixlaw02.RatComputes': WHATEVER THE INPUT: true; the input reads as it did. -/
def ratComputesSpec : ChangeSpec := { name := "ratComputes", fn := fun _ => fun
  | [d1, d2, d3] => { results := [.lit (.bool true)], args := [d1, d2, d3] }
  | _ => none }
def ratComputesRow : OpenClaim := { program := "ytgljdfblgpdaaaagreatdoor", sum := "f76235feff4a4dfc9d8f5770e8b0e9f18949e8790550a0384cfdec65910168de", func := "quadratrix/quadratrixlaw02.RatComputes", spec := "ratComputes", inPlace := ["internal/bytealg.IndexByteString", "internal/bytealg.IndexString"], unfollowed := true, recurses := true, named := ["internal/bytealg.MaxLen", "quadratrix/num.tens"], apart := false, laid := [("quadratrix/num.tens", laid_quadratrix_num_tens)] }
def RatComputesSaid : Prop := ratComputesRow.holds Tryz.pinned (OpenSpec.ofChange ratComputesSpec)

/-- ITS FALSE NEIGHBOUR: 'it returns false'. Refute it at one input. -/
def ratComputesWrong : ChangeSpec := { name := "ratComputes", fn := fun _ => fun
  | [d1, d2, d3] => { results := [.lit (.bool false)], args := [d1, d2, d3] }
  | _ => none }
def RatComputesWrongFalsely : Prop := ratComputesRow.holds Tryz.pinned (OpenSpec.ofChange ratComputesWrong)

/-- 'quadratrixlaw02.RatCommon': WHATEVER THE INPUT: true; the input reads as it did. -/
def ratCommonSpec : ChangeSpec := { name := "ratCommon", fn := fun _ => fun
  | [d] => { results := [.lit (.bool true)], args := [d] }
  | _ => none }
def ratCommonRow : OpenClaim := { program := "ytgljdfblgpdaaaagreatdoor", sum := "f76235feff4a4dfc9d8f5770e8b0e9f18949e8790550a0384cfdec65910168de", func := "quadratrix/quadratrixlaw02.RatCommon", spec := "ratCommon", inPlace := ["internal/bytealg.IndexByteString", "internal/bytealg.IndexString"], unfollowed := true, recurses := true, named := ["internal/bytealg.MaxLen", "quadratrix/num.tens"], apart := false, laid := [("quadratrix/num.tens", laid_quadratrix_num_tens)] }
def RatCommonSaid : Prop := ratCommonRow.holds Tryz.pinned (OpenSpec.ofChange ratCommonSpec)

/-- ITS FALSE NEIGHBOUR: 'it returns false'. Refute it at one input. -/
def ratCommonWrong : ChangeSpec := { name := "ratCommon", fn := fun _ => fun
  | [d] => { results := [.lit (.bool false)], args := [d] }
  | _ => none }
def RatCommonWrongFalsely : Prop := ratCommonRow.holds Tryz.pinned (OpenSpec.ofChange ratCommonWrong)

/-- 'quadratrixlaw02.RatSimplest': WHATEVER THE INPUT: true; the input reads as it did. -/
def ratSimplestSpec : ChangeSpec := { name := "ratSimplest", fn := fun _ => fun
  | [d1, d2, d3] => { results := [.lit (.bool true)], args := [d1, d2, d3] }
  | _ => none }
def ratSimplestRow : OpenClaim := { program := "ytgljdfblgpdaaaagreatdoor", sum := "f76235feff4a4dfc9d8f5770e8b0e9f18949e8790550a0384cfdec65910168de", func := "quadratrix/quadratrixlaw02.RatSimplest", spec := "ratSimplest", inPlace := ["internal/bytealg.IndexByteString", "internal/bytealg.IndexString"], unfollowed := true, recurses := true, named := ["internal/bytealg.MaxLen", "quadratrix/num.tens"], apart := false, laid := [("quadratrix/num.tens", laid_quadratrix_num_tens)] }
def RatSimplestSaid : Prop := ratSimplestRow.holds Tryz.pinned (OpenSpec.ofChange ratSimplestSpec)

/-- ITS FALSE NEIGHBOUR: 'it returns false'. Refute it at one input. -/
def ratSimplestWrong : ChangeSpec := { name := "ratSimplest", fn := fun _ => fun
  | [d1, d2, d3] => { results := [.lit (.bool false)], args := [d1, d2, d3] }
  | _ => none }
def RatSimplestWrongFalsely : Prop := ratSimplestRow.holds Tryz.pinned (OpenSpec.ofChange ratSimplestWrong)

/-- 'quadratrixlaw02.RatField': WHATEVER THE INPUT: true; the input reads as it did. -/
def ratFieldSpec : ChangeSpec := { name := "ratField", fn := fun _ => fun
  | [d1, d2, d3, d4, d5] => { results := [.lit (.bool true)], args := [d1, d2, d3, d4, d5] }
  | _ => none }
def ratFieldRow : OpenClaim := { program := "ytgljdfblgpdaaaagreatdoor", sum := "f76235feff4a4dfc9d8f5770e8b0e9f18949e8790550a0384cfdec65910168de", func := "quadratrix/quadratrixlaw02.RatField", spec := "ratField", inPlace := ["internal/bytealg.IndexByteString", "internal/bytealg.IndexString"], unfollowed := true, recurses := true, named := ["internal/bytealg.MaxLen", "quadratrix/num.tens"], apart := false, laid := [("quadratrix/num.tens", laid_quadratrix_num_tens)] }
def RatFieldSaid : Prop := ratFieldRow.holds Tryz.pinned (OpenSpec.ofChange ratFieldSpec)

/-- ITS FALSE NEIGHBOUR: 'it returns false'. Refute it at one input. -/
def ratFieldWrong : ChangeSpec := { name := "ratField", fn := fun _ => fun
  | [d1, d2, d3, d4, d5] => { results := [.lit (.bool false)], args := [d1, d2, d3, d4, d5] }
  | _ => none }
def RatFieldWrongFalsely : Prop := ratFieldRow.holds Tryz.pinned (OpenSpec.ofChange ratFieldWrong)

/-- 'quadratrixlaw02.RatTexts': WHATEVER THE INPUT: true; the input reads as it did. -/
def ratTextsSpec : ChangeSpec := { name := "ratTexts", fn := fun _ => fun
  | [d1, d2] => { results := [.lit (.bool true)], args := [d1, d2] }
  | _ => none }
def ratTextsRow : OpenClaim := { program := "ytgljdfblgpdaaaagreatdoor", sum := "f76235feff4a4dfc9d8f5770e8b0e9f18949e8790550a0384cfdec65910168de", func := "quadratrix/quadratrixlaw02.RatTexts", spec := "ratTexts", inPlace := ["internal/bytealg.IndexByteString", "internal/bytealg.IndexString"], unfollowed := true, recurses := true, named := ["internal/bytealg.MaxLen", "quadratrix/num.tens"], apart := false, laid := [("quadratrix/num.tens", laid_quadratrix_num_tens)] }
def RatTextsSaid : Prop := ratTextsRow.holds Tryz.pinned (OpenSpec.ofChange ratTextsSpec)

/-- ITS FALSE NEIGHBOUR: 'it returns false'. Refute it at one input. -/
def ratTextsWrong : ChangeSpec := { name := "ratTexts", fn := fun _ => fun
  | [d1, d2] => { results := [.lit (.bool false)], args := [d1, d2] }
  | _ => none }
def RatTextsWrongFalsely : Prop := ratTextsRow.holds Tryz.pinned (OpenSpec.ofChange ratTextsWrong)

/-- 'quadratrixlaw02.RatStays': WHATEVER THE INPUT: true; the input reads as it did. -/
def ratStaysSpec : ChangeSpec := { name := "ratStays", fn := fun _ => fun
  | [d1, d2, d3, d4] => { results := [.lit (.bool true)], args := [d1, d2, d3, d4] }
  | _ => none }
def ratStaysRow : OpenClaim := { program := "ytgljdfblgpdaaaagreatdoor", sum := "f76235feff4a4dfc9d8f5770e8b0e9f18949e8790550a0384cfdec65910168de", func := "quadratrix/quadratrixlaw02.RatStays", spec := "ratStays", inPlace := ["internal/bytealg.IndexByteString", "internal/bytealg.IndexString"], unfollowed := true, recurses := true, named := ["internal/bytealg.MaxLen", "quadratrix/num.tens"], apart := false, laid := [("quadratrix/num.tens", laid_quadratrix_num_tens)] }
def RatStaysSaid : Prop := ratStaysRow.holds Tryz.pinned (OpenSpec.ofChange ratStaysSpec)

/-- ITS FALSE NEIGHBOUR: 'it returns false'. Refute it at one input. -/
def ratStaysWrong : ChangeSpec := { name := "ratStays", fn := fun _ => fun
  | [d1, d2, d3, d4] => { results := [.lit (.bool false)], args := [d1, d2, d3, d4] }
  | _ => none }
def RatStaysWrongFalsely : Prop := ratStaysRow.holds Tryz.pinned (OpenSpec.ofChange ratStaysWrong)

/- THE SECOND FORM. 'bulk': how many values and letters a reading holds, each counted each time it is reached (what is shared counts as often as it is met; a slice's spare places count too). A statement '..UptoSaid' is the law's where the arguments, and the package variables that the reading takes, are together of bulk at most 1048576: NARROWER than '..Said'. Prove '..Said' where nothing that the law and all that it calls make is longer than what came in: it says more and counts as full. Else prove '..UptoSaid'. A law counts once. -/
mutual
def uptoBulk {H : Type} : DataW H → Nat
  | .lit (.string bytes) => bytes.length + 1
  | .lit _ => 1
  | .nil => 1
  | .ptr d => uptoBulk d + 1
  | .slice elems spare => uptoBulkAll elems + uptoBulkAll spare + 1
  | .agg parts => uptoBulkAll parts + 1
  | .iface _ d => uptoBulk d + 1
  | .map entries => uptoBulkEntries entries + 1
  | .held _ => 1
def uptoBulkAll {H : Type} : List (DataW H) → Nat
  | [] => 0
  | d :: r => uptoBulk d + uptoBulkAll r
def uptoBulkEntries {H : Type} : List (Lit × DataW H) → Nat
  | [] => 0
  | x :: r => uptoBulkEntry x + uptoBulkEntries r
def uptoBulkEntry {H : Type} : Lit × DataW H → Nat
  | (.string bytes, d) => bytes.length + uptoBulk d + 1
  | (_, d) => uptoBulk d + 1
 end
def uptoSmall : (H : Type) → List (DataW H) → Bool := fun _ ds => decide (uptoBulkAll ds ≤ 1048576)
def OpenSpec.upto (s : _root_.Go.ChangeSpec) : _root_.Go.OpenSpec := { _root_.Go.OpenSpec.ofChange s with cond := some uptoSmall }

/-- 'quadratrixlaw01.NumArithmetic', WHERE WHAT IT READS IS OF BULK AT MOST 1048576: true; the input reads as it did. -/
def numArithmeticUptoRow : OpenClaim := { program := "ytgljdfblgpdaaaagreatdoor", sum := "f76235feff4a4dfc9d8f5770e8b0e9f18949e8790550a0384cfdec65910168de", func := "quadratrix/quadratrixlaw01.NumArithmetic", spec := "numArithmetic", unfollowed := true, recurses := true, named := ["quadratrix/num.tens"], apart := false, laid := [("quadratrix/num.tens", laid_quadratrix_num_tens)], narrowed := true }
def NumArithmeticUptoSaid : Prop := numArithmeticUptoRow.holds Tryz.pinned (OpenSpec.upto numArithmeticSpec)

/-- 'quadratrixlaw02.RatMakes', WHERE WHAT IT READS IS OF BULK AT MOST 1048576: true; the input reads as it did. -/
def ratMakesUptoRow : OpenClaim := { program := "ytgljdfblgpdaaaagreatdoor", sum := "f76235feff4a4dfc9d8f5770e8b0e9f18949e8790550a0384cfdec65910168de", func := "quadratrix/quadratrixlaw02.RatMakes", spec := "ratMakes", inPlace := ["internal/bytealg.IndexByteString", "internal/bytealg.IndexString"], unfollowed := true, recurses := true, named := ["internal/bytealg.MaxLen", "quadratrix/num.tens"], apart := false, laid := [("quadratrix/num.tens", laid_quadratrix_num_tens)], narrowed := true }
def RatMakesUptoSaid : Prop := ratMakesUptoRow.holds Tryz.pinned (OpenSpec.upto ratMakesSpec)

/-- 'quadratrixlaw02.RatComputes', WHERE WHAT IT READS IS OF BULK AT MOST 1048576: true; the input reads as it did. -/
def ratComputesUptoRow : OpenClaim := { program := "ytgljdfblgpdaaaagreatdoor", sum := "f76235feff4a4dfc9d8f5770e8b0e9f18949e8790550a0384cfdec65910168de", func := "quadratrix/quadratrixlaw02.RatComputes", spec := "ratComputes", inPlace := ["internal/bytealg.IndexByteString", "internal/bytealg.IndexString"], unfollowed := true, recurses := true, named := ["internal/bytealg.MaxLen", "quadratrix/num.tens"], apart := false, laid := [("quadratrix/num.tens", laid_quadratrix_num_tens)], narrowed := true }
def RatComputesUptoSaid : Prop := ratComputesUptoRow.holds Tryz.pinned (OpenSpec.upto ratComputesSpec)

/-- 'quadratrixlaw02.RatCommon', WHERE WHAT IT READS IS OF BULK AT MOST 1048576: true; the input reads as it did. -/
def ratCommonUptoRow : OpenClaim := { program := "ytgljdfblgpdaaaagreatdoor", sum := "f76235feff4a4dfc9d8f5770e8b0e9f18949e8790550a0384cfdec65910168de", func := "quadratrix/quadratrixlaw02.RatCommon", spec := "ratCommon", inPlace := ["internal/bytealg.IndexByteString", "internal/bytealg.IndexString"], unfollowed := true, recurses := true, named := ["internal/bytealg.MaxLen", "quadratrix/num.tens"], apart := false, laid := [("quadratrix/num.tens", laid_quadratrix_num_tens)], narrowed := true }
def RatCommonUptoSaid : Prop := ratCommonUptoRow.holds Tryz.pinned (OpenSpec.upto ratCommonSpec)

/-- 'quadratrixlaw02.RatSimplest', WHERE WHAT IT READS IS OF BULK AT MOST 1048576: true; the input reads as it did. -/
def ratSimplestUptoRow : OpenClaim := { program := "ytgljdfblgpdaaaagreatdoor", sum := "f76235feff4a4dfc9d8f5770e8b0e9f18949e8790550a0384cfdec65910168de", func := "quadratrix/quadratrixlaw02.RatSimplest", spec := "ratSimplest", inPlace := ["internal/bytealg.IndexByteString", "internal/bytealg.IndexString"], unfollowed := true, recurses := true, named := ["internal/bytealg.MaxLen", "quadratrix/num.tens"], apart := false, laid := [("quadratrix/num.tens", laid_quadratrix_num_tens)], narrowed := true }
def RatSimplestUptoSaid : Prop := ratSimplestUptoRow.holds Tryz.pinned (OpenSpec.upto ratSimplestSpec)

/-- 'quadratrixlaw02.RatField', WHERE WHAT IT READS IS OF BULK AT MOST 1048576: true; the input reads as it did. -/
def ratFieldUptoRow : OpenClaim := { program := "ytgljdfblgpdaaaagreatdoor", sum := "f76235feff4a4dfc9d8f5770e8b0e9f18949e8790550a0384cfdec65910168de", func := "quadratrix/quadratrixlaw02.RatField", spec := "ratField", inPlace := ["internal/bytealg.IndexByteString", "internal/bytealg.IndexString"], unfollowed := true, recurses := true, named := ["internal/bytealg.MaxLen", "quadratrix/num.tens"], apart := false, laid := [("quadratrix/num.tens", laid_quadratrix_num_tens)], narrowed := true }
def RatFieldUptoSaid : Prop := ratFieldUptoRow.holds Tryz.pinned (OpenSpec.upto ratFieldSpec)

/-- 'quadratrixlaw02.RatTexts', WHERE WHAT IT READS IS OF BULK AT MOST 1048576: true; the input reads as it did. -/
def ratTextsUptoRow : OpenClaim := { program := "ytgljdfblgpdaaaagreatdoor", sum := "f76235feff4a4dfc9d8f5770e8b0e9f18949e8790550a0384cfdec65910168de", func := "quadratrix/quadratrixlaw02.RatTexts", spec := "ratTexts", inPlace := ["internal/bytealg.IndexByteString", "internal/bytealg.IndexString"], unfollowed := true, recurses := true, named := ["internal/bytealg.MaxLen", "quadratrix/num.tens"], apart := false, laid := [("quadratrix/num.tens", laid_quadratrix_num_tens)], narrowed := true }
def RatTextsUptoSaid : Prop := ratTextsUptoRow.holds Tryz.pinned (OpenSpec.upto ratTextsSpec)

/-- 'quadratrixlaw02.RatStays', WHERE WHAT IT READS IS OF BULK AT MOST 1048576: true; the input reads as it did. -/
def ratStaysUptoRow : OpenClaim := { program := "ytgljdfblgpdaaaagreatdoor", sum := "f76235feff4a4dfc9d8f5770e8b0e9f18949e8790550a0384cfdec65910168de", func := "quadratrix/quadratrixlaw02.RatStays", spec := "ratStays", inPlace := ["internal/bytealg.IndexByteString", "internal/bytealg.IndexString"], unfollowed := true, recurses := true, named := ["internal/bytealg.MaxLen", "quadratrix/num.tens"], apart := false, laid := [("quadratrix/num.tens", laid_quadratrix_num_tens)], narrowed := true }
def RatStaysUptoSaid : Prop := ratStaysUptoRow.holds Tryz.pinned (OpenSpec.upto ratStaysSpec)

end Rows
end Go.Proofs.YtgljdfblgpdaaaaGreatDoor
