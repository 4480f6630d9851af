/-
  NARROWER THAN 'FOR EVERY INPUT', by the rows' own cells (each row's printed sentence says how): NumTexts: laid · NumRing: laid · NumDivision: laid · NumBezout: laid · NumBack: laid · NumStays: laid.
  DERIVED. THE GIVEN ROWS OF THIS SEAT. 6 by the template 'for every input the law returns true; each argument reads behind the call as it read before'; 0 by the template 'total and deterministic' (their statements: YtaaipcjbmdbndaaDoorTotals.lean).
  GIVEN WITH THE SEED: the statements are not yours to turn. If you find one false, say at which input.
  Laid BY PROGRAM, IN A SANDBOX (cutbox-rows.mjs): the forced cells as the released guide's own fill.sh prints them over the translation 6176af29f8c6833b… (all of the seat's roots in one cut). By AI agents, Wed Nov 11 2026. No macro, syntax, notation, axiom, sorry.
-/
import Derived.Test.YtaaipcjbmdbndaaDoorChecked
import GoSem.Claim
import GoSem.ClaimJoined
import GoSem.ClaimMapViews
import Derived.JoinedTies
import Derived.KernelRfl
namespace Go.Proofs.YtaaipcjbmdbndaaDoor
/- THE CELL 'sum', in the pinned program and in every row, IS THE sha256 OF THE DUMP (.gsa) THAT YtaaipcjbmdbndaaDoorProg.lean LOADS. Nothing in Lean hashes anything: it is a label: what it is worth is what the hold of that sum in a sandbox is worth. -/
noncomputable def Tryd.pinned : Pinned := { name := "ytaaipcjbmdbndaadoor", sum := "6176af29f8c6833bf703744767e705efb3a11a3eb49b4050ec4ac1698a77ed8e", checked := Tryd.checked }
namespace Rows
def none {H : Type} : Left H := { results := [], args := [] }

/- WHAT THE LISTED PACKAGE-LEVEL VARIABLES READ AS WHEN THE CALL BEGINS. Each datum BY PROGRAM (the guide's laid-datum.mjs) off the statement by which the dump's own 'gosem.cut.vars' lays the variable. In a bare row this is a premise. The card (YtaaipcjbmdbndaaDoorCards.lean) ties it to the program's text. -/
def laid_quadratrix_num_tens {H : Type} : DataW H := .agg [.lit (.int .u32 1), .lit (.int .u32 10), .lit (.int .u32 100), .lit (.int .u32 1000), .lit (.int .u32 10000), .lit (.int .u32 100000), .lit (.int .u32 1000000), .lit (.int .u32 10000000), .lit (.int .u32 100000000), .lit (.int .u32 1000000000)]

/-- 'quadratrixlaw01.NumTexts': WHATEVER THE INPUT: true; the input reads as it did. -/
def numTextsSpec : ChangeSpec := { name := "numTexts", fn := fun _ => fun
  | [d1, d2] => { results := [.lit (.bool true)], args := [d1, d2] }
  | _ => none }
def numTextsRow : OpenClaim := { program := "ytaaipcjbmdbndaadoor", sum := "6176af29f8c6833bf703744767e705efb3a11a3eb49b4050ec4ac1698a77ed8e", func := "quadratrix/quadratrixlaw01.NumTexts", spec := "numTexts", unfollowed := true, recurses := true, named := ["quadratrix/num.tens"], apart := false, laid := [("quadratrix/num.tens", laid_quadratrix_num_tens)] }
def NumTextsSaid : Prop := numTextsRow.holds Tryd.pinned (OpenSpec.ofChange numTextsSpec)

/-- ITS FALSE NEIGHBOUR: 'it returns false'. Refute it at one input. -/
def numTextsWrong : ChangeSpec := { name := "numTexts", fn := fun _ => fun
  | [d1, d2] => { results := [.lit (.bool false)], args := [d1, d2] }
  | _ => none }
def NumTextsWrongFalsely : Prop := numTextsRow.holds Tryd.pinned (OpenSpec.ofChange numTextsWrong)

/-- 'quadratrixlaw01.NumRing': WHATEVER THE INPUT: true; the input reads as it did. -/
def numRingSpec : ChangeSpec := { name := "numRing", fn := fun _ => fun
  | [d1, d2, d3] => { results := [.lit (.bool true)], args := [d1, d2, d3] }
  | _ => none }
def numRingRow : OpenClaim := { program := "ytaaipcjbmdbndaadoor", sum := "6176af29f8c6833bf703744767e705efb3a11a3eb49b4050ec4ac1698a77ed8e", func := "quadratrix/quadratrixlaw01.NumRing", spec := "numRing", unfollowed := true, recurses := true, named := ["quadratrix/num.tens"], apart := false, laid := [("quadratrix/num.tens", laid_quadratrix_num_tens)] }
def NumRingSaid : Prop := numRingRow.holds Tryd.pinned (OpenSpec.ofChange numRingSpec)

/-- ITS FALSE NEIGHBOUR: 'it returns false'. Refute it at one input. -/
def numRingWrong : ChangeSpec := { name := "numRing", fn := fun _ => fun
  | [d1, d2, d3] => { results := [.lit (.bool false)], args := [d1, d2, d3] }
  | _ => none }
def NumRingWrongFalsely : Prop := numRingRow.holds Tryd.pinned (OpenSpec.ofChange numRingWrong)

/-- 'quadratrixlaw01.NumDivision': WHATEVER THE INPUT: true; the input reads as it did. -/
def numDivisionSpec : ChangeSpec := { name := "numDivision", fn := fun _ => fun
  | [d1, d2, d3] => { results := [.lit (.bool true)], args := [d1, d2, d3] }
  | _ => none }
def numDivisionRow : OpenClaim := { program := "ytaaipcjbmdbndaadoor", sum := "6176af29f8c6833bf703744767e705efb3a11a3eb49b4050ec4ac1698a77ed8e", func := "quadratrix/quadratrixlaw01.NumDivision", spec := "numDivision", unfollowed := true, recurses := true, named := ["quadratrix/num.tens"], apart := false, laid := [("quadratrix/num.tens", laid_quadratrix_num_tens)] }
def NumDivisionSaid : Prop := numDivisionRow.holds Tryd.pinned (OpenSpec.ofChange numDivisionSpec)

/-- ITS FALSE NEIGHBOUR: 'it returns false'. Refute it at one input. -/
def numDivisionWrong : ChangeSpec := { name := "numDivision", fn := fun _ => fun
  | [d1, d2, d3] => { results := [.lit (.bool false)], args := [d1, d2, d3] }
  | _ => none }
def NumDivisionWrongFalsely : Prop := numDivisionRow.holds Tryd.pinned (OpenSpec.ofChange numDivisionWrong)

/-- 'quadratrixlaw01.NumBezout': WHATEVER THE INPUT: true; the input reads as it did. -/
def numBezoutSpec : ChangeSpec := { name := "numBezout", fn := fun _ => fun
  | [d1, d2, d3] => { results := [.lit (.bool true)], args := [d1, d2, d3] }
  | _ => none }
def numBezoutRow : OpenClaim := { program := "ytaaipcjbmdbndaadoor", sum := "6176af29f8c6833bf703744767e705efb3a11a3eb49b4050ec4ac1698a77ed8e", func := "quadratrix/quadratrixlaw01.NumBezout", spec := "numBezout", unfollowed := true, recurses := true, named := ["quadratrix/num.tens"], apart := false, laid := [("quadratrix/num.tens", laid_quadratrix_num_tens)] }
def NumBezoutSaid : Prop := numBezoutRow.holds Tryd.pinned (OpenSpec.ofChange numBezoutSpec)

/-- ITS FALSE NEIGHBOUR: 'it returns false'. Refute it at one input. -/
def numBezoutWrong : ChangeSpec := { name := "numBezout", fn := fun _ => fun
  | [d1, d2, d3] => { results := [.lit (.bool false)], args := [d1, d2, d3] }
  | _ => none }
def NumBezoutWrongFalsely : Prop := numBezoutRow.holds Tryd.pinned (OpenSpec.ofChange numBezoutWrong)

/-- 'quadratrixlaw01.NumBack': WHATEVER THE INPUT: true; the input reads as it did. -/
def numBackSpec : ChangeSpec := { name := "numBack", fn := fun _ => fun
  | [d1, d2, d3, d4, d5] => { results := [.lit (.bool true)], args := [d1, d2, d3, d4, d5] }
  | _ => none }
def numBackRow : OpenClaim := { program := "ytaaipcjbmdbndaadoor", sum := "6176af29f8c6833bf703744767e705efb3a11a3eb49b4050ec4ac1698a77ed8e", func := "quadratrix/quadratrixlaw01.NumBack", spec := "numBack", unfollowed := true, recurses := true, named := ["quadratrix/num.tens"], apart := false, laid := [("quadratrix/num.tens", laid_quadratrix_num_tens)] }
def NumBackSaid : Prop := numBackRow.holds Tryd.pinned (OpenSpec.ofChange numBackSpec)

/-- ITS FALSE NEIGHBOUR: 'it returns false'. Refute it at one input. -/
def numBackWrong : ChangeSpec := { name := "numBack", fn := fun _ => fun
  | [d1, d2, d3, d4, d5] => { results := [.lit (.bool false)], args := [d1, d2, d3, d4, d5] }
  | _ => none }
def NumBackWrongFalsely : Prop := numBackRow.holds Tryd.pinned (OpenSpec.ofChange numBackWrong)

/-- 'quadratrixlaw01.NumStays': WHATEVER THE INPUT: true; the input reads as it did. -/
def numStaysSpec : ChangeSpec := { name := "numStays", fn := fun _ => fun
  | [d1, d2, d3] => { results := [.lit (.bool true)], args := [d1, d2, d3] }
  | _ => none }
def numStaysRow : OpenClaim := { program := "ytaaipcjbmdbndaadoor", sum := "6176af29f8c6833bf703744767e705efb3a11a3eb49b4050ec4ac1698a77ed8e", func := "quadratrix/quadratrixlaw01.NumStays", spec := "numStays", unfollowed := true, recurses := true, named := ["quadratrix/num.tens"], apart := false, laid := [("quadratrix/num.tens", laid_quadratrix_num_tens)] }
def NumStaysSaid : Prop := numStaysRow.holds Tryd.pinned (OpenSpec.ofChange numStaysSpec)

/-- ITS FALSE NEIGHBOUR: 'it returns false'. Refute it at one input. -/
def numStaysWrong : ChangeSpec := { name := "numStays", fn := fun _ => fun
  | [d1, d2, d3] => { results := [.lit (.bool false)], args := [d1, d2, d3] }
  | _ => none }
def NumStaysWrongFalsely : Prop := numStaysRow.holds Tryd.pinned (OpenSpec.ofChange numStaysWrong)

/- THE SECOND FORM. 'bulk': how many values and letters a reading holds, each counted each time it is reached (what is shared counts as often as it is met; a slice's spare places count too). A statement '..UptoSaid' is the law's where the arguments, and the package variables that the reading takes, are together of bulk at most 1048576: NARROWER than '..Said'. Prove '..Said' where nothing that the law and all that it calls make is longer than what came in: it says more and counts as full. Else prove '..UptoSaid'. A law counts once. -/
mutual
def uptoBulk {H : Type} : DataW H → Nat
  | .lit (.string bytes) => bytes.length + 1
  | .lit _ => 1
  | .nil => 1
  | .ptr d => uptoBulk d + 1
  | .slice elems spare => uptoBulkAll elems + uptoBulkAll spare + 1
  | .agg parts => uptoBulkAll parts + 1
  | .iface _ d => uptoBulk d + 1
  | .map entries => uptoBulkEntries entries + 1
  | .held _ => 1
def uptoBulkAll {H : Type} : List (DataW H) → Nat
  | [] => 0
  | d :: r => uptoBulk d + uptoBulkAll r
def uptoBulkEntries {H : Type} : List (Lit × DataW H) → Nat
  | [] => 0
  | x :: r => uptoBulkEntry x + uptoBulkEntries r
def uptoBulkEntry {H : Type} : Lit × DataW H → Nat
  | (.string bytes, d) => bytes.length + uptoBulk d + 1
  | (_, d) => uptoBulk d + 1
 end
def uptoSmall : (H : Type) → List (DataW H) → Bool := fun _ ds => decide (uptoBulkAll ds ≤ 1048576)
def OpenSpec.upto (s : _root_.Go.ChangeSpec) : _root_.Go.OpenSpec := { _root_.Go.OpenSpec.ofChange s with cond := some uptoSmall }

/-- 'quadratrixlaw01.NumTexts', WHERE WHAT IT READS IS OF BULK AT MOST 1048576: true; the input reads as it did. -/
def numTextsUptoRow : OpenClaim := { program := "ytaaipcjbmdbndaadoor", sum := "6176af29f8c6833bf703744767e705efb3a11a3eb49b4050ec4ac1698a77ed8e", func := "quadratrix/quadratrixlaw01.NumTexts", spec := "numTexts", unfollowed := true, recurses := true, named := ["quadratrix/num.tens"], apart := false, laid := [("quadratrix/num.tens", laid_quadratrix_num_tens)], narrowed := true }
def NumTextsUptoSaid : Prop := numTextsUptoRow.holds Tryd.pinned (OpenSpec.upto numTextsSpec)

/-- 'quadratrixlaw01.NumRing', WHERE WHAT IT READS IS OF BULK AT MOST 1048576: true; the input reads as it did. -/
def numRingUptoRow : OpenClaim := { program := "ytaaipcjbmdbndaadoor", sum := "6176af29f8c6833bf703744767e705efb3a11a3eb49b4050ec4ac1698a77ed8e", func := "quadratrix/quadratrixlaw01.NumRing", spec := "numRing", unfollowed := true, recurses := true, named := ["quadratrix/num.tens"], apart := false, laid := [("quadratrix/num.tens", laid_quadratrix_num_tens)], narrowed := true }
def NumRingUptoSaid : Prop := numRingUptoRow.holds Tryd.pinned (OpenSpec.upto numRingSpec)

/-- 'quadratrixlaw01.NumDivision', WHERE WHAT IT READS IS OF BULK AT MOST 1048576: true; the input reads as it did. -/
def numDivisionUptoRow : OpenClaim := { program := "ytaaipcjbmdbndaadoor", sum := "6176af29f8c6833bf703744767e705efb3a11a3eb49b4050ec4ac1698a77ed8e", func := "quadratrix/quadratrixlaw01.NumDivision", spec := "numDivision", unfollowed := true, recurses := true, named := ["quadratrix/num.tens"], apart := false, laid := [("quadratrix/num.tens", laid_quadratrix_num_tens)], narrowed := true }
def NumDivisionUptoSaid : Prop := numDivisionUptoRow.holds Tryd.pinned (OpenSpec.upto numDivisionSpec)

/-- 'quadratrixlaw01.NumBezout', WHERE WHAT IT READS IS OF BULK AT MOST 1048576: true; the input reads as it did. -/
def numBezoutUptoRow : OpenClaim := { program := "ytaaipcjbmdbndaadoor", sum := "6176af29f8c6833bf703744767e705efb3a11a3eb49b4050ec4ac1698a77ed8e", func := "quadratrix/quadratrixlaw01.NumBezout", spec := "numBezout", unfollowed := true, recurses := true, named := ["quadratrix/num.tens"], apart := false, laid := [("quadratrix/num.tens", laid_quadratrix_num_tens)], narrowed := true }
def NumBezoutUptoSaid : Prop := numBezoutUptoRow.holds Tryd.pinned (OpenSpec.upto numBezoutSpec)

/-- 'quadratrixlaw01.NumBack', WHERE WHAT IT READS IS OF BULK AT MOST 1048576: true; the input reads as it did. -/
def numBackUptoRow : OpenClaim := { program := "ytaaipcjbmdbndaadoor", sum := "6176af29f8c6833bf703744767e705efb3a11a3eb49b4050ec4ac1698a77ed8e", func := "quadratrix/quadratrixlaw01.NumBack", spec := "numBack", unfollowed := true, recurses := true, named := ["quadratrix/num.tens"], apart := false, laid := [("quadratrix/num.tens", laid_quadratrix_num_tens)], narrowed := true }
def NumBackUptoSaid : Prop := numBackUptoRow.holds Tryd.pinned (OpenSpec.upto numBackSpec)

/-- 'quadratrixlaw01.NumStays', WHERE WHAT IT READS IS OF BULK AT MOST 1048576: true; the input reads as it did. -/
def numStaysUptoRow : OpenClaim := { program := "ytaaipcjbmdbndaadoor", sum := "6176af29f8c6833bf703744767e705efb3a11a3eb49b4050ec4ac1698a77ed8e", func := "quadratrix/quadratrixlaw01.NumStays", spec := "numStays", unfollowed := true, recurses := true, named := ["quadratrix/num.tens"], apart := false, laid := [("quadratrix/num.tens", laid_quadratrix_num_tens)], narrowed := true }
def NumStaysUptoSaid : Prop := numStaysUptoRow.holds Tryd.pinned (OpenSpec.upto numStaysSpec)

end Rows
end Go.Proofs.YtaaipcjbmdbndaaDoor
