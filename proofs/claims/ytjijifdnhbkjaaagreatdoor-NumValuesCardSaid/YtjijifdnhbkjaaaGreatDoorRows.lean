/-
  NARROWER THAN 'FOR EVERY INPUT', by the rows' own cells (each row's printed sentence says how): NumValues: laid · NumArithmetic: laid · NumPowers: laid.
  DERIVED. THE GIVEN ROWS OF THIS SEAT. 3 by the template 'for every input the law returns true; each argument reads behind the call as it read before'; 0 by the template 'total and deterministic' (their statements: YtjijifdnhbkjaaaGreatDoorTotals.lean).
  GIVEN WITH THE SEED: the statements are not yours to turn. If you find one false, say at which input.
  Laid BY PROGRAM, IN A SANDBOX (cutbox-rows.mjs): the forced cells as the released guide's own fill.sh prints them over the translation a1965cda0fe58a3f… (all of the seat's roots in one cut). By AI agents, Wed Nov 11 2026. No macro, syntax, notation, axiom, sorry.
-/
import Derived.Test.YtjijifdnhbkjaaaGreatDoorChecked
import GoSem.Claim
import GoSem.ClaimJoined
import GoSem.ClaimMapViews
import Derived.JoinedTies
import Derived.KernelRfl
namespace Go.Proofs.YtjijifdnhbkjaaaGreatDoor
/- THE CELL 'sum', in the pinned program and in every row, IS THE sha256 OF THE DUMP (.gsa) THAT YtjijifdnhbkjaaaGreatDoorProg.lean LOADS. Nothing in Lean hashes anything: it is a label: what it is worth is what the hold of that sum in a sandbox is worth. -/
noncomputable def Tryz.pinned : Pinned := { name := "ytjijifdnhbkjaaagreatdoor", sum := "a1965cda0fe58a3f229b39c8fe46f196e5ec9d0d98f31c81f10985c72d1a8752", checked := Tryz.checked }
namespace Rows
def none {H : Type} : Left H := { results := [], args := [] }

/- WHAT THE LISTED PACKAGE-LEVEL VARIABLES READ AS WHEN THE CALL BEGINS. Each datum BY PROGRAM (the guide's laid-datum.mjs) off the statement by which the dump's own 'gosem.cut.vars' lays the variable. In a bare row this is a premise. The card (YtjijifdnhbkjaaaGreatDoorCards.lean) ties it to the program's text. -/
def laid_quadratrix_num_tens {H : Type} : DataW H := .agg [.lit (.int .u32 1), .lit (.int .u32 10), .lit (.int .u32 100), .lit (.int .u32 1000), .lit (.int .u32 10000), .lit (.int .u32 100000), .lit (.int .u32 1000000), .lit (.int .u32 10000000), .lit (.int .u32 100000000), .lit (.int .u32 1000000000)]

/-- 'quadratrixlaw01.NumValues': WHATEVER THE INPUT: true; the input reads as it did. -/
def numValuesSpec : ChangeSpec := { name := "numValues", fn := fun _ => fun
  | [d1, d2, d3] => { results := [.lit (.bool true)], args := [d1, d2, d3] }
  | _ => none }
def numValuesRow : OpenClaim := { program := "ytjijifdnhbkjaaagreatdoor", sum := "a1965cda0fe58a3f229b39c8fe46f196e5ec9d0d98f31c81f10985c72d1a8752", func := "quadratrix/quadratrixlaw01.NumValues", spec := "numValues", unfollowed := true, recurses := true, named := ["quadratrix/num.tens"], apart := false, laid := [("quadratrix/num.tens", laid_quadratrix_num_tens)] }
def NumValuesSaid : Prop := numValuesRow.holds Tryz.pinned (OpenSpec.ofChange numValuesSpec)

/-- ITS FALSE NEIGHBOUR: 'it returns false'. Refute it at one input. -/
def numValuesWrong : ChangeSpec := { name := "numValues", fn := fun _ => fun
  | [d1, d2, d3] => { results := [.lit (.bool false)], args := [d1, d2, d3] }
  | _ => none }
def NumValuesWrongFalsely : Prop := numValuesRow.holds Tryz.pinned (OpenSpec.ofChange numValuesWrong)

/-- 'quadratrixlaw01.NumArithmetic': WHATEVER THE INPUT: true; the input reads as it did. -/
def numArithmeticSpec : ChangeSpec := { name := "numArithmetic", fn := fun _ => fun
  | [d1, d2] => { results := [.lit (.bool true)], args := [d1, d2] }
  | _ => none }
def numArithmeticRow : OpenClaim := { program := "ytjijifdnhbkjaaagreatdoor", sum := "a1965cda0fe58a3f229b39c8fe46f196e5ec9d0d98f31c81f10985c72d1a8752", func := "quadratrix/quadratrixlaw01.NumArithmetic", spec := "numArithmetic", unfollowed := true, recurses := true, named := ["quadratrix/num.tens"], apart := false, laid := [("quadratrix/num.tens", laid_quadratrix_num_tens)] }
def NumArithmeticSaid : Prop := numArithmeticRow.holds Tryz.pinned (OpenSpec.ofChange numArithmeticSpec)

/-- ITS FALSE NEIGHBOUR: 'it returns false'. Refute it at one input. -/
def numArithmeticWrong : ChangeSpec := { name := "numArithmetic", fn := fun _ => fun
  | [d1, d2] => { results := [.lit (.bool false)], args := [d1, d2] }
  | _ => none }
def NumArithmeticWrongFalsely : Prop := numArithmeticRow.holds Tryz.pinned (OpenSpec.ofChange numArithmeticWrong)

/-- 'quadratrixlaw01.NumPowers': WHATEVER THE INPUT: true; the input reads as it did. -/
def numPowersSpec : ChangeSpec := { name := "numPowers", fn := fun _ => fun
  | [d1, d2] => { results := [.lit (.bool true)], args := [d1, d2] }
  | _ => none }
def numPowersRow : OpenClaim := { program := "ytjijifdnhbkjaaagreatdoor", sum := "a1965cda0fe58a3f229b39c8fe46f196e5ec9d0d98f31c81f10985c72d1a8752", func := "quadratrix/quadratrixlaw01.NumPowers", spec := "numPowers", unfollowed := true, recurses := true, named := ["quadratrix/num.tens"], apart := false, laid := [("quadratrix/num.tens", laid_quadratrix_num_tens)] }
def NumPowersSaid : Prop := numPowersRow.holds Tryz.pinned (OpenSpec.ofChange numPowersSpec)

/-- ITS FALSE NEIGHBOUR: 'it returns false'. Refute it at one input. -/
def numPowersWrong : ChangeSpec := { name := "numPowers", fn := fun _ => fun
  | [d1, d2] => { results := [.lit (.bool false)], args := [d1, d2] }
  | _ => none }
def NumPowersWrongFalsely : Prop := numPowersRow.holds Tryz.pinned (OpenSpec.ofChange numPowersWrong)

/- THE SECOND FORM. 'bulk': how many values and letters a reading holds, each counted each time it is reached (what is shared counts as often as it is met; a slice's spare places count too). A statement '..UptoSaid' is the law's where the arguments, and the package variables that the reading takes, are together of bulk at most 1048576: NARROWER than '..Said'. Prove '..Said' where nothing that the law and all that it calls make is longer than what came in: it says more and counts as full. Else prove '..UptoSaid'. A law counts once. -/
mutual
def uptoBulk {H : Type} : DataW H → Nat
  | .lit (.string bytes) => bytes.length + 1
  | .lit _ => 1
  | .nil => 1
  | .ptr d => uptoBulk d + 1
  | .slice elems spare => uptoBulkAll elems + uptoBulkAll spare + 1
  | .agg parts => uptoBulkAll parts + 1
  | .iface _ d => uptoBulk d + 1
  | .map entries => uptoBulkEntries entries + 1
  | .held _ => 1
def uptoBulkAll {H : Type} : List (DataW H) → Nat
  | [] => 0
  | d :: r => uptoBulk d + uptoBulkAll r
def uptoBulkEntries {H : Type} : List (Lit × DataW H) → Nat
  | [] => 0
  | x :: r => uptoBulkEntry x + uptoBulkEntries r
def uptoBulkEntry {H : Type} : Lit × DataW H → Nat
  | (.string bytes, d) => bytes.length + uptoBulk d + 1
  | (_, d) => uptoBulk d + 1
 end
def uptoSmall : (H : Type) → List (DataW H) → Bool := fun _ ds => decide (uptoBulkAll ds ≤ 1048576)
def OpenSpec.upto (s : _root_.Go.ChangeSpec) : _root_.Go.OpenSpec := { _root_.Go.OpenSpec.ofChange s with cond := some uptoSmall }

/-- 'quadratrixlaw01.NumValues', WHERE WHAT IT READS IS OF BULK AT MOST 1048576: true; the input reads as it did. -/
def numValuesUptoRow : OpenClaim := { program := "ytjijifdnhbkjaaagreatdoor", sum := "a1965cda0fe58a3f229b39c8fe46f196e5ec9d0d98f31c81f10985c72d1a8752", func := "quadratrix/quadratrixlaw01.NumValues", spec := "numValues", unfollowed := true, recurses := true, named := ["quadratrix/num.tens"], apart := false, laid := [("quadratrix/num.tens", laid_quadratrix_num_tens)], narrowed := true }
def NumValuesUptoSaid : Prop := numValuesUptoRow.holds Tryz.pinned (OpenSpec.upto numValuesSpec)

/-- 'quadratrixlaw01.NumArithmetic', WHERE WHAT IT READS IS OF BULK AT MOST 1048576: true; the input reads as it did. -/
def numArithmeticUptoRow : OpenClaim := { program := "ytjijifdnhbkjaaagreatdoor", sum := "a1965cda0fe58a3f229b39c8fe46f196e5ec9d0d98f31c81f10985c72d1a8752", func := "quadratrix/quadratrixlaw01.NumArithmetic", spec := "numArithmetic", unfollowed := true, recurses := true, named := ["quadratrix/num.tens"], apart := false, laid := [("quadratrix/num.tens", laid_quadratrix_num_tens)], narrowed := true }
def NumArithmeticUptoSaid : Prop := numArithmeticUptoRow.holds Tryz.pinned (OpenSpec.upto numArithmeticSpec)

/-- 'quadratrixlaw01.NumPowers', WHERE WHAT IT READS IS OF BULK AT MOST 1048576: true; the input reads as it did. -/
def numPowersUptoRow : OpenClaim := { program := "ytjijifdnhbkjaaagreatdoor", sum := "a1965cda0fe58a3f229b39c8fe46f196e5ec9d0d98f31c81f10985c72d1a8752", func := "quadratrix/quadratrixlaw01.NumPowers", spec := "numPowers", unfollowed := true, recurses := true, named := ["quadratrix/num.tens"], apart := false, laid := [("quadratrix/num.tens", laid_quadratrix_num_tens)], narrowed := true }
def NumPowersUptoSaid : Prop := numPowersUptoRow.holds Tryz.pinned (OpenSpec.upto numPowersSpec)

end Rows
end Go.Proofs.YtjijifdnhbkjaaaGreatDoor
