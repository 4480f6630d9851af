/-
  DERIVED. GIVEN WITH THE SEED: THE CARDS: each row of YtjijifdnhbkjaaaGreatDoorRows.lean that lists a variable, with what it lists TIED to the program's text (the seventh form; the later family's looks); each row that meets fmt, with fmt's text TOLD by the authors' own Lean function (tested against real Go, not proved from fmt's source: count such statements apart). THE CARD IS WHAT COUNTS. Prove the row's statement (the work); the ties are given (YtjijifdnhbkjaaaGreatDoorTie.lean); close each card by the builder's one call (the guide's Derived/Test/ToyasCard.lean, 'card_holds'). Laid BY PROGRAM, IN A SANDBOX (cutbox-door.mjs). By AI agents, Wed Nov 11 2026. No macro, syntax, notation, axiom, sorry.
-/
import Derived.Test.YtjijifdnhbkjaaaGreatDoorRows
import GoSem.ClaimSeven
namespace Go.Proofs.YtjijifdnhbkjaaaGreatDoor
namespace Rows

/-- THE TIED CARD OF 'quadratrixlaw01.NumValues'. -/
def numValuesCard : Claim7 := { stood := { row := numValuesRow, standIns := [], harness := (true, "414a9e834dc2685e4e1b883736046fc071d2b9462462d520595ed1d9009245c8"), looks := false }, kinds := [], alts := [], laidByText := true, laidKinds := [.data], laidTests := true, laidLooks := .later }
def NumValuesCardSaid : Prop := Claim7.holds Tryz.pinned (.plain (OpenSpec.ofChange numValuesSpec)) numValuesCard

/-- THE TIED CARD OF 'quadratrixlaw01.NumArithmetic'. -/
def numArithmeticCard : Claim7 := { stood := { row := numArithmeticRow, standIns := [], harness := (true, "414a9e834dc2685e4e1b883736046fc071d2b9462462d520595ed1d9009245c8"), looks := false }, kinds := [], alts := [], laidByText := true, laidKinds := [.data], laidTests := true, laidLooks := .later }
def NumArithmeticCardSaid : Prop := Claim7.holds Tryz.pinned (.plain (OpenSpec.ofChange numArithmeticSpec)) numArithmeticCard

/-- THE TIED CARD OF 'quadratrixlaw01.NumPowers'. -/
def numPowersCard : Claim7 := { stood := { row := numPowersRow, standIns := [], harness := (true, "414a9e834dc2685e4e1b883736046fc071d2b9462462d520595ed1d9009245c8"), looks := false }, kinds := [], alts := [], laidByText := true, laidKinds := [.data], laidTests := true, laidLooks := .later }
def NumPowersCardSaid : Prop := Claim7.holds Tryz.pinned (.plain (OpenSpec.ofChange numPowersSpec)) numPowersCard

/-- THE SECOND FORM's CARD OF 'quadratrixlaw01.NumValues'. -/
def numValuesUptoCard : Claim7 := { stood := { row := numValuesUptoRow, standIns := [], harness := (true, "414a9e834dc2685e4e1b883736046fc071d2b9462462d520595ed1d9009245c8"), looks := false }, kinds := [], alts := [], laidByText := true, laidKinds := [.data], laidTests := true, laidLooks := .later }
def NumValuesUptoCardSaid : Prop := Claim7.holds Tryz.pinned (.plain (OpenSpec.upto numValuesSpec)) numValuesUptoCard

/-- THE SECOND FORM's CARD OF 'quadratrixlaw01.NumArithmetic'. -/
def numArithmeticUptoCard : Claim7 := { stood := { row := numArithmeticUptoRow, standIns := [], harness := (true, "414a9e834dc2685e4e1b883736046fc071d2b9462462d520595ed1d9009245c8"), looks := false }, kinds := [], alts := [], laidByText := true, laidKinds := [.data], laidTests := true, laidLooks := .later }
def NumArithmeticUptoCardSaid : Prop := Claim7.holds Tryz.pinned (.plain (OpenSpec.upto numArithmeticSpec)) numArithmeticUptoCard

/-- THE SECOND FORM's CARD OF 'quadratrixlaw01.NumPowers'. -/
def numPowersUptoCard : Claim7 := { stood := { row := numPowersUptoRow, standIns := [], harness := (true, "414a9e834dc2685e4e1b883736046fc071d2b9462462d520595ed1d9009245c8"), looks := false }, kinds := [], alts := [], laidByText := true, laidKinds := [.data], laidTests := true, laidLooks := .later }
def NumPowersUptoCardSaid : Prop := Claim7.holds Tryz.pinned (.plain (OpenSpec.upto numPowersSpec)) numPowersUptoCard
end Rows
end Go.Proofs.YtjijifdnhbkjaaaGreatDoor
