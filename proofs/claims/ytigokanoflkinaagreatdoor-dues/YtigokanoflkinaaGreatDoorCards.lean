/-
  DERIVED. GIVEN WITH THE SEED: THE CARDS: each row of YtigokanoflkinaaGreatDoorRows.lean that lists a variable, with what it lists TIED to the program's text (the seventh form; the later family's looks); each row that meets fmt, with fmt's text TOLD by the authors' own Lean function (tested against real Go, not proved from fmt's source: count such statements apart). THE CARD IS WHAT COUNTS. Prove the row's statement (the work); the ties are given (YtigokanoflkinaaGreatDoorTie.lean); close each card by the builder's one call (the guide's Derived/Test/ToyasCard.lean, 'card_holds'). Laid BY PROGRAM, IN A SANDBOX (cutbox-door.mjs). By AI agents, Wed Nov 11 2026. No macro, syntax, notation, axiom, sorry.
-/
import Derived.Test.YtigokanoflkinaaGreatDoorRows
import GoSem.ClaimSeven
namespace Go.Proofs.YtigokanoflkinaaGreatDoor
namespace Rows

/-- THE TIED CARD OF 'portionlaw.Solves'. -/
def solvesCard : Claim7 := { stood := { row := solvesRow, standIns := [], harness := (true, "427083ced0ba4f6ea2a1f8970a5bdfcc488abd204419137a8fbe836f73db0f29"), looks := false }, kinds := [], alts := [], laidByText := true, laidKinds := [.data, .data, .data], laidTests := true, laidLooks := .later }
def SolvesCardSaid : Prop := Claim7.holds Tryz.pinned (.plain (OpenSpec.ofChange solvesSpec)) solvesCard

/-- THE TIED CARD OF 'portionlaw.Answers'. -/
def answersCard : Claim7 := { stood := { row := answersRow, standIns := [], harness := (true, "427083ced0ba4f6ea2a1f8970a5bdfcc488abd204419137a8fbe836f73db0f29"), looks := false }, kinds := [], alts := [], laidByText := true, laidKinds := [.data, .data, .data], laidTests := true, laidLooks := .later }
def AnswersCardSaid : Prop := Claim7.holds Tryz.pinned (.plain (OpenSpec.ofChange answersSpec)) answersCard

/-- THE TIED CARD OF 'portionlaw.Places'. -/
def placesCard : Claim7 := { stood := { row := placesRow, standIns := [], harness := (true, "427083ced0ba4f6ea2a1f8970a5bdfcc488abd204419137a8fbe836f73db0f29"), looks := false }, kinds := [], alts := [], laidByText := true, laidKinds := [.data, .data, .data], laidTests := true, laidLooks := .later }
def PlacesCardSaid : Prop := Claim7.holds Tryz.pinned (.plain (OpenSpec.ofChange placesSpec)) placesCard

/-- THE TIED CARD OF 'portionlaw.Dues'. -/
def duesCard : Claim7 := { stood := { row := duesRow, standIns := [], harness := (true, "427083ced0ba4f6ea2a1f8970a5bdfcc488abd204419137a8fbe836f73db0f29"), looks := false }, kinds := [], alts := [], laidByText := true, laidKinds := [.data, .data, .data], laidTests := true, laidLooks := .later }
def DuesCardSaid : Prop := Claim7.holds Tryz.pinned (.plain (OpenSpec.ofChange duesSpec)) duesCard

/-- THE TIED CARD OF 'portionlaw.All'. -/
def allCard : Claim7 := { stood := { row := allRow, standIns := [], harness := (true, "427083ced0ba4f6ea2a1f8970a5bdfcc488abd204419137a8fbe836f73db0f29"), looks := false }, kinds := [], alts := [], laidByText := true, laidKinds := [.data, .data, .data], laidTests := true, laidLooks := .later }
def AllCardSaid : Prop := Claim7.holds Tryz.pinned (.plain (OpenSpec.ofChange allSpec)) allCard

/-- THE SECOND FORM's CARD OF 'portionlaw.Solves'. -/
def solvesUptoCard : Claim7 := { stood := { row := solvesUptoRow, standIns := [], harness := (true, "427083ced0ba4f6ea2a1f8970a5bdfcc488abd204419137a8fbe836f73db0f29"), looks := false }, kinds := [], alts := [], laidByText := true, laidKinds := [.data, .data, .data], laidTests := true, laidLooks := .later }
def SolvesUptoCardSaid : Prop := Claim7.holds Tryz.pinned (.plain (OpenSpec.upto solvesSpec)) solvesUptoCard

/-- THE SECOND FORM's CARD OF 'portionlaw.Answers'. -/
def answersUptoCard : Claim7 := { stood := { row := answersUptoRow, standIns := [], harness := (true, "427083ced0ba4f6ea2a1f8970a5bdfcc488abd204419137a8fbe836f73db0f29"), looks := false }, kinds := [], alts := [], laidByText := true, laidKinds := [.data, .data, .data], laidTests := true, laidLooks := .later }
def AnswersUptoCardSaid : Prop := Claim7.holds Tryz.pinned (.plain (OpenSpec.upto answersSpec)) answersUptoCard

/-- THE SECOND FORM's CARD OF 'portionlaw.Places'. -/
def placesUptoCard : Claim7 := { stood := { row := placesUptoRow, standIns := [], harness := (true, "427083ced0ba4f6ea2a1f8970a5bdfcc488abd204419137a8fbe836f73db0f29"), looks := false }, kinds := [], alts := [], laidByText := true, laidKinds := [.data, .data, .data], laidTests := true, laidLooks := .later }
def PlacesUptoCardSaid : Prop := Claim7.holds Tryz.pinned (.plain (OpenSpec.upto placesSpec)) placesUptoCard

/-- THE SECOND FORM's CARD OF 'portionlaw.Dues'. -/
def duesUptoCard : Claim7 := { stood := { row := duesUptoRow, standIns := [], harness := (true, "427083ced0ba4f6ea2a1f8970a5bdfcc488abd204419137a8fbe836f73db0f29"), looks := false }, kinds := [], alts := [], laidByText := true, laidKinds := [.data, .data, .data], laidTests := true, laidLooks := .later }
def DuesUptoCardSaid : Prop := Claim7.holds Tryz.pinned (.plain (OpenSpec.upto duesSpec)) duesUptoCard

/-- THE SECOND FORM's CARD OF 'portionlaw.All'. -/
def allUptoCard : Claim7 := { stood := { row := allUptoRow, standIns := [], harness := (true, "427083ced0ba4f6ea2a1f8970a5bdfcc488abd204419137a8fbe836f73db0f29"), looks := false }, kinds := [], alts := [], laidByText := true, laidKinds := [.data, .data, .data], laidTests := true, laidLooks := .later }
def AllUptoCardSaid : Prop := Claim7.holds Tryz.pinned (.plain (OpenSpec.upto allSpec)) allUptoCard
end Rows
end Go.Proofs.YtigokanoflkinaaGreatDoor
