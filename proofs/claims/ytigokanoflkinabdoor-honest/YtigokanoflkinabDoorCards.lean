/-
  DERIVED. GIVEN WITH THE SEED: THE CARDS: each row of YtigokanoflkinabDoorRows.lean that lists a variable, with what it lists TIED to the program's text (the seventh form; the later family's looks); each row that meets fmt, with fmt's text TOLD by the authors' own Lean function (tested against real Go, not proved from fmt's source: count such statements apart). THE CARD IS WHAT COUNTS. Prove the row's statement (the work); the ties are given (YtigokanoflkinabDoorTie.lean); close each card by the builder's one call (the guide's Derived/Test/ToyasCard.lean, 'card_holds'). Laid BY PROGRAM, IN A SANDBOX (cutbox-door.mjs). By AI agents, Wed Nov 11 2026. No macro, syntax, notation, axiom, sorry.
-/
import Derived.Test.YtigokanoflkinabDoorRows
import GoSem.ClaimSeven
namespace Go.Proofs.YtigokanoflkinabDoor
namespace Rows

/-- THE TIED CARD OF 'portionkeep.Alone'. -/
def aloneCard : Claim7 := { stood := { row := aloneRow, standIns := [], harness := (true, "4f34171da0daa122ff4bca201f3243207eacce2d9e5648e56f8df7364ae9e4d8"), looks := false }, kinds := [], alts := [], laidByText := true, laidKinds := [.data, .data, .data], laidTests := true, laidLooks := .later }
def AloneCardSaid : Prop := Claim7.holds Tryd.pinned (.plain (OpenSpec.ofChange aloneSpec)) aloneCard

/-- THE TIED CARD OF 'portionkeep.Honest'. -/
def honestCard : Claim7 := { stood := { row := honestRow, standIns := [], harness := (true, "4f34171da0daa122ff4bca201f3243207eacce2d9e5648e56f8df7364ae9e4d8"), looks := false }, kinds := [], alts := [], laidByText := true, laidKinds := [.data, .data, .data], laidTests := true, laidLooks := .later }
def HonestCardSaid : Prop := Claim7.holds Tryd.pinned (.plain (OpenSpec.ofChange honestSpec)) honestCard

/-- THE SECOND FORM's CARD OF 'portionkeep.Alone'. -/
def aloneUptoCard : Claim7 := { stood := { row := aloneUptoRow, standIns := [], harness := (true, "4f34171da0daa122ff4bca201f3243207eacce2d9e5648e56f8df7364ae9e4d8"), looks := false }, kinds := [], alts := [], laidByText := true, laidKinds := [.data, .data, .data], laidTests := true, laidLooks := .later }
def AloneUptoCardSaid : Prop := Claim7.holds Tryd.pinned (.plain (OpenSpec.upto aloneSpec)) aloneUptoCard

/-- THE SECOND FORM's CARD OF 'portionkeep.Honest'. -/
def honestUptoCard : Claim7 := { stood := { row := honestUptoRow, standIns := [], harness := (true, "4f34171da0daa122ff4bca201f3243207eacce2d9e5648e56f8df7364ae9e4d8"), looks := false }, kinds := [], alts := [], laidByText := true, laidKinds := [.data, .data, .data], laidTests := true, laidLooks := .later }
def HonestUptoCardSaid : Prop := Claim7.holds Tryd.pinned (.plain (OpenSpec.upto honestSpec)) honestUptoCard
end Rows
end Go.Proofs.YtigokanoflkinabDoor
