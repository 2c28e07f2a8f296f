/-
  DERIVED. GIVEN WITH THE SEED: THE CARDS: each row of YtigokanoflkinabGreatDoorRows.lean that lists a variable, with what it lists TIED to the program's text (the seventh form; the later family's looks); each row that meets fmt, with fmt's text TOLD by the authors' own Lean function (tested against real Go, not proved from fmt's source: count such statements apart). THE CARD IS WHAT COUNTS. Prove the row's statement (the work); the ties are given (YtigokanoflkinabGreatDoorTie.lean); close each card by the builder's one call (the guide's Derived/Test/ToyasCard.lean, 'card_holds'). Laid BY PROGRAM, IN A SANDBOX (cutbox-door.mjs). By AI agents, Wed Nov 11 2026. No macro, syntax, notation, axiom, sorry.
-/
import Derived.Test.YtigokanoflkinabGreatDoorRows
import GoSem.ClaimSeven
namespace Go.Proofs.YtigokanoflkinabGreatDoor
namespace Rows

/-- THE TIED CARD OF 'portionkeep.Packed'. -/
def packedCard : Claim7 := { stood := { row := packedRow, standIns := [], harness := (true, "3bf85dc51cfc7f70bbd89dfad0304a834675f3cd381867726f7e7cd304b2e62e"), looks := false }, kinds := [], alts := [], laidByText := true, laidKinds := [.data, .data, .data], laidTests := true, laidLooks := .later }
def PackedCardSaid : Prop := Claim7.holds Tryz.pinned (.plain (OpenSpec.ofChange packedSpec)) packedCard

/-- THE TIED CARD OF 'portionkeep.Goals'. -/
def goalsCard : Claim7 := { stood := { row := goalsRow, standIns := [], harness := (true, "3bf85dc51cfc7f70bbd89dfad0304a834675f3cd381867726f7e7cd304b2e62e"), looks := false }, kinds := [], alts := [], laidByText := true, laidKinds := [.data, .data, .data], laidTests := true, laidLooks := .later }
def GoalsCardSaid : Prop := Claim7.holds Tryz.pinned (.plain (OpenSpec.ofChange goalsSpec)) goalsCard

/-- THE TIED CARD OF 'portionkeep.Gentle'. -/
def gentleCard : Claim7 := { stood := { row := gentleRow, standIns := [], harness := (true, "3bf85dc51cfc7f70bbd89dfad0304a834675f3cd381867726f7e7cd304b2e62e"), looks := false }, kinds := [], alts := [], laidByText := true, laidKinds := [.data, .data, .data], laidTests := true, laidLooks := .later }
def GentleCardSaid : Prop := Claim7.holds Tryz.pinned (.plain (OpenSpec.ofChange gentleSpec)) gentleCard

/-- THE TIED CARD OF 'portionkeep.Balanced'. -/
def balancedCard : Claim7 := { stood := { row := balancedRow, standIns := [], harness := (true, "3bf85dc51cfc7f70bbd89dfad0304a834675f3cd381867726f7e7cd304b2e62e"), looks := false }, kinds := [], alts := [], laidByText := true, laidKinds := [.data, .data, .data], laidTests := true, laidLooks := .later }
def BalancedCardSaid : Prop := Claim7.holds Tryz.pinned (.plain (OpenSpec.ofChange balancedSpec)) balancedCard

/-- THE TIED CARD OF 'portionkeep.Refused'. -/
def refusedCard : Claim7 := { stood := { row := refusedRow, standIns := [], harness := (true, "3bf85dc51cfc7f70bbd89dfad0304a834675f3cd381867726f7e7cd304b2e62e"), looks := false }, kinds := [], alts := [], laidByText := true, laidKinds := [.data, .data, .data], laidTests := true, laidLooks := .later }
def RefusedCardSaid : Prop := Claim7.holds Tryz.pinned (.plain (OpenSpec.ofChange refusedSpec)) refusedCard

/-- THE SECOND FORM's CARD OF 'portionkeep.Packed'. -/
def packedUptoCard : Claim7 := { stood := { row := packedUptoRow, standIns := [], harness := (true, "3bf85dc51cfc7f70bbd89dfad0304a834675f3cd381867726f7e7cd304b2e62e"), looks := false }, kinds := [], alts := [], laidByText := true, laidKinds := [.data, .data, .data], laidTests := true, laidLooks := .later }
def PackedUptoCardSaid : Prop := Claim7.holds Tryz.pinned (.plain (OpenSpec.upto packedSpec)) packedUptoCard

/-- THE SECOND FORM's CARD OF 'portionkeep.Goals'. -/
def goalsUptoCard : Claim7 := { stood := { row := goalsUptoRow, standIns := [], harness := (true, "3bf85dc51cfc7f70bbd89dfad0304a834675f3cd381867726f7e7cd304b2e62e"), looks := false }, kinds := [], alts := [], laidByText := true, laidKinds := [.data, .data, .data], laidTests := true, laidLooks := .later }
def GoalsUptoCardSaid : Prop := Claim7.holds Tryz.pinned (.plain (OpenSpec.upto goalsSpec)) goalsUptoCard

/-- THE SECOND FORM's CARD OF 'portionkeep.Gentle'. -/
def gentleUptoCard : Claim7 := { stood := { row := gentleUptoRow, standIns := [], harness := (true, "3bf85dc51cfc7f70bbd89dfad0304a834675f3cd381867726f7e7cd304b2e62e"), looks := false }, kinds := [], alts := [], laidByText := true, laidKinds := [.data, .data, .data], laidTests := true, laidLooks := .later }
def GentleUptoCardSaid : Prop := Claim7.holds Tryz.pinned (.plain (OpenSpec.upto gentleSpec)) gentleUptoCard

/-- THE SECOND FORM's CARD OF 'portionkeep.Balanced'. -/
def balancedUptoCard : Claim7 := { stood := { row := balancedUptoRow, standIns := [], harness := (true, "3bf85dc51cfc7f70bbd89dfad0304a834675f3cd381867726f7e7cd304b2e62e"), looks := false }, kinds := [], alts := [], laidByText := true, laidKinds := [.data, .data, .data], laidTests := true, laidLooks := .later }
def BalancedUptoCardSaid : Prop := Claim7.holds Tryz.pinned (.plain (OpenSpec.upto balancedSpec)) balancedUptoCard

/-- THE SECOND FORM's CARD OF 'portionkeep.Refused'. -/
def refusedUptoCard : Claim7 := { stood := { row := refusedUptoRow, standIns := [], harness := (true, "3bf85dc51cfc7f70bbd89dfad0304a834675f3cd381867726f7e7cd304b2e62e"), looks := false }, kinds := [], alts := [], laidByText := true, laidKinds := [.data, .data, .data], laidTests := true, laidLooks := .later }
def RefusedUptoCardSaid : Prop := Claim7.holds Tryz.pinned (.plain (OpenSpec.upto refusedSpec)) refusedUptoCard
end Rows
end Go.Proofs.YtigokanoflkinabGreatDoor
