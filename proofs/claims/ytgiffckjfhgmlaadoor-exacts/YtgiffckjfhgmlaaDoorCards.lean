/-
  DERIVED. GIVEN WITH THE SEED: THE CARDS: each row of YtgiffckjfhgmlaaDoorRows.lean that lists a variable, with what it lists TIED to the program's text (the seventh form; the later family's looks); each row that meets fmt, with fmt's text TOLD by the authors' own Lean function (tested against real Go, not proved from fmt's source: count such statements apart). THE CARD IS WHAT COUNTS. Prove the row's statement (the work); the ties are given (YtgiffckjfhgmlaaDoorTie.lean); close each card by the builder's one call (the guide's Derived/Test/ToyasCard.lean, 'card_holds'). Laid BY PROGRAM, IN A SANDBOX (cutbox-door.mjs). By AI agents, Wed Nov 11 2026. No macro, syntax, notation, axiom, sorry.
-/
import Derived.Test.YtgiffckjfhgmlaaDoorRows
import GoSem.ClaimSeven
namespace Go.Proofs.YtgiffckjfhgmlaaDoor
namespace Rows

/-- THE TIED CARD OF 'portionlaw.Exacts'. -/
def exactsCard : Claim7 := { stood := { row := exactsRow, standIns := [], harness := (true, "6838bdb8c76d14dd35796c10fda3325392629ff87b7b1e035901e4cfb36ff653"), looks := false }, kinds := [], alts := [], laidByText := true, laidKinds := [.data, .data, .data], laidTests := true, laidLooks := .later }
def ExactsCardSaid : Prop := Claim7.holds Tryd.pinned (.plain (OpenSpec.ofChange exactsSpec)) exactsCard

/-- THE TIED CARD OF 'portionkeep.Field'. -/
def fieldCard : Claim7 := { stood := { row := fieldRow, standIns := [], harness := (true, "6838bdb8c76d14dd35796c10fda3325392629ff87b7b1e035901e4cfb36ff653"), looks := false }, kinds := [], alts := [], laidByText := true, laidKinds := [.data, .data, .data], laidTests := true, laidLooks := .later }
def FieldCardSaid : Prop := Claim7.holds Tryd.pinned (.plain (OpenSpec.ofChange fieldSpec)) fieldCard

/-- THE TIED CARD OF 'portionkeep.Order'. -/
def orderCard : Claim7 := { stood := { row := orderRow, standIns := [], harness := (true, "6838bdb8c76d14dd35796c10fda3325392629ff87b7b1e035901e4cfb36ff653"), looks := false }, kinds := [], alts := [], laidByText := true, laidKinds := [.data, .data, .data], laidTests := true, laidLooks := .later }
def OrderCardSaid : Prop := Claim7.holds Tryd.pinned (.plain (OpenSpec.ofChange orderSpec)) orderCard

/-- THE SECOND FORM's CARD OF 'portionlaw.Exacts'. -/
def exactsUptoCard : Claim7 := { stood := { row := exactsUptoRow, standIns := [], harness := (true, "6838bdb8c76d14dd35796c10fda3325392629ff87b7b1e035901e4cfb36ff653"), looks := false }, kinds := [], alts := [], laidByText := true, laidKinds := [.data, .data, .data], laidTests := true, laidLooks := .later }
def ExactsUptoCardSaid : Prop := Claim7.holds Tryd.pinned (.plain (OpenSpec.upto exactsSpec)) exactsUptoCard

/-- THE SECOND FORM's CARD OF 'portionkeep.Field'. -/
def fieldUptoCard : Claim7 := { stood := { row := fieldUptoRow, standIns := [], harness := (true, "6838bdb8c76d14dd35796c10fda3325392629ff87b7b1e035901e4cfb36ff653"), looks := false }, kinds := [], alts := [], laidByText := true, laidKinds := [.data, .data, .data], laidTests := true, laidLooks := .later }
def FieldUptoCardSaid : Prop := Claim7.holds Tryd.pinned (.plain (OpenSpec.upto fieldSpec)) fieldUptoCard

/-- THE SECOND FORM's CARD OF 'portionkeep.Order'. -/
def orderUptoCard : Claim7 := { stood := { row := orderUptoRow, standIns := [], harness := (true, "6838bdb8c76d14dd35796c10fda3325392629ff87b7b1e035901e4cfb36ff653"), looks := false }, kinds := [], alts := [], laidByText := true, laidKinds := [.data, .data, .data], laidTests := true, laidLooks := .later }
def OrderUptoCardSaid : Prop := Claim7.holds Tryd.pinned (.plain (OpenSpec.upto orderSpec)) orderUptoCard
end Rows
end Go.Proofs.YtgiffckjfhgmlaaDoor
