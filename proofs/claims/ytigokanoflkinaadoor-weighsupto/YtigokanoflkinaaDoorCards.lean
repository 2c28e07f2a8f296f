/-
  DERIVED. GIVEN WITH THE SEED: THE CARDS: each row of YtigokanoflkinaaDoorRows.lean that lists a variable, with what it lists TIED to the program's text (the seventh form; the later family's looks); each row that meets fmt, with fmt's text TOLD by the authors' own Lean function (tested against real Go, not proved from fmt's source: count such statements apart). THE CARD IS WHAT COUNTS. Prove the row's statement (the work); the ties are given (YtigokanoflkinaaDoorTie.lean); close each card by the builder's one call (the guide's Derived/Test/ToyasCard.lean, 'card_holds'). Laid BY PROGRAM, IN A SANDBOX (cutbox-door.mjs). By AI agents, Wed Nov 11 2026. No macro, syntax, notation, axiom, sorry.
-/
import Derived.Test.YtigokanoflkinaaDoorRows
import GoSem.ClaimSeven
namespace Go.Proofs.YtigokanoflkinaaDoor
namespace Rows

/-- THE TIED CARD OF 'portionlaw.Exacts'. -/
def exactsCard : Claim7 := { stood := { row := exactsRow, standIns := [], harness := (true, "1a0d66767503f579ae6ab228c36839dde185ef4160bf99605d6de4458661b8c9"), looks := false }, kinds := [], alts := [], laidByText := true, laidKinds := [.data, .data, .data], laidTests := true, laidLooks := .later }
def ExactsCardSaid : Prop := Claim7.holds Tryd.pinned (.plain (OpenSpec.ofChange exactsSpec)) exactsCard

/-- THE TIED CARD OF 'portionlaw.Weighs'. -/
def weighsCard : Claim7 := { stood := { row := weighsRow, standIns := [], harness := (true, "1a0d66767503f579ae6ab228c36839dde185ef4160bf99605d6de4458661b8c9"), looks := false }, kinds := [], alts := [], laidByText := true, laidKinds := [.data, .data, .data], laidTests := true, laidLooks := .later }
def WeighsCardSaid : Prop := Claim7.holds Tryd.pinned (.plain (OpenSpec.ofChange weighsSpec)) weighsCard

/-- THE TIED CARD OF 'portionkeep.Field'. -/
def fieldCard : Claim7 := { stood := { row := fieldRow, standIns := [], harness := (true, "1a0d66767503f579ae6ab228c36839dde185ef4160bf99605d6de4458661b8c9"), looks := false }, kinds := [], alts := [], laidByText := true, laidKinds := [.data, .data, .data], laidTests := true, laidLooks := .later }
def FieldCardSaid : Prop := Claim7.holds Tryd.pinned (.plain (OpenSpec.ofChange fieldSpec)) fieldCard

/-- THE TIED CARD OF 'portionkeep.Order'. -/
def orderCard : Claim7 := { stood := { row := orderRow, standIns := [], harness := (true, "1a0d66767503f579ae6ab228c36839dde185ef4160bf99605d6de4458661b8c9"), looks := false }, kinds := [], alts := [], laidByText := true, laidKinds := [.data, .data, .data], laidTests := true, laidLooks := .later }
def OrderCardSaid : Prop := Claim7.holds Tryd.pinned (.plain (OpenSpec.ofChange orderSpec)) orderCard

/-- THE TIED CARD OF 'portionkeep.Filled'. -/
def filledCard : Claim7 := { stood := { row := filledRow, standIns := [], harness := (true, "1a0d66767503f579ae6ab228c36839dde185ef4160bf99605d6de4458661b8c9"), looks := false }, kinds := [], alts := [], laidByText := true, laidKinds := [.data, .data, .data], laidTests := true, laidLooks := .later }
def FilledCardSaid : Prop := Claim7.holds Tryd.pinned (.plain (OpenSpec.ofChange filledSpec)) filledCard

/-- THE TIED CARD OF 'portionkeep.Fair'. -/
def fairCard : Claim7 := { stood := { row := fairRow, standIns := [], harness := (true, "1a0d66767503f579ae6ab228c36839dde185ef4160bf99605d6de4458661b8c9"), looks := false }, kinds := [], alts := [], laidByText := true, laidKinds := [.data, .data, .data], laidTests := true, laidLooks := .later }
def FairCardSaid : Prop := Claim7.holds Tryd.pinned (.plain (OpenSpec.ofChange fairSpec)) fairCard

/-- THE TIED CARD OF 'portionkeep.Content'. -/
def contentCard : Claim7 := { stood := { row := contentRow, standIns := [], harness := (true, "1a0d66767503f579ae6ab228c36839dde185ef4160bf99605d6de4458661b8c9"), looks := false }, kinds := [], alts := [], laidByText := true, laidKinds := [.data, .data, .data], laidTests := true, laidLooks := .later }
def ContentCardSaid : Prop := Claim7.holds Tryd.pinned (.plain (OpenSpec.ofChange contentSpec)) contentCard

/-- THE SECOND FORM's CARD OF 'portionlaw.Exacts'. -/
def exactsUptoCard : Claim7 := { stood := { row := exactsUptoRow, standIns := [], harness := (true, "1a0d66767503f579ae6ab228c36839dde185ef4160bf99605d6de4458661b8c9"), looks := false }, kinds := [], alts := [], laidByText := true, laidKinds := [.data, .data, .data], laidTests := true, laidLooks := .later }
def ExactsUptoCardSaid : Prop := Claim7.holds Tryd.pinned (.plain (OpenSpec.upto exactsSpec)) exactsUptoCard

/-- THE SECOND FORM's CARD OF 'portionlaw.Weighs'. -/
def weighsUptoCard : Claim7 := { stood := { row := weighsUptoRow, standIns := [], harness := (true, "1a0d66767503f579ae6ab228c36839dde185ef4160bf99605d6de4458661b8c9"), looks := false }, kinds := [], alts := [], laidByText := true, laidKinds := [.data, .data, .data], laidTests := true, laidLooks := .later }
def WeighsUptoCardSaid : Prop := Claim7.holds Tryd.pinned (.plain (OpenSpec.upto weighsSpec)) weighsUptoCard

/-- THE SECOND FORM's CARD OF 'portionkeep.Field'. -/
def fieldUptoCard : Claim7 := { stood := { row := fieldUptoRow, standIns := [], harness := (true, "1a0d66767503f579ae6ab228c36839dde185ef4160bf99605d6de4458661b8c9"), looks := false }, kinds := [], alts := [], laidByText := true, laidKinds := [.data, .data, .data], laidTests := true, laidLooks := .later }
def FieldUptoCardSaid : Prop := Claim7.holds Tryd.pinned (.plain (OpenSpec.upto fieldSpec)) fieldUptoCard

/-- THE SECOND FORM's CARD OF 'portionkeep.Order'. -/
def orderUptoCard : Claim7 := { stood := { row := orderUptoRow, standIns := [], harness := (true, "1a0d66767503f579ae6ab228c36839dde185ef4160bf99605d6de4458661b8c9"), looks := false }, kinds := [], alts := [], laidByText := true, laidKinds := [.data, .data, .data], laidTests := true, laidLooks := .later }
def OrderUptoCardSaid : Prop := Claim7.holds Tryd.pinned (.plain (OpenSpec.upto orderSpec)) orderUptoCard

/-- THE SECOND FORM's CARD OF 'portionkeep.Filled'. -/
def filledUptoCard : Claim7 := { stood := { row := filledUptoRow, standIns := [], harness := (true, "1a0d66767503f579ae6ab228c36839dde185ef4160bf99605d6de4458661b8c9"), looks := false }, kinds := [], alts := [], laidByText := true, laidKinds := [.data, .data, .data], laidTests := true, laidLooks := .later }
def FilledUptoCardSaid : Prop := Claim7.holds Tryd.pinned (.plain (OpenSpec.upto filledSpec)) filledUptoCard

/-- THE SECOND FORM's CARD OF 'portionkeep.Fair'. -/
def fairUptoCard : Claim7 := { stood := { row := fairUptoRow, standIns := [], harness := (true, "1a0d66767503f579ae6ab228c36839dde185ef4160bf99605d6de4458661b8c9"), looks := false }, kinds := [], alts := [], laidByText := true, laidKinds := [.data, .data, .data], laidTests := true, laidLooks := .later }
def FairUptoCardSaid : Prop := Claim7.holds Tryd.pinned (.plain (OpenSpec.upto fairSpec)) fairUptoCard

/-- THE SECOND FORM's CARD OF 'portionkeep.Content'. -/
def contentUptoCard : Claim7 := { stood := { row := contentUptoRow, standIns := [], harness := (true, "1a0d66767503f579ae6ab228c36839dde185ef4160bf99605d6de4458661b8c9"), looks := false }, kinds := [], alts := [], laidByText := true, laidKinds := [.data, .data, .data], laidTests := true, laidLooks := .later }
def ContentUptoCardSaid : Prop := Claim7.holds Tryd.pinned (.plain (OpenSpec.upto contentSpec)) contentUptoCard
end Rows
end Go.Proofs.YtigokanoflkinaaDoor
