/-
  DERIVED. GIVEN WITH THE SEED: THE CARDS: each row of YtadneapobijejaaGreatDoorRows.lean that lists a variable, with what it lists TIED to the program's text (the seventh form; the later family's looks); each row that meets fmt, with fmt's text TOLD by the authors' own Lean function (tested against real Go, not proved from fmt's source: count such statements apart). THE CARD IS WHAT COUNTS. Prove the row's statement (the work); the ties are given (YtadneapobijejaaGreatDoorTie.lean); close each card by the builder's one call (the guide's Derived/Test/ToyasCard.lean, 'card_holds'). Laid BY PROGRAM, IN A SANDBOX (cutbox-door.mjs). By AI agents, Wed Nov 11 2026. No macro, syntax, notation, axiom, sorry.
-/
import Derived.Test.YtadneapobijejaaGreatDoorRows
import GoSem.ClaimSeven
namespace Go.Proofs.YtadneapobijejaaGreatDoor
namespace Rows

/-- THE TIED CARD OF 'veilkeep.Budgets'. -/
def budgetsCard : Claim7 := { stood := { row := budgetsRow, standIns := [], harness := (true, "858e008442f5a02da9915bf77c50314eedb1d6149a4b9206e3aab0e4ca5b7125"), looks := false }, kinds := [], alts := [], laidByText := true, laidKinds := [.data, .data, .data], laidTests := true, laidLooks := .later }
def BudgetsCardSaid : Prop := Claim7.holds Tryz.pinned (.plain (OpenSpec.ofChange budgetsSpec)) budgetsCard

/-- THE SECOND FORM's CARD OF 'veilkeep.Budgets'. -/
def budgetsUptoCard : Claim7 := { stood := { row := budgetsUptoRow, standIns := [], harness := (true, "858e008442f5a02da9915bf77c50314eedb1d6149a4b9206e3aab0e4ca5b7125"), looks := false }, kinds := [], alts := [], laidByText := true, laidKinds := [.data, .data, .data], laidTests := true, laidLooks := .later }
def BudgetsUptoCardSaid : Prop := Claim7.holds Tryz.pinned (.plain (OpenSpec.upto budgetsSpec)) budgetsUptoCard
end Rows
end Go.Proofs.YtadneapobijejaaGreatDoor
