/-
  DERIVED. GIVEN WITH THE SEED: THE CARDS: each row of YtogdodlibkckkaaGreatDoorRows.lean that lists a variable, with what it lists TIED to the program's text (the seventh form; the later family's looks); each row that meets fmt, with fmt's text TOLD by the authors' own Lean function (tested against real Go, not proved from fmt's source: count such statements apart). THE CARD IS WHAT COUNTS. Prove the row's statement (the work); the ties are given (YtogdodlibkckkaaGreatDoorTie.lean); close each card by the builder's one call (the guide's Derived/Test/ToyasCard.lean, 'card_holds'). Laid BY PROGRAM, IN A SANDBOX (cutbox-door.mjs). By AI agents, Wed Nov 11 2026. No macro, syntax, notation, axiom, sorry.
-/
import Derived.Test.YtogdodlibkckkaaGreatDoorRows
import GoSem.ClaimSeven
namespace Go.Proofs.YtogdodlibkckkaaGreatDoor
namespace Rows

/-- THE TIED CARD OF 'veilkeep.Blind'. -/
def blindCard : Claim7 := { stood := { row := blindRow, standIns := [], harness := (true, "973ce78185d743971b55061f02cc97ef1e5bff72f0afa265c8b826175290ea79"), looks := false }, kinds := [], alts := [], laidByText := true, laidKinds := [.data, .data, .data], laidTests := true, laidLooks := .later }
def BlindCardSaid : Prop := Claim7.holds Tryz.pinned (.plain (OpenSpec.ofChange blindSpec)) blindCard

/-- THE TIED CARD OF 'veilkeep.Masked'. -/
def maskedCard : Claim7 := { stood := { row := maskedRow, standIns := [], harness := (true, "973ce78185d743971b55061f02cc97ef1e5bff72f0afa265c8b826175290ea79"), looks := false }, kinds := [], alts := [], laidByText := true, laidKinds := [.data, .data, .data], laidTests := true, laidLooks := .later }
def MaskedCardSaid : Prop := Claim7.holds Tryz.pinned (.plain (OpenSpec.ofChange maskedSpec)) maskedCard

/-- THE TIED CARD OF 'veilkeep.Formed'. -/
def formedCard : Claim7 := { stood := { row := formedRow, standIns := [], harness := (true, "973ce78185d743971b55061f02cc97ef1e5bff72f0afa265c8b826175290ea79"), looks := false }, kinds := [], alts := [], laidByText := true, laidKinds := [.data, .data, .data], laidTests := true, laidLooks := .later }
def FormedCardSaid : Prop := Claim7.holds Tryz.pinned (.plain (OpenSpec.ofChange formedSpec)) formedCard

/-- THE TIED CARD OF 'veilkeep.Shuffled'. -/
def shuffledCard : Claim7 := { stood := { row := shuffledRow, standIns := [], harness := (true, "973ce78185d743971b55061f02cc97ef1e5bff72f0afa265c8b826175290ea79"), looks := false }, kinds := [], alts := [], laidByText := true, laidKinds := [.data, .data, .data], laidTests := true, laidLooks := .later }
def ShuffledCardSaid : Prop := Claim7.holds Tryz.pinned (.plain (OpenSpec.ofChange shuffledSpec)) shuffledCard

/-- THE SECOND FORM's CARD OF 'veilkeep.Blind'. -/
def blindUptoCard : Claim7 := { stood := { row := blindUptoRow, standIns := [], harness := (true, "973ce78185d743971b55061f02cc97ef1e5bff72f0afa265c8b826175290ea79"), looks := false }, kinds := [], alts := [], laidByText := true, laidKinds := [.data, .data, .data], laidTests := true, laidLooks := .later }
def BlindUptoCardSaid : Prop := Claim7.holds Tryz.pinned (.plain (OpenSpec.upto blindSpec)) blindUptoCard

/-- THE SECOND FORM's CARD OF 'veilkeep.Masked'. -/
def maskedUptoCard : Claim7 := { stood := { row := maskedUptoRow, standIns := [], harness := (true, "973ce78185d743971b55061f02cc97ef1e5bff72f0afa265c8b826175290ea79"), looks := false }, kinds := [], alts := [], laidByText := true, laidKinds := [.data, .data, .data], laidTests := true, laidLooks := .later }
def MaskedUptoCardSaid : Prop := Claim7.holds Tryz.pinned (.plain (OpenSpec.upto maskedSpec)) maskedUptoCard

/-- THE SECOND FORM's CARD OF 'veilkeep.Formed'. -/
def formedUptoCard : Claim7 := { stood := { row := formedUptoRow, standIns := [], harness := (true, "973ce78185d743971b55061f02cc97ef1e5bff72f0afa265c8b826175290ea79"), looks := false }, kinds := [], alts := [], laidByText := true, laidKinds := [.data, .data, .data], laidTests := true, laidLooks := .later }
def FormedUptoCardSaid : Prop := Claim7.holds Tryz.pinned (.plain (OpenSpec.upto formedSpec)) formedUptoCard

/-- THE SECOND FORM's CARD OF 'veilkeep.Shuffled'. -/
def shuffledUptoCard : Claim7 := { stood := { row := shuffledUptoRow, standIns := [], harness := (true, "973ce78185d743971b55061f02cc97ef1e5bff72f0afa265c8b826175290ea79"), looks := false }, kinds := [], alts := [], laidByText := true, laidKinds := [.data, .data, .data], laidTests := true, laidLooks := .later }
def ShuffledUptoCardSaid : Prop := Claim7.holds Tryz.pinned (.plain (OpenSpec.upto shuffledSpec)) shuffledUptoCard
end Rows
end Go.Proofs.YtogdodlibkckkaaGreatDoor
