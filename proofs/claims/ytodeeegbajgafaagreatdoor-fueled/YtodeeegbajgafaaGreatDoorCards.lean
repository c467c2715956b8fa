/-
  DERIVED. GIVEN WITH THE SEED: THE CARDS: each row of YtodeeegbajgafaaGreatDoorRows.lean that lists a variable, with what it lists TIED to the program's text (the seventh form; the later family's looks); each row that meets fmt, with fmt's text TOLD by the authors' own Lean function (tested against real Go, not proved from fmt's source: count such statements apart). THE CARD IS WHAT COUNTS. Prove the row's statement (the work); the ties are given (YtodeeegbajgafaaGreatDoorTie.lean); close each card by the builder's one call (the guide's Derived/Test/ToyasCard.lean, 'card_holds'). Laid BY PROGRAM, IN A SANDBOX (cutbox-door.mjs). By AI agents, Wed Nov 11 2026. No macro, syntax, notation, axiom, sorry.
-/
import Derived.Test.YtodeeegbajgafaaGreatDoorRows
import GoSem.ClaimSeven
namespace Go.Proofs.YtodeeegbajgafaaGreatDoor
namespace Rows

/-- THE TIED CARD OF 'rondokeep.Quoted'. -/
def quotedCard : Claim7 := { stood := { row := quotedRow, standIns := [], harness := (true, "f0927972cf40a04c5d98935ec38f5e0a34dc6a6e75c0a67d5fc208386787f929"), looks := true }, kinds := [], alts := [], laidByText := true, laidKinds := [.data, .data, .data, .sentinel, .sentinel], laidTests := true, laidLooks := .later }
def QuotedCardSaid : Prop := Claim7.holds Tryz.pinned (.plain (OpenSpec.ofChange quotedSpec)) quotedCard

/-- THE TIED CARD OF 'rondokeep.Sums'. -/
def sumsCard : Claim7 := { stood := { row := sumsRow, standIns := [], harness := (true, "f0927972cf40a04c5d98935ec38f5e0a34dc6a6e75c0a67d5fc208386787f929"), looks := true }, kinds := [], alts := [], laidByText := true, laidKinds := [.data, .data, .data, .sentinel, .sentinel], laidTests := true, laidLooks := .later }
def SumsCardSaid : Prop := Claim7.holds Tryz.pinned (.plain (OpenSpec.ofChange sumsSpec)) sumsCard

/-- THE TIED CARD OF 'rondokeep.Fueled'. -/
def fueledCard : Claim7 := { stood := { row := fueledRow, standIns := [], harness := (true, "f0927972cf40a04c5d98935ec38f5e0a34dc6a6e75c0a67d5fc208386787f929"), looks := true }, kinds := [], alts := [], laidByText := true, laidKinds := [.data, .data, .data, .sentinel, .sentinel], laidTests := true, laidLooks := .later }
def FueledCardSaid : Prop := Claim7.holds Tryz.pinned (.plain (OpenSpec.ofChange fueledSpec)) fueledCard

/-- THE TIED CARD OF 'rondokeep.Split'. -/
def splitCard : Claim7 := { stood := { row := splitRow, standIns := [], harness := (true, "f0927972cf40a04c5d98935ec38f5e0a34dc6a6e75c0a67d5fc208386787f929"), looks := true }, kinds := [], alts := [], laidByText := true, laidKinds := [.data, .data, .data, .sentinel, .sentinel], laidTests := true, laidLooks := .later }
def SplitCardSaid : Prop := Claim7.holds Tryz.pinned (.plain (OpenSpec.ofChange splitSpec)) splitCard

/-- THE TIED CARD OF 'rondokeep.Nothing'. -/
def nothingCard : Claim7 := { stood := { row := nothingRow, standIns := [], harness := (true, "f0927972cf40a04c5d98935ec38f5e0a34dc6a6e75c0a67d5fc208386787f929"), looks := true }, kinds := [], alts := [], laidByText := true, laidKinds := [.data, .data, .data, .sentinel, .sentinel], laidTests := true, laidLooks := .later }
def NothingCardSaid : Prop := Claim7.holds Tryz.pinned (.plain (OpenSpec.ofChange nothingSpec)) nothingCard

/-- THE TIED CARD OF 'rondokeep.Again'. -/
def againCard : Claim7 := { stood := { row := againRow, standIns := [], harness := (true, "f0927972cf40a04c5d98935ec38f5e0a34dc6a6e75c0a67d5fc208386787f929"), looks := true }, kinds := [], alts := [], laidByText := true, laidKinds := [.data, .data, .data, .sentinel, .sentinel], laidTests := true, laidLooks := .later }
def AgainCardSaid : Prop := Claim7.holds Tryz.pinned (.plain (OpenSpec.ofChange againSpec)) againCard

/-- THE TIED CARD OF 'rondokeep.Listed'. -/
def listedCard : Claim7 := { stood := { row := listedRow, standIns := [], harness := (true, "f0927972cf40a04c5d98935ec38f5e0a34dc6a6e75c0a67d5fc208386787f929"), looks := true }, kinds := [], alts := [], laidByText := true, laidKinds := [.data, .data, .data, .sentinel, .sentinel], laidTests := true, laidLooks := .later }
def ListedCardSaid : Prop := Claim7.holds Tryz.pinned (.plain (OpenSpec.ofChange listedSpec)) listedCard

/-- THE SECOND FORM's CARD OF 'rondokeep.Quoted'. -/
def quotedUptoCard : Claim7 := { stood := { row := quotedUptoRow, standIns := [], harness := (true, "f0927972cf40a04c5d98935ec38f5e0a34dc6a6e75c0a67d5fc208386787f929"), looks := true }, kinds := [], alts := [], laidByText := true, laidKinds := [.data, .data, .data, .sentinel, .sentinel], laidTests := true, laidLooks := .later }
def QuotedUptoCardSaid : Prop := Claim7.holds Tryz.pinned (.plain (OpenSpec.upto quotedSpec)) quotedUptoCard

/-- THE SECOND FORM's CARD OF 'rondokeep.Sums'. -/
def sumsUptoCard : Claim7 := { stood := { row := sumsUptoRow, standIns := [], harness := (true, "f0927972cf40a04c5d98935ec38f5e0a34dc6a6e75c0a67d5fc208386787f929"), looks := true }, kinds := [], alts := [], laidByText := true, laidKinds := [.data, .data, .data, .sentinel, .sentinel], laidTests := true, laidLooks := .later }
def SumsUptoCardSaid : Prop := Claim7.holds Tryz.pinned (.plain (OpenSpec.upto sumsSpec)) sumsUptoCard

/-- THE SECOND FORM's CARD OF 'rondokeep.Fueled'. -/
def fueledUptoCard : Claim7 := { stood := { row := fueledUptoRow, standIns := [], harness := (true, "f0927972cf40a04c5d98935ec38f5e0a34dc6a6e75c0a67d5fc208386787f929"), looks := true }, kinds := [], alts := [], laidByText := true, laidKinds := [.data, .data, .data, .sentinel, .sentinel], laidTests := true, laidLooks := .later }
def FueledUptoCardSaid : Prop := Claim7.holds Tryz.pinned (.plain (OpenSpec.upto fueledSpec)) fueledUptoCard

/-- THE SECOND FORM's CARD OF 'rondokeep.Split'. -/
def splitUptoCard : Claim7 := { stood := { row := splitUptoRow, standIns := [], harness := (true, "f0927972cf40a04c5d98935ec38f5e0a34dc6a6e75c0a67d5fc208386787f929"), looks := true }, kinds := [], alts := [], laidByText := true, laidKinds := [.data, .data, .data, .sentinel, .sentinel], laidTests := true, laidLooks := .later }
def SplitUptoCardSaid : Prop := Claim7.holds Tryz.pinned (.plain (OpenSpec.upto splitSpec)) splitUptoCard

/-- THE SECOND FORM's CARD OF 'rondokeep.Nothing'. -/
def nothingUptoCard : Claim7 := { stood := { row := nothingUptoRow, standIns := [], harness := (true, "f0927972cf40a04c5d98935ec38f5e0a34dc6a6e75c0a67d5fc208386787f929"), looks := true }, kinds := [], alts := [], laidByText := true, laidKinds := [.data, .data, .data, .sentinel, .sentinel], laidTests := true, laidLooks := .later }
def NothingUptoCardSaid : Prop := Claim7.holds Tryz.pinned (.plain (OpenSpec.upto nothingSpec)) nothingUptoCard

/-- THE SECOND FORM's CARD OF 'rondokeep.Again'. -/
def againUptoCard : Claim7 := { stood := { row := againUptoRow, standIns := [], harness := (true, "f0927972cf40a04c5d98935ec38f5e0a34dc6a6e75c0a67d5fc208386787f929"), looks := true }, kinds := [], alts := [], laidByText := true, laidKinds := [.data, .data, .data, .sentinel, .sentinel], laidTests := true, laidLooks := .later }
def AgainUptoCardSaid : Prop := Claim7.holds Tryz.pinned (.plain (OpenSpec.upto againSpec)) againUptoCard

/-- THE SECOND FORM's CARD OF 'rondokeep.Listed'. -/
def listedUptoCard : Claim7 := { stood := { row := listedUptoRow, standIns := [], harness := (true, "f0927972cf40a04c5d98935ec38f5e0a34dc6a6e75c0a67d5fc208386787f929"), looks := true }, kinds := [], alts := [], laidByText := true, laidKinds := [.data, .data, .data, .sentinel, .sentinel], laidTests := true, laidLooks := .later }
def ListedUptoCardSaid : Prop := Claim7.holds Tryz.pinned (.plain (OpenSpec.upto listedSpec)) listedUptoCard
end Rows
end Go.Proofs.YtodeeegbajgafaaGreatDoor
