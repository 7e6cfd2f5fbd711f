/-
  DERIVED. GIVEN WITH THE SEED: THE CARDS: each row of YtiajhekdhhhghaaGreatDoorRows.lean that lists a variable, with what it lists TIED to the program's text (the seventh form; the later family's looks); each row that meets fmt, with fmt's text TOLD by the authors' own Lean function (tested against real Go, not proved from fmt's source: count such statements apart). THE CARD IS WHAT COUNTS. Prove the row's statement (the work); the ties are given (YtiajhekdhhhghaaGreatDoorTie.lean); close each card by the builder's one call (the guide's Derived/Test/ToyasCard.lean, 'card_holds'). Laid BY PROGRAM, IN A SANDBOX (cutbox-door.mjs). By AI agents, Wed Nov 11 2026. No macro, syntax, notation, axiom, sorry.
-/
import Derived.Test.YtiajhekdhhhghaaGreatDoorRows
import GoSem.ClaimSeven
namespace Go.Proofs.YtiajhekdhhhghaaGreatDoor
namespace Rows

/-- THE TIED CARD OF 'skualaw04.CheckBlanks'. -/
def checkBlanksCard : Claim7 := { stood := { row := checkBlanksRow, standIns := [], harness := (true, "c866e1b73045557ed40225dd2bc020ac583214d9e2744e47023cfdfc8058dacc"), looks := true }, kinds := [], alts := [], laidByText := true, laidKinds := [.data, .data, .data, .data, .data, .data, .data, .data, .data], laidTests := true, laidLooks := .later }
def CheckBlanksCardSaid : Prop := Claim7.holds Tryz.pinned (.plain (OpenSpec.ofChange checkBlanksSpec)) checkBlanksCard

/-- THE TIED CARD OF 'skualaw04.CheckSound'. -/
def checkSoundCard : Claim7 := { stood := { row := checkSoundRow, standIns := [], harness := (true, "c866e1b73045557ed40225dd2bc020ac583214d9e2744e47023cfdfc8058dacc"), looks := true }, kinds := [], alts := [], laidByText := true, laidKinds := [.data, .data, .data, .data, .data, .data, .data, .data, .data], laidTests := true, laidLooks := .later }
def CheckSoundCardSaid : Prop := Claim7.holds Tryz.pinned (.plain (OpenSpec.ofChange checkSoundSpec)) checkSoundCard

/-- THE TIED CARD OF 'skualaw04.CheckAgain'. -/
def checkAgainCard : Claim7 := { stood := { row := checkAgainRow, standIns := [], harness := (true, "c866e1b73045557ed40225dd2bc020ac583214d9e2744e47023cfdfc8058dacc"), looks := true }, kinds := [], alts := [], laidByText := true, laidKinds := [.data, .data, .data, .data, .data, .data, .data, .data, .data], laidTests := true, laidLooks := .later }
def CheckAgainCardSaid : Prop := Claim7.holds Tryz.pinned (.plain (OpenSpec.ofChange checkAgainSpec)) checkAgainCard

/-- THE TIED CARD OF 'skualaw04.CheckUnused'. -/
def checkUnusedCard : Claim7 := { stood := { row := checkUnusedRow, standIns := [], harness := (true, "c866e1b73045557ed40225dd2bc020ac583214d9e2744e47023cfdfc8058dacc"), looks := true }, kinds := [], alts := [], laidByText := true, laidKinds := [.data, .data, .data, .data, .data, .data, .data, .data, .data], laidTests := true, laidLooks := .later }
def CheckUnusedCardSaid : Prop := Claim7.holds Tryz.pinned (.plain (OpenSpec.ofChange checkUnusedSpec)) checkUnusedCard

/-- THE SECOND FORM's CARD OF 'skualaw04.CheckBlanks'. -/
def checkBlanksUptoCard : Claim7 := { stood := { row := checkBlanksUptoRow, standIns := [], harness := (true, "c866e1b73045557ed40225dd2bc020ac583214d9e2744e47023cfdfc8058dacc"), looks := true }, kinds := [], alts := [], laidByText := true, laidKinds := [.data, .data, .data, .data, .data, .data, .data, .data, .data], laidTests := true, laidLooks := .later }
def CheckBlanksUptoCardSaid : Prop := Claim7.holds Tryz.pinned (.plain (OpenSpec.upto checkBlanksSpec)) checkBlanksUptoCard

/-- THE SECOND FORM's CARD OF 'skualaw04.CheckSound'. -/
def checkSoundUptoCard : Claim7 := { stood := { row := checkSoundUptoRow, standIns := [], harness := (true, "c866e1b73045557ed40225dd2bc020ac583214d9e2744e47023cfdfc8058dacc"), looks := true }, kinds := [], alts := [], laidByText := true, laidKinds := [.data, .data, .data, .data, .data, .data, .data, .data, .data], laidTests := true, laidLooks := .later }
def CheckSoundUptoCardSaid : Prop := Claim7.holds Tryz.pinned (.plain (OpenSpec.upto checkSoundSpec)) checkSoundUptoCard

/-- THE SECOND FORM's CARD OF 'skualaw04.CheckAgain'. -/
def checkAgainUptoCard : Claim7 := { stood := { row := checkAgainUptoRow, standIns := [], harness := (true, "c866e1b73045557ed40225dd2bc020ac583214d9e2744e47023cfdfc8058dacc"), looks := true }, kinds := [], alts := [], laidByText := true, laidKinds := [.data, .data, .data, .data, .data, .data, .data, .data, .data], laidTests := true, laidLooks := .later }
def CheckAgainUptoCardSaid : Prop := Claim7.holds Tryz.pinned (.plain (OpenSpec.upto checkAgainSpec)) checkAgainUptoCard

/-- THE SECOND FORM's CARD OF 'skualaw04.CheckUnused'. -/
def checkUnusedUptoCard : Claim7 := { stood := { row := checkUnusedUptoRow, standIns := [], harness := (true, "c866e1b73045557ed40225dd2bc020ac583214d9e2744e47023cfdfc8058dacc"), looks := true }, kinds := [], alts := [], laidByText := true, laidKinds := [.data, .data, .data, .data, .data, .data, .data, .data, .data], laidTests := true, laidLooks := .later }
def CheckUnusedUptoCardSaid : Prop := Claim7.holds Tryz.pinned (.plain (OpenSpec.upto checkUnusedSpec)) checkUnusedUptoCard
end Rows
end Go.Proofs.YtiajhekdhhhghaaGreatDoor
