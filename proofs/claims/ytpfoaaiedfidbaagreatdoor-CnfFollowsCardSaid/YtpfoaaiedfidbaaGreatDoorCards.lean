/-
  DERIVED. GIVEN WITH THE SEED: THE CARDS: each row of YtpfoaaiedfidbaaGreatDoorRows.lean that lists a variable, with what it lists TIED to the program's text (the seventh form; the later family's looks); each row that meets fmt, with fmt's text TOLD by the authors' own Lean function (tested against real Go, not proved from fmt's source: count such statements apart). THE CARD IS WHAT COUNTS. Prove the row's statement (the work); the ties are given (YtpfoaaiedfidbaaGreatDoorTie.lean); close each card by the builder's one call (the guide's Derived/Test/ToyasCard.lean, 'card_holds'). Laid BY PROGRAM, IN A SANDBOX (cutbox-door.mjs). By AI agents, Wed Nov 11 2026. No macro, syntax, notation, axiom, sorry.
-/
import Derived.Test.YtpfoaaiedfidbaaGreatDoorRows
import GoSem.ClaimSeven
namespace Go.Proofs.YtpfoaaiedfidbaaGreatDoor
namespace Rows

/-- THE TIED CARD OF 'skualaw06.CnfFollows'. -/
def cnfFollowsCard : Claim7 := { stood := { row := cnfFollowsRow, standIns := [], harness := (true, "4a3934ef72b543ce39e112de68cc536177e4a250109b6933f725f3bcb897b691"), looks := true }, kinds := [], alts := [], laidByText := true, laidKinds := [.data, .data, .data, .sentinel, .sentinel], laidTests := true, laidLooks := .later }
def CnfFollowsCardSaid : Prop := Claim7.holds Tryz.pinned (.plain (OpenSpec.ofChange cnfFollowsSpec)) cnfFollowsCard

/-- THE TIED CARD OF 'skualaw06.CnfImplies'. -/
def cnfImpliesCard : Claim7 := { stood := { row := cnfImpliesRow, standIns := [], harness := (true, "4a3934ef72b543ce39e112de68cc536177e4a250109b6933f725f3bcb897b691"), looks := true }, kinds := [], alts := [], laidByText := true, laidKinds := [.data, .data, .data, .sentinel, .sentinel], laidTests := true, laidLooks := .later }
def CnfImpliesCardSaid : Prop := Claim7.holds Tryz.pinned (.plain (OpenSpec.ofChange cnfImpliesSpec)) cnfImpliesCard

/-- THE TIED CARD OF 'skualaw06.CnfMore'. -/
def cnfMoreCard : Claim7 := { stood := { row := cnfMoreRow, standIns := [], harness := (true, "4a3934ef72b543ce39e112de68cc536177e4a250109b6933f725f3bcb897b691"), looks := true }, kinds := [], alts := [], laidByText := true, laidKinds := [.data, .data, .data, .sentinel, .sentinel], laidTests := true, laidLooks := .later }
def CnfMoreCardSaid : Prop := Claim7.holds Tryz.pinned (.plain (OpenSpec.ofChange cnfMoreSpec)) cnfMoreCard

/-- THE SECOND FORM's CARD OF 'skualaw06.CnfFollows'. -/
def cnfFollowsUptoCard : Claim7 := { stood := { row := cnfFollowsUptoRow, standIns := [], harness := (true, "4a3934ef72b543ce39e112de68cc536177e4a250109b6933f725f3bcb897b691"), looks := true }, kinds := [], alts := [], laidByText := true, laidKinds := [.data, .data, .data, .sentinel, .sentinel], laidTests := true, laidLooks := .later }
def CnfFollowsUptoCardSaid : Prop := Claim7.holds Tryz.pinned (.plain (OpenSpec.upto cnfFollowsSpec)) cnfFollowsUptoCard

/-- THE SECOND FORM's CARD OF 'skualaw06.CnfImplies'. -/
def cnfImpliesUptoCard : Claim7 := { stood := { row := cnfImpliesUptoRow, standIns := [], harness := (true, "4a3934ef72b543ce39e112de68cc536177e4a250109b6933f725f3bcb897b691"), looks := true }, kinds := [], alts := [], laidByText := true, laidKinds := [.data, .data, .data, .sentinel, .sentinel], laidTests := true, laidLooks := .later }
def CnfImpliesUptoCardSaid : Prop := Claim7.holds Tryz.pinned (.plain (OpenSpec.upto cnfImpliesSpec)) cnfImpliesUptoCard

/-- THE SECOND FORM's CARD OF 'skualaw06.CnfMore'. -/
def cnfMoreUptoCard : Claim7 := { stood := { row := cnfMoreUptoRow, standIns := [], harness := (true, "4a3934ef72b543ce39e112de68cc536177e4a250109b6933f725f3bcb897b691"), looks := true }, kinds := [], alts := [], laidByText := true, laidKinds := [.data, .data, .data, .sentinel, .sentinel], laidTests := true, laidLooks := .later }
def CnfMoreUptoCardSaid : Prop := Claim7.holds Tryz.pinned (.plain (OpenSpec.upto cnfMoreSpec)) cnfMoreUptoCard
end Rows
end Go.Proofs.YtpfoaaiedfidbaaGreatDoor
