/-
  DERIVED. GIVEN WITH THE SEED: THE CARDS: each row of YthefijjdffafkaaGreatDoorRows.lean that lists a variable, with what it lists TIED to the program's text (the seventh form; the later family's looks); each row that meets fmt, with fmt's text TOLD by the authors' own Lean function (tested against real Go, not proved from fmt's source: count such statements apart). THE CARD IS WHAT COUNTS. Prove the row's statement (the work); the ties are given (YthefijjdffafkaaGreatDoorTie.lean); close each card by the builder's one call (the guide's Derived/Test/ToyasCard.lean, 'card_holds'). Laid BY PROGRAM, IN A SANDBOX (cutbox-door.mjs). By AI agents, Wed Nov 11 2026. No macro, syntax, notation, axiom, sorry.
-/
import Derived.Test.YthefijjdffafkaaGreatDoorRows
import GoSem.ClaimSeven
namespace Go.Proofs.YthefijjdffafkaaGreatDoor
namespace Rows

/-- THE TIED CARD OF 'turnpikelaw18.MessageChecks'. -/
def messageChecksCard : Claim7 := { stood := { row := messageChecksRow, standIns := [], harness := (true, "264b64b5b95ca375229bae85d5474a69794afc2cb4da4232c5abcbb426407af4"), looks := true }, kinds := [], alts := [], laidByText := true, laidKinds := [.data, .data, .data, .data, .sentinel, .sentinel, .pinned], laidTests := true, laidLooks := .later }
def MessageChecksCardSaid : Prop := Claim7.holds Tryz.pinned (.plain (OpenSpec.ofChange messageChecksSpec)) messageChecksCard

/-- THE TIED CARD OF 'turnpikelaw18.MessageTrails'. -/
def messageTrailsCard : Claim7 := { stood := { row := messageTrailsRow, standIns := [], harness := (true, "264b64b5b95ca375229bae85d5474a69794afc2cb4da4232c5abcbb426407af4"), looks := true }, kinds := [], alts := [], laidByText := true, laidKinds := [.data, .data, .data, .data, .sentinel, .sentinel, .pinned], laidTests := true, laidLooks := .later }
def MessageTrailsCardSaid : Prop := Claim7.holds Tryz.pinned (.plain (OpenSpec.ofChange messageTrailsSpec)) messageTrailsCard

/-- THE SECOND FORM's CARD OF 'turnpikelaw18.MessageChecks'. -/
def messageChecksUptoCard : Claim7 := { stood := { row := messageChecksUptoRow, standIns := [], harness := (true, "264b64b5b95ca375229bae85d5474a69794afc2cb4da4232c5abcbb426407af4"), looks := true }, kinds := [], alts := [], laidByText := true, laidKinds := [.data, .data, .data, .data, .sentinel, .sentinel, .pinned], laidTests := true, laidLooks := .later }
def MessageChecksUptoCardSaid : Prop := Claim7.holds Tryz.pinned (.plain (OpenSpec.upto messageChecksSpec)) messageChecksUptoCard

/-- THE SECOND FORM's CARD OF 'turnpikelaw18.MessageTrails'. -/
def messageTrailsUptoCard : Claim7 := { stood := { row := messageTrailsUptoRow, standIns := [], harness := (true, "264b64b5b95ca375229bae85d5474a69794afc2cb4da4232c5abcbb426407af4"), looks := true }, kinds := [], alts := [], laidByText := true, laidKinds := [.data, .data, .data, .data, .sentinel, .sentinel, .pinned], laidTests := true, laidLooks := .later }
def MessageTrailsUptoCardSaid : Prop := Claim7.holds Tryz.pinned (.plain (OpenSpec.upto messageTrailsSpec)) messageTrailsUptoCard
end Rows
end Go.Proofs.YthefijjdffafkaaGreatDoor
