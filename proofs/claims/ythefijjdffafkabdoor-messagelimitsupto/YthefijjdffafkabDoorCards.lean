/-
  DERIVED. GIVEN WITH THE SEED: THE CARDS: each row of YthefijjdffafkabDoorRows.lean that lists a variable, with what it lists TIED to the program's text (the seventh form; the later family's looks); each row that meets fmt, with fmt's text TOLD by the authors' own Lean function (tested against real Go, not proved from fmt's source: count such statements apart). THE CARD IS WHAT COUNTS. Prove the row's statement (the work); the ties are given (YthefijjdffafkabDoorTie.lean); close each card by the builder's one call (the guide's Derived/Test/ToyasCard.lean, 'card_holds'). Laid BY PROGRAM, IN A SANDBOX (cutbox-door.mjs). By AI agents, Wed Nov 11 2026. No macro, syntax, notation, axiom, sorry.
-/
import Derived.Test.YthefijjdffafkabDoorRows
import GoSem.ClaimSeven
namespace Go.Proofs.YthefijjdffafkabDoor
namespace Rows

/-- THE TIED CARD OF 'turnpikelaw18.MessageLimits'. -/
def messageLimitsCard : Claim7 := { stood := { row := messageLimitsRow, standIns := [], harness := (true, "e61f91c3b0abd7a7b540c6e15edd367e2b78ec727962b2b0337ba706a0242897"), looks := true }, kinds := [], alts := [], laidByText := true, laidKinds := [.data, .data, .data, .data, .sentinel, .sentinel, .pinned], laidTests := true, laidLooks := .later }
def MessageLimitsCardSaid : Prop := Claim7.holds Tryd.pinned (.plain (OpenSpec.ofChange messageLimitsSpec)) messageLimitsCard

/-- THE SECOND FORM's CARD OF 'turnpikelaw18.MessageLimits'. -/
def messageLimitsUptoCard : Claim7 := { stood := { row := messageLimitsUptoRow, standIns := [], harness := (true, "e61f91c3b0abd7a7b540c6e15edd367e2b78ec727962b2b0337ba706a0242897"), looks := true }, kinds := [], alts := [], laidByText := true, laidKinds := [.data, .data, .data, .data, .sentinel, .sentinel, .pinned], laidTests := true, laidLooks := .later }
def MessageLimitsUptoCardSaid : Prop := Claim7.holds Tryd.pinned (.plain (OpenSpec.upto messageLimitsSpec)) messageLimitsUptoCard
end Rows
end Go.Proofs.YthefijjdffafkabDoor
