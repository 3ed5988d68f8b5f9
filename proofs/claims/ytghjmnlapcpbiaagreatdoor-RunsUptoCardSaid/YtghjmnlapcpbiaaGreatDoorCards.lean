/-
  DERIVED. GIVEN WITH THE SEED: THE CARDS: each row of YtghjmnlapcpbiaaGreatDoorRows.lean that lists a variable, with what it lists TIED to the program's text (the seventh form; the later family's looks); each row that meets fmt, with fmt's text TOLD by the authors' own Lean function (tested against real Go, not proved from fmt's source: count such statements apart). THE CARD IS WHAT COUNTS. Prove the row's statement (the work); the ties are given (YtghjmnlapcpbiaaGreatDoorTie.lean); close each card by the builder's one call (the guide's Derived/Test/ToyasCard.lean, 'card_holds'). Laid BY PROGRAM, IN A SANDBOX (cutbox-door.mjs). By AI agents, Wed Nov 11 2026. No macro, syntax, notation, axiom, sorry.
-/
import Derived.Test.YtghjmnlapcpbiaaGreatDoorRows
import GoSem.ClaimSeven
namespace Go.Proofs.YtghjmnlapcpbiaaGreatDoor
namespace Rows

/-- THE TIED CARD OF 'kilnlaw.Runs'. -/
def runsCard : Claim7 := { stood := { row := runsRow, standIns := [], harness := (true, "e5ec6076fccbb8b319c183cb7e28c207f3b540911fb453452d1f14e5144e20e5"), looks := true }, kinds := [], alts := [], laidByText := true, laidKinds := [.data], laidTests := true, laidLooks := .later }
def RunsCardSaid : Prop := Claim7.holds Tryz.pinned (.plain (OpenSpec.ofChange runsSpec)) runsCard

/-- THE SECOND FORM's CARD OF 'kilnlaw.Runs'. -/
def runsUptoCard : Claim7 := { stood := { row := runsUptoRow, standIns := [], harness := (true, "e5ec6076fccbb8b319c183cb7e28c207f3b540911fb453452d1f14e5144e20e5"), looks := true }, kinds := [], alts := [], laidByText := true, laidKinds := [.data], laidTests := true, laidLooks := .later }
def RunsUptoCardSaid : Prop := Claim7.holds Tryz.pinned (.plain (OpenSpec.upto runsSpec)) runsUptoCard
end Rows
end Go.Proofs.YtghjmnlapcpbiaaGreatDoor
