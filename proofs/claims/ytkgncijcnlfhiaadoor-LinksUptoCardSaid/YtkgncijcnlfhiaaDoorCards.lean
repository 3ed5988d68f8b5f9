/-
  DERIVED. GIVEN WITH THE SEED: THE CARDS: each row of YtkgncijcnlfhiaaDoorRows.lean that lists a variable, with what it lists TIED to the program's text (the seventh form; the later family's looks); each row that meets fmt, with fmt's text TOLD by the authors' own Lean function (tested against real Go, not proved from fmt's source: count such statements apart). THE CARD IS WHAT COUNTS. Prove the row's statement (the work); the ties are given (YtkgncijcnlfhiaaDoorTie.lean); close each card by the builder's one call (the guide's Derived/Test/ToyasCard.lean, 'card_holds'). Laid BY PROGRAM, IN A SANDBOX (cutbox-door.mjs). By AI agents, Wed Nov 11 2026. No macro, syntax, notation, axiom, sorry.
-/
import Derived.Test.YtkgncijcnlfhiaaDoorRows
import GoSem.ClaimSeven
namespace Go.Proofs.YtkgncijcnlfhiaaDoor
namespace Rows

/-- THE TIED CARD OF 'kilnlaw.Encodes'. -/
def encodesCard : Claim7 := { stood := { row := encodesRow, standIns := [], harness := (true, "ad92dc2ad4fb51cda972d9b07da9d20f1f5036528d55da2f97a2858ea058dd5d"), looks := true }, kinds := [], alts := [], laidByText := true, laidKinds := [.data], laidTests := true, laidLooks := .later }
def EncodesCardSaid : Prop := Claim7.holds Tryd.pinned (.plain (OpenSpec.ofChange encodesSpec)) encodesCard

/-- THE TIED CARD OF 'kilnlaw.Decodes'. -/
def decodesCard : Claim7 := { stood := { row := decodesRow, standIns := [], harness := (true, "ad92dc2ad4fb51cda972d9b07da9d20f1f5036528d55da2f97a2858ea058dd5d"), looks := true }, kinds := [], alts := [], laidByText := true, laidKinds := [.data], laidTests := true, laidLooks := .later }
def DecodesCardSaid : Prop := Claim7.holds Tryd.pinned (.plain (OpenSpec.ofChange decodesSpec)) decodesCard

/-- THE TIED CARD OF 'kilnlaw.Links'. -/
def linksCard : Claim7 := { stood := { row := linksRow, standIns := [], harness := (true, "ad92dc2ad4fb51cda972d9b07da9d20f1f5036528d55da2f97a2858ea058dd5d"), looks := true }, kinds := [], alts := [], laidByText := true, laidKinds := [.data], laidTests := true, laidLooks := .later }
def LinksCardSaid : Prop := Claim7.holds Tryd.pinned (.plain (OpenSpec.ofChange linksSpec)) linksCard

/-- THE TIED CARD OF 'kilnlaw.Verifies'. -/
def verifiesCard : Claim7 := { stood := { row := verifiesRow, standIns := [], harness := (true, "ad92dc2ad4fb51cda972d9b07da9d20f1f5036528d55da2f97a2858ea058dd5d"), looks := true }, kinds := [], alts := [], laidByText := true, laidKinds := [.data], laidTests := true, laidLooks := .later }
def VerifiesCardSaid : Prop := Claim7.holds Tryd.pinned (.plain (OpenSpec.ofChange verifiesSpec)) verifiesCard

/-- THE SECOND FORM's CARD OF 'kilnlaw.Encodes'. -/
def encodesUptoCard : Claim7 := { stood := { row := encodesUptoRow, standIns := [], harness := (true, "ad92dc2ad4fb51cda972d9b07da9d20f1f5036528d55da2f97a2858ea058dd5d"), looks := true }, kinds := [], alts := [], laidByText := true, laidKinds := [.data], laidTests := true, laidLooks := .later }
def EncodesUptoCardSaid : Prop := Claim7.holds Tryd.pinned (.plain (OpenSpec.upto encodesSpec)) encodesUptoCard

/-- THE SECOND FORM's CARD OF 'kilnlaw.Decodes'. -/
def decodesUptoCard : Claim7 := { stood := { row := decodesUptoRow, standIns := [], harness := (true, "ad92dc2ad4fb51cda972d9b07da9d20f1f5036528d55da2f97a2858ea058dd5d"), looks := true }, kinds := [], alts := [], laidByText := true, laidKinds := [.data], laidTests := true, laidLooks := .later }
def DecodesUptoCardSaid : Prop := Claim7.holds Tryd.pinned (.plain (OpenSpec.upto decodesSpec)) decodesUptoCard

/-- THE SECOND FORM's CARD OF 'kilnlaw.Links'. -/
def linksUptoCard : Claim7 := { stood := { row := linksUptoRow, standIns := [], harness := (true, "ad92dc2ad4fb51cda972d9b07da9d20f1f5036528d55da2f97a2858ea058dd5d"), looks := true }, kinds := [], alts := [], laidByText := true, laidKinds := [.data], laidTests := true, laidLooks := .later }
def LinksUptoCardSaid : Prop := Claim7.holds Tryd.pinned (.plain (OpenSpec.upto linksSpec)) linksUptoCard

/-- THE SECOND FORM's CARD OF 'kilnlaw.Verifies'. -/
def verifiesUptoCard : Claim7 := { stood := { row := verifiesUptoRow, standIns := [], harness := (true, "ad92dc2ad4fb51cda972d9b07da9d20f1f5036528d55da2f97a2858ea058dd5d"), looks := true }, kinds := [], alts := [], laidByText := true, laidKinds := [.data], laidTests := true, laidLooks := .later }
def VerifiesUptoCardSaid : Prop := Claim7.holds Tryd.pinned (.plain (OpenSpec.upto verifiesSpec)) verifiesUptoCard
end Rows
end Go.Proofs.YtkgncijcnlfhiaaDoor
