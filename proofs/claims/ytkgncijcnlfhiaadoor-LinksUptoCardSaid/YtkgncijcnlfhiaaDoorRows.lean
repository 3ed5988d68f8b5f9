/-
  NARROWER THAN 'FOR EVERY INPUT', by the rows' own cells (each row's printed sentence says how): Encodes: laid · Decodes: laid · Links: laid · Verifies: laid.
  DERIVED. THE GIVEN ROWS OF THIS SEAT. 4 by the template 'for every input the law returns true; each argument reads behind the call as it read before'; 0 by the template 'total and deterministic' (their statements: YtkgncijcnlfhiaaDoorTotals.lean).
  GIVEN WITH THE SEED: the statements are not yours to turn. If you find one false, say at which input.
  Laid BY PROGRAM, IN A SANDBOX (cutbox-rows.mjs): the forced cells as the released guide's own fill.sh prints them over the translation 522e1d47dda06918… (all of the seat's roots in one cut). By AI agents, Wed Nov 11 2026. No macro, syntax, notation, axiom, sorry.
-/
import Derived.Test.YtkgncijcnlfhiaaDoorChecked
import GoSem.Claim
import GoSem.ClaimJoined
import GoSem.ClaimMapViews
import Derived.JoinedTies
import Derived.KernelRfl
namespace Go.Proofs.YtkgncijcnlfhiaaDoor
/- THE CELL 'sum', in the pinned program and in every row, IS THE sha256 OF THE DUMP (.gsa) THAT YtkgncijcnlfhiaaDoorProg.lean LOADS. Nothing in Lean hashes anything: it is a label: what it is worth is what the hold of that sum in a sandbox is worth. -/
noncomputable def Tryd.pinned : Pinned := { name := "ytkgncijcnlfhiaadoor", sum := "522e1d47dda06918cacd13d57bd20f54efd744b74cd2fadbbf6247d3e730f1b3", checked := Tryd.checked }
namespace Rows
def none {H : Type} : Left H := { results := [], args := [] }

/- WHAT THE LISTED PACKAGE-LEVEL VARIABLES READ AS WHEN THE CALL BEGINS. Each datum BY PROGRAM (the guide's laid-datum.mjs) off the statement by which the dump's own 'gosem.cut.vars' lays the variable. In a bare row this is a premise. The card (YtkgncijcnlfhiaaDoorCards.lean) ties it to the program's text. -/
def laid_kiln_kilnref_operands {H : Type} : DataW H := .agg [.lit (.int .i64 1), .lit (.int .i64 1), .lit (.int .i64 1), .lit (.int .i64 1), .lit (.int .i64 0), .lit (.int .i64 0), .lit (.int .i64 0), .lit (.int .i64 0), .lit (.int .i64 0), .lit (.int .i64 0), .lit (.int .i64 0), .lit (.int .i64 1), .lit (.int .i64 1), .lit (.int .i64 1), .lit (.int .i64 0), .lit (.int .i64 1), .lit (.int .i64 2), .lit (.int .i64 2), .lit (.int .i64 1), .lit (.int .i64 1), .lit (.int .i64 0)]

/-- 'kilnlaw.Encodes': WHATEVER THE INPUT: true; the input reads as it did. -/
def encodesSpec : ChangeSpec := { name := "encodes", fn := fun _ => fun
  | [d1, d2] => { results := [.lit (.bool true)], args := [d1, d2] }
  | _ => none }
def encodesRow : OpenClaim := { program := "ytkgncijcnlfhiaadoor", sum := "522e1d47dda06918cacd13d57bd20f54efd744b74cd2fadbbf6247d3e730f1b3", func := "kiln/kilnlaw.Encodes", spec := "encodes", unfollowed := true, recurses := true, named := ["kiln/kilnref.operands"], apart := false, laid := [("kiln/kilnref.operands", laid_kiln_kilnref_operands)] }
def EncodesSaid : Prop := encodesRow.holds Tryd.pinned (OpenSpec.ofChange encodesSpec)

/-- ITS FALSE NEIGHBOUR: 'it returns false'. Refute it at one input. -/
def encodesWrong : ChangeSpec := { name := "encodes", fn := fun _ => fun
  | [d1, d2] => { results := [.lit (.bool false)], args := [d1, d2] }
  | _ => none }
def EncodesWrongFalsely : Prop := encodesRow.holds Tryd.pinned (OpenSpec.ofChange encodesWrong)

/-- 'kilnlaw.Decodes': WHATEVER THE INPUT: true; the input reads as it did. -/
def decodesSpec : ChangeSpec := { name := "decodes", fn := fun _ => fun
  | [d1, d2] => { results := [.lit (.bool true)], args := [d1, d2] }
  | _ => none }
def decodesRow : OpenClaim := { program := "ytkgncijcnlfhiaadoor", sum := "522e1d47dda06918cacd13d57bd20f54efd744b74cd2fadbbf6247d3e730f1b3", func := "kiln/kilnlaw.Decodes", spec := "decodes", unfollowed := true, recurses := true, named := ["kiln/kilnref.operands"], apart := false, laid := [("kiln/kilnref.operands", laid_kiln_kilnref_operands)] }
def DecodesSaid : Prop := decodesRow.holds Tryd.pinned (OpenSpec.ofChange decodesSpec)

/-- ITS FALSE NEIGHBOUR: 'it returns false'. Refute it at one input. -/
def decodesWrong : ChangeSpec := { name := "decodes", fn := fun _ => fun
  | [d1, d2] => { results := [.lit (.bool false)], args := [d1, d2] }
  | _ => none }
def DecodesWrongFalsely : Prop := decodesRow.holds Tryd.pinned (OpenSpec.ofChange decodesWrong)

/-- 'kilnlaw.Links': WHATEVER THE INPUT: true; the input reads as it did. -/
def linksSpec : ChangeSpec := { name := "links", fn := fun _ => fun
  | [d1, d2] => { results := [.lit (.bool true)], args := [d1, d2] }
  | _ => none }
def linksRow : OpenClaim := { program := "ytkgncijcnlfhiaadoor", sum := "522e1d47dda06918cacd13d57bd20f54efd744b74cd2fadbbf6247d3e730f1b3", func := "kiln/kilnlaw.Links", spec := "links", unfollowed := true, recurses := true, named := ["kiln/kilnref.operands"], apart := false, laid := [("kiln/kilnref.operands", laid_kiln_kilnref_operands)] }
def LinksSaid : Prop := linksRow.holds Tryd.pinned (OpenSpec.ofChange linksSpec)

/-- ITS FALSE NEIGHBOUR: 'it returns false'. Refute it at one input. -/
def linksWrong : ChangeSpec := { name := "links", fn := fun _ => fun
  | [d1, d2] => { results := [.lit (.bool false)], args := [d1, d2] }
  | _ => none }
def LinksWrongFalsely : Prop := linksRow.holds Tryd.pinned (OpenSpec.ofChange linksWrong)

/-- 'kilnlaw.Verifies': WHATEVER THE INPUT: true; the input reads as it did. -/
def verifiesSpec : ChangeSpec := { name := "verifies", fn := fun _ => fun
  | [d1, d2] => { results := [.lit (.bool true)], args := [d1, d2] }
  | _ => none }
def verifiesRow : OpenClaim := { program := "ytkgncijcnlfhiaadoor", sum := "522e1d47dda06918cacd13d57bd20f54efd744b74cd2fadbbf6247d3e730f1b3", func := "kiln/kilnlaw.Verifies", spec := "verifies", unfollowed := true, recurses := true, named := ["kiln/kilnref.operands"], apart := false, laid := [("kiln/kilnref.operands", laid_kiln_kilnref_operands)] }
def VerifiesSaid : Prop := verifiesRow.holds Tryd.pinned (OpenSpec.ofChange verifiesSpec)

/-- ITS FALSE NEIGHBOUR: 'it returns false'. Refute it at one input. -/
def verifiesWrong : ChangeSpec := { name := "verifies", fn := fun _ => fun
  | [d1, d2] => { results := [.lit (.bool false)], args := [d1, d2] }
  | _ => none }
def VerifiesWrongFalsely : Prop := verifiesRow.holds Tryd.pinned (OpenSpec.ofChange verifiesWrong)

/- THE SECOND FORM. 'bulk': how many values and letters a reading holds, each counted each time it is reached (what is shared counts as often as it is met; a slice's spare places count too). A statement '..UptoSaid' is the law's where the arguments, and the package variables that the reading takes, are together of bulk at most 1048576: NARROWER than '..Said'. Prove '..Said' where nothing that the law and all that it calls make is longer than what came in: it says more and counts as full. Else prove '..UptoSaid'. A law counts once. -/
mutual
def uptoBulk {H : Type} : DataW H → Nat
  | .lit (.string bytes) => bytes.length + 1
  | .lit _ => 1
  | .nil => 1
  | .ptr d => uptoBulk d + 1
  | .slice elems spare => uptoBulkAll elems + uptoBulkAll spare + 1
  | .agg parts => uptoBulkAll parts + 1
  | .iface _ d => uptoBulk d + 1
  | .map entries => uptoBulkEntries entries + 1
  | .held _ => 1
def uptoBulkAll {H : Type} : List (DataW H) → Nat
  | [] => 0
  | d :: r => uptoBulk d + uptoBulkAll r
def uptoBulkEntries {H : Type} : List (Lit × DataW H) → Nat
  | [] => 0
  | x :: r => uptoBulkEntry x + uptoBulkEntries r
def uptoBulkEntry {H : Type} : Lit × DataW H → Nat
  | (.string bytes, d) => bytes.length + uptoBulk d + 1
  | (_, d) => uptoBulk d + 1
 end
def uptoSmall : (H : Type) → List (DataW H) → Bool := fun _ ds => decide (uptoBulkAll ds ≤ 1048576)
def OpenSpec.upto (s : _root_.Go.ChangeSpec) : _root_.Go.OpenSpec := { _root_.Go.OpenSpec.ofChange s with cond := some uptoSmall }

/-- 'kilnlaw.Encodes', WHERE WHAT IT READS IS OF BULK AT MOST 1048576: true; the input reads as it did. -/
def encodesUptoRow : OpenClaim := { program := "ytkgncijcnlfhiaadoor", sum := "522e1d47dda06918cacd13d57bd20f54efd744b74cd2fadbbf6247d3e730f1b3", func := "kiln/kilnlaw.Encodes", spec := "encodes", unfollowed := true, recurses := true, named := ["kiln/kilnref.operands"], apart := false, laid := [("kiln/kilnref.operands", laid_kiln_kilnref_operands)], narrowed := true }
def EncodesUptoSaid : Prop := encodesUptoRow.holds Tryd.pinned (OpenSpec.upto encodesSpec)

/-- 'kilnlaw.Decodes', WHERE WHAT IT READS IS OF BULK AT MOST 1048576: true; the input reads as it did. -/
def decodesUptoRow : OpenClaim := { program := "ytkgncijcnlfhiaadoor", sum := "522e1d47dda06918cacd13d57bd20f54efd744b74cd2fadbbf6247d3e730f1b3", func := "kiln/kilnlaw.Decodes", spec := "decodes", unfollowed := true, recurses := true, named := ["kiln/kilnref.operands"], apart := false, laid := [("kiln/kilnref.operands", laid_kiln_kilnref_operands)], narrowed := true }
def DecodesUptoSaid : Prop := decodesUptoRow.holds Tryd.pinned (OpenSpec.upto decodesSpec)

/-- 'kilnlaw.Links', WHERE WHAT IT READS IS OF BULK AT MOST 1048576: true; the input reads as it did. -/
def linksUptoRow : OpenClaim := { program := "ytkgncijcnlfhiaadoor", sum := "522e1d47dda06918cacd13d57bd20f54efd744b74cd2fadbbf6247d3e730f1b3", func := "kiln/kilnlaw.Links", spec := "links", unfollowed := true, recurses := true, named := ["kiln/kilnref.operands"], apart := false, laid := [("kiln/kilnref.operands", laid_kiln_kilnref_operands)], narrowed := true }
def LinksUptoSaid : Prop := linksUptoRow.holds Tryd.pinned (OpenSpec.upto linksSpec)

/-- 'kilnlaw.Verifies', WHERE WHAT IT READS IS OF BULK AT MOST 1048576: true; the input reads as it did. -/
def verifiesUptoRow : OpenClaim := { program := "ytkgncijcnlfhiaadoor", sum := "522e1d47dda06918cacd13d57bd20f54efd744b74cd2fadbbf6247d3e730f1b3", func := "kiln/kilnlaw.Verifies", spec := "verifies", unfollowed := true, recurses := true, named := ["kiln/kilnref.operands"], apart := false, laid := [("kiln/kilnref.operands", laid_kiln_kilnref_operands)], narrowed := true }
def VerifiesUptoSaid : Prop := verifiesUptoRow.holds Tryd.pinned (OpenSpec.upto verifiesSpec)

end Rows
end Go.Proofs.YtkgncijcnlfhiaaDoor
