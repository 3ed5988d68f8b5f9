/-
  No cell of these rows narrows 'for every input' (looked for: loops, veiled, ifaces, maps, wideKeys, modest, calm, conditions, laid).
  DERIVED. THE GIVEN ROWS OF THIS SEAT. 5 by the template 'for every input the law returns true; each argument reads behind the call as it read before'; 0 by the template 'total and deterministic' (their statements: YtkgncijcnlfhiaaGreatTotals.lean).
  GIVEN WITH THE SEED: the statements are not yours to turn. If you find one false, say at which input.
  Laid BY PROGRAM, IN A SANDBOX (cutbox-rows.mjs): the forced cells as the released guide's own fill.sh prints them over the translation d89aa69c27f468b8… (all of the seat's roots in one cut). By AI agents, Wed Nov 11 2026. No macro, syntax, notation, axiom, sorry.
-/
import Derived.Test.YtkgncijcnlfhiaaGreatChecked
import GoSem.Claim
import GoSem.ClaimJoined
import GoSem.ClaimMapViews
import Derived.JoinedTies
import Derived.KernelRfl
namespace Go.Proofs.YtkgncijcnlfhiaaGreat
/- THE CELL 'sum', in the pinned program and in every row, IS THE sha256 OF THE DUMP (.gsa) THAT YtkgncijcnlfhiaaGreatProg.lean LOADS. Nothing in Lean hashes anything: it is a label: what it is worth is what the hold of that sum in a sandbox is worth. -/
noncomputable def Tryz.pinned : Pinned := { name := "ytkgncijcnlfhiaagreat", sum := "d89aa69c27f468b8cb72615d7a8e341900be1537a8aac3eeef4d88d1029ce481", checked := Tryz.checked }
namespace Rows
def none {H : Type} : Left H := { results := [], args := [] }

/-- 'kilnkeep.Counted': WHATEVER THE INPUT: true; the input reads as it did. -/
def countedSpec : ChangeSpec := { name := "counted", fn := fun _ => fun
  | [d] => { results := [.lit (.bool true)], args := [d] }
  | _ => none }
def countedRow : OpenClaim := { program := "ytkgncijcnlfhiaagreat", sum := "d89aa69c27f468b8cb72615d7a8e341900be1537a8aac3eeef4d88d1029ce481", func := "kiln/kilnkeep.Counted", spec := "counted", unfollowed := true, recurses := true, apart := false }
def CountedSaid : Prop := countedRow.holds Tryz.pinned (OpenSpec.ofChange countedSpec)

/-- ITS FALSE NEIGHBOUR: 'it returns false'. Refute it at one input. -/
def countedWrong : ChangeSpec := { name := "counted", fn := fun _ => fun
  | [d] => { results := [.lit (.bool false)], args := [d] }
  | _ => none }
def CountedWrongFalsely : Prop := countedRow.holds Tryz.pinned (OpenSpec.ofChange countedWrong)

/-- 'kilnkeep.Listed': WHATEVER THE INPUT: true; the input reads as it did. -/
def listedSpec : ChangeSpec := { name := "listed", fn := fun _ => fun
  | [d1, d2] => { results := [.lit (.bool true)], args := [d1, d2] }
  | _ => none }
def listedRow : OpenClaim := { program := "ytkgncijcnlfhiaagreat", sum := "d89aa69c27f468b8cb72615d7a8e341900be1537a8aac3eeef4d88d1029ce481", func := "kiln/kilnkeep.Listed", spec := "listed", unfollowed := true, recurses := true, apart := false }
def ListedSaid : Prop := listedRow.holds Tryz.pinned (OpenSpec.ofChange listedSpec)

/-- ITS FALSE NEIGHBOUR: 'it returns false'. Refute it at one input. -/
def listedWrong : ChangeSpec := { name := "listed", fn := fun _ => fun
  | [d1, d2] => { results := [.lit (.bool false)], args := [d1, d2] }
  | _ => none }
def ListedWrongFalsely : Prop := listedRow.holds Tryz.pinned (OpenSpec.ofChange listedWrong)

/-- 'kilnkeep.Swept': WHATEVER THE INPUT: true; the input reads as it did. -/
def sweptSpec : ChangeSpec := { name := "swept", fn := fun _ => fun
  | [d1, d2] => { results := [.lit (.bool true)], args := [d1, d2] }
  | _ => none }
def sweptRow : OpenClaim := { program := "ytkgncijcnlfhiaagreat", sum := "d89aa69c27f468b8cb72615d7a8e341900be1537a8aac3eeef4d88d1029ce481", func := "kiln/kilnkeep.Swept", spec := "swept", unfollowed := true, recurses := true, apart := false }
def SweptSaid : Prop := sweptRow.holds Tryz.pinned (OpenSpec.ofChange sweptSpec)

/-- ITS FALSE NEIGHBOUR: 'it returns false'. Refute it at one input. -/
def sweptWrong : ChangeSpec := { name := "swept", fn := fun _ => fun
  | [d1, d2] => { results := [.lit (.bool false)], args := [d1, d2] }
  | _ => none }
def SweptWrongFalsely : Prop := sweptRow.holds Tryz.pinned (OpenSpec.ofChange sweptWrong)

/-- 'kilnkeep.Deep': WHATEVER THE INPUT: true; the input reads as it did. -/
def deepSpec : ChangeSpec := { name := "deep", fn := fun _ => fun
  | [d] => { results := [.lit (.bool true)], args := [d] }
  | _ => none }
def deepRow : OpenClaim := { program := "ytkgncijcnlfhiaagreat", sum := "d89aa69c27f468b8cb72615d7a8e341900be1537a8aac3eeef4d88d1029ce481", func := "kiln/kilnkeep.Deep", spec := "deep", unfollowed := true, recurses := true, apart := false }
def DeepSaid : Prop := deepRow.holds Tryz.pinned (OpenSpec.ofChange deepSpec)

/-- ITS FALSE NEIGHBOUR: 'it returns false'. Refute it at one input. -/
def deepWrong : ChangeSpec := { name := "deep", fn := fun _ => fun
  | [d] => { results := [.lit (.bool false)], args := [d] }
  | _ => none }
def DeepWrongFalsely : Prop := deepRow.holds Tryz.pinned (OpenSpec.ofChange deepWrong)

/-- 'kilnkeep.Joined': WHATEVER THE INPUT: true; the input reads as it did. -/
def joinedSpec : ChangeSpec := { name := "joined", fn := fun _ => fun
  | [d1, d2, d3] => { results := [.lit (.bool true)], args := [d1, d2, d3] }
  | _ => none }
def joinedRow : OpenClaim := { program := "ytkgncijcnlfhiaagreat", sum := "d89aa69c27f468b8cb72615d7a8e341900be1537a8aac3eeef4d88d1029ce481", func := "kiln/kilnkeep.Joined", spec := "joined", unfollowed := true, recurses := true, apart := false }
def JoinedSaid : Prop := joinedRow.holds Tryz.pinned (OpenSpec.ofChange joinedSpec)

/-- ITS FALSE NEIGHBOUR: 'it returns false'. Refute it at one input. -/
def joinedWrong : ChangeSpec := { name := "joined", fn := fun _ => fun
  | [d1, d2, d3] => { results := [.lit (.bool false)], args := [d1, d2, d3] }
  | _ => none }
def JoinedWrongFalsely : Prop := joinedRow.holds Tryz.pinned (OpenSpec.ofChange joinedWrong)

/- THE SECOND FORM. 'bulk': how many values and letters a reading holds, each counted each time it is reached (what is shared counts as often as it is met; a slice's spare places count too). A statement '..UptoSaid' is the law's where the arguments, and the package variables that the reading takes, are together of bulk at most 1048576: NARROWER than '..Said'. Prove '..Said' where nothing that the law and all that it calls make is longer than what came in: it says more and counts as full. Else prove '..UptoSaid'. A law counts once. -/
mutual
def uptoBulk {H : Type} : DataW H → Nat
  | .lit (.string bytes) => bytes.length + 1
  | .lit _ => 1
  | .nil => 1
  | .ptr d => uptoBulk d + 1
  | .slice elems spare => uptoBulkAll elems + uptoBulkAll spare + 1
  | .agg parts => uptoBulkAll parts + 1
  | .iface _ d => uptoBulk d + 1
  | .map entries => uptoBulkEntries entries + 1
  | .held _ => 1
def uptoBulkAll {H : Type} : List (DataW H) → Nat
  | [] => 0
  | d :: r => uptoBulk d + uptoBulkAll r
def uptoBulkEntries {H : Type} : List (Lit × DataW H) → Nat
  | [] => 0
  | x :: r => uptoBulkEntry x + uptoBulkEntries r
def uptoBulkEntry {H : Type} : Lit × DataW H → Nat
  | (.string bytes, d) => bytes.length + uptoBulk d + 1
  | (_, d) => uptoBulk d + 1
 end
def uptoSmall : (H : Type) → List (DataW H) → Bool := fun _ ds => decide (uptoBulkAll ds ≤ 1048576)
def OpenSpec.upto (s : _root_.Go.ChangeSpec) : _root_.Go.OpenSpec := { _root_.Go.OpenSpec.ofChange s with cond := some uptoSmall }

/-- 'kilnkeep.Counted', WHERE WHAT IT READS IS OF BULK AT MOST 1048576: true; the input reads as it did. -/
def countedUptoRow : OpenClaim := { program := "ytkgncijcnlfhiaagreat", sum := "d89aa69c27f468b8cb72615d7a8e341900be1537a8aac3eeef4d88d1029ce481", func := "kiln/kilnkeep.Counted", spec := "counted", unfollowed := true, recurses := true, apart := false, narrowed := true }
def CountedUptoSaid : Prop := countedUptoRow.holds Tryz.pinned (OpenSpec.upto countedSpec)

/-- 'kilnkeep.Listed', WHERE WHAT IT READS IS OF BULK AT MOST 1048576: true; the input reads as it did. -/
def listedUptoRow : OpenClaim := { program := "ytkgncijcnlfhiaagreat", sum := "d89aa69c27f468b8cb72615d7a8e341900be1537a8aac3eeef4d88d1029ce481", func := "kiln/kilnkeep.Listed", spec := "listed", unfollowed := true, recurses := true, apart := false, narrowed := true }
def ListedUptoSaid : Prop := listedUptoRow.holds Tryz.pinned (OpenSpec.upto listedSpec)

/-- 'kilnkeep.Swept', WHERE WHAT IT READS IS OF BULK AT MOST 1048576: true; the input reads as it did. -/
def sweptUptoRow : OpenClaim := { program := "ytkgncijcnlfhiaagreat", sum := "d89aa69c27f468b8cb72615d7a8e341900be1537a8aac3eeef4d88d1029ce481", func := "kiln/kilnkeep.Swept", spec := "swept", unfollowed := true, recurses := true, apart := false, narrowed := true }
def SweptUptoSaid : Prop := sweptUptoRow.holds Tryz.pinned (OpenSpec.upto sweptSpec)

/-- 'kilnkeep.Deep', WHERE WHAT IT READS IS OF BULK AT MOST 1048576: true; the input reads as it did. -/
def deepUptoRow : OpenClaim := { program := "ytkgncijcnlfhiaagreat", sum := "d89aa69c27f468b8cb72615d7a8e341900be1537a8aac3eeef4d88d1029ce481", func := "kiln/kilnkeep.Deep", spec := "deep", unfollowed := true, recurses := true, apart := false, narrowed := true }
def DeepUptoSaid : Prop := deepUptoRow.holds Tryz.pinned (OpenSpec.upto deepSpec)

/-- 'kilnkeep.Joined', WHERE WHAT IT READS IS OF BULK AT MOST 1048576: true; the input reads as it did. -/
def joinedUptoRow : OpenClaim := { program := "ytkgncijcnlfhiaagreat", sum := "d89aa69c27f468b8cb72615d7a8e341900be1537a8aac3eeef4d88d1029ce481", func := "kiln/kilnkeep.Joined", spec := "joined", unfollowed := true, recurses := true, apart := false, narrowed := true }
def JoinedUptoSaid : Prop := joinedUptoRow.holds Tryz.pinned (OpenSpec.upto joinedSpec)

end Rows
end Go.Proofs.YtkgncijcnlfhiaaGreat
