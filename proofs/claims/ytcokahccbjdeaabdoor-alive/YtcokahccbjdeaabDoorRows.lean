/-
  NARROWER THAN 'FOR EVERY INPUT', by the rows' own cells (each row's printed sentence says how): Alive: laid · Whatever: laid.
  DERIVED. THE GIVEN ROWS OF THIS SEAT. 2 by the template 'for every input the law returns true; each argument reads behind the call as it read before'; 0 by the template 'total and deterministic' (their statements: YtcokahccbjdeaabDoorTotals.lean).
  GIVEN WITH THE SEED: the statements are not yours to turn. If you find one false, say at which input.
  Laid BY PROGRAM, IN A SANDBOX (cutbox-rows.mjs): the forced cells as the released guide's own fill.sh prints them over the translation fc1709eb51d09528… (all of the seat's roots in one cut). By AI agents, Wed Nov 11 2026. No macro, syntax, notation, axiom, sorry.
-/
import Derived.Test.YtcokahccbjdeaabDoorChecked
import GoSem.Claim
import GoSem.ClaimJoined
import GoSem.ClaimMapViews
import Derived.JoinedTies
import Derived.KernelRfl
namespace Go.Proofs.YtcokahccbjdeaabDoor
/- THE CELL 'sum', in the pinned program and in every row, IS THE sha256 OF THE DUMP (.gsa) THAT YtcokahccbjdeaabDoorProg.lean LOADS. Nothing in Lean hashes anything: it is a label: what it is worth is what the hold of that sum in a sandbox is worth. -/
noncomputable def Tryd.pinned : Pinned := { name := "ytcokahccbjdeaabdoor", sum := "fc1709eb51d09528ff767a55515353f280de02e99cde46758f39c6460a1c8bf9", checked := Tryd.checked }
namespace Rows
def none {H : Type} : Left H := { results := [], args := [] }

/- WHAT THE LISTED PACKAGE-LEVEL VARIABLES READ AS WHEN THE CALL BEGINS. Each datum BY PROGRAM (the guide's laid-datum.mjs) off the statement by which the dump's own 'gosem.cut.vars' lays the variable. In a bare row this is a premise. The card (YtcokahccbjdeaabDoorCards.lean) ties it to the program's text. -/
def laid_twinboot_store_turns {H : Type} : DataW H := .agg [.lit (.int .u8 254), .lit (.int .u8 253), .lit (.int .u8 251)]

/-- 'twinbootkeep.Alive': WHATEVER THE INPUT: true; the input reads as it did. -/
def aliveSpec : ChangeSpec := { name := "alive", fn := fun _ => fun
  | [d] => { results := [.lit (.bool true)], args := [d] }
  | _ => none }
def aliveRow : OpenClaim := { program := "ytcokahccbjdeaabdoor", sum := "fc1709eb51d09528ff767a55515353f280de02e99cde46758f39c6460a1c8bf9", func := "twinboot/twinbootkeep.Alive", spec := "alive", named := ["twinboot/store.turns"], apart := false, laid := [("twinboot/store.turns", laid_twinboot_store_turns)] }
def AliveSaid : Prop := aliveRow.holds Tryd.pinned (OpenSpec.ofChange aliveSpec)

/-- ITS FALSE NEIGHBOUR: 'it returns false'. Refute it at one input. -/
def aliveWrong : ChangeSpec := { name := "alive", fn := fun _ => fun
  | [d] => { results := [.lit (.bool false)], args := [d] }
  | _ => none }
def AliveWrongFalsely : Prop := aliveRow.holds Tryd.pinned (OpenSpec.ofChange aliveWrong)

/-- 'twinbootkeep.Whatever': WHATEVER THE INPUT: true; the input reads as it did. -/
def whateverSpec : ChangeSpec := { name := "whatever", fn := fun _ => fun
  | [d1, d2, d3] => { results := [.lit (.bool true)], args := [d1, d2, d3] }
  | _ => none }
def whateverRow : OpenClaim := { program := "ytcokahccbjdeaabdoor", sum := "fc1709eb51d09528ff767a55515353f280de02e99cde46758f39c6460a1c8bf9", func := "twinboot/twinbootkeep.Whatever", spec := "whatever", named := ["twinboot/store.turns"], apart := false, laid := [("twinboot/store.turns", laid_twinboot_store_turns)] }
def WhateverSaid : Prop := whateverRow.holds Tryd.pinned (OpenSpec.ofChange whateverSpec)

/-- ITS FALSE NEIGHBOUR: 'it returns false'. Refute it at one input. -/
def whateverWrong : ChangeSpec := { name := "whatever", fn := fun _ => fun
  | [d1, d2, d3] => { results := [.lit (.bool false)], args := [d1, d2, d3] }
  | _ => none }
def WhateverWrongFalsely : Prop := whateverRow.holds Tryd.pinned (OpenSpec.ofChange whateverWrong)

/- THE SECOND FORM. 'bulk': how many values and letters a reading holds, each counted each time it is reached (what is shared counts as often as it is met; a slice's spare places count too). A statement '..UptoSaid' is the law's where the arguments, and the package variables that the reading takes, are together of bulk at most 1048576: NARROWER than '..Said'. Prove '..Said' where nothing that the law and all that it calls make is longer than what came in: it says more and counts as full. Else prove '..UptoSaid'. A law counts once. -/
mutual
def uptoBulk {H : Type} : DataW H → Nat
  | .lit (.string bytes) => bytes.length + 1
  | .lit _ => 1
  | .nil => 1
  | .ptr d => uptoBulk d + 1
  | .slice elems spare => uptoBulkAll elems + uptoBulkAll spare + 1
  | .agg parts => uptoBulkAll parts + 1
  | .iface _ d => uptoBulk d + 1
  | .map entries => uptoBulkEntries entries + 1
  | .held _ => 1
def uptoBulkAll {H : Type} : List (DataW H) → Nat
  | [] => 0
  | d :: r => uptoBulk d + uptoBulkAll r
def uptoBulkEntries {H : Type} : List (Lit × DataW H) → Nat
  | [] => 0
  | x :: r => uptoBulkEntry x + uptoBulkEntries r
def uptoBulkEntry {H : Type} : Lit × DataW H → Nat
  | (.string bytes, d) => bytes.length + uptoBulk d + 1
  | (_, d) => uptoBulk d + 1
 end
def uptoSmall : (H : Type) → List (DataW H) → Bool := fun _ ds => decide (uptoBulkAll ds ≤ 1048576)
def OpenSpec.upto (s : _root_.Go.ChangeSpec) : _root_.Go.OpenSpec := { _root_.Go.OpenSpec.ofChange s with cond := some uptoSmall }

/-- 'twinbootkeep.Alive', WHERE WHAT IT READS IS OF BULK AT MOST 1048576: true; the input reads as it did. -/
def aliveUptoRow : OpenClaim := { program := "ytcokahccbjdeaabdoor", sum := "fc1709eb51d09528ff767a55515353f280de02e99cde46758f39c6460a1c8bf9", func := "twinboot/twinbootkeep.Alive", spec := "alive", named := ["twinboot/store.turns"], apart := false, laid := [("twinboot/store.turns", laid_twinboot_store_turns)], narrowed := true }
def AliveUptoSaid : Prop := aliveUptoRow.holds Tryd.pinned (OpenSpec.upto aliveSpec)

/-- 'twinbootkeep.Whatever', WHERE WHAT IT READS IS OF BULK AT MOST 1048576: true; the input reads as it did. -/
def whateverUptoRow : OpenClaim := { program := "ytcokahccbjdeaabdoor", sum := "fc1709eb51d09528ff767a55515353f280de02e99cde46758f39c6460a1c8bf9", func := "twinboot/twinbootkeep.Whatever", spec := "whatever", named := ["twinboot/store.turns"], apart := false, laid := [("twinboot/store.turns", laid_twinboot_store_turns)], narrowed := true }
def WhateverUptoSaid : Prop := whateverUptoRow.holds Tryd.pinned (OpenSpec.upto whateverSpec)

end Rows
end Go.Proofs.YtcokahccbjdeaabDoor
