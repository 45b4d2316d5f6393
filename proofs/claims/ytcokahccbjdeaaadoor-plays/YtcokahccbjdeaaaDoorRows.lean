/-
  NARROWER THAN 'FOR EVERY INPUT', by the rows' own cells (each row's printed sentence says how): Takes: laid · Plays: laid · Comes: laid.
  DERIVED. THE GIVEN ROWS OF THIS SEAT. 3 by the template 'for every input the law returns true; each argument reads behind the call as it read before'; 0 by the template 'total and deterministic' (their statements: YtcokahccbjdeaaaDoorTotals.lean).
  GIVEN WITH THE SEED: the statements are not yours to turn. If you find one false, say at which input.
  Laid BY PROGRAM, IN A SANDBOX (cutbox-rows.mjs): the forced cells as the released guide's own fill.sh prints them over the translation 6443cdedef8c601f… (all of the seat's roots in one cut). By AI agents, Wed Nov 11 2026. No macro, syntax, notation, axiom, sorry.
-/
import Derived.Test.YtcokahccbjdeaaaDoorChecked
import GoSem.Claim
import GoSem.ClaimJoined
import GoSem.ClaimMapViews
import Derived.JoinedTies
import Derived.KernelRfl
namespace Go.Proofs.YtcokahccbjdeaaaDoor
/- THE CELL 'sum', in the pinned program and in every row, IS THE sha256 OF THE DUMP (.gsa) THAT YtcokahccbjdeaaaDoorProg.lean LOADS. Nothing in Lean hashes anything: it is a label: what it is worth is what the hold of that sum in a sandbox is worth. -/
noncomputable def Tryd.pinned : Pinned := { name := "ytcokahccbjdeaaadoor", sum := "6443cdedef8c601f2d9648b46b8984631db589712477a9edf95f218c1471d175", checked := Tryd.checked }
namespace Rows
def none {H : Type} : Left H := { results := [], args := [] }

/- WHAT THE LISTED PACKAGE-LEVEL VARIABLES READ AS WHEN THE CALL BEGINS. Each datum BY PROGRAM (the guide's laid-datum.mjs) off the statement by which the dump's own 'gosem.cut.vars' lays the variable. In a bare row this is a premise. The card (YtcokahccbjdeaaaDoorCards.lean) ties it to the program's text. -/
def laid_twinboot_store_turns {H : Type} : DataW H := .agg [.lit (.int .u8 254), .lit (.int .u8 253), .lit (.int .u8 251)]

/-- 'twinbootlaw.Takes': WHATEVER THE INPUT: true; the input reads as it did. -/
def takesSpec : ChangeSpec := { name := "takes", fn := fun _ => fun
  | [d] => { results := [.lit (.bool true)], args := [d] }
  | _ => none }
def takesRow : OpenClaim := { program := "ytcokahccbjdeaaadoor", sum := "6443cdedef8c601f2d9648b46b8984631db589712477a9edf95f218c1471d175", func := "twinboot/twinbootlaw.Takes", spec := "takes", named := ["twinboot/store.turns"], apart := false, laid := [("twinboot/store.turns", laid_twinboot_store_turns)] }
def TakesSaid : Prop := takesRow.holds Tryd.pinned (OpenSpec.ofChange takesSpec)

/-- ITS FALSE NEIGHBOUR: 'it returns false'. Refute it at one input. -/
def takesWrong : ChangeSpec := { name := "takes", fn := fun _ => fun
  | [d] => { results := [.lit (.bool false)], args := [d] }
  | _ => none }
def TakesWrongFalsely : Prop := takesRow.holds Tryd.pinned (OpenSpec.ofChange takesWrong)

/-- 'twinbootlaw.Plays': WHATEVER THE INPUT: true; the input reads as it did. -/
def playsSpec : ChangeSpec := { name := "plays", fn := fun _ => fun
  | [d] => { results := [.lit (.bool true)], args := [d] }
  | _ => none }
def playsRow : OpenClaim := { program := "ytcokahccbjdeaaadoor", sum := "6443cdedef8c601f2d9648b46b8984631db589712477a9edf95f218c1471d175", func := "twinboot/twinbootlaw.Plays", spec := "plays", named := ["twinboot/store.turns"], apart := false, laid := [("twinboot/store.turns", laid_twinboot_store_turns)] }
def PlaysSaid : Prop := playsRow.holds Tryd.pinned (OpenSpec.ofChange playsSpec)

/-- ITS FALSE NEIGHBOUR: 'it returns false'. Refute it at one input. -/
def playsWrong : ChangeSpec := { name := "plays", fn := fun _ => fun
  | [d] => { results := [.lit (.bool false)], args := [d] }
  | _ => none }
def PlaysWrongFalsely : Prop := playsRow.holds Tryd.pinned (OpenSpec.ofChange playsWrong)

/-- 'twinbootkeep.Comes': WHATEVER THE INPUT: true; the input reads as it did. -/
def comesSpec : ChangeSpec := { name := "comes", fn := fun _ => fun
  | [d] => { results := [.lit (.bool true)], args := [d] }
  | _ => none }
def comesRow : OpenClaim := { program := "ytcokahccbjdeaaadoor", sum := "6443cdedef8c601f2d9648b46b8984631db589712477a9edf95f218c1471d175", func := "twinboot/twinbootkeep.Comes", spec := "comes", named := ["twinboot/store.turns"], apart := false, laid := [("twinboot/store.turns", laid_twinboot_store_turns)] }
def ComesSaid : Prop := comesRow.holds Tryd.pinned (OpenSpec.ofChange comesSpec)

/-- ITS FALSE NEIGHBOUR: 'it returns false'. Refute it at one input. -/
def comesWrong : ChangeSpec := { name := "comes", fn := fun _ => fun
  | [d] => { results := [.lit (.bool false)], args := [d] }
  | _ => none }
def ComesWrongFalsely : Prop := comesRow.holds Tryd.pinned (OpenSpec.ofChange comesWrong)

/- THE SECOND FORM. 'bulk': how many values and letters a reading holds, each counted each time it is reached (what is shared counts as often as it is met; a slice's spare places count too). A statement '..UptoSaid' is the law's where the arguments, and the package variables that the reading takes, are together of bulk at most 1048576: NARROWER than '..Said'. Prove '..Said' where nothing that the law and all that it calls make is longer than what came in: it says more and counts as full. Else prove '..UptoSaid'. A law counts once. -/
mutual
def uptoBulk {H : Type} : DataW H → Nat
  | .lit (.string bytes) => bytes.length + 1
  | .lit _ => 1
  | .nil => 1
  | .ptr d => uptoBulk d + 1
  | .slice elems spare => uptoBulkAll elems + uptoBulkAll spare + 1
  | .agg parts => uptoBulkAll parts + 1
  | .iface _ d => uptoBulk d + 1
  | .map entries => uptoBulkEntries entries + 1
  | .held _ => 1
def uptoBulkAll {H : Type} : List (DataW H) → Nat
  | [] => 0
  | d :: r => uptoBulk d + uptoBulkAll r
def uptoBulkEntries {H : Type} : List (Lit × DataW H) → Nat
  | [] => 0
  | x :: r => uptoBulkEntry x + uptoBulkEntries r
def uptoBulkEntry {H : Type} : Lit × DataW H → Nat
  | (.string bytes, d) => bytes.length + uptoBulk d + 1
  | (_, d) => uptoBulk d + 1
 end
def uptoSmall : (H : Type) → List (DataW H) → Bool := fun _ ds => decide (uptoBulkAll ds ≤ 1048576)
def OpenSpec.upto (s : _root_.Go.ChangeSpec) : _root_.Go.OpenSpec := { _root_.Go.OpenSpec.ofChange s with cond := some uptoSmall }

/-- 'twinbootlaw.Takes', WHERE WHAT IT READS IS OF BULK AT MOST 1048576: true; the input reads as it did. -/
def takesUptoRow : OpenClaim := { program := "ytcokahccbjdeaaadoor", sum := "6443cdedef8c601f2d9648b46b8984631db589712477a9edf95f218c1471d175", func := "twinboot/twinbootlaw.Takes", spec := "takes", named := ["twinboot/store.turns"], apart := false, laid := [("twinboot/store.turns", laid_twinboot_store_turns)], narrowed := true }
def TakesUptoSaid : Prop := takesUptoRow.holds Tryd.pinned (OpenSpec.upto takesSpec)

/-- 'twinbootlaw.Plays', WHERE WHAT IT READS IS OF BULK AT MOST 1048576: true; the input reads as it did. -/
def playsUptoRow : OpenClaim := { program := "ytcokahccbjdeaaadoor", sum := "6443cdedef8c601f2d9648b46b8984631db589712477a9edf95f218c1471d175", func := "twinboot/twinbootlaw.Plays", spec := "plays", named := ["twinboot/store.turns"], apart := false, laid := [("twinboot/store.turns", laid_twinboot_store_turns)], narrowed := true }
def PlaysUptoSaid : Prop := playsUptoRow.holds Tryd.pinned (OpenSpec.upto playsSpec)

/-- 'twinbootkeep.Comes', WHERE WHAT IT READS IS OF BULK AT MOST 1048576: true; the input reads as it did. -/
def comesUptoRow : OpenClaim := { program := "ytcokahccbjdeaaadoor", sum := "6443cdedef8c601f2d9648b46b8984631db589712477a9edf95f218c1471d175", func := "twinboot/twinbootkeep.Comes", spec := "comes", named := ["twinboot/store.turns"], apart := false, laid := [("twinboot/store.turns", laid_twinboot_store_turns)], narrowed := true }
def ComesUptoSaid : Prop := comesUptoRow.holds Tryd.pinned (OpenSpec.upto comesSpec)

end Rows
end Go.Proofs.YtcokahccbjdeaaaDoor
