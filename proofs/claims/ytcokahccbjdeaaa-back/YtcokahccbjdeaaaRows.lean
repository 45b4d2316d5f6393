/-
  No cell of these rows narrows 'for every input' (looked for: loops, veiled, ifaces, maps, wideKeys, modest, calm, conditions, laid).
  DERIVED. THE GIVEN ROWS OF THIS SEAT. 8 by the template 'for every input the law returns true; each argument reads behind the call as it read before'; 0 by the template 'total and deterministic' (their statements: YtcokahccbjdeaaaTotals.lean).
  GIVEN WITH THE SEED: the statements are not yours to turn. If you find one false, say at which input.
  Laid BY PROGRAM, IN A SANDBOX (cutbox-rows.mjs): the forced cells as the released guide's own fill.sh prints them over the translation d75950abdc8679c1… (all of the seat's roots in one cut). By AI agents, Wed Nov 11 2026. No macro, syntax, notation, axiom, sorry.
-/
import Derived.Test.YtcokahccbjdeaaaChecked
import GoSem.Claim
import GoSem.ClaimJoined
import GoSem.ClaimMapViews
import Derived.JoinedTies
import Derived.KernelRfl
namespace Go.Proofs.Ytcokahccbjdeaaa
/- THE CELL 'sum', in the pinned program and in every row, IS THE sha256 OF THE DUMP (.gsa) THAT YtcokahccbjdeaaaProg.lean LOADS. Nothing in Lean hashes anything: it is a label: what it is worth is what the hold of that sum in a sandbox is worth. -/
noncomputable def Try.pinned : Pinned := { name := "ytcokahccbjdeaaa", sum := "d75950abdc8679c18adf504849fa008606a14461e6560215a5c829e46ee19456", checked := Try.checked }
namespace Rows
def none {H : Type} : Left H := { results := [], args := [] }

/-- 'twinbootlaw.Chip': WHATEVER THE INPUT: true; the input reads as it did. -/
def chipSpec : ChangeSpec := { name := "chip", fn := fun _ => fun
  | [] => { results := [.lit (.bool true)], args := [] }
  | _ => none }
def chipRow : OpenClaim := { program := "ytcokahccbjdeaaa", sum := "d75950abdc8679c18adf504849fa008606a14461e6560215a5c829e46ee19456", func := "twinboot/twinbootlaw.Chip", spec := "chip", apart := false }
def ChipSaid : Prop := chipRow.holds Try.pinned (OpenSpec.ofChange chipSpec)

/-- ITS FALSE NEIGHBOUR: 'it returns false'. Refute it at one input. -/
def chipWrong : ChangeSpec := { name := "chip", fn := fun _ => fun
  | [] => { results := [.lit (.bool false)], args := [] }
  | _ => none }
def ChipWrongFalsely : Prop := chipRow.holds Try.pinned (OpenSpec.ofChange chipWrong)

/-- 'twinbootlaw.Packs': WHATEVER THE INPUT: true; the input reads as it did. -/
def packsSpec : ChangeSpec := { name := "packs", fn := fun _ => fun
  | [d1, d2, d3] => { results := [.lit (.bool true)], args := [d1, d2, d3] }
  | _ => none }
def packsRow : OpenClaim := { program := "ytcokahccbjdeaaa", sum := "d75950abdc8679c18adf504849fa008606a14461e6560215a5c829e46ee19456", func := "twinboot/twinbootlaw.Packs", spec := "packs", apart := false }
def PacksSaid : Prop := packsRow.holds Try.pinned (OpenSpec.ofChange packsSpec)

/-- ITS FALSE NEIGHBOUR: 'it returns false'. Refute it at one input. -/
def packsWrong : ChangeSpec := { name := "packs", fn := fun _ => fun
  | [d1, d2, d3] => { results := [.lit (.bool false)], args := [d1, d2, d3] }
  | _ => none }
def PacksWrongFalsely : Prop := packsRow.holds Try.pinned (OpenSpec.ofChange packsWrong)

/-- 'twinbootlaw.Unpacks': WHATEVER THE INPUT: true; the input reads as it did. -/
def unpacksSpec : ChangeSpec := { name := "unpacks", fn := fun _ => fun
  | [d] => { results := [.lit (.bool true)], args := [d] }
  | _ => none }
def unpacksRow : OpenClaim := { program := "ytcokahccbjdeaaa", sum := "d75950abdc8679c18adf504849fa008606a14461e6560215a5c829e46ee19456", func := "twinboot/twinbootlaw.Unpacks", spec := "unpacks", apart := false }
def UnpacksSaid : Prop := unpacksRow.holds Try.pinned (OpenSpec.ofChange unpacksSpec)

/-- ITS FALSE NEIGHBOUR: 'it returns false'. Refute it at one input. -/
def unpacksWrong : ChangeSpec := { name := "unpacks", fn := fun _ => fun
  | [d] => { results := [.lit (.bool false)], args := [d] }
  | _ => none }
def UnpacksWrongFalsely : Prop := unpacksRow.holds Try.pinned (OpenSpec.ofChange unpacksWrong)

/-- 'twinbootlaw.Loads': WHATEVER THE INPUT: true; the input reads as it did. -/
def loadsSpec : ChangeSpec := { name := "loads", fn := fun _ => fun
  | [d] => { results := [.lit (.bool true)], args := [d] }
  | _ => none }
def loadsRow : OpenClaim := { program := "ytcokahccbjdeaaa", sum := "d75950abdc8679c18adf504849fa008606a14461e6560215a5c829e46ee19456", func := "twinboot/twinbootlaw.Loads", spec := "loads", apart := false }
def LoadsSaid : Prop := loadsRow.holds Try.pinned (OpenSpec.ofChange loadsSpec)

/-- ITS FALSE NEIGHBOUR: 'it returns false'. Refute it at one input. -/
def loadsWrong : ChangeSpec := { name := "loads", fn := fun _ => fun
  | [d] => { results := [.lit (.bool false)], args := [d] }
  | _ => none }
def LoadsWrongFalsely : Prop := loadsRow.holds Try.pinned (OpenSpec.ofChange loadsWrong)

/-- 'twinbootkeep.Through': WHATEVER THE INPUT: true; the input reads as it did. -/
def throughSpec : ChangeSpec := { name := "through", fn := fun _ => fun
  | [d1, d2, d3, d4] => { results := [.lit (.bool true)], args := [d1, d2, d3, d4] }
  | _ => none }
def throughRow : OpenClaim := { program := "ytcokahccbjdeaaa", sum := "d75950abdc8679c18adf504849fa008606a14461e6560215a5c829e46ee19456", func := "twinboot/twinbootkeep.Through", spec := "through", apart := false }
def ThroughSaid : Prop := throughRow.holds Try.pinned (OpenSpec.ofChange throughSpec)

/-- ITS FALSE NEIGHBOUR: 'it returns false'. Refute it at one input. -/
def throughWrong : ChangeSpec := { name := "through", fn := fun _ => fun
  | [d1, d2, d3, d4] => { results := [.lit (.bool false)], args := [d1, d2, d3, d4] }
  | _ => none }
def ThroughWrongFalsely : Prop := throughRow.holds Try.pinned (OpenSpec.ofChange throughWrong)

/-- 'twinbootkeep.Same': WHATEVER THE INPUT: true; the input reads as it did. -/
def sameSpec : ChangeSpec := { name := "same", fn := fun _ => fun
  | [d1, d2, d3, d4, d5] => { results := [.lit (.bool true)], args := [d1, d2, d3, d4, d5] }
  | _ => none }
def sameRow : OpenClaim := { program := "ytcokahccbjdeaaa", sum := "d75950abdc8679c18adf504849fa008606a14461e6560215a5c829e46ee19456", func := "twinboot/twinbootkeep.Same", spec := "same", apart := false }
def SameSaid : Prop := sameRow.holds Try.pinned (OpenSpec.ofChange sameSpec)

/-- ITS FALSE NEIGHBOUR: 'it returns false'. Refute it at one input. -/
def sameWrong : ChangeSpec := { name := "same", fn := fun _ => fun
  | [d1, d2, d3, d4, d5] => { results := [.lit (.bool false)], args := [d1, d2, d3, d4, d5] }
  | _ => none }
def SameWrongFalsely : Prop := sameRow.holds Try.pinned (OpenSpec.ofChange sameWrong)

/-- 'twinbootkeep.Turned': WHATEVER THE INPUT: true; the input reads as it did. -/
def turnedSpec : ChangeSpec := { name := "turned", fn := fun _ => fun
  | [d1, d2, d3, d4, d5] => { results := [.lit (.bool true)], args := [d1, d2, d3, d4, d5] }
  | _ => none }
def turnedRow : OpenClaim := { program := "ytcokahccbjdeaaa", sum := "d75950abdc8679c18adf504849fa008606a14461e6560215a5c829e46ee19456", func := "twinboot/twinbootkeep.Turned", spec := "turned", apart := false }
def TurnedSaid : Prop := turnedRow.holds Try.pinned (OpenSpec.ofChange turnedSpec)

/-- ITS FALSE NEIGHBOUR: 'it returns false'. Refute it at one input. -/
def turnedWrong : ChangeSpec := { name := "turned", fn := fun _ => fun
  | [d1, d2, d3, d4, d5] => { results := [.lit (.bool false)], args := [d1, d2, d3, d4, d5] }
  | _ => none }
def TurnedWrongFalsely : Prop := turnedRow.holds Try.pinned (OpenSpec.ofChange turnedWrong)

/-- 'twinbootkeep.Back': WHATEVER THE INPUT: true; the input reads as it did. -/
def backSpec : ChangeSpec := { name := "back", fn := fun _ => fun
  | [d] => { results := [.lit (.bool true)], args := [d] }
  | _ => none }
def backRow : OpenClaim := { program := "ytcokahccbjdeaaa", sum := "d75950abdc8679c18adf504849fa008606a14461e6560215a5c829e46ee19456", func := "twinboot/twinbootkeep.Back", spec := "back", apart := false }
def BackSaid : Prop := backRow.holds Try.pinned (OpenSpec.ofChange backSpec)

/-- ITS FALSE NEIGHBOUR: 'it returns false'. Refute it at one input. -/
def backWrong : ChangeSpec := { name := "back", fn := fun _ => fun
  | [d] => { results := [.lit (.bool false)], args := [d] }
  | _ => none }
def BackWrongFalsely : Prop := backRow.holds Try.pinned (OpenSpec.ofChange backWrong)

/- THE SECOND FORM. 'bulk': how many values and letters a reading holds, each counted each time it is reached (what is shared counts as often as it is met; a slice's spare places count too). A statement '..UptoSaid' is the law's where the arguments, and the package variables that the reading takes, are together of bulk at most 1048576: NARROWER than '..Said'. Prove '..Said' where nothing that the law and all that it calls make is longer than what came in: it says more and counts as full. Else prove '..UptoSaid'. A law counts once. -/
mutual
def uptoBulk {H : Type} : DataW H → Nat
  | .lit (.string bytes) => bytes.length + 1
  | .lit _ => 1
  | .nil => 1
  | .ptr d => uptoBulk d + 1
  | .slice elems spare => uptoBulkAll elems + uptoBulkAll spare + 1
  | .agg parts => uptoBulkAll parts + 1
  | .iface _ d => uptoBulk d + 1
  | .map entries => uptoBulkEntries entries + 1
  | .held _ => 1
def uptoBulkAll {H : Type} : List (DataW H) → Nat
  | [] => 0
  | d :: r => uptoBulk d + uptoBulkAll r
def uptoBulkEntries {H : Type} : List (Lit × DataW H) → Nat
  | [] => 0
  | x :: r => uptoBulkEntry x + uptoBulkEntries r
def uptoBulkEntry {H : Type} : Lit × DataW H → Nat
  | (.string bytes, d) => bytes.length + uptoBulk d + 1
  | (_, d) => uptoBulk d + 1
 end
def uptoSmall : (H : Type) → List (DataW H) → Bool := fun _ ds => decide (uptoBulkAll ds ≤ 1048576)
def OpenSpec.upto (s : _root_.Go.ChangeSpec) : _root_.Go.OpenSpec := { _root_.Go.OpenSpec.ofChange s with cond := some uptoSmall }

/-- 'twinbootlaw.Chip', WHERE WHAT IT READS IS OF BULK AT MOST 1048576: true; the input reads as it did. -/
def chipUptoRow : OpenClaim := { program := "ytcokahccbjdeaaa", sum := "d75950abdc8679c18adf504849fa008606a14461e6560215a5c829e46ee19456", func := "twinboot/twinbootlaw.Chip", spec := "chip", apart := false, narrowed := true }
def ChipUptoSaid : Prop := chipUptoRow.holds Try.pinned (OpenSpec.upto chipSpec)

/-- 'twinbootlaw.Packs', WHERE WHAT IT READS IS OF BULK AT MOST 1048576: true; the input reads as it did. -/
def packsUptoRow : OpenClaim := { program := "ytcokahccbjdeaaa", sum := "d75950abdc8679c18adf504849fa008606a14461e6560215a5c829e46ee19456", func := "twinboot/twinbootlaw.Packs", spec := "packs", apart := false, narrowed := true }
def PacksUptoSaid : Prop := packsUptoRow.holds Try.pinned (OpenSpec.upto packsSpec)

/-- 'twinbootlaw.Unpacks', WHERE WHAT IT READS IS OF BULK AT MOST 1048576: true; the input reads as it did. -/
def unpacksUptoRow : OpenClaim := { program := "ytcokahccbjdeaaa", sum := "d75950abdc8679c18adf504849fa008606a14461e6560215a5c829e46ee19456", func := "twinboot/twinbootlaw.Unpacks", spec := "unpacks", apart := false, narrowed := true }
def UnpacksUptoSaid : Prop := unpacksUptoRow.holds Try.pinned (OpenSpec.upto unpacksSpec)

/-- 'twinbootlaw.Loads', WHERE WHAT IT READS IS OF BULK AT MOST 1048576: true; the input reads as it did. -/
def loadsUptoRow : OpenClaim := { program := "ytcokahccbjdeaaa", sum := "d75950abdc8679c18adf504849fa008606a14461e6560215a5c829e46ee19456", func := "twinboot/twinbootlaw.Loads", spec := "loads", apart := false, narrowed := true }
def LoadsUptoSaid : Prop := loadsUptoRow.holds Try.pinned (OpenSpec.upto loadsSpec)

/-- 'twinbootkeep.Through', WHERE WHAT IT READS IS OF BULK AT MOST 1048576: true; the input reads as it did. -/
def throughUptoRow : OpenClaim := { program := "ytcokahccbjdeaaa", sum := "d75950abdc8679c18adf504849fa008606a14461e6560215a5c829e46ee19456", func := "twinboot/twinbootkeep.Through", spec := "through", apart := false, narrowed := true }
def ThroughUptoSaid : Prop := throughUptoRow.holds Try.pinned (OpenSpec.upto throughSpec)

/-- 'twinbootkeep.Same', WHERE WHAT IT READS IS OF BULK AT MOST 1048576: true; the input reads as it did. -/
def sameUptoRow : OpenClaim := { program := "ytcokahccbjdeaaa", sum := "d75950abdc8679c18adf504849fa008606a14461e6560215a5c829e46ee19456", func := "twinboot/twinbootkeep.Same", spec := "same", apart := false, narrowed := true }
def SameUptoSaid : Prop := sameUptoRow.holds Try.pinned (OpenSpec.upto sameSpec)

/-- 'twinbootkeep.Turned', WHERE WHAT IT READS IS OF BULK AT MOST 1048576: true; the input reads as it did. -/
def turnedUptoRow : OpenClaim := { program := "ytcokahccbjdeaaa", sum := "d75950abdc8679c18adf504849fa008606a14461e6560215a5c829e46ee19456", func := "twinboot/twinbootkeep.Turned", spec := "turned", apart := false, narrowed := true }
def TurnedUptoSaid : Prop := turnedUptoRow.holds Try.pinned (OpenSpec.upto turnedSpec)

/-- 'twinbootkeep.Back', WHERE WHAT IT READS IS OF BULK AT MOST 1048576: true; the input reads as it did. -/
def backUptoRow : OpenClaim := { program := "ytcokahccbjdeaaa", sum := "d75950abdc8679c18adf504849fa008606a14461e6560215a5c829e46ee19456", func := "twinboot/twinbootkeep.Back", spec := "back", apart := false, narrowed := true }
def BackUptoSaid : Prop := backUptoRow.holds Try.pinned (OpenSpec.upto backSpec)

end Rows
end Go.Proofs.Ytcokahccbjdeaaa
