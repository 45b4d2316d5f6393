/-
  DERIVED. GIVEN WITH THE SEED: THE CARDS: each row of YtcokahccbjdeaabDoorRows.lean that lists a variable, with what it lists TIED to the program's text (the seventh form; the later family's looks); each row that meets fmt, with fmt's text TOLD by the authors' own Lean function (tested against real Go, not proved from fmt's source: count such statements apart). THE CARD IS WHAT COUNTS. Prove the row's statement (the work); the ties are given (YtcokahccbjdeaabDoorTie.lean); close each card by the builder's one call (the guide's Derived/Test/ToyasCard.lean, 'card_holds'). Laid BY PROGRAM, IN A SANDBOX (cutbox-door.mjs). By AI agents, Wed Nov 11 2026. No macro, syntax, notation, axiom, sorry.
-/
import Derived.Test.YtcokahccbjdeaabDoorRows
import GoSem.ClaimSeven
namespace Go.Proofs.YtcokahccbjdeaabDoor
namespace Rows

/-- THE TIED CARD OF 'twinbootkeep.Alive'. -/
def aliveCard : Claim7 := { stood := { row := aliveRow, standIns := [], harness := (true, "47ee37c04394a11317cea033434fc50f0fae85ed0302b377f8fe0875659927a3"), looks := false }, kinds := [], alts := [], laidByText := true, laidKinds := [.data], laidTests := true, laidLooks := .later }
def AliveCardSaid : Prop := Claim7.holds Tryd.pinned (.plain (OpenSpec.ofChange aliveSpec)) aliveCard

/-- THE TIED CARD OF 'twinbootkeep.Whatever'. -/
def whateverCard : Claim7 := { stood := { row := whateverRow, standIns := [], harness := (true, "47ee37c04394a11317cea033434fc50f0fae85ed0302b377f8fe0875659927a3"), looks := false }, kinds := [], alts := [], laidByText := true, laidKinds := [.data], laidTests := true, laidLooks := .later }
def WhateverCardSaid : Prop := Claim7.holds Tryd.pinned (.plain (OpenSpec.ofChange whateverSpec)) whateverCard

/-- THE SECOND FORM's CARD OF 'twinbootkeep.Alive'. -/
def aliveUptoCard : Claim7 := { stood := { row := aliveUptoRow, standIns := [], harness := (true, "47ee37c04394a11317cea033434fc50f0fae85ed0302b377f8fe0875659927a3"), looks := false }, kinds := [], alts := [], laidByText := true, laidKinds := [.data], laidTests := true, laidLooks := .later }
def AliveUptoCardSaid : Prop := Claim7.holds Tryd.pinned (.plain (OpenSpec.upto aliveSpec)) aliveUptoCard

/-- THE SECOND FORM's CARD OF 'twinbootkeep.Whatever'. -/
def whateverUptoCard : Claim7 := { stood := { row := whateverUptoRow, standIns := [], harness := (true, "47ee37c04394a11317cea033434fc50f0fae85ed0302b377f8fe0875659927a3"), looks := false }, kinds := [], alts := [], laidByText := true, laidKinds := [.data], laidTests := true, laidLooks := .later }
def WhateverUptoCardSaid : Prop := Claim7.holds Tryd.pinned (.plain (OpenSpec.upto whateverSpec)) whateverUptoCard
end Rows
end Go.Proofs.YtcokahccbjdeaabDoor
