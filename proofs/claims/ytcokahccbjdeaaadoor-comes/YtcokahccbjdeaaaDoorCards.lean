/-
  DERIVED. GIVEN WITH THE SEED: THE CARDS: each row of YtcokahccbjdeaaaDoorRows.lean that lists a variable, with what it lists TIED to the program's text (the seventh form; the later family's looks); each row that meets fmt, with fmt's text TOLD by the authors' own Lean function (tested against real Go, not proved from fmt's source: count such statements apart). THE CARD IS WHAT COUNTS. Prove the row's statement (the work); the ties are given (YtcokahccbjdeaaaDoorTie.lean); close each card by the builder's one call (the guide's Derived/Test/ToyasCard.lean, 'card_holds'). Laid BY PROGRAM, IN A SANDBOX (cutbox-door.mjs). By AI agents, Wed Nov 11 2026. No macro, syntax, notation, axiom, sorry.
-/
import Derived.Test.YtcokahccbjdeaaaDoorRows
import GoSem.ClaimSeven
namespace Go.Proofs.YtcokahccbjdeaaaDoor
namespace Rows

/-- THE TIED CARD OF 'twinbootlaw.Takes'. -/
def takesCard : Claim7 := { stood := { row := takesRow, standIns := [], harness := (true, "7aa086ccebd60d24d2985f5a05332f8e3dbd2f92fe44a0663a861f46e99aded7"), looks := false }, kinds := [], alts := [], laidByText := true, laidKinds := [.data], laidTests := true, laidLooks := .later }
def TakesCardSaid : Prop := Claim7.holds Tryd.pinned (.plain (OpenSpec.ofChange takesSpec)) takesCard

/-- THE TIED CARD OF 'twinbootlaw.Plays'. -/
def playsCard : Claim7 := { stood := { row := playsRow, standIns := [], harness := (true, "7aa086ccebd60d24d2985f5a05332f8e3dbd2f92fe44a0663a861f46e99aded7"), looks := false }, kinds := [], alts := [], laidByText := true, laidKinds := [.data], laidTests := true, laidLooks := .later }
def PlaysCardSaid : Prop := Claim7.holds Tryd.pinned (.plain (OpenSpec.ofChange playsSpec)) playsCard

/-- THE TIED CARD OF 'twinbootkeep.Comes'. -/
def comesCard : Claim7 := { stood := { row := comesRow, standIns := [], harness := (true, "7aa086ccebd60d24d2985f5a05332f8e3dbd2f92fe44a0663a861f46e99aded7"), looks := false }, kinds := [], alts := [], laidByText := true, laidKinds := [.data], laidTests := true, laidLooks := .later }
def ComesCardSaid : Prop := Claim7.holds Tryd.pinned (.plain (OpenSpec.ofChange comesSpec)) comesCard

/-- THE SECOND FORM's CARD OF 'twinbootlaw.Takes'. -/
def takesUptoCard : Claim7 := { stood := { row := takesUptoRow, standIns := [], harness := (true, "7aa086ccebd60d24d2985f5a05332f8e3dbd2f92fe44a0663a861f46e99aded7"), looks := false }, kinds := [], alts := [], laidByText := true, laidKinds := [.data], laidTests := true, laidLooks := .later }
def TakesUptoCardSaid : Prop := Claim7.holds Tryd.pinned (.plain (OpenSpec.upto takesSpec)) takesUptoCard

/-- THE SECOND FORM's CARD OF 'twinbootlaw.Plays'. -/
def playsUptoCard : Claim7 := { stood := { row := playsUptoRow, standIns := [], harness := (true, "7aa086ccebd60d24d2985f5a05332f8e3dbd2f92fe44a0663a861f46e99aded7"), looks := false }, kinds := [], alts := [], laidByText := true, laidKinds := [.data], laidTests := true, laidLooks := .later }
def PlaysUptoCardSaid : Prop := Claim7.holds Tryd.pinned (.plain (OpenSpec.upto playsSpec)) playsUptoCard

/-- THE SECOND FORM's CARD OF 'twinbootkeep.Comes'. -/
def comesUptoCard : Claim7 := { stood := { row := comesUptoRow, standIns := [], harness := (true, "7aa086ccebd60d24d2985f5a05332f8e3dbd2f92fe44a0663a861f46e99aded7"), looks := false }, kinds := [], alts := [], laidByText := true, laidKinds := [.data], laidTests := true, laidLooks := .later }
def ComesUptoCardSaid : Prop := Claim7.holds Tryd.pinned (.plain (OpenSpec.upto comesSpec)) comesUptoCard
end Rows
end Go.Proofs.YtcokahccbjdeaaaDoor
