/-
  DERIVED. GIVEN WITH THE SEED: THE CARDS: each row of YtaidggjnpnfdhaaGreatDoorRows.lean that lists a variable, with what it lists TIED to the program's text (the seventh form; the later family's looks); each row that meets fmt, with fmt's text TOLD by the authors' own Lean function (tested against real Go, not proved from fmt's source: count such statements apart). THE CARD IS WHAT COUNTS. Prove the row's statement (the work); the ties are given (YtaidggjnpnfdhaaGreatDoorTie.lean); close each card by the builder's one call (the guide's Derived/Test/ToyasCard.lean, 'card_holds'). Laid BY PROGRAM, IN A SANDBOX (cutbox-door.mjs). By AI agents, Wed Nov 11 2026. No macro, syntax, notation, axiom, sorry.
-/
import Derived.Test.YtaidggjnpnfdhaaGreatDoorRows
import GoSem.ClaimSeven
namespace Go.Proofs.YtaidggjnpnfdhaaGreatDoor
namespace Rows

/-- THE TIED CARD OF 'carpetbaglaw11.ActDoes'. -/
def actDoesCard : Claim7 := { stood := { row := actDoesRow, standIns := [], harness := (true, "214a2a32a3cb85acf699902e32b4401e933d0bc972dc5e920f660057dad1c33e"), looks := false }, kinds := [], alts := [], laidByText := true, laidKinds := [.data, .pinned], laidTests := true, laidLooks := .later }
def ActDoesCardSaid : Prop := Claim7.holds Tryz.pinned (.plain (OpenSpec.ofChange actDoesSpec)) actDoesCard

/-- THE TIED CARD OF 'carpetbaglaw11.ActPlans'. -/
def actPlansCard : Claim7 := { stood := { row := actPlansRow, standIns := [], harness := (true, "214a2a32a3cb85acf699902e32b4401e933d0bc972dc5e920f660057dad1c33e"), looks := false }, kinds := [], alts := [], laidByText := true, laidKinds := [.data, .pinned], laidTests := true, laidLooks := .later }
def ActPlansCardSaid : Prop := Claim7.holds Tryz.pinned (.plain (OpenSpec.ofChange actPlansSpec)) actPlansCard

/-- THE SECOND FORM's CARD OF 'carpetbaglaw11.ActDoes'. -/
def actDoesUptoCard : Claim7 := { stood := { row := actDoesUptoRow, standIns := [], harness := (true, "214a2a32a3cb85acf699902e32b4401e933d0bc972dc5e920f660057dad1c33e"), looks := false }, kinds := [], alts := [], laidByText := true, laidKinds := [.data, .pinned], laidTests := true, laidLooks := .later }
def ActDoesUptoCardSaid : Prop := Claim7.holds Tryz.pinned (.plain (OpenSpec.upto actDoesSpec)) actDoesUptoCard

/-- THE SECOND FORM's CARD OF 'carpetbaglaw11.ActPlans'. -/
def actPlansUptoCard : Claim7 := { stood := { row := actPlansUptoRow, standIns := [], harness := (true, "214a2a32a3cb85acf699902e32b4401e933d0bc972dc5e920f660057dad1c33e"), looks := false }, kinds := [], alts := [], laidByText := true, laidKinds := [.data, .pinned], laidTests := true, laidLooks := .later }
def ActPlansUptoCardSaid : Prop := Claim7.holds Tryz.pinned (.plain (OpenSpec.upto actPlansSpec)) actPlansUptoCard
end Rows
end Go.Proofs.YtaidggjnpnfdhaaGreatDoor
