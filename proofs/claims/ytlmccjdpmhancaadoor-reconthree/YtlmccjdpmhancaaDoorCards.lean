/-
  DERIVED. GIVEN WITH THE SEED: THE CARDS: each row of YtlmccjdpmhancaaDoorRows.lean that lists a variable, with what it lists TIED to the program's text (the seventh form; the later family's looks); each row that meets fmt, with fmt's text TOLD by the authors' own Lean function (tested against real Go, not proved from fmt's source: count such statements apart). THE CARD IS WHAT COUNTS. Prove the row's statement (the work); the ties are given (YtlmccjdpmhancaaDoorTie.lean); close each card by the builder's one call (the guide's Derived/Test/ToyasCard.lean, 'card_holds'). Laid BY PROGRAM, IN A SANDBOX (cutbox-door.mjs). By AI agents, Wed Nov 11 2026. No macro, syntax, notation, axiom, sorry.
-/
import Derived.Test.YtlmccjdpmhancaaDoorRows
import GoSem.ClaimSeven
namespace Go.Proofs.YtlmccjdpmhancaaDoor
namespace Rows

/-- THE TIED CARD OF 'carpetbaglaw10.ReconOwn'. -/
def reconOwnCard : Claim7 := { stood := { row := reconOwnRow, standIns := [], harness := (true, "566aa0a81175bd433a765d0ce002befe45762119eade3bf3705d8c3c52f6a929"), looks := false }, kinds := [], alts := [], laidByText := true, laidKinds := [.data, .pinned], laidTests := true, laidLooks := .later }
def ReconOwnCardSaid : Prop := Claim7.holds Tryd.pinned (.plain (OpenSpec.ofChange reconOwnSpec)) reconOwnCard

/-- THE TIED CARD OF 'carpetbaglaw10.ReconThree'. -/
def reconThreeCard : Claim7 := { stood := { row := reconThreeRow, standIns := [], harness := (true, "566aa0a81175bd433a765d0ce002befe45762119eade3bf3705d8c3c52f6a929"), looks := false }, kinds := [], alts := [], laidByText := true, laidKinds := [.data, .pinned], laidTests := true, laidLooks := .later }
def ReconThreeCardSaid : Prop := Claim7.holds Tryd.pinned (.plain (OpenSpec.ofChange reconThreeSpec)) reconThreeCard

/-- THE SECOND FORM's CARD OF 'carpetbaglaw10.ReconOwn'. -/
def reconOwnUptoCard : Claim7 := { stood := { row := reconOwnUptoRow, standIns := [], harness := (true, "566aa0a81175bd433a765d0ce002befe45762119eade3bf3705d8c3c52f6a929"), looks := false }, kinds := [], alts := [], laidByText := true, laidKinds := [.data, .pinned], laidTests := true, laidLooks := .later }
def ReconOwnUptoCardSaid : Prop := Claim7.holds Tryd.pinned (.plain (OpenSpec.upto reconOwnSpec)) reconOwnUptoCard

/-- THE SECOND FORM's CARD OF 'carpetbaglaw10.ReconThree'. -/
def reconThreeUptoCard : Claim7 := { stood := { row := reconThreeUptoRow, standIns := [], harness := (true, "566aa0a81175bd433a765d0ce002befe45762119eade3bf3705d8c3c52f6a929"), looks := false }, kinds := [], alts := [], laidByText := true, laidKinds := [.data, .pinned], laidTests := true, laidLooks := .later }
def ReconThreeUptoCardSaid : Prop := Claim7.holds Tryd.pinned (.plain (OpenSpec.upto reconThreeSpec)) reconThreeUptoCard
end Rows
end Go.Proofs.YtlmccjdpmhancaaDoor
