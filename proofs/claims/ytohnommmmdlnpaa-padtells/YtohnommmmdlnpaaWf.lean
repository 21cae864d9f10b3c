/- Small callees: Fits, Rows, few. -/
import Derived.Test.YtohnommmmdlnpaaWe
import Derived.Test.YtohnommmmdlnpaaRs
namespace Go.Proofs.Ytohnommmmdlnpaa
open Go.RowKit

def fitsB (n : Nat) (most : Int) : Bool := decide ((n : Int) ≤ min most 16384)
theorem fitsB_yes {n : Nat} {most : Int} (h : (n : Int) ≤ min most 16384) : true = fitsB n most := (decide_eq_true h).symm
theorem fitsB_no {n : Nat} {most : Int} (h : ¬ (n : Int) ≤ min most 16384) : false = fitsB n most := (decide_eq_false h).symm

def SomeBool (w : World) (e : Ending) (w' : World) : Prop := ∃ bo, e = .returned (.bool bo) ∧ w = w'

end Go.Proofs.Ytohnommmmdlnpaa
