/- WireStops: the walk. -/
import Derived.Test.YtohnommmmdlnpaaLf
import Derived.Test.YtohnommmmdlnpaaLe
namespace Go.Proofs.Ytohnommmmdlnpaa
open Go.RowKit

/-- A call that leaves the world as it was leaves whatever holds of it. -/
theorem still_call {P : Program} {f : FuncId} {args : Array Value} {W : World} {v : Value} {R : World → Prop} (h : Calls P f args W fun e w' => e = .returned v ∧ w' = W) (hR : R W) : Calls P f args W fun e w' => e = .returned v ∧ R w' :=
  h.mono fun _ _ hx => ⟨hx.1, by rw [hx.2]; exact hR⟩
theorem turn_call {P : Program} {f : FuncId} {args : Array Value} {W : World} {v : Value} (h : Calls P f args W fun e w' => e = .returned v ∧ W = w') : Calls P f args W fun e w' => e = .returned v ∧ w' = W := h.mono fun _ _ hx => ⟨hx.1, hx.2.symm⟩

def StopsInv (w : World) (g : Nat) (B : Option Addr) (d : Nat) (M : List UInt8) (p : Nat) (e : Int) (wr : World) : Prop := RdrAt wr g B d M p e ∧ Below w.heap.size w wr

end Go.Proofs.Ytohnommmmdlnpaa
