/- Package wire: Row, Fits. -/
import Derived.Test.YtohnommmmdlnpaaWa
import Derived.Deep.DeepCutAuto
namespace Go.Proofs.Ytohnommmmdlnpaa
open Go.RowKit

/-- The bytes of rows of strings, without their number. -/
def strsB (ls : List ByteArray) : List UInt8 := (ls.map strB).flatten
/-- A row's bytes. -/
def rowB (ls : List ByteArray) : List UInt8 := numB (min (ls.length : Int) 256) ++ strsB (ls.take 256)

theorem strsB_snoc (ls : List ByteArray) (k : Nat) (h : k < ls.length) : strsB (ls.take (k + 1)) = strsB (ls.take k) ++ strB ls[k] := by
  unfold strsB
  rw [List.take_succ_eq_append_getElem h, List.map_append, List.flatten_append]
  simp only [List.map_cons, List.map_nil, List.flatten_cons, List.flatten_nil, List.append_nil]
theorem strsB_le (ls : List ByteArray) : (strsB ls).length ≤ ls.length * 16388 := by
  unfold strsB
  induction ls with
  | nil => simp
  | cons a t ih =>
    simp only [List.map_cons, List.flatten_cons, List.length_append, List.length_cons]
    have := strB_length a
    omega

end Go.Proofs.Ytohnommmmdlnpaa
