/- A pair of counts as an argument. -/
import Derived.Test.YtggaaigeaogghaaArgs
import Derived.Lib.SmallJoins
namespace Go.Proofs.Ytggaaigeaogghaa
open Go.ChangeShapes Go.WideShapes Go.ChangeAt Go.RowKit Go.Joins

theorem arg_pair {H : Type} {enc : TypeId × Value → H} {W : World} {base : Nat} {v : Value} {d : DataW H} {p : List MemPlace} (hv : Value.okWide Try.prog W .any base 23 v)
    (h : DataW.Trod enc Try.prog W 0 (fun _ => true) true 23 v d p) : ∃ l r : Int, v = .agg #[.int .i64 l, .int .i64 r] := by
  obtain ⟨c0, c1, y0, y1, m, rfl, rfl, rfl, hy0, hy1⟩ := open_agg2 Try.underlying23 (by kernel_rfl) (by kernel_rfl) hv h
  obtain ⟨l, e0, -⟩ := DataW.trod_int Try.underlying3 hy0
  obtain ⟨r, e1, -⟩ := DataW.trod_int Try.underlying3 hy1
  simp at e0 e1
  subst e0 e1
  exact ⟨l, r, rfl⟩
end Go.Proofs.Ytggaaigeaogghaa
