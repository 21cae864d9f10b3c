/- A slice of bools as an argument. -/
import Derived.Test.YtggaaigeaogghaaArgs
import Derived.Deep.Slices
namespace Go.Proofs.Ytggaaigeaogghaa
open Go.ChangeShapes Go.WideShapes Go.ChangeAt Go.RowKit Go.Deep

theorem arg__bool {H : Type} {enc : TypeId × Value → H} {W : World} {base : Nat} {v : Value} {d : DataW H} {p : List MemPlace} (hv : Value.okWide Try.prog W .any base 44 v)
    (h : DataW.Trod enc Try.prog W 0 (fun _ => true) true 44 v d p) (_ : ∀ elems spare, d = .slice elems spare → (elems.length + spare.length) * Try.prog.bytesOf 4 ≤ reachBytes) :
    ∃ (A : Option Addr) (c : Nat) (bs : List Bool), v = .slice A bs.length c ∧ Rd W A (bs.map Value.bool) ∧ bs.length ≤ c ∧ c ≤ maxLen ∧ True := by
  have hct : Try.prog.cellsOf 4 = 1 := by kernel_rfl
  obtain ⟨a, len, cap, rfl⟩ := okWide_slice Try.underlying44 hv
  obtain ⟨fuel, hf⟩ := h
  rcases open_slice Try.underlying44 hf with ⟨hcs, _⟩ | ⟨x, l, c, m, n, D, Pl, hcs, _, hl, hm, hmm, hx, hcell⟩
  · simp [Value.cells] at hcs
    obtain ⟨rfl, rfl, rfl⟩ := hcs
    exact ⟨none, 0, [], rfl, .inl rfl, Nat.le_refl _, by unfold maxLen; omega, trivial⟩
  · simp [Value.cells] at hcs
    obtain ⟨rfl, rfl, rfl⟩ := hcs
    have hmm' : m = cap := by simpa using hmm
    have one : ∀ i, ∃ b, i < len → W.cell? (x.add i) = some (.bool b) := by
      intro i
      by_cases hi : i < len
      · obtain ⟨cs', hc1, hc2⟩ := hcell i (by omega)
        rw [hct] at hc1
        obtain ⟨-, -, hg⟩ := World.cells?_some hc1
        obtain ⟨b, e0, _⟩ := DataW.trod_bool Try.underlying4 hc2
        refine ⟨b, fun _ => ?_⟩
        have g0 := hg 0 (by omega)
        rw [add_assoc', e0] at g0
        simpa using g0
      · exact ⟨false, fun h => absurd h hi⟩
    obtain ⟨B, hB⟩ := Classical.axiomOfChoice one
    refine ⟨some x, cap, (List.range len).map B, by simp, .inr ⟨x, rfl, fun j u hu => ?_⟩, by simpa using hl, hm, trivial⟩
    have hj : j < len := by have := (List.getElem?_eq_some_iff.1 hu).1; simpa using this
    rw [hB j hj]
    simp [hj] at hu
    rw [hu]
end Go.Proofs.Ytggaaigeaogghaa
