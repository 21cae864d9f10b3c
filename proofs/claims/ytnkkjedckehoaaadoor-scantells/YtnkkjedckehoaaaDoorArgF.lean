/- A slice of files as an argument. -/
import Derived.Test.YtnkkjedckehoaaaDoorArgs
import Derived.Test.YtnkkjedckehoaaaDoorTa
import Derived.Deep.Slices
namespace Go.Proofs.YtnkkjedckehoaaaDoor
open Go.ChangeShapes Go.WideShapes Go.ChangeAt Go.RowKit Go.Deep

set_option maxRecDepth 100000 in
theorem arg__api_File {H : Type} {enc : TypeId × Value → H} {W : World} {base : Nat} {v : Value} {d : DataW H} {p : List MemPlace} (hv : Value.okWide Tryd.prog W .any base 23 v)
    (h : DataW.Trod enc Tryd.prog W 0 (fun _ => true) true 23 v d p) (_ : ∀ elems spare, d = .slice elems spare → (elems.length + spare.length) * Tryd.prog.bytesOf 53 ≤ reachBytes) :
    ∃ (A : Option Addr) (c : Nat) (ps : List Fil), v = .slice A ps.length c ∧ Rd W A (filV ps) ∧ ps.length ≤ c ∧ c ≤ maxLen ∧ True := by
  have hct : Tryd.prog.cellsOf 53 = 2 := by kernel_rfl
  have hce : Tryd.prog.cellsOf 9 = 1 := by kernel_rfl
  obtain ⟨a, len, cap, rfl⟩ := okWide_slice Tryd.underlying23 hv
  obtain ⟨fuel, hf⟩ := h
  rcases open_slice Tryd.underlying23 hf with ⟨hcs, _⟩ | ⟨x, l, c, m, n, D, Pl, hcs, _, hl, hm, hmm, hx, hcell⟩
  · simp [Value.cells] at hcs
    obtain ⟨rfl, rfl, rfl⟩ := hcs
    exact ⟨none, 0, [], rfl, .inl rfl, Nat.le_refl _, by unfold maxLen; omega, trivial⟩
  · simp [Value.cells] at hcs
    obtain ⟨rfl, rfl, rfl⟩ := hcs
    have hmm' : m = cap := by simpa using hmm
    have one : ∀ i, ∃ z : Fil, i < len → W.cell? (x.add (i * 2)) = some (.string z.1) ∧ W.cell? (x.add (i * 2 + 1)) = some (.string z.2) := by
      intro i
      by_cases hi : i < len
      · obtain ⟨cs', hc1, hc2⟩ := hcell i (by omega)
        rw [hct] at hc1
        obtain ⟨-, hl2, hg⟩ := World.cells?_some hc1
        obtain ⟨y0, y1, k, -, -, h0, h1⟩ := trod_struct2 Tryd.underlying53 hc2
        obtain ⟨z0, e0, _⟩ := DataW.trod_string Tryd.underlying9 h0
        obtain ⟨z1, e1, _⟩ := DataW.trod_string Tryd.underlying9 h1
        have g0 := hg 0 (by omega)
        have g1 := hg 1 (by omega)
        rw [add_assoc'] at g0 g1
        match cs', hl2 with
        | [u0, u1], _ =>
          simp [hce] at e0 e1
          subst e0 e1
          exact ⟨(z0, z1), fun _ => ⟨by simpa using g0, by simpa using g1⟩⟩
      · exact ⟨(⟨#[]⟩, ⟨#[]⟩), fun h => absurd h hi⟩
    obtain ⟨B, hB⟩ := Classical.axiomOfChoice one
    refine ⟨some x, cap, (List.range len).map B, by simp, ?_, by simpa using hl, hm, trivial⟩
    refine .inr ⟨x, rfl, fun j u hu => ?_⟩
    have hjl := (List.getElem?_eq_some_iff.1 hu).1
    rw [filV_length, List.length_map, List.length_range] at hjl
    have hi' : j / 2 < len := by omega
    obtain ⟨g0, g1⟩ := hB (j / 2) hi'
    have hi2 : j / 2 < ((List.range len).map B).length := by simpa using hi'
    have eB : ((List.range len).map B)[j / 2] = B (j / 2) := by simp
    have a0 := filV_at0 _ _ hi2
    have a1 := filV_at1 _ _ hi2
    rw [eB] at a0 a1
    rcases (show j = j / 2 * 2 ∨ j = j / 2 * 2 + 1 by omega) with e | e
    · rw [e] at hu ⊢
      rw [a0] at hu
      injection hu with hu
      rw [← hu]
      exact g0
    · rw [e] at hu ⊢
      rw [a1] at hu
      injection hu with hu
      rw [← hu]
      exact g1
end Go.Proofs.YtnkkjedckehoaaaDoor
