/- A slice of entries as an argument. -/
import Derived.Test.YtnkkjedckehoaaaDoorArgs
import Derived.Test.YtnkkjedckehoaaaDoorArgF
import Derived.Test.YtnkkjedckehoaaaDoorSa
import Derived.Deep.Slices
import Derived.Lib.SmallJoins
namespace Go.Proofs.YtnkkjedckehoaaaDoor
open Go.ChangeShapes Go.WideShapes Go.ChangeAt Go.RowKit Go.Deep

theorem list5 {α : Type} {l : List α} (h : l.length = 5) : ∃ a b c d e, l = [a, b, c, d, e] := by
  match l, h with
  | [a, b, c, d, e], _ => exact ⟨a, b, c, d, e, rfl⟩
theorem list4 {α : Type} {l : List α} (h : l.length = 4) : ∃ a b c d, l = [a, b, c, d] := by
  match l, h with
  | [a, b, c, d], _ => exact ⟨a, b, c, d, rfl⟩
theorem trod_ent {H : Type} {enc : TypeId × Value → H} {W : World} {base : Nat} {sp : Nat → Bool} {hd : Bool} {fuel : Nat} {cs : List Value} {y : DataW H × List MemPlace} (h : DataW.trod enc Tryd.prog W base sp hd fuel 37 cs = some y) : ∃ x : Ent, cs = eV x := by
  have hct : Tryd.prog.cellsOf 37 = 5 := by kernel_rfl
  have hcs : Tryd.prog.cellsOf 9 = 1 := by kernel_rfl
  have hcb : Tryd.prog.cellsOf 4 = 1 := by kernel_rfl
  have hci : Tryd.prog.cellsOf 3 = 1 := by kernel_rfl
  have hcp : Tryd.prog.cellsOf 35 = 2 := by kernel_rfl
  obtain ⟨xs, n, -, -, hl, hlen, hf⟩ := DataW.trod_struct Tryd.underlying37 h
  rw [hct] at hl
  obtain ⟨u0, u1, u2, u3, u4, rfl⟩ := list5 hl
  obtain ⟨y0, y1, y2, y3, rfl⟩ := list4 (hlen.trans rfl)
  have h0 := hf 0 _ rfl
  have h1 := hf 1 _ rfl
  have h2 := hf 2 _ rfl
  have h3 := hf 3 _ rfl
  simp only [List.getElem?_cons_zero, List.getElem?_cons_succ] at h0 h1 h2 h3
  obtain ⟨z0, e0, -⟩ := DataW.trod_string Tryd.underlying9 h0
  obtain ⟨z1, e1, -⟩ := DataW.trod_bool Tryd.underlying4 h1
  obtain ⟨z2, e2, -⟩ := DataW.trod_string Tryd.underlying9 h2
  obtain ⟨x0, x1, m, -, -, g0, g1⟩ := trod_struct2 Tryd.underlying35 h3
  obtain ⟨z3, e3, -⟩ := DataW.trod_int Tryd.underlying3 g0
  obtain ⟨z4, e4, -⟩ := DataW.trod_int Tryd.underlying3 g1
  simp [hci, hcp] at e3 e4
  simp [hcs] at e0 e2
  simp [hcb] at e1
  exact ⟨⟨z0, z1, z2, z3, z4⟩, by rw [e0, e1, e2, e3, e4]; rfl⟩
set_option maxRecDepth 100000 in
theorem arg__api_Entry {H : Type} {enc : TypeId × Value → H} {W : World} {base : Nat} {v : Value} {d : DataW H} {p : List MemPlace} (hv : Value.okWide Tryd.prog W .any base 22 v)
    (h : DataW.Trod enc Tryd.prog W 0 (fun _ => true) true 22 v d p) (_ : ∀ elems spare, d = .slice elems spare → (elems.length + spare.length) * Tryd.prog.bytesOf 37 ≤ reachBytes) :
    ∃ (A : Option Addr) (c : Nat) (ps : List Ent), v = .slice A ps.length c ∧ Rd W A (entV ps) ∧ ps.length ≤ c ∧ c ≤ maxLen ∧ True := by
  have hct : Tryd.prog.cellsOf 37 = 5 := by kernel_rfl
  obtain ⟨a, len, cap, rfl⟩ := okWide_slice Tryd.underlying22 hv
  obtain ⟨fuel, hf⟩ := h
  rcases open_slice Tryd.underlying22 hf with ⟨hcs, _⟩ | ⟨x, l, c, m, n, D, Pl, hcs, _, hl, hm, hmm, hx, hcell⟩
  · simp [Value.cells] at hcs
    obtain ⟨rfl, rfl, rfl⟩ := hcs
    exact ⟨none, 0, [], rfl, .inl rfl, Nat.le_refl _, by unfold maxLen; omega, trivial⟩
  · simp [Value.cells] at hcs
    obtain ⟨rfl, rfl, rfl⟩ := hcs
    have hmm' : m = cap := by simpa using hmm
    have one : ∀ i, ∃ z : Ent, i < len → ∀ k, k < 5 → W.cell? (x.add (i * 5 + k)) = (eV z)[k]? := by
      intro i
      by_cases hi : i < len
      · obtain ⟨cs', hc1, hc2⟩ := hcell i (by omega)
        rw [hct] at hc1
        obtain ⟨-, hl2, hg⟩ := World.cells?_some hc1
        obtain ⟨z, rfl⟩ := trod_ent hc2
        refine ⟨z, fun _ k hk => ?_⟩
        have := hg k (by simpa [eV] using hk)
        rw [add_assoc'] at this
        exact this
      · exact ⟨⟨noS, false, noS, 0, 0⟩, fun h => absurd h hi⟩
    obtain ⟨B, hB⟩ := Classical.axiomOfChoice one
    refine ⟨some x, cap, (List.range len).map B, by simp, ?_, by simpa using hl, hm, trivial⟩
    refine .inr ⟨x, rfl, fun j u hu => ?_⟩
    have hjl := (List.getElem?_eq_some_iff.1 hu).1
    rw [entV_length, List.length_map, List.length_range] at hjl
    have hi' : j / 5 < len := by omega
    have hi2 : j / 5 < ((List.range len).map B).length := by simpa using hi'
    have eB : ((List.range len).map B)[j / 5] = B (j / 5) := by simp
    have e := entV_at _ _ hi2 (j % 5) (by omega)
    rw [eB, show j / 5 * 5 + j % 5 = j by omega, hu] at e
    have := hB (j / 5) hi' (j % 5) (by omega)
    rw [show j / 5 * 5 + j % 5 = j by omega] at this
    rw [this, ← e]
end Go.Proofs.YtnkkjedckehoaaaDoor
