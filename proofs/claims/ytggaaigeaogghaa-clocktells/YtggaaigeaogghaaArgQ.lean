/- A slice of pairs as an argument. -/
import Derived.Test.YtggaaigeaogghaaArgs
import Derived.Deep.Slices
namespace Go.Proofs.Ytggaaigeaogghaa
open Go.ChangeShapes Go.WideShapes Go.ChangeAt Go.RowKit Go.Deep

/-- The slice at A holds these pairs. -/
def RdP (w : World) (A : Option Addr) (ps : List (Int × Int)) : Prop :=
  ∀ i, (h : i < ps.length) → ∃ b off, A = some ⟨b, off, none⟩ ∧ w.cell? ⟨b, off + i * 2, none⟩ = some (.int .i64 ps[i].1) ∧ w.cell? ⟨b, off + i * 2 + 1, none⟩ = some (.int .i64 ps[i].2)
theorem RdP.below {w w' : World} {A : Option Addr} {ps : List (Int × Int)} (h : RdP w A ps) (hb : Below w.heap.size w w') : RdP w' A ps := by
  intro i hi
  obtain ⟨b, off, e, h1, h2⟩ := h i hi
  have hlt := World.block_lt_of_cell? w _ h1
  exact ⟨b, off, e, (hb.cell (by exact hlt)).trans h1, (hb.cell (by exact hlt)).trans h2⟩

theorem arg__api_Pair {H : Type} {enc : TypeId × Value → H} {W : World} {base : Nat} {v : Value} {d : DataW H} {p : List MemPlace} (hv : Value.okWide Try.prog W .any base 47 v)
    (h : DataW.Trod enc Try.prog W 0 (fun _ => true) true 47 v d p) (_ : ∀ elems spare, d = .slice elems spare → (elems.length + spare.length) * Try.prog.bytesOf 23 ≤ reachBytes) :
    ∃ (A : Option Addr) (c : Nat) (ps : List (Int × Int)), v = .slice A ps.length c ∧ RdP W A ps ∧ ps.length ≤ c ∧ c ≤ maxLen ∧ True := by
  have hct : Try.prog.cellsOf 23 = 2 := by kernel_rfl
  have hce : Try.prog.cellsOf 3 = 1 := by kernel_rfl
  obtain ⟨a, len, cap, rfl⟩ := okWide_slice Try.underlying47 hv
  obtain ⟨fuel, hf⟩ := h
  rcases open_slice Try.underlying47 hf with ⟨hcs, _⟩ | ⟨x, l, c, m, n, D, Pl, hcs, _, hl, hm, hmm, hx, hcell⟩
  · simp [Value.cells] at hcs
    obtain ⟨rfl, rfl, rfl⟩ := hcs
    exact ⟨none, 0, [], rfl, fun i hi => absurd hi (by simp), Nat.le_refl _, by unfold maxLen; omega, trivial⟩
  · simp [Value.cells] at hcs
    obtain ⟨rfl, rfl, rfl⟩ := hcs
    have hmm' : m = cap := by simpa using hmm
    have one : ∀ i, ∃ z : Int × Int, i < len → W.cell? (x.add (i * 2)) = some (.int .i64 z.1) ∧ W.cell? (x.add (i * 2 + 1)) = some (.int .i64 z.2) := by
      intro i
      by_cases hi : i < len
      · obtain ⟨cs', hc1, hc2⟩ := hcell i (by omega)
        rw [hct] at hc1
        obtain ⟨-, hl2, hg⟩ := World.cells?_some hc1
        obtain ⟨y0, y1, k, -, -, h0, h1⟩ := trod_struct2 Try.underlying23 hc2
        obtain ⟨z0, e0, _⟩ := DataW.trod_int Try.underlying3 h0
        obtain ⟨z1, e1, _⟩ := DataW.trod_int Try.underlying3 h1
        have g0 := hg 0 (by omega)
        have g1 := hg 1 (by omega)
        rw [add_assoc'] at g0 g1
        match cs', hl2 with
        | [u0, u1], _ =>
          simp [hce] at e0 e1
          subst e0 e1
          exact ⟨(z0, z1), fun _ => ⟨by simpa using g0, by simpa using g1⟩⟩
      · exact ⟨(0, 0), fun h => absurd h hi⟩
    obtain ⟨B, hB⟩ := Classical.axiomOfChoice one
    refine ⟨some x, cap, (List.range len).map B, by simp, fun i hi => ?_, by simpa using hl, hm, trivial⟩
    have hi' : i < len := by simpa using hi
    obtain ⟨g0, g1⟩ := hB i hi'
    have hsp : x.spot = none := by
      obtain ⟨d0, -⟩ := hB 0 (by omega)
      have := World.cell?_spot d0
      simpa [Addr.add] using this
    obtain ⟨b, off, s⟩ := x
    simp only at hsp
    subst hsp
    rw [Addr.add_lit] at g0 g1
    refine ⟨b, off, rfl, ?_, ?_⟩
    · simpa using g0
    · simpa [Nat.add_assoc] using g1
end Go.Proofs.Ytggaaigeaogghaa
