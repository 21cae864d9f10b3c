/- A slice of arrays of three numbers, as an argument. -/
import Derived.Test.YtpiinamfibhjdaaArgs
import Derived.Deep.Slices
namespace Go.Proofs.Ytpiinamfibhjdaa
open Go.ChangeShapes Go.WideShapes Go.ChangeAt Go.RowKit Go.Deep

/-- n rows of three numbers. -/
def Rd3 (w : World) (A : Option Addr) (n : Nat) : Prop :=
  ∀ i, i < n → ∃ b off x y z, A = some ⟨b, off, none⟩ ∧ w.cell? ⟨b, off + i * 3, none⟩ = some (.int .i64 x) ∧ w.cell? ⟨b, off + i * 3 + 1, none⟩ = some (.int .i64 y) ∧ w.cell? ⟨b, off + i * 3 + 2, none⟩ = some (.int .i64 z)
theorem Rd3.below {w w' : World} {A : Option Addr} {n : Nat} (h : Rd3 w A n) (hb : Below w.heap.size w w') : Rd3 w' A n := by
  intro i hi
  obtain ⟨b, off, x, y, z, e, h1, h2, h3⟩ := h i hi
  have hlt := World.block_lt_of_cell? w _ h1
  exact ⟨b, off, x, y, z, e, (hb.cell (by exact hlt)).trans h1, (hb.cell (by exact hlt)).trans h2, (hb.cell (by exact hlt)).trans h3⟩

theorem arg__3_int {H : Type} {enc : TypeId × Value → H} {W : World} {base : Nat} {v : Value} {d : DataW H} {p : List MemPlace} (hv : Value.okWide Try.prog W .any base 31 v)
    (h : DataW.Trod enc Try.prog W 0 (fun _ => true) true 31 v d p) (hsz : ∀ elems spare, d = .slice elems spare → (elems.length + spare.length) * Try.prog.bytesOf 38 ≤ reachBytes) :
    ∃ (A : Option Addr) (c n : Nat), v = .slice A n c ∧ Rd3 W A n ∧ n ≤ c ∧ c ≤ 140737488351232 ∧ True := by
  have hby : Try.prog.bytesOf 38 = 24 := by kernel_rfl
  have hct : Try.prog.cellsOf 38 = 3 := by kernel_rfl
  have hce : Try.prog.cellsOf 3 = 1 := by kernel_rfl
  obtain ⟨a, len, cap, rfl⟩ := okWide_slice Try.underlying31 hv
  obtain ⟨fuel, hf⟩ := h
  rcases open_slice Try.underlying31 hf with ⟨hcs, _⟩ | ⟨x, l, c, m, n, D, Pl, hcs, _, hl, hm, hmm, hx, hcell⟩
  · simp [Value.cells] at hcs
    obtain ⟨rfl, rfl, rfl⟩ := hcs
    exact ⟨none, 0, 0, rfl, fun i hi => absurd hi (by omega), Nat.le_refl _, by omega, trivial⟩
  · simp [Value.cells] at hcs
    obtain ⟨rfl, rfl, rfl⟩ := hcs
    have hmm' : m = cap := by simpa using hmm
    have hs := hsz _ _ (congrArg Prod.fst hx)
    simp only [List.length_map, List.length_range] at hs
    rw [hby] at hs
    refine ⟨some x, cap, len, rfl, fun i hi => ?_, hl, by simp only [reachBytes] at hs; omega, trivial⟩
    obtain ⟨cs', hc1, hc2⟩ := hcell i (by omega)
    rw [hct] at hc1
    obtain ⟨xs, mm, -, -, hlen, hxl, hget⟩ := DataW.trod_array Try.underlying38 hc2
    obtain ⟨-, hl3, hg3⟩ := World.cells?_some hc1
    rw [hce] at hget
    have one : ∀ k (hk : k < 3), ∃ z, cs'[k]? = some (.int .i64 z) := by
      intro k hk
      have h1 := hget k hk
      rw [List.getElem?_eq_getElem (by omega)] at h1
      obtain ⟨z, e0, _⟩ := DataW.trod_int Try.underlying3 h1
      refine ⟨z, ?_⟩
      have h2 : ((cs'.drop (k * 1)).take 1)[0]? = some (.int .i64 z) := by rw [e0]; rfl
      rw [List.getElem?_take_of_lt (by omega), List.getElem?_drop] at h2
      simpa using h2
    obtain ⟨z0, h0⟩ := one 0 (by omega)
    obtain ⟨z1, h1⟩ := one 1 (by omega)
    obtain ⟨z2, h2⟩ := one 2 (by omega)
    have g0 := (hg3 0 (by omega)).trans h0
    have g1 := (hg3 1 (by omega)).trans h1
    have g2 := (hg3 2 (by omega)).trans h2
    rw [add_assoc'] at g0 g1 g2
    have hsp : x.spot = none := by
      obtain ⟨cs0, hd1, -⟩ := hcell 0 (by omega)
      rw [hct] at hd1
      obtain ⟨-, hd3, hd4⟩ := World.cells?_some hd1
      have hd5 := hd4 0 (by omega)
      rw [List.getElem?_eq_getElem (by omega), add_assoc'] at hd5
      have := World.cell?_spot hd5
      simpa [Addr.add] using this
    obtain ⟨b, off, s⟩ := x
    simp only at hsp
    subst hsp
    rw [Addr.add_lit] at g0 g1 g2
    exact ⟨b, off, z0, z1, z2, rfl, by simpa using g0, by rw [Nat.add_assoc]; exact g1, by rw [Nat.add_assoc]; exact g2⟩
end Go.Proofs.Ytpiinamfibhjdaa
