/- Calls of a vault as arguments. -/
import Derived.Test.YtdejhpinmkbngaaArgs
import Derived.Test.YtdejhpinmkbngaaCal
import Derived.Deep.Slices
import Derived.Lib.SmallJoins
namespace Go.Proofs.Ytdejhpinmkbngaa
open Go.ChangeShapes Go.WideShapes Go.ChangeAt Go.RowKit Go.Deep

theorem i64_wf {x : Int} (h : (Lit.int .i64 x).wf = true) : I64 x := by
  have e : IntKind.i64.min = -9223372036854775808 := rfl
  simp [Lit.wf, e] at h
  exact h
theorem list5 {α : Type} {l : List α} (h : l.length = 5) : ∃ a b c d e, l = [a, b, c, d, e] := by
  match l, h with
  | [a, b, c, d, e], _ => exact ⟨a, b, c, d, e, rfl⟩
theorem trod_call {H : Type} {enc : TypeId × Value → H} {W : World} {base : Nat} {sp : Nat → Bool} {hd : Bool} {fuel : Nat} {cs : List Value} {y : DataW H × List MemPlace} (h : DataW.trod enc Try.prog W base sp hd fuel 33 cs = some y) : ∃ x : Cal, cs = callV x ∧ CalOk x := by
  have hct : Try.prog.cellsOf 33 = 5 := by kernel_rfl
  have hcs : Try.prog.cellsOf 9 = 1 := by kernel_rfl
  have hci : Try.prog.cellsOf 3 = 1 := by kernel_rfl
  obtain ⟨xs, n, -, -, hl, hlen, hf⟩ := DataW.trod_struct Try.underlying33 h
  rw [hct] at hl
  obtain ⟨u0, u1, u2, u3, u4, rfl⟩ := list5 hl
  obtain ⟨y0, y1, y2, y3, y4, rfl⟩ := list5 (hlen.trans rfl)
  have h0 := hf 0 _ rfl
  have h1 := hf 1 _ rfl
  have h2 := hf 2 _ rfl
  have h3 := hf 3 _ rfl
  have h4 := hf 4 _ rfl
  simp only [List.getElem?_cons_zero, List.getElem?_cons_succ] at h0 h1 h2 h3 h4
  obtain ⟨z0, e0, -, w0⟩ := DataW.trod_int Try.underlying3 h0
  obtain ⟨z1, e1, -, w1⟩ := DataW.trod_int Try.underlying3 h1
  obtain ⟨z2, e2, -, w2⟩ := DataW.trod_int Try.underlying3 h2
  obtain ⟨z3, e3, -, w3⟩ := DataW.trod_string Try.underlying9 h3
  obtain ⟨z4, e4, -, w4⟩ := DataW.trod_string Try.underlying9 h4
  simp [hci] at e0 e1 e2
  simp [hcs] at e3 e4
  exact ⟨⟨z0, z1, z2, z3, z4⟩, by rw [e0, e1, e2, e3, e4]; rfl, i64_wf w0, i64_wf w1, i64_wf w2, w3, w4⟩
theorem arg_call {H : Type} {enc : TypeId × Value → H} {W : World} {base : Nat} {v : Value} {d : DataW H} {p : List MemPlace} (hv : Value.okWide Try.prog W .any base 33 v)
    (h : DataW.Trod enc Try.prog W 0 (fun _ => true) true 33 v d p) : ∃ x : Cal, v = .agg (callV x).toArray ∧ CalOk x := by
  obtain ⟨cs, rfl, hsz⟩ := okWide_struct Try.underlying33 hv
  obtain ⟨fuel, hf⟩ := h
  obtain ⟨x, hx, ho⟩ := trod_call hf
  refine ⟨x, ?_, ho⟩
  have : cs.toList = callV x := by simpa [Value.cells] using hx
  rw [← this]
theorem arg__carpetbaglaw07_Call {H : Type} {enc : TypeId × Value → H} {W : World} {base : Nat} {v : Value} {d : DataW H} {p : List MemPlace} (hv : Value.okWide Try.prog W .any base 22 v)
    (h : DataW.Trod enc Try.prog W 0 (fun _ => true) true 22 v d p) (hsz : ∀ elems spare, d = .slice elems spare → (elems.length + spare.length) * Try.prog.bytesOf 33 ≤ reachBytes) :
    ∃ (A : Option Addr) (c : Nat) (ps : List Cal), v = .slice A ps.length c ∧ Rd W A (calV ps) ∧ ps.length ≤ c ∧ c * 56 ≤ 140737488351232 ∧ ∀ x ∈ ps, CalOk x := by
  have hct : Try.prog.cellsOf 33 = 5 := by kernel_rfl
  have hby : Try.prog.bytesOf 33 = 56 := by kernel_rfl
  obtain ⟨a, len, cap, rfl⟩ := okWide_slice Try.underlying22 hv
  obtain ⟨fuel, hf⟩ := h
  rcases open_slice Try.underlying22 hf with ⟨hcs, _⟩ | ⟨x, l, c, m, n, D, Pl, hcs, _, hl, hm, hmm, hx, hcell⟩
  · simp [Value.cells] at hcs
    obtain ⟨rfl, rfl, rfl⟩ := hcs
    exact ⟨none, 0, [], rfl, .inl rfl, Nat.le_refl _, by omega, by simp⟩
  · simp [Value.cells] at hcs
    obtain ⟨rfl, rfl, rfl⟩ := hcs
    have hmm' : m = cap := by simpa using hmm
    have hsz' := hsz _ _ (congrArg Prod.fst hx)
    simp only [List.length_map, List.length_range, hby, reachBytes] at hsz'
    have one : ∀ i, ∃ z : Cal, i < len → CalOk z ∧ ∀ k, k < 5 → W.cell? (x.add (i * 5 + k)) = (callV z)[k]? := by
      intro i
      by_cases hi : i < len
      · obtain ⟨cs', hc1, hc2⟩ := hcell i (by omega)
        rw [hct] at hc1
        obtain ⟨-, hl2, hg⟩ := World.cells?_some hc1
        obtain ⟨z, rfl, hz⟩ := trod_call hc2
        refine ⟨z, fun _ => ⟨hz, fun k hk => ?_⟩⟩
        have := hg k (by simpa [callV] using hk)
        rw [add_assoc'] at this
        exact this
      · exact ⟨⟨0, 0, 0, ⟨#[]⟩, ⟨#[]⟩⟩, fun h => absurd h hi⟩
    obtain ⟨B, hB⟩ := Classical.axiomOfChoice one
    refine ⟨some x, cap, (List.range len).map B, by simp, ?_, by simpa using hl, by omega, ?_⟩
    · refine .inr ⟨x, rfl, fun j u hu => ?_⟩
      have hjl := (List.getElem?_eq_some_iff.1 hu).1
      rw [calV_length, List.length_map, List.length_range] at hjl
      have hi' : j / 5 < len := by omega
      have hi2 : j / 5 < ((List.range len).map B).length := by simpa using hi'
      have eB : ((List.range len).map B)[j / 5] = B (j / 5) := by simp
      have e := calV_at _ _ hi2 (j % 5) (by omega)
      rw [eB, show j / 5 * 5 + j % 5 = j by omega, hu] at e
      have := (hB (j / 5) hi').2 (j % 5) (by omega)
      rw [show j / 5 * 5 + j % 5 = j by omega] at this
      rw [this, ← e]
    · intro z hz
      obtain ⟨i, hi, rfl⟩ := List.mem_map.1 hz
      exact (hB i (List.mem_range.1 hi)).1
end Go.Proofs.Ytdejhpinmkbngaa
