/- A slice of strings as an argument, each of them within the form's reach. -/
import Derived.Test.YtodgcajehadaaaaArgs
namespace Go.Proofs.Ytodgcajehadaaaa
open Go.ChangeShapes Go.WideShapes Go.ChangeAt Go.RowKit
section
variable {H : Type} {enc : TypeId × Value → H} {P : Program} {W : World}
theorem weightsAll_in {e : TypeId} : ∀ {l : List (DataW H)} {d : DataW H}, d ∈ l → ∀ n ∈ d.weights P e, n ∈ DataW.weightsAll P e l
  | x :: r, d, hd, n, hn => by
    simp only [DataW.weightsAll, List.mem_append]
    rcases List.mem_cons.1 hd with rfl | hd
    · exact .inl hn
    · exact .inr (weightsAll_in hd n hn)
theorem sized_str_in {ts : List TypeId} {ds : List (DataW H)} (h : (DataW.weightsEach P ts ds).all (· ≤ reachBytes) = true) {j : Nat} {t e : TypeId} {elems spare : List (DataW H)} {b : List UInt8}
    (ht : ts[j]? = some t) (hd : ds[j]? = some (.slice elems spare)) (hu : P.underlying t = some (.slice e)) (hx : DataW.lit (.string b) ∈ elems) : b.length ≤ reachBytes := by
  refine of_decide_eq_true (List.all_eq_true.1 h _ (DataW.weights_mem_each ht hd _ ?_))
  simp only [DataW.weights, hu, List.mem_cons, List.mem_append]
  exact Or.inr (Or.inl (weightsAll_in hx _ (by simp [DataW.weights])))
theorem arg_strsR {t e : TypeId} {base : Nat} {v : Value} {d : DataW H} {p : List MemPlace} (ht : P.underlying t = some (.slice e)) (he : P.underlying e = some .string) (hc : P.cellsOf e = 1) (hby : P.bytesOf e = 16) (hv : Value.okWide P W .any base t v)
    (h : DataW.Trod enc P W 0 (fun _ => true) true t v d p) (hsz : ∀ elems spare, d = .slice elems spare → (elems.length + spare.length) * P.bytesOf e ≤ reachBytes)
    (hse : ∀ elems spare, d = .slice elems spare → ∀ b, DataW.lit (.string b) ∈ elems → b.length ≤ reachBytes) :
    ∃ (A : Option Addr) (c : Nat) (ls : List ByteArray), v = .slice A ls.length c ∧ Rd W A (strV ls) ∧ ls.length ≤ c ∧ c * 16 ≤ 140737488351232 ∧ ∀ s ∈ ls, s.size ≤ 140737488351232 := by
  obtain ⟨a, len, cap, rfl⟩ := okWide_slice ht hv
  obtain ⟨fuel, hf⟩ := h
  rcases open_strings ht he hc hf with ⟨hcs, _⟩ | ⟨x, l, c, zs, hcs, _, hl, hm, hz, hx, hcell, hwz⟩
  · simp [Value.cells] at hcs
    obtain ⟨rfl, rfl, rfl⟩ := hcs
    exact ⟨none, 0, [], rfl, .inl rfl, Nat.le_refl _, by omega, by simp⟩
  · simp [Value.cells] at hcs
    obtain ⟨rfl, rfl, rfl⟩ := hcs
    have hz' : zs.length = cap := by simpa using hz
    have hsz' := hsz _ _ (congrArg Prod.fst hx)
    have hse' := hse _ _ (congrArg Prod.fst hx)
    simp only [strs, List.length_map, List.length_take, List.length_drop] at hsz'
    rw [show min len zs.length + (zs.length - len) = cap by omega, hby] at hsz'
    refine ⟨some x, cap, zs.take len, by simp; omega, .inr ⟨x, rfl, ?_⟩, by simp; omega, by simpa [reachBytes] using hsz', fun n hn => ?_⟩
    · intro j u hu
      have hj : j < (zs.take len).length := by have := (List.getElem?_eq_some_iff.1 hu).1; simpa [strV] using this
      rw [List.length_take] at hj
      rw [hcell j (by omega)]
      simp [strV, show j < len by omega, show j < zs.length by omega] at hu
      simp [show j < zs.length by omega, hu]
    · have h5 := hse' n.data.toList (by simp only [strs, List.mem_map]; exact ⟨n, hn, rfl⟩)
      have e1 : n.size = n.data.toList.length := by cases n; rfl
      rw [e1]
      exact h5
end
end Go.Proofs.Ytodgcajehadaaaa
