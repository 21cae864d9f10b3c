/- Plain laws of bytes: what is read is what would be written. -/
import Derived.Test.YtohnommmmdlnpaaPb
namespace Go.Proofs.Ytohnommmmdlnpaa

theorem take_four (M : List UInt8) (p : Nat) (h : p + 4 ≤ M.length) : M.take (p + 4) = M.take p ++ [M.getD p 0, M.getD (p + 1) 0, M.getD (p + 2) 0, M.getD (p + 3) 0] := by
  have g : ∀ k (hk : k < M.length), M.getD k 0 = M[k] := fun k hk => by simp [List.getD, hk]
  rw [g p (by omega), g (p + 1) (by omega), g (p + 2) (by omega), g (p + 3) (by omega)]
  rw [List.take_succ_eq_append_getElem (by omega), List.take_succ_eq_append_getElem (by omega), List.take_succ_eq_append_getElem (by omega), List.take_succ_eq_append_getElem (by omega)]
  simp only [List.append_assoc, List.cons_append, List.nil_append]
theorem numB_num4 (M : List UInt8) (p : Nat) : numB (num4 M p) = [M.getD p 0, M.getD (p + 1) 0, M.getD (p + 2) 0, M.getD (p + 3) 0] := by
  have h := num4_lt M p
  have hc := clampN_nat (num4 M p) (by omega)
  unfold numB
  rw [hc]
  unfold num4
  generalize M.getD p 0 = a
  generalize M.getD (p + 1) 0 = b
  generalize M.getD (p + 2) 0 = c
  generalize M.getD (p + 3) 0 = d
  have ha := a.toNat_lt
  have hb := b.toNat_lt
  have hc := c.toNat_lt
  have hd := d.toNat_lt
  simp only [List.cons.injEq, and_true, ← UInt8.toNat_inj, UInt8.toNat_ofNat']
  omega
theorem one_num (M : List UInt8) (p : Nat) (e most : Int) (h : (rNum M p e most).2.2 = 0) : e = 0 ∧ M.take p ++ numB (rNum M p e most).1 = M.take (rNum M p e most).2.1 := by
  rcases rNum_cases M p e most with ⟨e', he', hx⟩ | ⟨n, hn1, hn2, hn3, hn4, hn5, hx⟩
  · rw [hx] at h; exact absurd h he'
  · rw [hx]
    refine ⟨hn3, ?_⟩
    simp only
    rw [hn5, numB_num4, take_four M p hn4]
theorem take_add' (M : List UInt8) (p n : Nat) : M.take p ++ (M.drop p).take n = M.take (p + n) := by rw [List.take_add]
theorem one_str (M : List UInt8) (p : Nat) (e most : Int) (h : (rStr M p e most).2.2 = 0) : e = 0 ∧ M.take p ++ strB (toS (rStr M p e most).1) = M.take (rStr M p e most).2.1 := by
  rcases rNum_cases M p e (min most 16384) with ⟨e', he', hx⟩ | ⟨n, hn1, hn2, hn3, hn4, hn5, hx⟩
  · rw [rStr, hx, strOf, if_pos he'] at h
    exact absurd h he'
  · have hx' := hx
    rw [rStr, hx] at h ⊢
    unfold strOf at h ⊢
    simp only [ne_eq, not_true_eq_false, if_false, Int.toNat_natCast] at h ⊢
    by_cases hs : M.length < p + 4 + n
    · rw [if_pos hs] at h; simp at h
    · rw [if_neg hs] at h ⊢
      refine ⟨hn3, ?_⟩
      simp only
      have hl : ((M.drop (p + 4)).take n).length = n := by rw [List.length_take, List.length_drop]; omega
      have hb : strB (toS ((M.drop (p + 4)).take n)) = numB n ++ (M.drop (p + 4)).take n := by
        rw [strB_short _ (by rw [toS_size]; omega), toS_size, hl]
        rfl
      have h1 := one_num M p e (min most 16384) (by rw [hx'])
      rw [hx'] at h1
      rw [hb, ← List.append_assoc, h1.2, take_add']
theorem one_steps (M : List UInt8) (each : Int) (p : Nat) : ∀ j, (steps M each p j).2.2 = 0 → (steps M each p j).1.length = j ∧ M.take p ++ strsB ((steps M each p j).1.map toS) = M.take (steps M each p j).2.1
  | 0, _ => by simp [steps, strsB]
  | j + 1, h => by
    by_cases h0 : (steps M each p j).2.2 = 0
    · have ih := one_steps M each p j h0
      rw [steps, if_neg (by rw [h0]; simp)] at h ⊢
      by_cases h1 : (rStr M (steps M each p j).2.1 0 each).2.2 = 0
      · rw [if_neg (by rw [h1]; simp)] at h ⊢
        refine ⟨by simp [ih.1], ?_⟩
        have h2 := one_str M _ 0 each h1
        simp only
        rw [← h2.2, ← ih.2, List.append_assoc]
        congr 1
        simp [strsB]
      · rw [if_pos h1] at h
        exact absurd h h1
    · rw [steps, if_pos h0] at h
      exact absurd h h0
theorem one_row (M : List UInt8) (p : Nat) (e most each : Int) (h : (rRow M p e most each).2.2 = 0) : e = 0 ∧ M.take p ++ rowB ((rRow M p e most each).1.map toS) = M.take (rRow M p e most each).2.1 := by
  rcases rNum_cases M p e (min most 256) with ⟨e', he', hx⟩ | ⟨n, hn1, hn2, hn3, hn4, hn5, hx⟩
  · rw [rRow, hx, rowOf, if_pos he'] at h
    exact absurd h he'
  · have hx' := hx
    rw [rRow, hx] at h ⊢
    unfold rowOf at h ⊢
    simp only [ne_eq, not_true_eq_false, if_false, Int.toNat_natCast] at h ⊢
    by_cases hs : (steps M each (p + 4) n).2.2 = 0
    · rw [if_neg (by rw [hs]; simp)] at h ⊢
      refine ⟨hn3, ?_⟩
      have h2 := one_steps M each (p + 4) n hs
      have h1 := one_num M p e (min most 256) (by rw [hx'])
      rw [hx'] at h1
      rw [rowB_short _ (by rw [List.length_map, h2.1]; omega), List.length_map, h2.1, ← List.append_assoc, h1.2, h2.2]
    · rw [if_pos hs] at h
      exact absurd h hs
theorem rStr_small (l : List UInt8) (p : Nat) (e most : Int) : (rStr l p e most).1.length ≤ l.length := by
  unfold rStr strOf
  split
  · simp
  · split
    · simp
    · simp only [List.length_take, List.length_drop]; omega
theorem steps_small (l : List UInt8) (each : Int) (p : Nat) : ∀ j, ∀ x ∈ (steps l each p j).1, x.length ≤ l.length
  | 0, x, hx => by simp [steps] at hx
  | j + 1, x, hx => by
    rw [steps] at hx
    split at hx
    · exact steps_small l each p j x hx
    · split at hx
      · simp at hx
      · simp only [List.mem_append, List.mem_singleton] at hx
        rcases hx with hx | rfl
        · exact steps_small l each p j x hx
        · exact rStr_small _ _ _ _
theorem rRow_small (l : List UInt8) (p : Nat) (e most each : Int) : ∀ s ∈ (rRow l p e most each).1.map toS, s.size ≤ l.length := by
  intro s hs
  obtain ⟨x, hx, rfl⟩ := List.mem_map.1 hs
  rw [toS_size]
  unfold rRow rowOf at hx
  split at hx
  · simp at hx
  · split at hx
    · simp at hx
    · exact steps_small _ _ _ _ _ hx

end Go.Proofs.Ytohnommmmdlnpaa
