/- The document's answers of layer 9: Same, find, files. -/
import Derived.Test.YtnkkjedckehoaaaDoorSk
import Derived.Test.YtnkkjedckehoaaaDoorUc
namespace Go.Proofs.YtnkkjedckehoaaaDoor
open Go.RowKit

set_option maxHeartbeats 1000000 in
theorem rsame_any {w : World} {A B : Option Addr} {n c m d : Nat} {fs gs : List Ent} (hl : fs.length = n) (hr : Rd w A (entV fs)) (hl2 : gs.length = m) (hr2 : Rd w B (entV gs)) (hn : n ≤ 1000000) :
    Calls Tryd.prog 15 #[.slice A n c, .slice B m d] w fun e w' => e = .returned (.bool (decide (fs = gs))) ∧ Below w.heap.size w w' := by
  have HL := hid hl
  have HL2 := hid hl2
  clear hl hl2
  by_cases hnm : n = m
  · subst hnm
    go_enter Tryd.func15, Tryd.ntmps15
    go_wp2
    go_loopw [5] (fun i wr => ∃ j : Nat, j ≤ n ∧ i = .int .i64 j ∧ Hid (fs.take j = gs.take j) ∧ ∃ q, wr = w.drewN q) (fun i _ => n - (intOf i).toNat)
    case atStart => exact ⟨0, by omega, rfl, by simp [Hid], 0, rfl⟩
    case round =>
      obtain ⟨j, hj, rfl, HO, q, rfl⟩ := hrel
      by_cases hjn : j < n
      · have hjl : j < fs.length := by rw [HL.out]; exact hjn
        have hjl2 : j < gs.length := by rw [HL2.out]; exact hjn
        obtain ⟨b, off, rfl, h1, h2, h3, h4, h5, -⟩ := hr.ent hjl
        obtain ⟨b', off', rfl, g1, g2, g3, g4, g5, -⟩ := hr2.ent hjl2
        have HN := hid (@same_noE fs gs j hjl hjl2)
        have HT1 := hid (show fs.take (j + 1) = fs.take j ++ [fs[j]] by rw [List.take_add_one, List.getElem?_eq_getElem hjl]; rfl)
        have HT2 := hid (show gs.take (j + 1) = gs.take j ++ [gs[j]] by rw [List.take_add_one, List.getElem?_eq_getElem hjl2]; rfl)
        have hz : (0 : Int) ≤ j := by omega
        have hlt : (j : Int) < n := by omega
        have hneq := neqE fs[j] gs[j]
        generalize fs[j] = f at *
        generalize gs[j] = g at *
        by_cases hfg : f = g
        · rw [decide_eq_true hfg] at hneq
          have HFG := hid hfg
          clear hfg
          go_wp2_with fail
          go_quiet (fail)
          go_wp2
          go_roundw
          case rel => exact ⟨j + 1, by omega, by go_num, hid (by rw [HT1.out, HT2.out, HO.out, HFG.out]), _, rfl⟩
          case measure => simp [intOf]; omega
        · rw [decide_eq_false hfg] at hneq
          have HFG := hid hfg
          clear hfg
          go_wp2_with fail
          go_quiet (fail)
          go_wp2
          go_ret
          exact ⟨ret_bool (decide_eq_false (HN.out HFG.out)).symm, below_drewN (below_drewN (Below.refl _ _) _) _⟩
      · have HE := hid (show j = n by omega)
        have hnlt : ¬ (j : Int) < n := by omega
        go_wp2
        go_ret
        refine ⟨ret_bool ?_, below_drewN (Below.refl _ _) _⟩
        have ho := HO.out
        have e1 := HE.out
        rw [e1, List.take_of_length_le (by rw [HL.out]; omega), List.take_of_length_le (by rw [HL2.out]; omega)] at ho
        exact (decide_eq_true ho).symm
  · have hnz : ¬ (n : Int) = m := by omega
    go_enter Tryd.func15, Tryd.ntmps15
    go_wp2
    go_ret
    refine ⟨ret_bool ?_, Below.refl _ _⟩
    refine (decide_eq_false ?_).symm
    intro e
    subst e
    exact hnm (by rw [← HL.out, HL2.out])

set_option maxHeartbeats 1000000 in
theorem rpos_any (A : Option Addr) (n c : Nat) (es : List Ent) (p : ByteArray) (w : World) (hl : es.length = n) (hr : Rd w A (entV es)) (hn : n ≤ 1000000) :
    Calls Tryd.prog 39 #[.slice A n c, .string p] w fun x w' => x = .returned (.int .i64 (idxE es p)) ∧ w = w' := by
  have HL := hid hl
  clear hl
  go_enter Tryd.func39, Tryd.ntmps39
  go_wp2_with fail
  go_loop [5] (fun i => ∃ j : Nat, j ≤ n ∧ i = .int .i64 j ∧ Hid (∀ k (hk : k < es.length), k < j → es[k].path ≠ p)) (fun i => n - (intOf i).toNat)
  case atStart => exact ⟨0, by omega, rfl, hid (fun k _ hk => absurd hk (by omega))⟩
  case round =>
    obtain ⟨j, hj, rfl, HO⟩ := hrel
    by_cases hjn : j < n
    · have hjl : j < es.length := by rw [HL.out]; exact hjn
      obtain ⟨b, off, rfl, h1, -⟩ := hr.ent hjl
      have HY := hid (fun h => @idxE_at es p j hjl h HO.out)
      have HN : Hid (es[j].path ≠ p → ∀ k (hk : k < es.length), k < j + 1 → es[k].path ≠ p) := fun h k hk hkj => by
        by_cases e : k = j
        · subst e; exact h
        · exact HO.out k hk (by omega)
      have hsq := str_eqb es[j].path p
      generalize es[j] = f at *
      have hz : (0 : Int) ≤ j := by omega
      have hlt : (j : Int) < n := by omega
      by_cases hq : f.path = p
      · rw [decide_eq_true hq] at hsq
        have HQ := hid hq
        clear hq
        go_wp2
        go_ret
        exact ⟨ret_int (HY.out HQ.out).symm, rfl⟩
      · rw [decide_eq_false hq] at hsq
        have HQ := hid hq
        clear hq
        go_wp2
        go_round
        case rel => exact ⟨j + 1, by omega, by go_num, hid (HN.out HQ.out)⟩
        case measure => simp [intOf]; omega
    · have HE := hid (show j = n by omega)
      have hnlt : ¬ (j : Int) < n := by omega
      go_wp2
      go_ret
      refine ⟨ret_int ?_, rfl⟩
      symm
      refine idxE_no fun e he => ?_
      obtain ⟨k, hk, rfl⟩ := List.mem_iff_getElem.1 he
      exact HO.out k hk (by rw [HE.out, ← HL.out]; exact hk)
end Go.Proofs.YtnkkjedckehoaaaDoor
