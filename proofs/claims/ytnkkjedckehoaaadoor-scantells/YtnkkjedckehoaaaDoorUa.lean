/- The document's answers of layer 4: Same, Size, find. -/
import Derived.Test.YtnkkjedckehoaaaDoorTk
import Derived.Test.YtnkkjedckehoaaaDoorQr
import Derived.Deep.RegionHeld3
namespace Go.Proofs.YtnkkjedckehoaaaDoor
open Go.RowKit

set_option maxHeartbeats 1000000 in
theorem refSame {w : World} {A B : Option Addr} {n c m d : Nat} {fs gs : List Fil} (h : Ft w A n c fs) (k : Ft w B m d gs) :
    Calls Tryd.prog 21 #[.slice A n c, .slice B m d] w fun e w' => e = .returned (.bool (decide (fs = gs))) ∧ Below w.heap.size w w' := by
  have hn := h.big
  have HL := hid h.len
  have HL2 := hid k.len
  have hr := h.rd
  have hr2 := k.rd
  clear h k
  by_cases hnm : n = m
  · subst hnm
    go_enter Tryd.func21, Tryd.ntmps21
    go_wp2
    go_loopw [5] (fun i wr => ∃ j : Nat, j ≤ n ∧ i = .int .i64 j ∧ Hid (fs.take j = gs.take j) ∧ ∃ q, wr = w.drewN q) (fun i _ => n - (intOf i).toNat)
    case atStart => exact ⟨0, by omega, rfl, by simp [Hid], 0, rfl⟩
    case round =>
      obtain ⟨j, hj, rfl, HO, q, rfl⟩ := hrel
      by_cases hjn : j < n
      · have hjl : j < fs.length := by rw [HL.out]; exact hjn
        have hjl2 : j < gs.length := by rw [HL2.out]; exact hjn
        obtain ⟨b, off, rfl, h1, h2, -⟩ := hr.fil hjl
        obtain ⟨b', off', rfl, h3, h4, -⟩ := hr2.fil hjl2
        have HN := hid (@same_no fs gs j hjl hjl2)
        have HT1 := hid (show fs.take (j + 1) = fs.take j ++ [fs[j]] by rw [List.take_add_one, List.getElem?_eq_getElem hjl]; rfl)
        have HT2 := hid (show gs.take (j + 1) = gs.take j ++ [gs[j]] by rw [List.take_add_one, List.getElem?_eq_getElem hjl2]; rfl)
        have hz : (0 : Int) ≤ j := by omega
        have hlt : (j : Int) < n := by omega
        have hneq : ∀ w, (binOp .neq 53 (.agg #[.string fs[j].1, .string fs[j].2]) (.agg #[.string gs[j].1, .string gs[j].2])).run Tryd.prog w = .ok (.bool (!decide (fs[j] = gs[j]))) w := neqF fs[j] gs[j]
        generalize fs[j] = f at *
        generalize gs[j] = g at *
        by_cases hfg : f = g
        · rw [decide_eq_true hfg] at hneq
          have HFG := hid hfg
          clear hfg
          go_wp2_with fail
          go_quiet (fail)
          go_wp2
          go_roundw
          case rel => exact ⟨j + 1, by omega, by go_num, hid (by rw [HT1.out, HT2.out, HO.out, HFG.out]), _, rfl⟩
          case measure => simp [intOf]; omega
        · rw [decide_eq_false hfg] at hneq
          have HFG := hid hfg
          clear hfg
          go_wp2_with fail
          go_quiet (fail)
          go_wp2
          go_ret
          exact ⟨ret_bool (decide_eq_false (HN.out HFG.out)).symm, below_drewN (below_drewN (Below.refl _ _) _) _⟩
      · have HE := hid (show j = n by omega)
        have hnlt : ¬ (j : Int) < n := by omega
        go_wp2
        go_ret
        refine ⟨ret_bool ?_, below_drewN (Below.refl _ _) _⟩
        have ho := HO.out
        have e1 := HE.out
        rw [e1, List.take_of_length_le (by rw [HL.out]; omega), List.take_of_length_le (by rw [HL2.out]; omega)] at ho
        exact (decide_eq_true ho).symm
  · have hnz : ¬ (n : Int) = m := by omega
    go_enter Tryd.func21, Tryd.ntmps21
    go_wp2
    go_ret
    refine ⟨ret_bool ?_, Below.refl _ _⟩
    refine (decide_eq_false ?_).symm
    intro e
    subst e
    exact hnm (by rw [← HL.out, HL2.out])

/-- Where a path stands, in a tree that rises. -/
def posT (fs : List Fil) (p : List UInt8) : Int := if thereT fs p then ((lowT fs p).length : Int) else -1
theorem pos_at {fs : List Fil} {p : List UInt8} (hs : Srt fs) {j : Nat} (hj : j < fs.length) (e : pth fs[j] = p) : posT fs p = j := by
  have ht : thereT fs p = true := there_iff.2 ⟨fs[j], List.getElem_mem hj, e⟩
  obtain ⟨hl, e2⟩ := (there_at hs).1 ht
  rw [posT, if_pos ht]
  have hp := List.pairwise_iff_getElem.1 hs
  generalize (lowT fs p).length = k at *
  rcases Nat.lt_trichotomy k j with h | h | h
  · have h1 := hp k j hl hj h
    rw [e2, e] at h1
    exact absurd h1 (List.lt_irrefl _)
  · rw [h]
  · have h1 := hp j k hj hl h
    rw [e2, e] at h1
    exact absurd h1 (List.lt_irrefl _)

set_option maxHeartbeats 400000 in
theorem refPos {w : World} {A : Option Addr} {n c : Nat} {fs : List Fil} (h : Ft w A n c fs) (hs : Srt fs) (p : ByteArray) :
    Calls Tryd.prog 72 #[.slice A n c, .string p] w fun e w' => e = .returned (.int .i64 (posT fs p.data.toList)) ∧ w = w' := by
  have hn := h.big
  have HL := hid h.len
  have hr := h.rd
  have HS := hid hs
  clear h hs
  go_enter Tryd.func72, Tryd.ntmps72
  go_wp2_with fail
  go_loop [5] (fun i => ∃ j : Nat, j ≤ n ∧ i = .int .i64 j ∧ Hid (∀ k (hk : k < fs.length), k < j → pth fs[k] ≠ p.data.toList)) (fun i => n - (intOf i).toNat)
  case atStart => exact ⟨0, by omega, rfl, hid (fun k _ hk => absurd hk (by omega))⟩
  case round =>
    obtain ⟨j, hj, rfl, HO⟩ := hrel
    by_cases hjn : j < n
    · have hjl : j < fs.length := by rw [HL.out]; exact hjn
      obtain ⟨b, off, rfl, h1, -, -⟩ := hr.fil hjl
      have hz : (0 : Int) ≤ j := by omega
      have hlt : (j : Int) < n := by omega
      by_cases he : fs[j].1 = p
      · have hb := toList_eq he
        have HP := hid (pos_at HS.out hjl (show fs[j].1.data.toList = p.data.toList by rw [he]))
        clear he
        generalize fs[j].1 = x at *
        go_wp2
        go_ret
        exact ⟨ret_int HP.out.symm, rfl⟩
      · have hb := toList_ne he
        have HP := hid (show pth fs[j] ≠ p.data.toList from fun e => he (data_inj e))
        clear he
        have HX := hid (rfl : fs[j].1 = fs[j].1)
        generalize fs[j].1 = x at h1 hb
        go_wp2
        go_round
        case rel =>
          refine ⟨j + 1, by omega, by go_num, hid (fun k hk hkj => ?_)⟩
          by_cases e : k = j
          · subst e; exact HP.out
          · exact HO.out k hk (by omega)
        case measure => simp [intOf]; omega
    · have HE := hid (show j = n by omega)
      have hnlt : ¬ (j : Int) < n := by omega
      go_wp2
      go_ret
      refine ⟨ret_int ?_, rfl⟩
      have ht : thereT fs p.data.toList = false := there_no.2 fun f hf => by
        obtain ⟨k, hk, rfl⟩ := List.mem_iff_getElem.1 hf
        exact HO.out k hk (by have h1 := HE.out; have h2 := HL.out; omega)
      rw [posT, ht]
      rfl
end Go.Proofs.YtnkkjedckehoaaaDoor
