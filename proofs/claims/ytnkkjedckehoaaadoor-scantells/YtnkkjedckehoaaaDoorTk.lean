/- Few, and the small case. -/
import Derived.Test.YtnkkjedckehoaaaDoorTf
namespace Go.Proofs.YtnkkjedckehoaaaDoor
open Go.RowKit

def fewF (f : Fil) : Bool := decide (f.1.size ≤ 100) && decide (f.2.size ≤ 1000)
def fewB (fs : List Fil) : Bool := decide (fs.length ≤ 40) && fs.all fewF
theorem few_sz {fs : List Fil} (h : fewB fs = true) : fs.length ≤ 40 ∧ ∀ f ∈ fs, f.1.size ≤ 100 ∧ f.2.size ≤ 1000 := by
  simp only [fewB, fewF, Bool.and_eq_true, decide_eq_true_eq, List.all_eq_true] at h
  exact h
theorem few_no {fs : List Fil} {j : Nat} (hj : j < fs.length) (h : fewF fs[j] = false) : false = fewB fs := by
  cases hf : fewB fs with
  | false => rfl
  | true =>
    rw [fewB, Bool.and_eq_true, List.all_eq_true] at hf
    rw [hf.2 _ (List.getElem_mem hj)] at h
    cases h

set_option maxHeartbeats 1000000 in
theorem few_any (A : Option Addr) (n c : Nat) (fs : List Fil) (w : World) (hl : fs.length = n) (hr : Rd w A (filV fs)) :
    Calls Tryd.prog 11 #[.slice A n c] w fun e w' => e = .returned (.bool (fewB fs)) ∧ w = w' := by
  have HL := hid hl
  clear hl
  by_cases h40 : (40 : Int) < n
  · go_enter Tryd.func11, Tryd.ntmps11
    go_wp2
    go_ret
    refine ⟨ret_bool ?_, rfl⟩
    symm
    refine not_true fun h => ?_
    have := (few_sz h).1
    have := HL.out
    omega
  · go_enter Tryd.func11, Tryd.ntmps11
    go_wp2_with fail
    go_loop [3] (fun i => ∃ j : Nat, j ≤ n ∧ i = .int .i64 j ∧ Hid ((fs.take j).all fewF = true)) (fun i => n - (intOf i).toNat)
    case atStart => exact ⟨0, by omega, rfl, by simp [Hid]⟩
    case round =>
      obtain ⟨j, hj, rfl, HO⟩ := hrel
      by_cases hjn : j < n
      · have hjl : j < fs.length := by rw [HL.out]; exact hjn
        obtain ⟨b, off, rfl, h1, h2, -⟩ := hr.fil hjl
        have HN := hid (@few_no fs j hjl)
        have HK := hid (all_take_more fewF fs j hjl)
        have hz : (0 : Int) ≤ j := by omega
        have hlt : (j : Int) < n := by omega
        generalize fs[j] = f at *
        obtain ⟨x, d⟩ := f
        simp only at h1 h2
        by_cases hx : (100 : Int) < x.size
        · go_wp2
          go_ret
          exact ⟨ret_bool (HN.out (by simp [fewF]; omega)), rfl⟩
        · have hxb : decide ((100 : Int) < x.size) = false := by simp; omega
          by_cases hd : (1000 : Int) < d.size
          · go_wp2
            go_ret
            exact ⟨ret_bool (HN.out (by simp [fewF]; omega)), rfl⟩
          · have hdb : decide ((1000 : Int) < d.size) = false := by simp; omega
            go_wp2
            go_round
            case rel => exact ⟨j + 1, by omega, by go_num, hid (by rw [HK.out, HO.out]; simp [fewF]; omega)⟩
            case measure => simp [intOf]; omega
      · have HE := hid (show j = n by omega)
        have hnlt : ¬ (j : Int) < n := by omega
        go_wp2
        go_ret
        refine ⟨ret_bool ?_, rfl⟩
        have ho := HO.out
        rw [HE.out, ← HL.out, List.take_length] at ho
        rw [fewB, ho, decide_eq_true (by rw [HL.out]; omega)]
        rfl
theorem few_ft {w : World} {A : Option Addr} {n c : Nat} {fs : List Fil} (hf : fewB fs = true) (hl : fs.length = n) (hr : Rd w A (filV fs)) (hc : n ≤ c) (hcm : c ≤ maxLen) : Ft w A n c fs := by
  obtain ⟨h1, h2⟩ := few_sz hf
  exact ⟨hl, hr, hc, by omega, hcm, fun f hm => by have := h2 f hm; omega⟩
theorem toList_ne {a b : ByteArray} (h : a ≠ b) : (a.toList == b.toList) = false := by
  rw [beq_eq_false_iff_ne, Lib.toList_data, Lib.toList_data]
  exact fun e => h (data_inj e)
theorem toList_eq {a b : ByteArray} (h : a = b) : (a.toList == b.toList) = true := by rw [h]; simp
end Go.Proofs.YtnkkjedckehoaaaDoor
