/- PadRises: the walk. -/
import Derived.Test.YtohnommmmdlnpaaKd
namespace Go.Proofs.Ytohnommmmdlnpaa
open Go.RowKit

theorem bucketI_cases (n : Int) : (n < 0 ∧ bucketI n = -1) ∨ (0 ≤ n ∧ n ≤ 76 ∧ bucketI n = 0) ∨ (76 < n ∧ n ≤ 316 ∧ bucketI n = 1) ∨ (316 < n ∧ n ≤ 1276 ∧ bucketI n = 2) ∨ (1276 < n ∧ n ≤ 5116 ∧ bucketI n = 3) ∨ (5116 < n ∧ bucketI n = -1) := by
  unfold bucketI
  (repeat' split) <;> omega

set_option maxHeartbeats 4000000 in
set_option maxRecDepth 20000 in
theorem padRises_walk (n m : Int) (w : World) (_ : (Lit.int .i64 n).wf = true) (_ : (Lit.int .i64 m).wf = true) :
    Calls Try.prog 6 #[.int .i64 n, .int .i64 m] w fun e w' => e = .returned (.bool true) ∧ Below w.heap.size w w' := by

  have HA := hid (bucketI_cases n)
  have HM := hid (bucketI_cases m)
  go_enter Try.func6, Try.ntmps6
  go_wp2_with fail
  refine (small_any _).mono ?_
  rintro e w1 ⟨rfl, b1⟩
  go_wp2_with fail
  refine (bucket_any _ _).mono ?_
  rintro e w2 ⟨rfl, b2⟩
  replace b2 := below2 b1 b2
  clear b1
  go_wp2_with fail
  refine (bucket_any _ _).mono ?_
  rintro e w3 ⟨rfl, b3⟩
  replace b3 := below2 b2 b3
  clear b2
  generalize bucketI n = a at *
  generalize bucketI m = b at *
  by_cases h0 : n < 0
  · obtain rfl : a = -1 := by have := HA.out; omega
    clear HA HM
    go_wp2
    go_ret
    exact ⟨rfl, b3⟩
  by_cases h1 : m < n
  · clear HA HM
    go_wp2
    go_ret
    exact ⟨rfl, b3⟩
  have HB := hid (show b = -1 ∨ (0 ≤ a ∧ a ≤ b ∧ 0 ≤ b) by have := HA.out; have := HM.out; omega)
  clear HM
  have HC := hid (show (a = -1 ∧ 5116 < n) ∨ (a = 0 ∧ n ≤ 76) ∨ (a = 1 ∧ 76 < n ∧ n ≤ 316) ∨ (a = 2 ∧ 316 < n ∧ n ≤ 1276) ∨ (a = 3 ∧ 1276 < n ∧ n ≤ 5116) by have := HA.out; omega)
  clear HA
  rcases HC.out with ⟨rfl, h2⟩ | ⟨rfl, h2⟩ | ⟨rfl, h2, h3⟩ | ⟨rfl, h2, h3⟩ | ⟨rfl, h2, h3⟩
  · clear HC
    rcases HB.out with rfl | ⟨h4, h5, h6⟩
    · clear HB
      go_wp2
      go_ret
      exact ⟨rfl, b3⟩
    · clear HB
      omega
  · clear HC
    rcases HB.out with rfl | ⟨h4, h5, h6⟩
    · clear HB
      go_wp2_with fail
      refine (size_any _ _).mono ?_
      rintro e w4 ⟨rfl, b4⟩
      replace b4 := below2 b3 b4
      clear b3
      rw [show sizeI 0 = 80 from rfl]
      go_wp2
      go_ret
      exact ⟨ret_bool (show (!decide ((5116 : Int) < n)) = true by simp; omega), b4⟩
    · clear HB
      have h7 : (b == -1) = false := by rw [beq_eq_false_iff_ne]; omega
      have h8 : decide (0 ≤ b) = true := decide_eq_true h5
      go_wp2_with fail
      refine (size_any _ _).mono ?_
      rintro e w4 ⟨rfl, b4⟩
      replace b4 := below2 b3 b4
      clear b3
      rw [show sizeI 0 = 80 from rfl]
      go_wp2
      go_ret
      exact ⟨ret_bool (show (!decide ((5116 : Int) < n)) = true by simp; omega), b4⟩
  · clear HC
    rcases HB.out with rfl | ⟨h4, h5, h6⟩
    · clear HB
      go_wp2_with fail
      refine (size_any _ _).mono ?_
      rintro e w4 ⟨rfl, b4⟩
      replace b4 := below2 b3 b4
      clear b3
      rw [show sizeI 1 = 320 from rfl]
      go_wp2_with fail
      refine (size_any _ _).mono ?_
      rintro e w5 ⟨rfl, b5⟩
      replace b5 := below2 b4 b5
      clear b4
      rw [show sizeI 0 = 80 from rfl]
      go_wp2
      go_ret
      exact ⟨ret_bool (show (!decide ((5116 : Int) < n)) = true by simp; omega), b5⟩
    · clear HB
      have h7 : (b == -1) = false := by rw [beq_eq_false_iff_ne]; omega
      have h8 : decide (1 ≤ b) = true := decide_eq_true h5
      go_wp2_with fail
      refine (size_any _ _).mono ?_
      rintro e w4 ⟨rfl, b4⟩
      replace b4 := below2 b3 b4
      clear b3
      rw [show sizeI 1 = 320 from rfl]
      go_wp2_with fail
      refine (size_any _ _).mono ?_
      rintro e w5 ⟨rfl, b5⟩
      replace b5 := below2 b4 b5
      clear b4
      rw [show sizeI 0 = 80 from rfl]
      go_wp2
      go_ret
      exact ⟨ret_bool (show (!decide ((5116 : Int) < n)) = true by simp; omega), b5⟩
  · clear HC
    rcases HB.out with rfl | ⟨h4, h5, h6⟩
    · clear HB
      go_wp2_with fail
      refine (size_any _ _).mono ?_
      rintro e w4 ⟨rfl, b4⟩
      replace b4 := below2 b3 b4
      clear b3
      rw [show sizeI 2 = 1280 from rfl]
      go_wp2_with fail
      refine (size_any _ _).mono ?_
      rintro e w5 ⟨rfl, b5⟩
      replace b5 := below2 b4 b5
      clear b4
      rw [show sizeI 1 = 320 from rfl]
      go_wp2
      go_ret
      exact ⟨ret_bool (show (!decide ((5116 : Int) < n)) = true by simp; omega), b5⟩
    · clear HB
      have h7 : (b == -1) = false := by rw [beq_eq_false_iff_ne]; omega
      have h8 : decide (2 ≤ b) = true := decide_eq_true h5
      go_wp2_with fail
      refine (size_any _ _).mono ?_
      rintro e w4 ⟨rfl, b4⟩
      replace b4 := below2 b3 b4
      clear b3
      rw [show sizeI 2 = 1280 from rfl]
      go_wp2_with fail
      refine (size_any _ _).mono ?_
      rintro e w5 ⟨rfl, b5⟩
      replace b5 := below2 b4 b5
      clear b4
      rw [show sizeI 1 = 320 from rfl]
      go_wp2
      go_ret
      exact ⟨ret_bool (show (!decide ((5116 : Int) < n)) = true by simp; omega), b5⟩
  · clear HC
    rcases HB.out with rfl | ⟨h4, h5, h6⟩
    · clear HB
      go_wp2_with fail
      refine (size_any _ _).mono ?_
      rintro e w4 ⟨rfl, b4⟩
      replace b4 := below2 b3 b4
      clear b3
      rw [show sizeI 3 = 5120 from rfl]
      go_wp2_with fail
      refine (size_any _ _).mono ?_
      rintro e w5 ⟨rfl, b5⟩
      replace b5 := below2 b4 b5
      clear b4
      rw [show sizeI 2 = 1280 from rfl]
      go_wp2
      go_ret
      exact ⟨ret_bool (show (!decide ((5116 : Int) < n)) = true by simp; omega), b5⟩
    · clear HB
      have h7 : (b == -1) = false := by rw [beq_eq_false_iff_ne]; omega
      have h8 : decide (3 ≤ b) = true := decide_eq_true h5
      go_wp2_with fail
      refine (size_any _ _).mono ?_
      rintro e w4 ⟨rfl, b4⟩
      replace b4 := below2 b3 b4
      clear b3
      rw [show sizeI 3 = 5120 from rfl]
      go_wp2_with fail
      refine (size_any _ _).mono ?_
      rintro e w5 ⟨rfl, b5⟩
      replace b5 := below2 b4 b5
      clear b4
      rw [show sizeI 2 = 1280 from rfl]
      go_wp2
      go_ret
      exact ⟨ret_bool (show (!decide ((5116 : Int) < n)) = true by simp; omega), b5⟩
end Go.Proofs.Ytohnommmmdlnpaa
