/- Whole numbers, and quotients of whole numbers, as float64: plain lemmas on the words of a double. -/
import Derived.Laws.FloatArith
import Derived.Laws.Cover3
namespace Go.Proofs.YtnkkjedckehoaaaDoor
open Ieee

/-- d is the whole number n. -/
def Whole (d : Datum) (n : Nat) : Prop := ∃ k : Nat, d = .number false (n * 2 ^ k) (-(k : Int))
/-- d, rounded towards 0, and made no less than 0, is n. -/
def FloorIs (d : Datum) (n : Nat) : Prop := (∃ m k : Nat, d = .number false m (-(k : Int)) ∧ n * 2 ^ k ≤ m ∧ m < (n + 1) * 2 ^ k) ∨ (n = 0 ∧ ∃ m e, d = .number true m e)

theorem Whole.floor {d : Datum} {n : Nat} (h : Whole d n) : FloorIs d n := by
  obtain ⟨k, rfl⟩ := h
  exact .inl ⟨_, k, rfl, Nat.le_refl _, Nat.mul_lt_mul_of_pos_right (Nat.lt_succ_self n) (Nat.two_pow_pos k)⟩

theorem order_nat (m k n j : Nat) : (Datum.number false m (-(k : Int))).order (.number false n (-(j : Int))) = some (if m * 2 ^ j < n * 2 ^ k then .lt else if m * 2 ^ j = n * 2 ^ k then .eq else .gt) := by
  have hk : (-(k : Int) - min (-(k : Int)) (-(j : Int))).toNat = j - k := by omega
  have hj : (-(j : Int) - min (-(k : Int)) (-(j : Int))).toNat = k - j := by omega
  have e : ∀ a b : Nat, compare (a : Int) (b : Int) = if a < b then Ordering.lt else if a = b then .eq else .gt := by
    intro a b
    simp only [compare, compareOfLessAndEq, Int.ofNat_lt, Int.ofNat_inj]
  simp only [Datum.order, hk, hj, signed, Nat.shiftLeft_eq, Bool.false_eq_true, if_false, e]
  rcases Nat.le_total k j with h | h
  · obtain ⟨d, rfl⟩ := Nat.exists_eq_add_of_le h
    have p := Nat.two_pow_pos k
    have e1 : m * 2 ^ (k + d) = m * 2 ^ d * 2 ^ k := by rw [Nat.pow_add, Nat.mul_assoc, Nat.mul_comm (2 ^ k)]
    rw [e1, show k + d - k = d by omega, show k - (k + d) = 0 by omega, Nat.pow_zero, Nat.mul_one]
    simp only [Nat.mul_lt_mul_right p, Nat.mul_right_cancel_iff p]
  · obtain ⟨d, rfl⟩ := Nat.exists_eq_add_of_le h
    have p := Nat.two_pow_pos j
    have e1 : n * 2 ^ (j + d) = n * 2 ^ d * 2 ^ j := by rw [Nat.pow_add, Nat.mul_assoc, Nat.mul_comm (2 ^ j)]
    rw [e1, show j + d - j = d by omega, show j - (j + d) = 0 by omega, Nat.pow_zero, Nat.mul_one]
    simp only [Nat.mul_lt_mul_right p, Nat.mul_right_cancel_iff p]

theorem read_zero : double.read 0 = .number false 0 (-(1074 : Nat)) := by decide +kernel
theorem read_max : double.read 4742290407621132288 = .number false (1073741824 * 2 ^ 22) (-(22 : Nat)) := by decide +kernel

/-- Not above 0. -/
theorem not_gt {x : Nat} {m : Nat} {e : Int} (h : double.read x = .number true m e) : (double.order x 0 == some .gt) = false := by
  rw [Format.order, h, read_zero]
  simp only [Datum.order, signed]
  have : ∀ a b : Nat, (compare (-(a : Int)) ((0 <<< b : Nat) : Int)) ≠ .gt := by
    intro a b
    simp only [Nat.zero_shiftLeft, compare, compareOfLessAndEq]
    split
    · simp
    · split
      · simp
      · omega
  rw [beq_eq_false_iff_ne]
  intro h2
  injection h2 with h3
  exact this _ _ h3
theorem gt_zero {x m k : Nat} (h : double.read x = .number false m (-(k : Int))) : (double.order x 0 == some .gt) = decide (0 < m) := by
  rw [Format.order, h, read_zero, order_nat]
  have hz := Nat.two_pow_pos 1074
  generalize 2 ^ 1074 = z at *
  by_cases hm : m = 0
  · subst hm; simp
  · have : 0 < m * z := Nat.mul_pos (by omega) hz
    simp [show 0 < m by omega, show m * z ≠ 0 by omega]
theorem ge_max {x m k n : Nat} (h : double.read x = .number false m (-(k : Int))) (h1 : n * 2 ^ k ≤ m) (h2 : m < (n + 1) * 2 ^ k) :
    (double.order x 4742290407621132288 == some .gt || double.order x 4742290407621132288 == some .eq) = decide (1073741824 ≤ n) := by
  rw [Format.order, h, read_max, order_nat, show 1073741824 * 2 ^ 22 * 2 ^ k = 1073741824 * 2 ^ k * 2 ^ 22 by rw [Nat.mul_assoc, Nat.mul_comm (2 ^ 22), ← Nat.mul_assoc]]
  simp only [Nat.mul_lt_mul_right (Nat.two_pow_pos 22), Nat.mul_right_cancel_iff (Nat.two_pow_pos 22)]
  by_cases hn : 1073741824 ≤ n
  · have : 1073741824 * 2 ^ k ≤ m := Nat.le_trans (Nat.mul_le_mul_right _ hn) h1
    generalize 1073741824 * 2 ^ k = z at *
    simp [hn, show ¬ m < z by omega]
    omega
  · have : m < 1073741824 * 2 ^ k := Nat.lt_of_lt_of_le h2 (Nat.mul_le_mul_right _ (by omega))
    simp [hn, this]
theorem to_int {x m k n : Nat} (h : double.read x = .number false m (-(k : Int))) (h1 : n * 2 ^ k ≤ m) (h2 : m < (n + 1) * 2 ^ k) : (double.read x).toInt .zero = some (n : Int) := by
  rw [h]
  have hz : (-(k : Int)).toNat = 0 := by omega
  have hk : (- -(k : Int)).toNat = k := by omega
  simp only [Datum.toInt, Datum.integral, hz, hk, Nat.shiftLeft_zero, Toward.cut, signed, Nat.one_shiftLeft, Bool.toNat_false, Nat.add_zero, Bool.false_eq_true, if_false]
  congr 2
  by_cases hn : n = 0
  · subst hn
    simp at h2
    refine Nat.div_eq_of_lt ?_
    by_cases hle : k ≤ m.log2 + 2
    · rw [Nat.min_eq_left hle]; exact h2
    · rw [Nat.min_eq_right (by omega)]
      exact Nat.lt_trans Nat.lt_log2_self (Nat.pow_lt_pow_right (by decide) (by omega))
  · have : 2 ^ k ≤ m := Nat.le_trans (Nat.le_mul_of_pos_left _ (by omega)) h1
    have hle : k ≤ m.log2 := (Nat.le_log2 (by have := Nat.two_pow_pos k; omega)).2 this
    rw [Nat.min_eq_left (by omega)]
    exact (Nat.div_eq_iff (Nat.two_pow_pos k)).2 ⟨h1, by have := Nat.two_pow_pos k; rw [Nat.add_mul] at h2; omega⟩

/-- Two whole numbers are the same just if their words are. -/
theorem order_whole {x y a b : Nat} (hx : Whole (double.read x) a) (hy : Whole (double.read y) b) : (double.order x y == some .eq) = decide (a = b) := by
  obtain ⟨k, hk⟩ := hx
  obtain ⟨j, hj⟩ := hy
  rw [Format.order, hk, hj, order_nat, show a * 2 ^ k * 2 ^ j = a * (2 ^ k * 2 ^ j) by rw [Nat.mul_assoc], show b * 2 ^ j * 2 ^ k = b * (2 ^ k * 2 ^ j) by rw [Nat.mul_assoc, Nat.mul_comm (2 ^ j)]]
  have p : 0 < 2 ^ k * 2 ^ j := Nat.mul_pos (Nat.two_pow_pos k) (Nat.two_pow_pos j)
  simp only [Nat.mul_lt_mul_right p, Nat.mul_right_cancel_iff p]
  by_cases h : a = b
  · subst h; simp
  · by_cases h2 : a < b <;> simp [h, h2]
end Go.Proofs.YtnkkjedckehoaaaDoor
