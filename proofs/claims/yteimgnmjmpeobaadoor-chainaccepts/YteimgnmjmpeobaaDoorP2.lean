/- The texts Fl, Fm, Ca, Cb, Sa, Ha, Ea, Eb, Args, Ec, Ed, App, Ee, Ia, ArgB, Ib, Ef, Ei, in one. -/
import Derived.Test.YteimgnmjmpeobaaDoorP1
import Derived.Laws.FloatArith
import Derived.Laws.Cover3
import Derived.Deep.QuietTactic
import Derived.BigQuiet
import Derived.Handy
import Derived.WalkSmall
import Derived.ProofKit
import Derived.OpenShut
import Derived.ShutString
import Derived.ChangeOld
import Derived.SizedLaws
import Derived.SliceStrings
import Derived.Deep.Slices
import Derived.Lib.SmallJoins
import Derived.Laws.StructEq
import Derived.Deep.DeepCutAuto
import Derived.Lib.AppendZeros
namespace Go.Proofs.YteimgnmjmpeobaaDoor
open Ieee

/-- d is the whole number n. -/
def Whole (d : Datum) (n : Nat) : Prop := ∃ k : Nat, d = .number false (n * 2 ^ k) (-(k : Int))
/-- d, rounded towards 0, and made no less than 0, is n. -/
def FloorIs (d : Datum) (n : Nat) : Prop := (∃ m k : Nat, d = .number false m (-(k : Int)) ∧ n * 2 ^ k ≤ m ∧ m < (n + 1) * 2 ^ k) ∨ (n = 0 ∧ ∃ m e, d = .number true m e)

theorem Whole.floor {d : Datum} {n : Nat} (h : Whole d n) : FloorIs d n := by
  obtain ⟨k, rfl⟩ := h
  exact .inl ⟨_, k, rfl, Nat.le_refl _, Nat.mul_lt_mul_of_pos_right (Nat.lt_succ_self n) (Nat.two_pow_pos k)⟩

theorem order_nat (m k n j : Nat) : (Datum.number false m (-(k : Int))).order (.number false n (-(j : Int))) = some (if m * 2 ^ j < n * 2 ^ k then .lt else if m * 2 ^ j = n * 2 ^ k then .eq else .gt) := by
  have hk : (-(k : Int) - min (-(k : Int)) (-(j : Int))).toNat = j - k := by omega
  have hj : (-(j : Int) - min (-(k : Int)) (-(j : Int))).toNat = k - j := by omega
  have e : ∀ a b : Nat, compare (a : Int) (b : Int) = if a < b then Ordering.lt else if a = b then .eq else .gt := by
    intro a b
    simp only [compare, compareOfLessAndEq, Int.ofNat_lt, Int.ofNat_inj]
  simp only [Datum.order, hk, hj, signed, Nat.shiftLeft_eq, Bool.false_eq_true, if_false, e]
  rcases Nat.le_total k j with h | h
  · obtain ⟨d, rfl⟩ := Nat.exists_eq_add_of_le h
    have p := Nat.two_pow_pos k
    have e1 : m * 2 ^ (k + d) = m * 2 ^ d * 2 ^ k := by rw [Nat.pow_add, Nat.mul_assoc, Nat.mul_comm (2 ^ k)]
    rw [e1, show k + d - k = d by omega, show k - (k + d) = 0 by omega, Nat.pow_zero, Nat.mul_one]
    simp only [Nat.mul_lt_mul_right p, Nat.mul_right_cancel_iff p]
  · obtain ⟨d, rfl⟩ := Nat.exists_eq_add_of_le h
    have p := Nat.two_pow_pos j
    have e1 : n * 2 ^ (j + d) = n * 2 ^ d * 2 ^ j := by rw [Nat.pow_add, Nat.mul_assoc, Nat.mul_comm (2 ^ j)]
    rw [e1, show j + d - j = d by omega, show j - (j + d) = 0 by omega, Nat.pow_zero, Nat.mul_one]
    simp only [Nat.mul_lt_mul_right p, Nat.mul_right_cancel_iff p]

theorem read_zero : double.read 0 = .number false 0 (-(1074 : Nat)) := by decide +kernel
theorem read_max : double.read 4742290407621132288 = .number false (1073741824 * 2 ^ 22) (-(22 : Nat)) := by decide +kernel

/-- Not above 0. -/
theorem not_gt {x : Nat} {m : Nat} {e : Int} (h : double.read x = .number true m e) : (double.order x 0 == some .gt) = false := by
  rw [Format.order, h, read_zero]
  simp only [Datum.order, signed]
  have : ∀ a b : Nat, (compare (-(a : Int)) ((0 <<< b : Nat) : Int)) ≠ .gt := by
    intro a b
    simp only [Nat.zero_shiftLeft, compare, compareOfLessAndEq]
    split
    · simp
    · split
      · simp
      · omega
  rw [beq_eq_false_iff_ne]
  intro h2
  injection h2 with h3
  exact this _ _ h3
theorem gt_zero {x m k : Nat} (h : double.read x = .number false m (-(k : Int))) : (double.order x 0 == some .gt) = decide (0 < m) := by
  rw [Format.order, h, read_zero, order_nat]
  have hz := Nat.two_pow_pos 1074
  generalize 2 ^ 1074 = z at *
  by_cases hm : m = 0
  · subst hm; simp
  · have : 0 < m * z := Nat.mul_pos (by omega) hz
    simp [show 0 < m by omega, show m * z ≠ 0 by omega]
theorem ge_max {x m k n : Nat} (h : double.read x = .number false m (-(k : Int))) (h1 : n * 2 ^ k ≤ m) (h2 : m < (n + 1) * 2 ^ k) :
    (double.order x 4742290407621132288 == some .gt || double.order x 4742290407621132288 == some .eq) = decide (1073741824 ≤ n) := by
  rw [Format.order, h, read_max, order_nat, show 1073741824 * 2 ^ 22 * 2 ^ k = 1073741824 * 2 ^ k * 2 ^ 22 by rw [Nat.mul_assoc, Nat.mul_comm (2 ^ 22), ← Nat.mul_assoc]]
  simp only [Nat.mul_lt_mul_right (Nat.two_pow_pos 22), Nat.mul_right_cancel_iff (Nat.two_pow_pos 22)]
  by_cases hn : 1073741824 ≤ n
  · have : 1073741824 * 2 ^ k ≤ m := Nat.le_trans (Nat.mul_le_mul_right _ hn) h1
    generalize 1073741824 * 2 ^ k = z at *
    simp [hn, show ¬ m < z by omega]
    omega
  · have : m < 1073741824 * 2 ^ k := Nat.lt_of_lt_of_le h2 (Nat.mul_le_mul_right _ (by omega))
    simp [hn, this]
theorem to_int {x m k n : Nat} (h : double.read x = .number false m (-(k : Int))) (h1 : n * 2 ^ k ≤ m) (h2 : m < (n + 1) * 2 ^ k) : (double.read x).toInt .zero = some (n : Int) := by
  rw [h]
  have hz : (-(k : Int)).toNat = 0 := by omega
  have hk : (- -(k : Int)).toNat = k := by omega
  simp only [Datum.toInt, Datum.integral, hz, hk, Nat.shiftLeft_zero, Toward.cut, signed, Nat.one_shiftLeft, Bool.toNat_false, Nat.add_zero, Bool.false_eq_true, if_false]
  congr 2
  by_cases hn : n = 0
  · subst hn
    simp at h2
    refine Nat.div_eq_of_lt ?_
    by_cases hle : k ≤ m.log2 + 2
    · rw [Nat.min_eq_left hle]; exact h2
    · rw [Nat.min_eq_right (by omega)]
      exact Nat.lt_trans Nat.lt_log2_self (Nat.pow_lt_pow_right (by decide) (by omega))
  · have : 2 ^ k ≤ m := Nat.le_trans (Nat.le_mul_of_pos_left _ (by omega)) h1
    have hle : k ≤ m.log2 := (Nat.le_log2 (by have := Nat.two_pow_pos k; omega)).2 this
    rw [Nat.min_eq_left (by omega)]
    exact (Nat.div_eq_iff (Nat.two_pow_pos k)).2 ⟨h1, by have := Nat.two_pow_pos k; rw [Nat.add_mul] at h2; omega⟩

/-- Two whole numbers are the same just if their words are. -/
theorem order_whole {x y a b : Nat} (hx : Whole (double.read x) a) (hy : Whole (double.read y) b) : (double.order x y == some .eq) = decide (a = b) := by
  obtain ⟨k, hk⟩ := hx
  obtain ⟨j, hj⟩ := hy
  rw [Format.order, hk, hj, order_nat, show a * 2 ^ k * 2 ^ j = a * (2 ^ k * 2 ^ j) by rw [Nat.mul_assoc], show b * 2 ^ j * 2 ^ k = b * (2 ^ k * 2 ^ j) by rw [Nat.mul_assoc, Nat.mul_comm (2 ^ j)]]
  have p : 0 < 2 ^ k * 2 ^ j := Nat.mul_pos (Nat.two_pow_pos k) (Nat.two_pow_pos j)
  simp only [Nat.mul_lt_mul_right p, Nat.mul_right_cancel_iff p]
  by_cases h : a = b
  · subst h; simp
  · by_cases h2 : a < b <;> simp [h, h2]
end Go.Proofs.YteimgnmjmpeobaaDoor
namespace Go.Proofs.YteimgnmjmpeobaaDoor
open Ieee

theorem d_sign : double.signWeight = 9223372036854775808 := by decide +kernel
theorem d_bin : double.binade = 4503599627370496 := by decide +kernel
theorem d_inf : double.infRung = 9218868437227405312 := by decide +kernel
theorem d_least : double.leastPlace = -1074 := by decide +kernel

theorem cut_even (neg : Bool) (n drop : Nat) (h : drop ≤ n.log2 + 2) : Toward.even.cut neg n drop = n / 2 ^ drop ∨ (0 < drop ∧ Toward.even.cut neg n drop = n / 2 ^ drop + 1) := by
  simp only [Toward.cut, Nat.min_eq_left h, Nat.one_shiftLeft]
  by_cases h0 : drop = 0
  · subst h0
    left
    simp [Nat.mod_one]
  · cases (decide (2 ^ drop < 2 * (n % 2 ^ drop)) || 2 ^ drop == 2 * (n % 2 ^ drop) && n / 2 ^ drop % 2 == 1)
    · left; rfl
    · right; exact ⟨by omega, rfl⟩

theorem read_word (neg : Bool) (rung : Nat) (h1 : 4503599627370496 ≤ rung) (h2 : rung < 9218868437227405312) :
    double.read (double.word neg rung) = .number neg (4503599627370496 + rung % 4503599627370496) (-1074 + ((rung / 4503599627370496 - 1 : Nat) : Int)) := by
  have hs : (double.word neg rung / 9223372036854775808 % 2 == 1) = neg ∧ double.word neg rung % 9223372036854775808 = rung := by
    unfold Format.word
    rw [d_sign]
    cases neg
    · simp; omega
    · simp; omega
  simp only [Format.read, d_sign, d_bin, d_inf, d_least, hs.1, hs.2]
  rw [if_neg (by omega), if_pos h2]

/-- The digits of a number that are kept. -/
def lowOf (mag : Nat) : Nat := mag * 2 ^ (52 - mag.log2) / 2 ^ (mag.log2 - 52)
theorem low_small {mag : Nat} (h : mag.log2 ≤ 52) : lowOf mag = mag * 2 ^ (52 - mag.log2) := by
  unfold lowOf
  rw [show mag.log2 - 52 = 0 by omega, Nat.pow_zero, Nat.div_one]
theorem low_great {mag : Nat} (h : 52 ≤ mag.log2) : lowOf mag = mag / 2 ^ (mag.log2 - 52) := by
  unfold lowOf
  rw [show 52 - mag.log2 = 0 by omega, Nat.pow_zero, Nat.mul_one]
theorem low_bounds {mag : Nat} (hm : 0 < mag) : 4503599627370496 ≤ lowOf mag ∧ lowOf mag < 9007199254740992 := by
  have h1 : 2 ^ mag.log2 ≤ mag := Nat.log2_self_le (by omega)
  have h2 : mag < 2 ^ (mag.log2 + 1) := Nat.lt_log2_self
  by_cases h : mag.log2 ≤ 52
  · rw [low_small h]
    constructor
    · refine Nat.le_trans ?_ (Nat.mul_le_mul_right _ h1)
      rw [← Nat.pow_add, show mag.log2 + (52 - mag.log2) = 52 by omega]
      decide
    · refine Nat.lt_of_lt_of_le (Nat.mul_lt_mul_of_pos_right h2 (Nat.two_pow_pos _)) ?_
      rw [← Nat.pow_add, show mag.log2 + 1 + (52 - mag.log2) = 53 by omega]
      decide
  · rw [low_great (by omega)]
    constructor
    · rw [Nat.le_div_iff_mul_le (Nat.two_pow_pos _)]
      refine Nat.le_trans ?_ h1
      rw [show (4503599627370496 : Nat) = 2 ^ 52 by decide, ← Nat.pow_add, show 52 + (mag.log2 - 52) = mag.log2 by omega]
      exact Nat.le_refl _
    · rw [Nat.div_lt_iff_lt_mul (Nat.two_pow_pos _)]
      refine Nat.lt_of_lt_of_le h2 ?_
      rw [show (9007199254740992 : Nat) = 2 ^ 53 by decide, ← Nat.pow_add, show 53 + (mag.log2 - 52) = mag.log2 + 1 by omega]
      exact Nat.le_refl _

theorem read_nearest (neg : Bool) (mag : Nat) (place : Int) (hm : 0 < mag) (h1 : -1000 ≤ place + mag.log2) (h2 : place + mag.log2 ≤ 1000) :
    ∃ K e kept, double.read (double.nearest neg mag place) = .number neg K e ∧ (kept = lowOf mag ∨ (52 < mag.log2 ∧ kept = lowOf mag + 1)) ∧
      ((K = kept ∧ e = place + mag.log2 - 52) ∨ (kept = 9007199254740992 ∧ K = 4503599627370496 ∧ e = place + mag.log2 - 51)) := by
  have hb := low_bounds hm
  have hcut : Toward.even.cut neg (mag * 2 ^ (52 - mag.log2)) (mag.log2 - 52) = lowOf mag ∨ (52 < mag.log2 ∧ Toward.even.cut neg (mag * 2 ^ (52 - mag.log2)) (mag.log2 - 52) = lowOf mag + 1) := by
    have hd : mag.log2 - 52 ≤ (mag * 2 ^ (52 - mag.log2)).log2 + 2 := by
      by_cases h : mag.log2 ≤ 52
      · omega
      · rw [show 52 - mag.log2 = 0 by omega, Nat.pow_zero, Nat.mul_one]; omega
    rcases cut_even neg _ _ hd with h | ⟨h, h'⟩
    · exact .inl h
    · exact .inr ⟨by omega, h'⟩
  generalize hke : Toward.even.cut neg (mag * 2 ^ (52 - mag.log2)) (mag.log2 - 52) = kept at hcut
  have hkb : 4503599627370496 ≤ kept ∧ kept ≤ 9007199254740992 := by omega
  have hw : double.nearest neg mag place = double.word neg ((place + mag.log2 + 1022).toNat * 4503599627370496 + kept) := by
    unfold Format.nearest
    rw [if_neg (by omega)]
    simp only [d_least, d_bin, d_inf, show ((double.fractionBits : Nat) : Int) = 52 from rfl]
    rw [show max (place + (mag.log2 : Int) - 52) (-1074) = place + mag.log2 - 52 by omega, show (place - (place + (mag.log2 : Int) - 52)).toNat = 52 - mag.log2 by omega,
      show (place + (mag.log2 : Int) - 52 - place).toNat = mag.log2 - 52 by omega, Nat.shiftLeft_eq, hke, show (place + (mag.log2 : Int) - 52 - -1074).toNat = (place + mag.log2 + 1022).toNat by omega]
    rw [Nat.min_eq_left (by omega)]
  rw [hw, read_word _ _ (by omega) (by omega)]
  by_cases hc : kept = 9007199254740992
  · exact ⟨4503599627370496, place + mag.log2 - 51, kept, by congr 1 <;> omega, hcut, .inr ⟨hc, rfl, rfl⟩⟩
  · exact ⟨kept, place + mag.log2 - 52, kept, by congr 1 <;> omega, hcut, .inl ⟨rfl, rfl⟩⟩

theorem log2_lt {n k : Nat} (h : n < 2 ^ k) (hk : 0 < k) : n.log2 < k := by
  by_cases hn : n = 0
  · subst hn; simpa using hk
  · exact (Nat.log2_lt hn).2 h

theorem floatOf_eq (a : Int) : floatOfInt .f64 a = double.nearest (decide (a < 0)) a.natAbs 0 := rfl

/-- A whole number's word. -/
theorem read_int (a : Int) (h0 : a ≠ 0) (h : a.natAbs < 2 ^ 53) :
    double.read (floatOfInt .f64 a) = .number (decide (a < 0)) (a.natAbs * 2 ^ (52 - a.natAbs.log2)) (-((52 - a.natAbs.log2 : Nat) : Int)) := by
  have hl : a.natAbs.log2 < 53 := log2_lt h (by decide)
  rw [floatOf_eq]
  obtain ⟨K, e, kept, hr, hk, he⟩ := read_nearest (decide (a < 0)) a.natAbs 0 (by omega) (by omega) (by omega)
  have hb := low_bounds (mag := a.natAbs) (by omega)
  rw [hr]
  rw [low_small (by omega)] at hk hb
  rcases hk with hk | hk
  · rcases he with ⟨rfl, rfl⟩ | he
    · rw [hk]; congr 1; omega
    · omega
  · omega
theorem read_int0 : double.read (floatOfInt .f64 0) = .number false 0 (-(1074 : Nat)) := by decide +kernel

theorem whole_nil {d : Datum} {k : Nat} (h : d = .number false 0 (-(k : Int))) : Whole d 0 := ⟨k, by rw [h, Nat.zero_mul]⟩
theorem whole_int (n : Nat) (h : n < 2 ^ 53) : Whole (double.read (floatOfInt .f64 (n : Int))) n := by
  by_cases h0 : n = 0
  · subst h0; exact whole_nil read_int0
  · refine ⟨52 - n.log2, ?_⟩
    rw [read_int (n : Int) (by omega) (by simpa using h)]
    simp

theorem log2_norm {n : Nat} (h0 : 0 < n) (h : n.log2 ≤ 52) : (n * 2 ^ (52 - n.log2)).log2 = 52 := by
  have hb := low_bounds h0
  rw [low_small h] at hb
  rw [Nat.log2_eq_iff (by omega)]
  exact ⟨Nat.le_trans (by decide) hb.1, Nat.lt_of_lt_of_le hb.2 (by decide)⟩

/-- The quotient of whole numbers, as it is rounded: as far as whole numbers go, it is right. -/
theorem div_floor (A B : Nat) (hA : 0 < A) (hA2 : A ≤ 2 ^ 40) (hB : 0 < B) (hB2 : B ≤ 1000) (s : Bool) :
    ∃ K e, double.read (double.nearest s (2 * ((A * 2 ^ (52 - A.log2)) <<< 54 / (B * 2 ^ (52 - B.log2))) + ((A * 2 ^ (52 - A.log2)) <<< 54 % (B * 2 ^ (52 - B.log2)) != 0).toNat)
      (-((52 - A.log2 : Nat) : Int) - -((52 - B.log2 : Nat) : Int) - (54 : Nat) - 1)) = .number s K e ∧ ∃ k : Nat, e = -(k : Int) ∧ A / B * 2 ^ k ≤ K ∧ K < (A / B + 1) * 2 ^ k := by
  have hla : A.log2 < 41 := log2_lt (Nat.lt_of_le_of_lt hA2 (by decide)) (by decide)
  have hlb : B.log2 < 10 := log2_lt (Nat.lt_of_le_of_lt hB2 (by decide)) (by decide)
  have hab := low_bounds hA
  have hbb := low_bounds hB
  rw [low_small (by omega)] at hab hbb
  rw [Nat.shiftLeft_eq]
  generalize hm : A * 2 ^ (52 - A.log2) = m at *
  generalize hn : B * 2 ^ (52 - B.log2) = n at *
  have hq1 : 9007199254740992 ≤ m * 2 ^ 54 / n := (Nat.le_div_iff_mul_le (by omega)).2 (by omega)
  have hq2 : m * 2 ^ 54 / n < 36028797018963968 := (Nat.div_lt_iff_lt_mul (by omega)).2 (by omega)
  generalize hst : (m * 2 ^ 54 % n != 0).toNat = st
  have hst1 : st ≤ 1 := by rw [← hst]; exact Bool.toNat_le _
  generalize hQ : m * 2 ^ 54 / n = Q at *
  obtain ⟨g, hg, hg1, hg2⟩ : ∃ g, (2 * Q + st).log2 = 53 + g ∧ 1 ≤ g ∧ g ≤ 2 := by
    have h1 : 54 ≤ (2 * Q + st).log2 := (Nat.le_log2 (by omega)).2 (by omega)
    have h2 : (2 * Q + st).log2 < 56 := log2_lt (by omega) (by decide)
    exact ⟨(2 * Q + st).log2 - 53, by omega, by omega, by omega⟩
  obtain ⟨K, e, kept, hr, hk, he⟩ := read_nearest s (2 * Q + st) (-((52 - A.log2 : Nat) : Int) - -((52 - B.log2 : Nat) : Int) - (54 : Nat) - 1) (by omega) (by omega) (by omega)
  refine ⟨K, e, hr, ?_⟩
  have hlow : lowOf (2 * Q + st) = A * 2 ^ (54 + B.log2 - A.log2 - g) / B := by
    rw [low_great (by omega), hg, show 53 + g - 52 = 1 + g by omega, Nat.pow_add, Nat.pow_one, ← Nat.div_div_eq_div_mul, show (2 * Q + st) / 2 = Q by omega, ← hQ, Nat.div_div_eq_div_mul, ← hm, ← hn,
      Nat.mul_assoc, ← Nat.pow_add, Nat.mul_assoc, ← Nat.pow_add, show 52 - A.log2 + 54 = (54 + B.log2 - A.log2 - g) + (52 - B.log2 + g) by omega, Nat.pow_add, ← Nat.mul_assoc, Nat.mul_div_mul_right _ _ (Nat.two_pow_pos _)]
  rw [hlow, hg] at hk
  rw [hg] at he
  clear hlow hr hQ hq1 hq2 hst hm hn
  have hk0 : 12 ≤ 54 + B.log2 - A.log2 - g := by omega
  have hke : -((52 - A.log2 : Nat) : Int) - -((52 - B.log2 : Nat) : Int) - (54 : Nat) - 1 + ((53 + g : Nat) : Int) - 52 = -((54 + B.log2 - A.log2 - g : Nat) : Int) := by omega
  have hke' : -((52 - A.log2 : Nat) : Int) - -((52 - B.log2 : Nat) : Int) - (54 : Nat) - 1 + ((53 + g : Nat) : Int) - 51 = -((54 + B.log2 - A.log2 - g - 1 : Nat) : Int) := by omega
  rw [hke, hke'] at he
  generalize 54 + B.log2 - A.log2 - g = k at *
  have hN1 : A / B * 2 ^ k ≤ A * 2 ^ k / B := by
    rw [Nat.le_div_iff_mul_le hB, Nat.mul_right_comm]
    exact Nat.mul_le_mul_right _ (Nat.div_mul_le_self A B)
  have hN2 : A * 2 ^ k / B + 1 < (A / B + 1) * 2 ^ k := by
    have hA3 : A + 1 ≤ (A / B + 1) * B := by
      have := Nat.div_add_mod A B
      have := Nat.mod_lt A hB
      rw [Nat.add_mul, Nat.one_mul, Nat.mul_comm]
      omega
    have h3 := Nat.mul_le_mul_right (2 ^ k) hA3
    rw [Nat.add_mul, Nat.one_mul, Nat.mul_right_comm] at h3
    have h4 := Nat.div_mul_le_self (A * 2 ^ k) B
    have h5 : 4096 ≤ 2 ^ k := Nat.le_trans (by decide) (Nat.pow_le_pow_right (by decide) hk0)
    refine Nat.lt_of_not_le fun h6 => ?_
    have h7 := Nat.mul_le_mul_right B h6
    rw [Nat.add_mul (A * 2 ^ k / B), Nat.one_mul] at h7
    omega
  rcases he with ⟨rfl, rfl⟩ | ⟨hkx, rfl, rfl⟩
  · exact ⟨k, rfl, by omega, by omega⟩
  · refine ⟨k - 1, rfl, ?_⟩
    obtain ⟨j, rfl⟩ : ∃ j, k = j + 1 := ⟨k - 1, by omega⟩
    generalize A * 2 ^ (j + 1) / B = z at *
    rw [Nat.pow_succ, ← Nat.mul_assoc] at hN1 hN2
    rw [show j + 1 - 1 = j by omega]
    omega

/-- A word that is the quotient of a and b, and what it is, rounded towards 0. -/
theorem quo_floor (a b : Int) (ha : -(2 ^ 40) ≤ a) (ha2 : a ≤ 2 ^ 40) (hb : 1 ≤ b) (hb2 : b ≤ 1000) :
    ∃ r, floatBits .quo .f64 (floatOfInt .f64 a) (floatOfInt .f64 b) = some r ∧ FloorIs (double.read r) (a.tdiv b).toNat := by
  show ∃ r, double.div _ _ = some r ∧ _
  unfold Format.div
  have hrb := read_int b (by omega) (by omega)
  rw [hrb, show decide (b < 0) = false by simp; omega]
  have hB : 0 < b.natAbs := by omega
  have hlb : b.natAbs.log2 < 10 := log2_lt (by omega) (by decide)
  have hbb := low_bounds hB
  rw [low_small (by omega)] at hbb
  by_cases h0 : a = 0
  · subst h0
    rw [read_int0]
    refine ⟨0, ?_, ?_⟩
    · simp only [Datum.quotient]
      rw [if_neg (by omega)]
      simp only [Nat.zero_shiftLeft, Nat.zero_div, Nat.zero_mod, Option.map, Format.write, Format.nearest]
      rfl
    · rw [Int.zero_tdiv]; exact (whole_nil read_zero).floor
  · have hA : 0 < a.natAbs := by omega
    have hla : a.natAbs.log2 < 41 := log2_lt (by omega) (by decide)
    obtain ⟨K, e, hr, k, rfl, h1, h2⟩ := div_floor a.natAbs b.natAbs hA (by omega) hB (by omega) (decide (a < 0) ^^ false)
    rw [read_int a h0 (by omega)]
    simp only [Datum.quotient]
    rw [if_neg (by omega), log2_norm hA (by omega), log2_norm hB (by omega), show double.fractionBits + 2 + 52 - 52 = 54 from rfl]
    refine ⟨_, rfl, ?_⟩
    simp only [Format.write]
    rw [hr]
    by_cases hs : a < 0
    · refine .inr ⟨?_, K, -(k : Int), by simp [hs]⟩
      have h3 : 0 ≤ (-a).tdiv b := Int.tdiv_nonneg (by omega) (by omega)
      rw [Int.neg_tdiv] at h3
      omega
    · refine .inl ⟨K, k, by simp [hs], ?_⟩
      have : (a.tdiv b).toNat = a.natAbs / b.natAbs := by
        obtain ⟨x, rfl⟩ := Int.eq_ofNat_of_zero_le (show 0 ≤ a by omega)
        obtain ⟨y, rfl⟩ := Int.eq_ofNat_of_zero_le (show 0 ≤ b by omega)
        rw [← Int.ofNat_tdiv]
        rfl
      rw [this]
      exact ⟨h1, h2⟩
end Go.Proofs.YteimgnmjmpeobaaDoor
namespace Go.Proofs.YteimgnmjmpeobaaDoor
open Go.RowKit


/-- A count, clamped. -/
def cl (n : Int) : Nat := (min (max n 0) 1073741824).toNat

set_option maxHeartbeats 400000 in
theorem clamped_any (n : Int) (w : World) :
    Calls Tryd.prog 49 #[.int .i64 n] w fun e w' => e = .returned (.int .i64 (cl n)) ∧ w' = w := by
  go_enter Tryd.func49, Tryd.ntmps49
  go_wp2
  all_goals
    go_ret
    exact ⟨ret_int (by unfold cl; omega), rfl⟩

def odd (n : Int) : Bool := n % 2 != 0
theorem odd_eq (n : Int) : odd n = (n.tmod 2 != 0) := by
  unfold odd
  rw [bne, bne]
  congr 1
  rw [Bool.eq_iff_iff, beq_iff_eq, beq_iff_eq, ← Int.dvd_iff_emod_eq_zero, ← Int.dvd_iff_tmod_eq_zero]

/-- A count as a part of a clock. -/
def fl (a : Nat) : Nat := floatOfInt .f64 (a : Int)
theorem fl_eq (n : Int) : floatOfInt .f64 ((cl n : Nat) : Int) = fl (cl n) := rfl
theorem cl_le (n : Int) : cl n ≤ 1073741824 := by unfold cl; omega
theorem fl_whole {a : Nat} (h : a ≤ 1073741824) : Whole (Ieee.double.read (fl a)) a := whole_int a (by omega)

end Go.Proofs.YteimgnmjmpeobaaDoor
namespace Go.Proofs.YteimgnmjmpeobaaDoor
open Go.RowKit

/-- Is it a right pair? -/
def rt (l r : Int) : Bool := decide (0 ≤ l ∧ l ≤ 1073741824 ∧ 0 ≤ r ∧ r ≤ 1073741824)

set_option maxHeartbeats 1000000 in
theorem cright_any (l r : Int) (w : World) :
    Calls Tryd.prog 42 #[.agg #[.int .i64 l, .int .i64 r]] w fun e w' => e = .returned (.bool (rt l r)) ∧ Below w.heap.size w w' := by
  by_cases h : ((cl l : Nat) : Int) = l
  · go_enter Tryd.func42, Tryd.ntmps42
    go_wp2
    go_quiet (first | (go_at_call 49; exact Calls.quiet_of_same (clamped_any _ _)))
    go_wp2
    go_ret
    refine ⟨?_, ?_⟩
    · refine congrArg (fun b => Ending.returned (.bool b)) ?_
      unfold cl at h ⊢; unfold rt
      show (_ == _) = _
      rw [Bool.eq_iff_iff]
      simp only [beq_iff_eq, decide_eq_true_eq]
      omega
    · refine below_drewN ?_ _
      go_grown
  · have h' : (((cl l : Nat) : Int) == l) = false := by simpa using h
    go_enter Tryd.func42, Tryd.ntmps42
    go_wp2
    go_quiet (first | (go_at_call 49; exact Calls.quiet_of_same (clamped_any _ _)))
    go_wp2
    go_ret
    refine ⟨?_, ?_⟩
    · refine congrArg (fun b => Ending.returned (.bool b)) ?_
      unfold cl at h; unfold rt
      symm
      rw [decide_eq_false_iff_not]
      omega
    · refine below_drewN ?_ _
      go_grown

/-- One more, as far as may be. -/
def up (a : Nat) : Nat := min (a + 1) 1073741824
theorem up_le (a : Nat) : up a ≤ 1073741824 := by unfold up; omega

theorem cl_nat {a : Nat} (h : a ≤ 1073741824) : cl (a : Int) = a := by unfold cl; omega
theorem cl_up {a : Nat} (h : a ≤ 1073741824) : cl ((a : Int) + 1) = up a := by unfold cl up; omega

end Go.Proofs.YteimgnmjmpeobaaDoor
namespace Go.Proofs.YteimgnmjmpeobaaDoor
open Go.RowKit

structure Ent where
  path : ByteArray
  has : Bool
  data : ByteArray
  l : Int
  r : Int
theorem Ent.same {a b : Ent} (h1 : a.path = b.path) (h2 : a.has = b.has) (h3 : a.data = b.data) (h4 : a.l = b.l) (h5 : a.r = b.r) : a = b := by
  cases a; cases b; simp only at h1 h2 h3 h4 h5; subst h1 h2 h3 h4 h5; rfl
instance : DecidableEq Ent := fun a b =>
  decidable_of_iff (a.path = b.path ∧ a.has = b.has ∧ a.data = b.data ∧ a.l = b.l ∧ a.r = b.r)
    ⟨fun h => Ent.same h.1 h.2.1 h.2.2.1 h.2.2.2.1 h.2.2.2.2, fun h => by subst h; exact ⟨rfl, rfl, rfl, rfl, rfl⟩⟩

/-- The empty string. -/
abbrev noS : ByteArray := ⟨#[]⟩
def epth (e : Ent) : List UInt8 := e.path.data.toList
theorem epth_inj {a b : Ent} : epth a = epth b ↔ a.path = b.path := ⟨fun h => data_inj h, fun h => by unfold epth; rw [h]⟩

/-! ### Entries as cells -/
def eV (e : Ent) : List Value := [.string e.path, .bool e.has, .string e.data, .int .i64 e.l, .int .i64 e.r]
def entV (es : List Ent) : List Value := es.flatMap eV
theorem entV_nil : entV [] = [] := rfl
theorem entV_cons (e : Ent) (es : List Ent) : entV (e :: es) = eV e ++ entV es := rfl
theorem entV_append (a b : List Ent) : entV (a ++ b) = entV a ++ entV b := by simp [entV]
theorem entV_length (es : List Ent) : (entV es).length = es.length * 5 := by
  induction es with
  | nil => rfl
  | cons e r ih => rw [entV_cons, List.length_append, List.length_cons, ih]; simp only [eV, List.length_cons, List.length_nil]; omega
theorem entV_one (l : List Ent) : ∀ u ∈ entV l, u.oneCell' = true := by
  intro u hu
  simp only [entV, List.mem_flatMap] at hu
  obtain ⟨e, _, he⟩ := hu
  simp [eV] at he
  rcases he with rfl | rfl | rfl | rfl | rfl <;> rfl
theorem entV_at : ∀ (es : List Ent) (j : Nat) (h : j < es.length) (q : Nat), q < 5 → (entV es)[j * 5 + q]? = (eV es[j])[q]?
  | e :: es, 0, _, q, hq => by
    rw [entV_cons, List.getElem?_append_left (by simp only [eV, List.length_cons, List.length_nil]; omega), Nat.zero_mul, Nat.zero_add]; rfl
  | e :: es, j + 1, h, q, hq => by
    have e5 : (eV e).length = 5 := rfl
    rw [entV_cons, List.getElem?_append_right (by rw [e5]; omega), e5, show (j + 1) * 5 + q - 5 = j * 5 + q by omega, entV_at es j (by simpa using h) q hq]
    rfl
theorem entV_take (es : List Ent) (k : Nat) : entV (es.take k) = (entV es).take (k * 5) := by
  by_cases h : k ≤ es.length
  · have e : entV es = entV (es.take k) ++ entV (es.drop k) := by rw [← entV_append, List.take_append_drop]
    have l : (entV (es.take k)).length = k * 5 := by rw [entV_length, List.length_take]; omega
    rw [e, ← l, List.take_left]
  · rw [List.take_of_length_le (by omega), List.take_of_length_le (by rw [entV_length]; omega)]
theorem entV_drop (es : List Ent) (k : Nat) : entV (es.drop k) = (entV es).drop (k * 5) := by
  by_cases h : k ≤ es.length
  · have e : entV es = entV (es.take k) ++ entV (es.drop k) := by rw [← entV_append, List.take_append_drop]
    have l : (entV (es.take k)).length = k * 5 := by rw [entV_length, List.length_take]; omega
    rw [e, ← l, List.drop_left]
  · rw [List.drop_of_length_le (by omega), List.drop_of_length_le (by rw [entV_length]; omega)]
    rfl
theorem Rd.ent {w : World} {A : Option Addr} {es : List Ent} (h : Rd w A (entV es)) {j : Nat} (hj : j < es.length) :
    ∃ b off, A = some ⟨b, off, none⟩ ∧ w.cell? ⟨b, off + j * 5, none⟩ = some (.string es[j].path) ∧ w.cell? ⟨b, off + j * 5 + 1, none⟩ = some (.bool es[j].has) ∧ w.cell? ⟨b, off + j * 5 + 2, none⟩ = some (.string es[j].data) ∧
      w.cell? ⟨b, off + j * 5 + 3, none⟩ = some (.int .i64 es[j].l) ∧ w.cell? ⟨b, off + j * 5 + 4, none⟩ = some (.int .i64 es[j].r) ∧ b < w.heap.size := by
  have hl := entV_length es
  obtain ⟨b, off, rfl, -, hb⟩ := h.at_ (k := j * 5) (by omega)
  have g : ∀ q, q < 5 → w.cell? ⟨b, off + j * 5 + q, none⟩ = (eV es[j])[q]? := by
    intro q hq
    rw [Nat.add_assoc]
    obtain ⟨b', off', e, hc, -⟩ := h.at_ (k := j * 5 + q) (by omega)
    injection e with e; injection e with e1 e2; subst e1 e2
    rw [hc, ← List.getElem?_eq_getElem, entV_at es j hj q hq]
  exact ⟨b, off, rfl, g 0 (by omega), g 1 (by omega), g 2 (by omega), g 3 (by omega), g 4 (by omega), hb⟩

/-! ### Right archives -/
def filesOf (es : List Ent) : List Fil := (es.filter (·.has)).map fun e => (e.path, e.data)
theorem filesOf_cons (e : Ent) (es : List Ent) : filesOf (e :: es) = if e.has then (e.path, e.data) :: filesOf es else filesOf es := by
  unfold filesOf
  rw [List.filter_cons]
  split <;> rfl
theorem filesOf_append (a b : List Ent) : filesOf (a ++ b) = filesOf a ++ filesOf b := by simp [filesOf]
theorem filesOf_len (es : List Ent) : (filesOf es).length ≤ es.length := by rw [filesOf, List.length_map]; exact List.length_filter_le _ _
theorem mem_files {es : List Ent} {f : Fil} : f ∈ filesOf es ↔ ∃ e ∈ es, e.has = true ∧ f = (e.path, e.data) := by
  simp only [filesOf, List.mem_map, List.mem_filter]
  constructor
  · rintro ⟨e, ⟨h1, h2⟩, rfl⟩; exact ⟨e, h1, h2, rfl⟩
  · rintro ⟨e, h1, h2, rfl⟩; exact ⟨e, ⟨h1, h2⟩, rfl⟩
def fineE (e : Ent) : Bool := rt e.l e.r && !(decide (e.l = 0) && decide (e.r = 0)) && (e.has || decide (e.data = noS))
def archR (es : List Ent) : Bool := decide (es.length ≤ 32) && es.all fineE && sortedL (es.map epth) && treeR (filesOf es)
def SrtE (es : List Ent) : Prop := es.Pairwise fun a b => epth a < epth b
structure RightA (es : List Ent) : Prop where
  few : es.length ≤ 32
  srt : SrtE es
  paths : ∀ e ∈ es, rightL (epth e) = true
  fine : ∀ e ∈ es, fineE e = true
  tree : treeR (filesOf es) = true
theorem archR_iff (es : List Ent) : archR es = true ↔ RightA es := by
  unfold archR
  simp only [Bool.and_eq_true, decide_eq_true_eq, List.all_eq_true]
  constructor
  · rintro ⟨⟨⟨h1, h2⟩, h3⟩, h4⟩
    exact ⟨h1, List.pairwise_map.1 (srt_pair h3), fun e he => srt_right h3 _ (List.mem_map_of_mem he), h2, h4⟩
  · rintro ⟨h1, h2, h3, h4, h5⟩
    refine ⟨⟨⟨h1, h4⟩, srt_mk ?_ (List.pairwise_map.2 h2)⟩, h5⟩
    intro s hs
    obtain ⟨e, he, rfl⟩ := List.mem_map.1 hs
    exact h3 e he
theorem archR_no {es : List Ent} (h : ¬ RightA es) : archR es = false := not_true fun e => h ((archR_iff es).1 e)
theorem fineE_iff (e : Ent) : fineE e = true ↔ (0 ≤ e.l ∧ e.l ≤ 1073741824 ∧ 0 ≤ e.r ∧ e.r ≤ 1073741824) ∧ ¬ (e.l = 0 ∧ e.r = 0) ∧ (e.has = true ∨ e.data = noS) := by
  unfold fineE rt
  simp only [Bool.and_eq_true, decide_eq_true_eq, Bool.or_eq_true, Bool.not_eq_true', Bool.and_eq_false_iff, decide_eq_false_iff_not, and_assoc]
  constructor
  · rintro ⟨a, b, c, d, e, f⟩; exact ⟨a, b, c, d, by omega, f⟩
  · rintro ⟨a, b, c, d, e, f⟩; exact ⟨a, b, c, d, by omega, f⟩

/-- Where a path stands. -/
def idxE (es : List Ent) (p : ByteArray) : Int := if es.any (fun e => decide (e.path = p)) then (es.findIdx (fun e => decide (e.path = p)) : Int) else -1
theorem idxE_at {es : List Ent} {p : ByteArray} {j : Nat} (hj : j < es.length) (h : es[j].path = p) (hn : ∀ k (hk : k < es.length), k < j → es[k].path ≠ p) : idxE es p = j := by
  unfold idxE
  rw [if_pos (List.any_eq_true.2 ⟨_, List.getElem_mem hj, decide_eq_true h⟩)]
  rw [(List.findIdx_eq hj).2 ⟨decide_eq_true h, fun k hk => by simpa using hn k (by omega) hk⟩]
theorem idxE_no {es : List Ent} {p : ByteArray} (hn : ∀ e ∈ es, e.path ≠ p) : idxE es p = -1 := by
  unfold idxE
  rw [if_neg]
  simp only [List.any_eq_true, not_exists, not_and, decide_eq_true_eq]
  exact hn
theorem idxE_cases (es : List Ent) (p : ByteArray) : (idxE es p = -1 ∧ ∀ e ∈ es, e.path ≠ p) ∨ ∃ (j : Nat) (hj : j < es.length), idxE es p = j ∧ es[j].path = p := by
  by_cases h : es.any (fun e => decide (e.path = p)) = true
  · right
    obtain ⟨e, he, hp⟩ := List.any_eq_true.1 h
    have hl : es.findIdx (fun e => decide (e.path = p)) < es.length := List.findIdx_lt_length.2 ⟨e, he, hp⟩
    refine ⟨_, hl, by unfold idxE; rw [if_pos h], ?_⟩
    simpa using List.findIdx_getElem (w := hl)
  · left
    have hn : ∀ e ∈ es, e.path ≠ p := by
      intro e he hp
      exact h (List.any_eq_true.2 ⟨e, he, decide_eq_true hp⟩)
    exact ⟨idxE_no hn, hn⟩
theorem SrtE.inj {es : List Ent} (h : SrtE es) {i j : Nat} (hi : i < es.length) (hj : j < es.length) (e : es[i].path = es[j].path) : i = j := by
  have hp := List.pairwise_iff_getElem.1 h
  rcases Nat.lt_trichotomy i j with h1 | h1 | h1
  · have := hp i j hi hj h1; rw [epth, epth, e] at this; exact absurd this (List.lt_irrefl _)
  · exact h1
  · have := hp j i hj hi h1; rw [epth, epth, e] at this; exact absurd this (List.lt_irrefl _)
theorem idxE_srt {es : List Ent} (h : SrtE es) {j : Nat} (hj : j < es.length) : idxE es es[j].path = j :=
  idxE_at hj rfl fun _ hk hkj e => by have := h.inj hk hj e; omega

/-! ### Both, gone over -/
def gone (e : Ent) : Ent := ⟨e.path, false, noS, e.l, e.r⟩
def kept (e : Ent) (d : ByteArray) : Ent := ⟨e.path, true, d, e.l, e.r⟩
def fresh (p : ByteArray) : Ent := ⟨p, false, noS, 0, 0⟩
def bothL : List Ent → List Fil → List (Ent × Ent)
  | [], [] => []
  | e :: l, [] => (e, gone e) :: bothL l []
  | [], f :: t => (fresh f.1, kept (fresh f.1) f.2) :: bothL [] t
  | e :: l, f :: t =>
    if e.path = f.1 then (e, kept e f.2) :: bothL l t
    else if Op.bytesLess (pth f) (epth e) then (fresh f.1, kept (fresh f.1) f.2) :: bothL (e :: l) t
    else (e, gone e) :: bothL l (f :: t)
  termination_by l t => l.length + t.length
theorem bothL_nil : bothL [] [] = [] := by rw [bothL]
theorem bothL_l (e : Ent) (l : List Ent) : bothL (e :: l) [] = (e, gone e) :: bothL l [] := by rw [bothL]
theorem bothL_t (f : Fil) (t : List Fil) : bothL [] (f :: t) = (fresh f.1, kept (fresh f.1) f.2) :: bothL [] t := by rw [bothL]
theorem bothL_eq {e : Ent} {f : Fil} (h : e.path = f.1) (l : List Ent) (t : List Fil) : bothL (e :: l) (f :: t) = (e, kept e f.2) :: bothL l t := by rw [bothL, if_pos h]
theorem bothL_lt {e : Ent} {f : Fil} (h : ¬ e.path = f.1) (hl : Op.bytesLess (pth f) (epth e) = true) (l : List Ent) (t : List Fil) : bothL (e :: l) (f :: t) = (fresh f.1, kept (fresh f.1) f.2) :: bothL (e :: l) t := by rw [bothL, if_neg h, if_pos hl]
theorem bothL_gt {e : Ent} {f : Fil} (h : ¬ e.path = f.1) (hl : Op.bytesLess (pth f) (epth e) = false) (l : List Ent) (t : List Fil) : bothL (e :: l) (f :: t) = (e, gone e) :: bothL l (f :: t) := by rw [bothL, if_neg h, if_neg (by simp [hl])]

/-- What holds of each step holds of all. -/
theorem both_ind {motive : List Ent → List Fil → List (Ent × Ent) → Prop} (h0 : motive [] [] [])
    (h1 : ∀ e l, motive l [] (bothL l []) → motive (e :: l) [] ((e, gone e) :: bothL l []))
    (h2 : ∀ f t, motive [] t (bothL [] t) → motive [] (f :: t) ((fresh f.1, kept (fresh f.1) f.2) :: bothL [] t))
    (h3 : ∀ e l f t, e.path = f.1 → motive l t (bothL l t) → motive (e :: l) (f :: t) ((e, kept e f.2) :: bothL l t))
    (h4 : ∀ e l f t, pth f < epth e → motive (e :: l) t (bothL (e :: l) t) → motive (e :: l) (f :: t) ((fresh f.1, kept (fresh f.1) f.2) :: bothL (e :: l) t))
    (h5 : ∀ e l f t, epth e < pth f → motive l (f :: t) (bothL l (f :: t)) → motive (e :: l) (f :: t) ((e, gone e) :: bothL l (f :: t))) :
    ∀ (n : Nat) (l : List Ent) (t : List Fil), l.length + t.length ≤ n → motive l t (bothL l t)
  | _, [], [], _ => by rw [bothL_nil]; exact h0
  | n + 1, e :: l, [], hn => by rw [bothL_l]; exact h1 e l (both_ind h0 h1 h2 h3 h4 h5 n l [] (by simp at hn ⊢; omega))
  | n + 1, [], f :: t, hn => by rw [bothL_t]; exact h2 f t (both_ind h0 h1 h2 h3 h4 h5 n [] t (by simp at hn ⊢; omega))
  | n + 1, e :: l, f :: t, hn => by
    by_cases h : e.path = f.1
    · rw [bothL_eq h]; exact h3 e l f t h (both_ind h0 h1 h2 h3 h4 h5 n l t (by simp at hn ⊢; omega))
    · cases hl : Op.bytesLess (pth f) (epth e) with
      | true => rw [bothL_lt h hl]; exact h4 e l f t ((less_iff _ _).1 hl) (both_ind h0 h1 h2 h3 h4 h5 n (e :: l) t (by simp at hn ⊢; omega))
      | false =>
        have hlt : epth e < pth f := by
          rcases lt_tri (epth e) (pth f) with x | x | x
          · exact x
          · exact absurd (data_inj x) h
          · rw [(less_iff _ _).2 x] at hl; cases hl
        rw [bothL_gt h hl]; exact h5 e l f t hlt (both_ind h0 h1 h2 h3 h4 h5 n l (f :: t) (by simp at hn ⊢; omega))
  | 0, _ :: _, _, hn => by simp at hn
  | 0, [], _ :: _, hn => by simp at hn

theorem both_len (l : List Ent) (t : List Fil) : (bothL l t).length ≤ l.length + t.length :=
  both_ind (motive := fun l t ps => ps.length ≤ l.length + t.length) (by simp) (fun _ _ h => by simp at h ⊢; omega) (fun _ _ h => by simp at h ⊢; omega) (fun _ _ _ _ _ h => by simp at h ⊢; omega)
    (fun _ _ _ _ _ h => by simp at h ⊢; omega) (fun _ _ _ _ _ h => by simp at h ⊢; omega) _ l t (Nat.le_refl _)
/-- What a pair is. -/
structure PairE (l : List Ent) (t : List Fil) (p : Ent × Ent) : Prop where
  path : p.2.path = p.1.path
  cl : p.2.l = p.1.l
  cr : p.2.r = p.1.r
  none : p.2.has = false → p.2.data = noS
  was : p.1 ∈ l ∨ (p.1 = fresh p.1.path ∧ p.2.has = true)
  is : p.2.has = true → (p.2.path, p.2.data) ∈ t
theorem PairE.more {l l' : List Ent} {t t' : List Fil} {p : Ent × Ent} (h : PairE l t p) (hl : ∀ e ∈ l, e ∈ l') (ht : ∀ f ∈ t, f ∈ t') : PairE l' t' p :=
  ⟨h.path, h.cl, h.cr, h.none, h.was.imp (hl _) id, fun x => ht _ (h.is x)⟩
theorem both_pair (l : List Ent) (t : List Fil) : ∀ p ∈ bothL l t, PairE l t p := by
  refine both_ind (motive := fun l t ps => ∀ p ∈ ps, PairE l t p) (by simp) ?_ ?_ ?_ ?_ ?_ _ l t (Nat.le_refl _)
  · intro e l h p hp
    rcases List.mem_cons.1 hp with rfl | hp
    · exact ⟨rfl, rfl, rfl, fun _ => rfl, .inl (by simp), (fun x => by cases x)⟩
    · exact (h p hp).more (fun _ => List.mem_cons_of_mem _) (fun _ x => x)
  · intro f t h p hp
    rcases List.mem_cons.1 hp with rfl | hp
    · exact ⟨rfl, rfl, rfl, (fun x => by cases x), .inr ⟨rfl, rfl⟩, fun _ => by simp [kept, fresh]⟩
    · exact (h p hp).more (fun _ x => x) (fun _ => List.mem_cons_of_mem _)
  · intro e l f t he h p hp
    rcases List.mem_cons.1 hp with rfl | hp
    · exact ⟨rfl, rfl, rfl, (fun x => by cases x), .inl (by simp), fun _ => by simp [kept, he]⟩
    · exact (h p hp).more (fun _ => List.mem_cons_of_mem _) (fun _ => List.mem_cons_of_mem _)
  · intro e l f t he h p hp
    rcases List.mem_cons.1 hp with rfl | hp
    · exact ⟨rfl, rfl, rfl, (fun x => by cases x), .inr ⟨rfl, rfl⟩, fun _ => by simp [kept, fresh]⟩
    · exact (h p hp).more (fun _ x => x) (fun _ => List.mem_cons_of_mem _)
  · intro e l f t he h p hp
    rcases List.mem_cons.1 hp with rfl | hp
    · exact ⟨rfl, rfl, rfl, fun _ => rfl, .inl (by simp), (fun x => by cases x)⟩
    · exact (h p hp).more (fun _ => List.mem_cons_of_mem _) (fun _ x => x)
/-- The files of both are the tree's. -/
theorem both_files (l : List Ent) (t : List Fil) : filesOf ((bothL l t).map (·.2)) = t := by
  refine both_ind (motive := fun _ t ps => filesOf (ps.map (·.2)) = t) rfl ?_ ?_ ?_ ?_ ?_ _ l t (Nat.le_refl _)
  · intro e l h; rw [List.map_cons, filesOf_cons, h]; rfl
  · intro f t h; rw [List.map_cons, filesOf_cons, h]; rfl
  · intro e l f t he h; rw [List.map_cons, filesOf_cons, h]; simp [kept, he]
  · intro e l f t _ h; rw [List.map_cons, filesOf_cons, h]; rfl
  · intro e l f t _ h; rw [List.map_cons, filesOf_cons, h]; rfl
def newB (e : Ent) : Bool := decide (e.l = 0) && decide (e.r = 0)
/-- What was there is the archive. -/
theorem both_was (l : List Ent) (t : List Fil) (hl : ∀ e ∈ l, newB e = false) : ((bothL l t).map (·.1)).filter (fun e => !newB e) = l := by
  refine both_ind (motive := fun l _ ps => (∀ e ∈ l, newB e = false) → (ps.map (·.1)).filter (fun e => !newB e) = l) (by simp) ?_ ?_ ?_ ?_ ?_ _ l t (Nat.le_refl _) hl
  · intro e l h hl; rw [List.map_cons, List.filter_cons, h fun x hx => hl x (List.mem_cons_of_mem _ hx), hl e (by simp)]; rfl
  · intro f t h hl; rw [List.map_cons, List.filter_cons, h hl]; rfl
  · intro e l f t _ h hl; rw [List.map_cons, List.filter_cons, h fun x hx => hl x (List.mem_cons_of_mem _ hx), hl e (by simp)]; rfl
  · intro e l f t _ h hl; rw [List.map_cons, List.filter_cons, h hl]; rfl
  · intro e l f t _ h hl; rw [List.map_cons, List.filter_cons, h fun x hx => hl x (List.mem_cons_of_mem _ hx), hl e (by simp)]; rfl
/-- Each path is one of the archive's, or the tree's, and all of them are there. -/
theorem both_path {l : List Ent} {t : List Fil} {x : ByteArray} : x ∈ (bothL l t).map (·.2.path) ↔ x ∈ l.map (·.path) ∨ x ∈ t.map (·.1) := by
  refine both_ind (motive := fun l t ps => x ∈ ps.map (·.2.path) ↔ x ∈ l.map (·.path) ∨ x ∈ t.map (·.1)) (by simp) ?_ ?_ ?_ ?_ ?_ _ l t (Nat.le_refl _)
  · intro e l h; simp only [List.map_cons, List.mem_cons, h, gone, List.map_nil, List.not_mem_nil, or_false]
  · intro f t h; simp only [List.map_cons, List.mem_cons, h, kept, fresh, List.map_nil, List.not_mem_nil, false_or]
  · intro e l f t he h; simp only [List.map_cons, List.mem_cons, h, kept, he]
    constructor
    · rintro (h | h | h)
      · exact .inl (.inl h)
      · exact .inl (.inr h)
      · exact .inr (.inr h)
    · rintro ((h | h) | h | h)
      · exact .inl h
      · exact .inr (.inl h)
      · exact .inl h
      · exact .inr (.inr h)
  · intro e l f t _ h; simp only [List.map_cons, List.mem_cons, kept, fresh] at h ⊢
    rw [h]
    constructor
    · rintro (h | (h | h) | h)
      · exact .inr (.inl h)
      · exact .inl (.inl h)
      · exact .inl (.inr h)
      · exact .inr (.inr h)
    · rintro ((h | h) | h | h)
      · exact .inr (.inl (.inl h))
      · exact .inr (.inl (.inr h))
      · exact .inl h
      · exact .inr (.inr h)
  · intro e l f t _ h; simp only [List.map_cons, List.mem_cons, gone] at h ⊢
    rw [h]
    exact or_assoc.symm
def SrtP (ps : List (Ent × Ent)) : Prop := ps.Pairwise fun a b => epth a.2 < epth b.2
theorem both_srt (l : List Ent) (t : List Fil) (hl : SrtE l) (ht : Srt t) : SrtP (bothL l t) := by
  have low : ∀ (l : List Ent) (t : List Fil) (x : List UInt8), (∀ e ∈ l, x < epth e) → (∀ f ∈ t, x < pth f) → ∀ p ∈ bothL l t, x < epth p.2 := by
    intro l t x h1 h2 p hp
    have := (both_path (x := p.2.path)).1 (List.mem_map.2 ⟨p, hp, rfl⟩)
    rcases this with h | h
    · obtain ⟨e, he, h⟩ := List.mem_map.1 h
      have := h1 e he
      unfold epth at this ⊢
      rw [← h]; exact this
    · obtain ⟨f, hf, h⟩ := List.mem_map.1 h
      have := h2 f hf
      unfold pth at this
      unfold epth
      rw [← h]; exact this
  refine both_ind (motive := fun l t ps => SrtE l → Srt t → SrtP ps) (fun _ _ => List.Pairwise.nil) ?_ ?_ ?_ ?_ ?_ _ l t (Nat.le_refl _) hl ht
  · intro e l h h1 h2
    have h1' := List.pairwise_cons.1 h1
    exact List.pairwise_cons.2 ⟨low l [] _ h1'.1 (by simp), h h1'.2 h2⟩
  · intro f t h h1 h2
    have h2' := List.pairwise_cons.1 h2
    exact List.pairwise_cons.2 ⟨low [] t _ (by simp) h2'.1, h h1 h2'.2⟩
  · intro e l f t he h h1 h2
    have h1' := List.pairwise_cons.1 h1
    have h2' := List.pairwise_cons.1 h2
    have e1 : epth e = pth f := by unfold epth pth; rw [he]
    exact List.pairwise_cons.2 ⟨low l t _ h1'.1 (by intro g hg; show epth e < _; rw [e1]; exact h2'.1 g hg), h h1'.2 h2'.2⟩
  · intro e l f t he h h1 h2
    have h1' := List.pairwise_cons.1 h1
    have h2' := List.pairwise_cons.1 h2
    refine List.pairwise_cons.2 ⟨low (e :: l) t _ ?_ h2'.1, h h1 h2'.2⟩
    intro g hg
    rcases List.mem_cons.1 hg with rfl | hg
    · exact he
    · exact List.lt_trans he (h1'.1 g hg)
  · intro e l f t he h h1 h2
    have h1' := List.pairwise_cons.1 h1
    have h2' := List.pairwise_cons.1 h2
    refine List.pairwise_cons.2 ⟨low l (f :: t) _ h1'.1 ?_, h h1'.2 h2⟩
    intro g hg
    rcases List.mem_cons.1 hg with rfl | hg
    · exact he
    · exact List.lt_trans he (h2'.1 g hg)

/-! ### Scan -/
def tickL (l r a : Int) : Int × Int := if odd a then (((cl l : Nat) : Int), ((up (cl r) : Nat) : Int)) else (((up (cl l) : Nat) : Int), ((cl r : Nat) : Int))
def newE (a : Int) (p : Ent × Ent) : Ent := if p.2 = p.1 then p.2 else ⟨p.2.path, p.2.has, p.2.data, (tickL p.1.l p.1.r a).1, (tickL p.1.l p.1.r a).2⟩
def stuck (a : Int) (p : Ent × Ent) : Bool := !decide (p.2 = p.1) && decide (tickL p.1.l p.1.r a = (p.1.l, p.1.r))
def okP (a : Int) (ps : List (Ent × Ent)) : Bool := decide (ps.length ≤ 32) && ps.all fun p => !stuck a p
def outP (a : Int) (ps : List (Ent × Ent)) : List Ent := ps.map (newE a)
def chgP (ps : List (Ent × Ent)) : List ByteArray := (ps.filter fun p => !decide (p.2 = p.1)).map (·.2.path)
def scanN (l : List Ent) (t : List Fil) (a : Int) : Nat := if archR l && treeR t then (if okP a (bothL l t) then 0 else 2) else 1
def scanA (l : List Ent) (t : List Fil) (a : Int) : List Ent := if scanN l t a = 0 then outP a (bothL l t) else []
def scanC (l : List Ent) (t : List Fil) (a : Int) : List ByteArray := if scanN l t a = 0 then chgP (bothL l t) else []
theorem scanN_ok {l : List Ent} {t : List Fil} {a : Int} : scanN l t a = 0 ↔ RightA l ∧ RightT t ∧ okP a (bothL l t) = true := by
  unfold scanN
  rw [← archR_iff, ← treeR_iff]
  cases archR l <;> cases treeR t <;> cases okP a (bothL l t) <;> simp
theorem scanN_arg {l : List Ent} {t : List Fil} {a : Int} (h : (archR l && treeR t) = false) : scanN l t a = 1 := by unfold scanN; rw [h]; rfl
theorem scanN_two {l : List Ent} {t : List Fil} {a : Int} (h : (archR l && treeR t) = true) : scanN l t a = if okP a (bothL l t) then 0 else 2 := by unfold scanN; rw [h]; rfl
theorem newE_path (a : Int) (p : Ent × Ent) : (newE a p).path = p.2.path := by unfold newE; split <;> rfl
theorem newE_has (a : Int) (p : Ent × Ent) : (newE a p).has = p.2.has := by unfold newE; split <;> rfl
theorem newE_data (a : Int) (p : Ent × Ent) : (newE a p).data = p.2.data := by unfold newE; split <;> rfl
end Go.Proofs.YteimgnmjmpeobaaDoor
namespace Go.Proofs.YteimgnmjmpeobaaDoor

/-- How many pieces n bytes have. -/
def cnt (n : Nat) : Nat := (n + 63) / 64
/-- The piece at i. -/
def pieL (l : List UInt8) (i : Nat) : List UInt8 := (l.drop (i * 64)).take 64
/-- The pieces. -/
def pcs (l : List UInt8) : List (List UInt8) := (List.range (cnt l.length)).map (pieL l)
theorem pcs_length (l : List UInt8) : (pcs l).length = cnt l.length := by simp [pcs]
theorem pcs_nil : pcs [] = [] := rfl
theorem cnt_add (n : Nat) : cnt (64 + n) = cnt n + 1 := by unfold cnt; omega
theorem pieL_succ (a t : List UInt8) (ha : a.length = 64) (i : Nat) : pieL (a ++ t) (i + 1) = pieL t i := by
  unfold pieL
  rw [show (i + 1) * 64 = a.length + i * 64 by omega, List.drop_append, List.drop_of_length_le (by omega)]
  simp
theorem pcs_cons (a t : List UInt8) (ha : a.length = 64) : pcs (a ++ t) = a :: pcs t := by
  unfold pcs
  rw [List.length_append, ha, cnt_add, List.range_succ_eq_map, List.map_cons, List.map_map]
  congr 1
  · unfold pieL
    simp [← ha]
  · apply List.map_congr_left
    intro i _
    exact pieL_succ a t ha i
theorem pcs_one (a : List UInt8) (h1 : 1 ≤ a.length) (h2 : a.length ≤ 64) : pcs a = [a] := by
  unfold pcs
  rw [show cnt a.length = 1 by unfold cnt; omega]
  simp [pieL, List.take_of_length_le h2]

/-- Are these some string's pieces? -/
def RightP : List (List UInt8) → Prop
  | [] => True
  | [a] => 1 ≤ a.length ∧ a.length ≤ 64
  | a :: b :: r => a.length = 64 ∧ RightP (b :: r)
theorem pcs_join : ∀ (l : List (List UInt8)), RightP l → pcs l.flatten = l
  | [], _ => rfl
  | [a], h => by simpa using pcs_one a h.1 h.2
  | a :: b :: r, h => by
    rw [List.flatten_cons, pcs_cons _ _ h.1, pcs_join (b :: r) h.2]
theorem pcs_ind {p : List UInt8 → Prop} (h0 : p []) (h1 : ∀ a, 1 ≤ a.length → a.length ≤ 64 → p a) (h2 : ∀ a t, a.length = 64 → 1 ≤ t.length → p t → p (a ++ t)) : ∀ l, p l := by
  intro l
  obtain ⟨n, hn⟩ : ∃ n, l.length ≤ n := ⟨_, Nat.le_refl _⟩
  induction n generalizing l with
  | zero => rw [List.eq_nil_of_length_eq_zero (by omega : l.length = 0)]; exact h0
  | succ n ih =>
    by_cases hz : l.length = 0
    · rw [List.eq_nil_of_length_eq_zero hz]; exact h0
    · by_cases hs : l.length ≤ 64
      · exact h1 l (by omega) hs
      · rw [← List.take_append_drop 64 l]
        exact h2 _ _ (by rw [List.length_take]; omega) (by rw [List.length_drop]; omega) (ih _ (by rw [List.length_drop]; omega))
theorem pcs_flatten (l : List UInt8) : (pcs l).flatten = l := by
  refine pcs_ind (p := fun l => (pcs l).flatten = l) rfl ?_ ?_ l
  · intro a h1 h2; simp [pcs_one a h1 h2]
  · intro a t ha _ ih; rw [pcs_cons a t ha, List.flatten_cons, ih]
theorem pcs_right (l : List UInt8) : RightP (pcs l) := by
  refine pcs_ind (p := fun l => RightP (pcs l)) trivial ?_ ?_ l
  · intro a h1 h2; rw [pcs_one a h1 h2]; exact ⟨h1, h2⟩
  · intro a t ha ht ih
    rw [pcs_cons a t ha]
    have hl := pcs_length t
    have hc : 1 ≤ cnt t.length := by unfold cnt; omega
    revert ih hl
    cases pcs t with
    | nil => intro _ hl; simp at hl; omega
    | cons b r => exact fun ih _ => ⟨ha, ih⟩
theorem pcs_append (b : List UInt8) : ∀ (k : Nat) (a : List UInt8), a.length = k * 64 → pcs (a ++ b) = pcs a ++ pcs b
  | 0, a, h => by rw [List.eq_nil_of_length_eq_zero (by omega : a.length = 0)]; rfl
  | k + 1, a, h => by
    have e : a = a.take 64 ++ a.drop 64 := (List.take_append_drop 64 a).symm
    have h1 : (a.take 64).length = 64 := by rw [List.length_take]; omega
    have h2 : (a.drop 64).length = k * 64 := by rw [List.length_drop]; omega
    rw [e, List.append_assoc, pcs_cons _ _ h1, pcs_cons _ _ h1, pcs_append b k _ h2, List.cons_append]

/-- By places: each has at most 64 bytes, the last one one at least, the others all. -/
def RightI (l : List (List UInt8)) : Prop := ∀ i (h : i < l.length), (if i = l.length - 1 then 1 else 64) ≤ l[i].length ∧ l[i].length ≤ 64
theorem right_iff : ∀ (l : List (List UInt8)), RightI l ↔ RightP l
  | [] => ⟨fun _ => trivial, fun _ i h => by simp at h⟩
  | [a] => ⟨fun h => by simpa [RightP] using h 0 (by simp), fun h i hi => by
      have : i = 0 := by simpa using hi
      subst this
      simpa [RightP] using h⟩
  | a :: b :: r => by
    rw [RightP, ← right_iff (b :: r)]
    constructor
    · intro h
      have h0 := h 0 (by simp)
      simp at h0
      refine ⟨by omega, fun i hi => ?_⟩
      have := h (i + 1) (by simpa using hi)
      simp only [List.length_cons, List.getElem_cons_succ] at this ⊢
      simp only [show (i + 1 = r.length + 1 + 1 - 1) ↔ (i = r.length + 1 - 1) by omega] at this
      exact this
    · rintro ⟨h0, h⟩ i hi
      cases i with
      | zero => simp [h0]
      | succ i =>
        have := h i (by simpa using hi)
        simp only [List.length_cons, List.getElem_cons_succ] at this ⊢
        simp only [show (i + 1 = r.length + 1 + 1 - 1) ↔ (i = r.length + 1 - 1) by omega]
        exact this

/-- A string's bytes, and back. -/
def toB (x : List UInt8) : ByteArray := ⟨x.toArray⟩
def unB (s : ByteArray) : List UInt8 := s.data.toList
theorem toB_size (x : List UInt8) : (toB x).size = x.length := by simp [toB, ByteArray.size]
theorem unB_size (s : ByteArray) : (unB s).length = s.size := by rw [unB, Array.length_toList]; rfl
theorem unB_toB (x : List UInt8) : unB (toB x) = x := by simp [toB, unB]
theorem toB_unB (s : ByteArray) : toB (unB s) = s := by simp [toB, unB]
theorem unB_inj {s t : ByteArray} (h : unB s = unB t) : s = t := by rw [← toB_unB s, ← toB_unB t, h]
theorem toB_inj {x y : List UInt8} (h : toB x = toB y) : x = y := by rw [← unB_toB x, ← unB_toB y, h]
theorem toB_append (x y : List UInt8) : toB x ++ toB y = toB (x ++ y) := unB_inj (by simp [unB, toB, ByteArray.data_append])
theorem map_unB_toB (l : List (List UInt8)) : (l.map toB).map unB = l := by
  rw [List.map_map]
  have : unB ∘ toB = id := funext unB_toB
  rw [this, List.map_id]
theorem map_toB_unB (l : List ByteArray) : (l.map unB).map toB = l := by
  rw [List.map_map]
  have : toB ∘ unB = id := funext toB_unB
  rw [this, List.map_id]

/-- The pieces of a string. -/
def pcsS (s : ByteArray) : List ByteArray := (pcs (unB s)).map toB
theorem pcsS_length (s : ByteArray) : (pcsS s).length = cnt s.size := by rw [pcsS, List.length_map, pcs_length, unB_size]
/-- The string of pieces. -/
def joinS (l : List ByteArray) : ByteArray := toB (l.map unB).flatten
def rightS (l : List ByteArray) : Prop := RightI (l.map unB)
theorem join_cut (s : ByteArray) : joinS (pcsS s) = s := by
  unfold joinS pcsS
  rw [map_unB_toB, pcs_flatten, toB_unB]
theorem cut_right (s : ByteArray) : rightS (pcsS s) := by
  unfold rightS pcsS
  rw [map_unB_toB, right_iff]
  exact pcs_right _
theorem cut_join (l : List ByteArray) (h : rightS l) : pcsS (joinS l) = l := by
  unfold joinS pcsS
  rw [unB_toB, pcs_join _ ((right_iff _).1 h), map_toB_unB]
theorem cut_append (s t : ByteArray) (k : Nat) (h : s.size = k * 64) : pcsS (s ++ t) = pcsS s ++ pcsS t := by
  have e : unB (s ++ t) = unB s ++ unB t := by simp [unB, ByteArray.data_append]
  unfold pcsS
  rw [e, pcs_append _ k _ (by rw [unB_size]; exact h), List.map_append]
end Go.Proofs.YteimgnmjmpeobaaDoor
namespace Go.Proofs.YteimgnmjmpeobaaDoor
open Go.RowKit

structure Pce where
  path : ByteArray
  has : Bool
  size : Int
  chunks : List Int
  digest : Int
  l : Int
  r : Int
structure Man where
  author : Int
  version : Int
  prev : Int
  epoch : Int
  next : Int
  seen : Int
  head : Int
  pieces : List Pce

/-! ### Which are right -/
def inN (n most : Int) : Bool := decide (0 ≤ n) && decide (n ≤ most)
theorem inN_iff {n most : Int} : inN n most = true ↔ 0 ≤ n ∧ n ≤ most := by unfold inN; rw [Bool.and_eq_true, decide_eq_true_eq, decide_eq_true_eq]
def pceR (p : Pce) : Bool := rightL p.path.data.toList && rt p.l p.r && !(decide (p.l = 0) && decide (p.r = 0)) &&
  (if p.has then inN p.size 600 && inN p.digest 4294967295 && decide (p.chunks.length = cnt p.size.toNat) && p.chunks.all (fun c => inN c 4294967295) else decide (p.size = 0) && decide (p.digest = 0) && decide (p.chunks = []))
def ppth (p : Pce) : List UInt8 := p.path.data.toList
def SrtM (ps : List Pce) : Prop := ps.Pairwise fun a b => ppth a < ppth b
def headR (m : Man) : Bool := inN m.author 1 && (decide (1 ≤ m.version) && decide (m.version ≤ 200)) && inN m.prev 4294967295 && inN m.seen 4294967295 && inN m.head 4294967295 && inN m.epoch 100 && inN m.next 100 && (decide (m.next = m.epoch) || decide (m.next = m.epoch + 1)) && decide (m.pieces.length ≤ 32)
def manR (m : Man) : Bool := headR m && m.pieces.all pceR && sortedL (m.pieces.map ppth)
structure RightPc (p : Pce) : Prop where
  path : rightL (ppth p) = true
  l0 : 0 ≤ p.l
  l1 : p.l ≤ 1073741824
  r0 : 0 ≤ p.r
  r1 : p.r ≤ 1073741824
  some : ¬ (p.l = 0 ∧ p.r = 0)
  s0 : 0 ≤ p.size
  s1 : p.size ≤ 600
  d0 : 0 ≤ p.digest
  d1 : p.digest ≤ 4294967295
  cl : p.chunks.length = cnt p.size.toNat
  cs : ∀ c ∈ p.chunks, 0 ≤ c ∧ c ≤ 4294967295
  gone : p.has = false → p.size = 0 ∧ p.digest = 0
theorem pceR_iff (p : Pce) : pceR p = true ↔ RightPc p := by
  unfold pceR rt
  simp only [Bool.and_eq_true, decide_eq_true_eq, Bool.not_eq_true', Bool.and_eq_false_iff, decide_eq_false_iff_not]
  constructor
  · rintro ⟨⟨⟨h1, h2⟩, h3⟩, h4⟩
    have hl : 0 ≤ p.l ∧ p.l ≤ 1073741824 ∧ 0 ≤ p.r ∧ p.r ≤ 1073741824 := by omega
    have hn : ¬ (p.l = 0 ∧ p.r = 0) := by omega
    cases hp : p.has with
    | true =>
      rw [hp, if_pos rfl] at h4
      simp only [Bool.and_eq_true, inN_iff, decide_eq_true_eq, List.all_eq_true] at h4
      obtain ⟨⟨⟨⟨a1, a2⟩, b1, b2⟩, c⟩, d⟩ := h4
      exact ⟨h1, hl.1, hl.2.1, hl.2.2.1, hl.2.2.2, hn, a1, a2, b1, b2, c, d, fun k => by rw [hp] at k; cases k⟩
    | false =>
      rw [hp, if_neg (by simp)] at h4
      simp only [Bool.and_eq_true, decide_eq_true_eq] at h4
      obtain ⟨⟨a, b⟩, c⟩ := h4
      exact ⟨h1, hl.1, hl.2.1, hl.2.2.1, hl.2.2.2, hn, by omega, by omega, by omega, by omega, by rw [c, a]; rfl, by rw [c]; simp, fun _ => ⟨a, b⟩⟩
  · intro h
    refine ⟨⟨⟨h.path, ?_⟩, ?_⟩, ?_⟩
    · have := h.l0; have := h.l1; have := h.r0; have := h.r1; omega
    · have := h.some; omega
    · cases hp : p.has with
      | true =>
        rw [if_pos rfl]
        simp only [Bool.and_eq_true, inN_iff, decide_eq_true_eq, List.all_eq_true]
        exact ⟨⟨⟨⟨h.s0, h.s1⟩, h.d0, h.d1⟩, h.cl⟩, h.cs⟩
      | false =>
        rw [if_neg (by simp)]
        obtain ⟨a, b⟩ := h.gone hp
        have hc := h.cl
        rw [a] at hc
        simp only [Bool.and_eq_true, decide_eq_true_eq]
        exact ⟨⟨a, b⟩, List.eq_nil_of_length_eq_zero hc⟩
structure RightM (m : Man) : Prop where
  a0 : 0 ≤ m.author
  a1 : m.author ≤ 1
  v0 : 1 ≤ m.version
  v1 : m.version ≤ 200
  p0 : 0 ≤ m.prev
  p1 : m.prev ≤ 4294967295
  s0 : 0 ≤ m.seen
  s1 : m.seen ≤ 4294967295
  h0 : 0 ≤ m.head
  h1 : m.head ≤ 4294967295
  e0 : 0 ≤ m.epoch
  e1 : m.epoch ≤ 100
  n0 : 0 ≤ m.next
  n1 : m.next ≤ 100
  ne : m.next = m.epoch ∨ m.next = m.epoch + 1
  few : m.pieces.length ≤ 32
  all : ∀ p ∈ m.pieces, RightPc p
  srt : SrtM m.pieces
theorem manR_iff (m : Man) : manR m = true ↔ RightM m := by
  unfold manR headR
  simp only [Bool.and_eq_true, inN_iff, decide_eq_true_eq, Bool.or_eq_true, List.all_eq_true, pceR_iff]
  constructor
  · rintro ⟨⟨⟨⟨⟨⟨⟨⟨⟨⟨⟨a0, a1⟩, v0, v1⟩, p0, p1⟩, s0, s1⟩, h0, h1⟩, e0, e1⟩, n0, n1⟩, ne⟩, few⟩, all⟩, srt⟩
    exact ⟨a0, a1, v0, v1, p0, p1, s0, s1, h0, h1, e0, e1, n0, n1, ne, few, all, List.pairwise_map.1 (srt_pair srt)⟩
  · intro h
    refine ⟨⟨⟨⟨⟨⟨⟨⟨⟨⟨⟨h.a0, h.a1⟩, h.v0, h.v1⟩, h.p0, h.p1⟩, h.s0, h.s1⟩, h.h0, h.h1⟩, h.e0, h.e1⟩, h.n0, h.n1⟩, h.ne⟩, h.few⟩, h.all⟩, srt_mk ?_ (List.pairwise_map.2 h.srt)⟩
    intro s hs
    obtain ⟨p, hp, rfl⟩ := List.mem_map.1 hs
    exact (h.all p hp).path

/-! ### Their bytes -/
def bitI (b : Bool) : Int := if b then 1 else 0
def intsB (l : List Int) : List UInt8 := l.flatMap numB
def pceB (p : Pce) : List UInt8 := strB p.path ++ (numB (bitI p.has) ++ (numB p.size ++ (numB p.digest ++ (numB p.l ++ (numB p.r ++ (numB p.chunks.length ++ intsB p.chunks))))))
def pcesB (ps : List Pce) : List UInt8 := ps.flatMap pceB
def manB (m : Man) : List UInt8 := numB m.author ++ (numB m.version ++ (numB m.prev ++ (numB m.epoch ++ (numB m.next ++ (numB m.seen ++ (numB m.head ++ (numB m.pieces.length ++ pcesB m.pieces)))))))
theorem intsB_length (l : List Int) : (intsB l).length = 4 * l.length := by
  induction l with
  | nil => rfl
  | cons a l ih => rw [intsB, List.flatMap_cons, List.length_append, numB_length, ← intsB, ih, List.length_cons]; omega
theorem intsB_snoc (l : List Int) (x : Int) : intsB (l ++ [x]) = intsB l ++ numB x := by simp [intsB]
theorem pcesB_cons (x : Pce) (l : List Pce) : pcesB (x :: l) = pceB x ++ pcesB l := rfl
theorem pcesB_snoc (l : List Pce) (x : Pce) : pcesB (l ++ [x]) = pcesB l ++ pceB x := by simp [pcesB]
theorem pceB_length (p : Pce) : (pceB p).length = 28 + min 16384 p.path.size + 4 * p.chunks.length := by
  unfold pceB
  simp only [List.length_append, numB_length, strB_length, intsB_length]
  omega
theorem manB_length (m : Man) : (manB m).length = 32 + (pcesB m.pieces).length := by
  unfold manB
  simp only [List.length_append, numB_length]
  omega

/-! ### What is read -/
structure Lim where
  au : Int
  ve : Int
  pr : Int
  ep : Int
  ne : Int
  se : Int
  sh : Int
  ct : Int
  pa : Int
  ha : Int
  si : Int
  di : Int
  le : Int
  ri : Int
  nc : Int
  ch : Int
structure Lim.Ok (L : Lim) : Prop where
  au : 1 ≤ L.au
  ve : 200 ≤ L.ve
  pr : 4294967295 ≤ L.pr
  ep : 100 ≤ L.ep
  ne : 100 ≤ L.ne
  se : 4294967295 ≤ L.se
  sh : 4294967295 ≤ L.sh
  ct : 32 ≤ L.ct
  pa : 51 ≤ L.pa
  ha : L.ha = 1
  si : 600 ≤ L.si
  di : 4294967295 ≤ L.di
  le : 1073741824 ≤ L.le
  ri : 1073741824 ≤ L.ri
  nc : 10 ≤ L.nc
  ch : 4294967295 ≤ L.ch
def rInts (l : List UInt8) (p : Nat) (e most : Int) : Nat → List Int × Nat × Int
  | 0 => ([], p, e)
  | k + 1 => ((rInts l p e most k).1 ++ [(rNum l (rInts l p e most k).2.1 (rInts l p e most k).2.2 most).1], (rNum l (rInts l p e most k).2.1 (rInts l p e most k).2.2 most).2)
def rPce (L : Lim) (l : List UInt8) (p : Nat) (e : Int) : Pce × Nat × Int :=
  let a := rStr l p e L.pa
  let b := rNum l a.2.1 a.2.2 L.ha
  let c := rNum l b.2.1 b.2.2 L.si
  let d := rNum l c.2.1 c.2.2 L.di
  let f := rNum l d.2.1 d.2.2 L.le
  let g := rNum l f.2.1 f.2.2 L.ri
  let h := rNum l g.2.1 g.2.2 L.nc
  let k := rInts l h.2.1 h.2.2 L.ch h.1.toNat
  (⟨toS a.1, decide (b.1 = 1), c.1, k.1, d.1, f.1, g.1⟩, k.2)
def rPces (L : Lim) (l : List UInt8) (p : Nat) (e : Int) : Nat → List Pce × Nat × Int
  | 0 => ([], p, e)
  | k + 1 => ((rPces L l p e k).1 ++ [(rPce L l (rPces L l p e k).2.1 (rPces L l p e k).2.2).1], (rPce L l (rPces L l p e k).2.1 (rPces L l p e k).2.2).2)
def rMan (L : Lim) (l : List UInt8) : Man × Nat × Int :=
  let a := rNum l 0 0 L.au
  let b := rNum l a.2.1 a.2.2 L.ve
  let c := rNum l b.2.1 b.2.2 L.pr
  let d := rNum l c.2.1 c.2.2 L.ep
  let f := rNum l d.2.1 d.2.2 L.ne
  let g := rNum l f.2.1 f.2.2 L.se
  let h := rNum l g.2.1 g.2.2 L.sh
  let i := rNum l h.2.1 h.2.2 L.ct
  let k := rPces L l i.2.1 i.2.2 i.1.toNat
  (⟨a.1, b.1, c.1, d.1, f.1, g.1, h.1, k.1⟩, k.2)

/-! ### What was written is read -/
theorem num_back {l post : List UInt8} {p : Nat} {x most : Int} (h : l.drop p = numB x ++ post) (h0 : 0 ≤ x) (h1 : x ≤ 4294967295) (hm : x ≤ most) : rNum l p 0 most = (x, p + 4, 0) ∧ l.drop (p + 4) = post := by
  have hc := clampN_in x h0 h1
  have h2 := rNum_back (most := most) h (by rw [hc]; exact hm)
  rw [hc] at h2
  exact ⟨h2, drop_more h⟩
theorem ints_back {l : List UInt8} {most : Int} : ∀ (xs : List Int) {p : Nat} {post : List UInt8}, l.drop p = intsB xs ++ post → (∀ x ∈ xs, 0 ≤ x ∧ x ≤ 4294967295 ∧ x ≤ most) → ∀ k, k ≤ xs.length → rInts l p 0 most k = (xs.take k, p + 4 * k, 0) ∧ l.drop (p + 4 * k) = intsB (xs.drop k) ++ post := by
  intro xs p post h hx k
  induction k with
  | zero => intro _; exact ⟨by simp [rInts], by simpa using h⟩
  | succ k ih =>
    intro hk
    obtain ⟨h1, h2⟩ := ih (by omega)
    have hd : xs.drop k = xs[k] :: xs.drop (k + 1) := List.drop_eq_getElem_cons (by omega)
    rw [hd, intsB, List.flatMap_cons, List.append_assoc, ← intsB] at h2
    obtain ⟨a, b, c⟩ := hx xs[k] (List.getElem_mem (by omega))
    obtain ⟨n1, n2⟩ := num_back (most := most) h2 a b c
    refine ⟨?_, by rw [show p + 4 * (k + 1) = p + 4 * k + 4 by omega]; exact n2⟩
    rw [rInts, h1, n1, List.take_add_one, List.getElem?_eq_getElem (by omega)]
    rfl
/-- What a piece's bytes tell wants of it. -/
structure FitPc (L : Lim) (x : Pce) : Prop where
  path : x.path.size ≤ 16384 ∧ (x.path.size : Int) ≤ L.pa
  si : 0 ≤ x.size ∧ x.size ≤ 4294967295 ∧ x.size ≤ L.si
  di : 0 ≤ x.digest ∧ x.digest ≤ 4294967295 ∧ x.digest ≤ L.di
  le : 0 ≤ x.l ∧ x.l ≤ 4294967295 ∧ x.l ≤ L.le
  ri : 0 ≤ x.r ∧ x.r ≤ 4294967295 ∧ x.r ≤ L.ri
  nc : (x.chunks.length : Int) ≤ 4294967295 ∧ (x.chunks.length : Int) ≤ L.nc
  ch : ∀ c ∈ x.chunks, 0 ≤ c ∧ c ≤ 4294967295 ∧ c ≤ L.ch
theorem toS_back (s : ByteArray) : toS s.data.toList = s := by simp [toS]
theorem pce_back {L : Lim} (hL : L.Ok) {l post : List UInt8} {p : Nat} {x : Pce} (h : l.drop p = pceB x ++ post) (hx : FitPc L x) : rPce L l p 0 = (x, p + (pceB x).length, 0) ∧ l.drop (p + (pceB x).length) = post := by
  have hd := drop_more h
  unfold pceB at h
  simp only [List.append_assoc] at h
  have h1 := rStr_back (most := L.pa) h hx.path.1 hx.path.2
  have d1 := drop_more h
  have hb : 0 ≤ bitI x.has ∧ bitI x.has ≤ 1 := by unfold bitI; split <;> omega
  obtain ⟨h2, d2⟩ := num_back (most := L.ha) d1 hb.1 (by omega) (by rw [hL.ha]; exact hb.2)
  obtain ⟨h3, d3⟩ := num_back (most := L.si) d2 hx.si.1 hx.si.2.1 hx.si.2.2
  obtain ⟨h4, d4⟩ := num_back (most := L.di) d3 hx.di.1 hx.di.2.1 hx.di.2.2
  obtain ⟨h5, d5⟩ := num_back (most := L.le) d4 hx.le.1 hx.le.2.1 hx.le.2.2
  obtain ⟨h6, d6⟩ := num_back (most := L.ri) d5 hx.ri.1 hx.ri.2.1 hx.ri.2.2
  obtain ⟨h7, d7⟩ := num_back (most := L.nc) d6 (by omega) hx.nc.1 hx.nc.2
  obtain ⟨h8, d8⟩ := ints_back (most := L.ch) x.chunks d7 hx.ch x.chunks.length (Nat.le_refl _)
  refine ⟨?_, hd⟩
  have hbit : decide (bitI x.has = 1) = x.has := by unfold bitI; cases x.has <;> rfl
  have hlen := pceB_length x
  have hsl := strB_length x.path
  unfold rPce
  simp only [h1, h2, h3, h4, h5, h6, h7, Int.toNat_natCast, h8, hbit, toS_back, List.take_length]
  congr 2
  omega
theorem pces_back {L : Lim} (hL : L.Ok) {l : List UInt8} : ∀ (xs : List Pce) {p : Nat} {post : List UInt8}, l.drop p = pcesB xs ++ post → (∀ x ∈ xs, FitPc L x) → ∀ k, k ≤ xs.length → rPces L l p 0 k = (xs.take k, p + (pcesB (xs.take k)).length, 0) ∧ l.drop (p + (pcesB (xs.take k)).length) = pcesB (xs.drop k) ++ post := by
  intro xs p post h hx k
  induction k with
  | zero => intro _; exact ⟨by simp [rPces, pcesB], by simpa [pcesB] using h⟩
  | succ k ih =>
    intro hk
    obtain ⟨h1, h2⟩ := ih (by omega)
    have hd : xs.drop k = xs[k] :: xs.drop (k + 1) := List.drop_eq_getElem_cons (by omega)
    rw [hd, pcesB_cons, List.append_assoc] at h2
    obtain ⟨n1, n2⟩ := pce_back hL h2 (hx xs[k] (List.getElem_mem (by omega)))
    have ht : xs.take (k + 1) = xs.take k ++ [xs[k]] := by rw [List.take_add_one, List.getElem?_eq_getElem (by omega)]; rfl
    have hl : p + (pcesB (xs.take (k + 1))).length = p + (pcesB (xs.take k)).length + (pceB xs[k]).length := by rw [ht, pcesB_snoc, List.length_append]; omega
    rw [hl]
    refine ⟨?_, n2⟩
    rw [rPces, h1, n1, ht]
/-- What a manifest's bytes tell wants of it. -/
structure FitM (L : Lim) (m : Man) : Prop where
  au : 0 ≤ m.author ∧ m.author ≤ 4294967295 ∧ m.author ≤ L.au
  ve : 0 ≤ m.version ∧ m.version ≤ 4294967295 ∧ m.version ≤ L.ve
  pr : 0 ≤ m.prev ∧ m.prev ≤ 4294967295 ∧ m.prev ≤ L.pr
  ep : 0 ≤ m.epoch ∧ m.epoch ≤ 4294967295 ∧ m.epoch ≤ L.ep
  ne : 0 ≤ m.next ∧ m.next ≤ 4294967295 ∧ m.next ≤ L.ne
  se : 0 ≤ m.seen ∧ m.seen ≤ 4294967295 ∧ m.seen ≤ L.se
  sh : 0 ≤ m.head ∧ m.head ≤ 4294967295 ∧ m.head ≤ L.sh
  ct : (m.pieces.length : Int) ≤ 4294967295 ∧ (m.pieces.length : Int) ≤ L.ct
  ps : ∀ x ∈ m.pieces, FitPc L x
theorem man_back {L : Lim} (hL : L.Ok) {l post : List UInt8} {m : Man} (h : l = manB m ++ post) (hm : FitM L m) : rMan L l = (m, (manB m).length, 0) := by
  have hlen := manB_length m
  have d0 : l.drop 0 = manB m ++ post := by rw [List.drop_zero]; exact h
  unfold manB at d0
  simp only [List.append_assoc] at d0
  obtain ⟨h1, d1⟩ := num_back (most := L.au) d0 hm.au.1 hm.au.2.1 hm.au.2.2
  obtain ⟨h2, d2⟩ := num_back (most := L.ve) d1 hm.ve.1 hm.ve.2.1 hm.ve.2.2
  obtain ⟨h3, d3⟩ := num_back (most := L.pr) d2 hm.pr.1 hm.pr.2.1 hm.pr.2.2
  obtain ⟨h4, d4⟩ := num_back (most := L.ep) d3 hm.ep.1 hm.ep.2.1 hm.ep.2.2
  obtain ⟨h5, d5⟩ := num_back (most := L.ne) d4 hm.ne.1 hm.ne.2.1 hm.ne.2.2
  obtain ⟨h6, d6⟩ := num_back (most := L.se) d5 hm.se.1 hm.se.2.1 hm.se.2.2
  obtain ⟨h7, d7⟩ := num_back (most := L.sh) d6 hm.sh.1 hm.sh.2.1 hm.sh.2.2
  obtain ⟨h8, d8⟩ := num_back (most := L.ct) d7 (by omega) hm.ct.1 hm.ct.2
  obtain ⟨h9, d9⟩ := pces_back hL m.pieces d8 hm.ps m.pieces.length (Nat.le_refl _)
  unfold rMan
  simp only [h1, h2, h3, h4, h5, h6, h7, h8, Int.toNat_natCast, h9, List.take_length]
  congr 2
  omega

/-! ### What is read, was written -/
theorem num_one {M : List UInt8} {p : Nat} {e most : Int} (h : (rNum M p e most).2.2 = 0) : e = 0 ∧ M.take p ++ numB (rNum M p e most).1 = M.take (rNum M p e most).2.1 ∧ 0 ≤ (rNum M p e most).1 ∧ (rNum M p e most).1 ≤ most ∧ (rNum M p e most).1 ≤ 4294967295 := by
  obtain ⟨h1, h2⟩ := one_num M p e most h
  refine ⟨h1, h2, ?_⟩
  rcases rNum_cases M p e most with ⟨e', he', hx⟩ | ⟨n, hn1, hn2, -, -, -, hx⟩
  · rw [hx] at h; exact absurd h he'
  · rw [hx]; dsimp only; omega
theorem ints_one {M : List UInt8} {p : Nat} {e most : Int} : ∀ k, (rInts M p e most k).2.2 = 0 → e = 0 ∧ (rInts M p e most k).1.length = k ∧ M.take p ++ intsB (rInts M p e most k).1 = M.take (rInts M p e most k).2.1
  | 0, h => ⟨h, rfl, by simp [rInts, intsB]⟩
  | k + 1, h => by
    rw [rInts] at h ⊢
    dsimp only at h ⊢
    obtain ⟨h1, h2, -⟩ := num_one h
    obtain ⟨e0, hl, ht⟩ := ints_one k h1
    refine ⟨e0, by rw [List.length_append, hl]; rfl, ?_⟩
    rw [intsB_snoc, ← List.append_assoc, ht, h2]
theorem pce_one {L : Lim} (hL : L.Ok) {M : List UInt8} {p : Nat} {e : Int} (h : (rPce L M p e).2.2 = 0) : e = 0 ∧ M.take p ++ pceB (rPce L M p e).1 = M.take (rPce L M p e).2.1 := by
  unfold rPce at h ⊢
  dsimp only at h ⊢
  generalize ha : rStr M p e L.pa = a at *
  generalize hb : rNum M a.2.1 a.2.2 L.ha = b at *
  generalize hc : rNum M b.2.1 b.2.2 L.si = c at *
  generalize hd : rNum M c.2.1 c.2.2 L.di = d at *
  generalize hf : rNum M d.2.1 d.2.2 L.le = f at *
  generalize hg : rNum M f.2.1 f.2.2 L.ri = g at *
  generalize hh : rNum M g.2.1 g.2.2 L.nc = n at *
  obtain ⟨n0, kl, kt⟩ := ints_one n.1.toNat h
  have q7 := num_one (M := M) (p := g.2.1) (e := g.2.2) (most := L.nc) (by rw [hh]; exact n0)
  rw [hh] at q7
  have q6 := num_one (M := M) (p := f.2.1) (e := f.2.2) (most := L.ri) (by rw [hg]; exact q7.1)
  rw [hg] at q6
  have q5 := num_one (M := M) (p := d.2.1) (e := d.2.2) (most := L.le) (by rw [hf]; exact q6.1)
  rw [hf] at q5
  have q4 := num_one (M := M) (p := c.2.1) (e := c.2.2) (most := L.di) (by rw [hd]; exact q5.1)
  rw [hd] at q4
  have q3 := num_one (M := M) (p := b.2.1) (e := b.2.2) (most := L.si) (by rw [hc]; exact q4.1)
  rw [hc] at q3
  have q2 := num_one (M := M) (p := a.2.1) (e := a.2.2) (most := L.ha) (by rw [hb]; exact q3.1)
  rw [hb] at q2
  have q1 := one_str M p e L.pa (by rw [ha]; exact q2.1)
  rw [ha] at q1
  refine ⟨q1.1, ?_⟩
  have hbit : bitI (decide (b.1 = 1)) = b.1 := by
    have := hL.ha
    unfold bitI
    by_cases h1 : b.1 = 1
    · rw [decide_eq_true h1, if_pos rfl, h1]
    · rw [decide_eq_false h1, if_neg (by simp)]; omega
  have hnl : ((rInts M n.2.1 n.2.2 L.ch n.1.toNat).1.length : Int) = n.1 := by rw [kl]; omega
  unfold pceB
  dsimp only
  rw [hbit, hnl, ← List.append_assoc, q1.2, ← List.append_assoc, q2.2.1, ← List.append_assoc, q3.2.1, ← List.append_assoc, q4.2.1, ← List.append_assoc, q5.2.1, ← List.append_assoc, q6.2.1, ← List.append_assoc, q7.2.1, kt]
theorem pces_one {L : Lim} (hL : L.Ok) {M : List UInt8} {p : Nat} {e : Int} : ∀ k, (rPces L M p e k).2.2 = 0 → e = 0 ∧ (rPces L M p e k).1.length = k ∧ M.take p ++ pcesB (rPces L M p e k).1 = M.take (rPces L M p e k).2.1
  | 0, h => ⟨h, rfl, by simp [rPces, pcesB]⟩
  | k + 1, h => by
    rw [rPces] at h ⊢
    dsimp only at h ⊢
    obtain ⟨h1, h2⟩ := pce_one hL h
    obtain ⟨e0, hl, ht⟩ := pces_one hL k h1
    refine ⟨e0, by rw [List.length_append, hl]; rfl, ?_⟩
    rw [pcesB_snoc, ← List.append_assoc, ht, h2]
theorem man_one {L : Lim} (hL : L.Ok) {M : List UInt8} (h : (rMan L M).2.2 = 0) : manB (rMan L M).1 = M.take (rMan L M).2.1 := by
  unfold rMan at h ⊢
  dsimp only at h ⊢
  generalize ha : rNum M 0 0 L.au = a at *
  generalize hb : rNum M a.2.1 a.2.2 L.ve = b at *
  generalize hc : rNum M b.2.1 b.2.2 L.pr = c at *
  generalize hd : rNum M c.2.1 c.2.2 L.ep = d at *
  generalize hf : rNum M d.2.1 d.2.2 L.ne = f at *
  generalize hg : rNum M f.2.1 f.2.2 L.se = g at *
  generalize hh : rNum M g.2.1 g.2.2 L.sh = n at *
  generalize hi : rNum M n.2.1 n.2.2 L.ct = i at *
  obtain ⟨i0, kl, kt⟩ := pces_one hL i.1.toNat h
  have q8 := num_one (M := M) (p := n.2.1) (e := n.2.2) (most := L.ct) (by rw [hi]; exact i0)
  rw [hi] at q8
  have q7 := num_one (M := M) (p := g.2.1) (e := g.2.2) (most := L.sh) (by rw [hh]; exact q8.1)
  rw [hh] at q7
  have q6 := num_one (M := M) (p := f.2.1) (e := f.2.2) (most := L.se) (by rw [hg]; exact q7.1)
  rw [hg] at q6
  have q5 := num_one (M := M) (p := d.2.1) (e := d.2.2) (most := L.ne) (by rw [hf]; exact q6.1)
  rw [hf] at q5
  have q4 := num_one (M := M) (p := c.2.1) (e := c.2.2) (most := L.ep) (by rw [hd]; exact q5.1)
  rw [hd] at q4
  have q3 := num_one (M := M) (p := b.2.1) (e := b.2.2) (most := L.pr) (by rw [hc]; exact q4.1)
  rw [hc] at q3
  have q2 := num_one (M := M) (p := a.2.1) (e := a.2.2) (most := L.ve) (by rw [hb]; exact q3.1)
  rw [hb] at q2
  have q1 := num_one (M := M) (p := 0) (e := 0) (most := L.au) (by rw [ha]; exact q2.1)
  rw [ha] at q1
  have q1' := q1.2.1
  rw [List.take_zero, List.nil_append] at q1'
  have hnl : ((rPces L M i.2.1 i.2.2 i.1.toNat).1.length : Int) = i.1 := by rw [kl]; omega
  unfold manB
  dsimp only
  rw [hnl, q1', ← List.append_assoc, q2.2.1, ← List.append_assoc, q3.2.1, ← List.append_assoc, q4.2.1, ← List.append_assoc, q5.2.1, ← List.append_assoc, q6.2.1, ← List.append_assoc, q7.2.1, ← List.append_assoc, q8.2.1, kt]
end Go.Proofs.YteimgnmjmpeobaaDoor
namespace Go.Proofs.YteimgnmjmpeobaaDoor
open Go.RowKit

theorem join_len1 : ∀ (ls : List (List UInt8)), ls ≠ [] → (∀ p ∈ ls, nameL p = true) → (joinL ls).length + 1 ≤ 13 * ls.length
  | [], h, _ => absurd rfl h
  | [p], _, h => by
    have := name_len (h p List.mem_cons_self)
    rw [joinL_one]
    simp only [List.length_cons, List.length_nil]
    omega
  | p :: q :: r, _, h => by
    have h1 := name_len (h p List.mem_cons_self)
    have h2 := join_len1 (q :: r) (by simp) fun x hx => h x (List.mem_cons_of_mem _ hx)
    rw [joinL_cons, List.length_append, List.length_cons]
    simp only [List.length_cons] at h2 ⊢
    omega
theorem right_len {s : List UInt8} (h : rightL s = true) : s.length ≤ 51 := by
  have h1 := fine_len h
  have h2 := join_len1 (pieces s) (pieces_ne s) (fine_all h)
  rw [join_pieces] at h2
  omega
theorem ppth_size {p : Pce} (h : RightPc p) : p.path.size ≤ 51 := by
  have := right_len h.path
  unfold ppth at this
  rw [size_list] at this
  exact this
theorem fit_pc {L : Lim} (hL : L.Ok) {x : Pce} (h : RightPc x) : FitPc L x := by
  have hp := ppth_size h
  have hs := h.s1
  have hcl := h.cl
  have hk : x.chunks.length ≤ 10 := by rw [hcl]; unfold cnt; omega
  have := hL.pa; have := hL.si; have := hL.di; have := hL.le; have := hL.ri; have := hL.nc; have := hL.ch
  have := h.l1; have := h.r1; have := h.d1
  refine ⟨⟨by omega, by omega⟩, ⟨h.s0, by omega, by omega⟩, ⟨h.d0, h.d1, by omega⟩, ⟨h.l0, by omega, by omega⟩, ⟨h.r0, by omega, by omega⟩, ⟨by omega, by omega⟩, fun c hc => ?_⟩
  have := h.cs c hc
  omega
theorem fit_m {L : Lim} (hL : L.Ok) {m : Man} (h : RightM m) : FitM L m := by
  have := hL.au; have := hL.ve; have := hL.pr; have := hL.ep; have := hL.ne; have := hL.se; have := hL.sh; have := hL.ct
  have := h.a1; have := h.v0; have := h.v1; have := h.p1; have := h.s1; have := h.h1; have := h.e1; have := h.n1; have := h.few
  exact ⟨⟨h.a0, by omega, by omega⟩, ⟨by omega, by omega, by omega⟩, ⟨h.p0, h.p1, by omega⟩, ⟨h.e0, by omega, by omega⟩, ⟨h.n0, by omega, by omega⟩, ⟨h.s0, h.s1, by omega⟩, ⟨h.h0, h.h1, by omega⟩, ⟨by omega, by omega⟩, fun x hx => fit_pc hL (h.all x hx)⟩

/-! ### Which bytes are a right manifest's -/
def zeroM : Man := ⟨0, 0, 0, 0, 0, 0, 0, []⟩
def readN (L : Lim) (M : List UInt8) : Nat := if rEnd M (rMan L M).2.1 (rMan L M).2.2 = 0 ∧ manR (rMan L M).1 = true then 0 else 4
def readA (L : Lim) (M : List UInt8) : Man := if readN L M = 0 then (rMan L M).1 else zeroM
theorem readN_zero {L : Lim} {M : List UInt8} : readN L M = 0 ↔ rEnd M (rMan L M).2.1 (rMan L M).2.2 = 0 ∧ manR (rMan L M).1 = true := by
  unfold readN
  split
  · rename_i h; exact ⟨fun _ => h, fun _ => rfl⟩
  · rename_i h; exact ⟨fun k => (by cases k), fun k => absurd k h⟩
theorem rEnd_zero {M : List UInt8} {p : Nat} {e : Int} : rEnd M p e = 0 ↔ e = 0 ∧ M.length ≤ p := by
  unfold rEnd
  by_cases h : e = 0 ∧ p < M.length
  · rw [if_pos h]; constructor
    · intro k; cases k
    · intro k; omega
  · rw [if_neg h]
    constructor
    · intro k; exact ⟨k, by omega⟩
    · exact fun k => k.1
theorem read_yes {L : Lim} (hL : L.Ok) {M : List UInt8} (h : readN L M = 0) : RightM (readA L M) ∧ manB (readA L M) = M := by
  obtain ⟨h1, h2⟩ := readN_zero.1 h
  obtain ⟨h3, h4⟩ := rEnd_zero.1 h1
  have e : readA L M = (rMan L M).1 := by unfold readA; rw [if_pos h]
  rw [e]
  refine ⟨(manR_iff _).1 h2, ?_⟩
  rw [man_one hL h3, List.take_of_length_le h4]
theorem read_no {L : Lim} {M : List UInt8} (h : readN L M ≠ 0) : readN L M = 4 ∧ readA L M = zeroM := by
  refine ⟨?_, by unfold readA; rw [if_neg h]⟩
  unfold readN at h ⊢
  split
  · rename_i k; rw [if_pos k] at h; exact absurd rfl h
  · rfl
theorem read_back {L : Lim} (hL : L.Ok) {m : Man} (h : RightM m) : readN L (manB m) = 0 ∧ readA L (manB m) = m := by
  have hb := man_back hL (l := manB m) (post := []) (by simp) (fit_m hL h)
  have h0 : readN L (manB m) = 0 := readN_zero.2 (by rw [hb]; exact ⟨rEnd_zero.2 ⟨rfl, Nat.le_refl _⟩, (manR_iff m).2 h⟩)
  exact ⟨h0, by unfold readA; rw [if_pos h0, hb]⟩
theorem man_inj {m o : Man} (h : RightM m) (k : RightM o) (e : manB m = manB o) : m = o := by
  have hL : Lim.Ok ⟨1, 200, 4294967295, 100, 100, 4294967295, 4294967295, 32, 51, 1, 600, 4294967295, 1073741824, 1073741824, 10, 4294967295⟩ := by
    constructor <;> decide
  have h1 := read_back hL h
  have h2 := read_back hL k
  rw [e] at h1
  exact h1.2.symm.trans h2.2
/-- Whichever limits: the same is read. -/
theorem read_same {L K : Lim} (hL : L.Ok) (hK : K.Ok) (M : List UInt8) : readN L M = readN K M ∧ readA L M = readA K M := by
  by_cases h : readN L M = 0
  · obtain ⟨h1, h2⟩ := read_yes hL h
    obtain ⟨h3, h4⟩ := read_back hK h1
    rw [h2] at h3 h4
    exact ⟨by rw [h, h3], h4.symm⟩
  · by_cases k : readN K M = 0
    · obtain ⟨h1, h2⟩ := read_yes hK k
      obtain ⟨h3, h4⟩ := read_back hL h1
      rw [h2] at h3
      exact absurd h3 h
    · obtain ⟨h1, h2⟩ := read_no h
      obtain ⟨k1, k2⟩ := read_no k
      exact ⟨by rw [h1, k1], by rw [h2, k2]⟩
/-- No right manifest's bytes begin another one's. -/
theorem man_pre {m o : Man} (h : RightM m) (k : RightM o) {post : List UInt8} (e : manB o = manB m ++ post) : post = [] := by
  have hL : Lim.Ok ⟨1, 200, 4294967295, 100, 100, 4294967295, 4294967295, 32, 51, 1, 600, 4294967295, 1073741824, 1073741824, 10, 4294967295⟩ := by
    constructor <;> decide
  have h1 := man_back hL (l := manB o) (post := post) e (fit_m hL h)
  have h2 := man_back hL (l := manB o) (post := []) (by simp) (fit_m hL k)
  rw [h1] at h2
  have h3 := congrArg (fun x => x.2.1) h2
  dsimp only at h3
  have h4 := congrArg List.length e
  rw [List.length_append] at h4
  exact List.eq_nil_of_length_eq_zero (by omega)
theorem cut_no {L : Lim} (hL : L.Ok) {m : Man} (h : RightM m) {cut : Nat} (hc : cut < (manB m).length) : readN L ((manB m).take cut) = 4 := by
  refine (read_no fun h0 => ?_).1
  obtain ⟨h1, h2⟩ := read_yes hL h0
  have e : manB m = manB (readA L ((manB m).take cut)) ++ (manB m).drop cut := by rw [h2, List.take_append_drop]
  have := man_pre h1 h e
  rw [List.drop_eq_nil_iff] at this
  omega
theorem more_no {L : Lim} (hL : L.Ok) {m : Man} (h : RightM m) {more : List UInt8} (hm : more ≠ []) : readN L (manB m ++ more) = 4 := by
  refine (read_no fun h0 => ?_).1
  obtain ⟨h1, h2⟩ := read_yes hL h0
  exact hm (man_pre h h1 h2)

/-! ### Lengths -/
theorem pcesB_len : ∀ (ps : List Pce), (∀ p ∈ ps, p.path.size ≤ 16384) → (pcesB ps).length = (ps.map fun p => 28 + p.path.size + 4 * p.chunks.length).sum
  | [], _ => rfl
  | p :: ps, h => by
    have h1 := h p List.mem_cons_self
    rw [pcesB_cons, List.length_append, pceB_length, pcesB_len ps fun q hq => h q (List.mem_cons_of_mem _ hq), List.map_cons, List.sum_cons]
    omega
def lenM (m : Man) : Nat := 32 + (m.pieces.map fun p => 28 + p.path.size + 4 * p.chunks.length).sum
theorem manB_len {m : Man} (h : ∀ p ∈ m.pieces, p.path.size ≤ 16384) : (manB m).length = lenM m := by rw [manB_length, pcesB_len _ h]; rfl
def filesM (m : Man) : Nat := (m.pieces.filter (·.has)).length
/-- A right manifest of as many files as may be has a bucket. -/
theorem lenM_le {m : Man} (h : RightM m) (hf : filesM m ≤ 16) : lenM m ≤ 3200 := by
  have key : ∀ (ps : List Pce), (∀ p ∈ ps, RightPc p) → (ps.map fun p => 28 + p.path.size + 4 * p.chunks.length).sum ≤ 79 * ps.length + 40 * (ps.filter (·.has)).length := by
    intro ps
    induction ps with
    | nil => intro _; simp
    | cons p ps ih =>
      intro hp
      have h1 := hp p List.mem_cons_self
      have h2 := ih fun q hq => hp q (List.mem_cons_of_mem _ hq)
      have h3 := ppth_size h1
      have h4 := h1.cl
      have h5 := h1.s1
      rw [List.map_cons, List.sum_cons, List.length_cons, List.filter_cons]
      cases hh : p.has with
      | true =>
        have : cnt p.size.toNat ≤ 10 := by unfold cnt; omega
        rw [if_pos rfl, List.length_cons]
        omega
      | false =>
        obtain ⟨a, b⟩ := h1.gone hh
        rw [a] at h4
        have : cnt (0 : Int).toNat = 0 := rfl
        rw [if_neg (by simp)]
        omega
  have := key m.pieces h.all
  have := h.few
  unfold lenM
  unfold filesM at hf
  omega

/-! ### Chunks -/
def chunksM (m : Man) : List Int := m.pieces.flatMap (·.chunks)
theorem chunks_len : ∀ (ps : List Pce), (∀ p ∈ ps, RightPc p) → (ps.flatMap (·.chunks)).length = (ps.map fun p => cnt p.size.toNat).sum
  | [], _ => rfl
  | p :: ps, h => by
    rw [List.flatMap_cons, List.length_append, chunks_len ps fun q hq => h q (List.mem_cons_of_mem _ hq), (h p List.mem_cons_self).cl, List.map_cons, List.sum_cons]
/-- With another count of chunks a piece is not right. -/
theorem chunks_no {m : Man} (h : RightM m) {j : Nat} (hj : j < m.pieces.length) {cs : List Int} (hc : cs.length ≠ m.pieces[j].chunks.length) : manR { m with pieces := m.pieces.set j { m.pieces[j] with chunks := cs } } = false := by
  refine not_true fun k => ?_
  have h1 := ((manR_iff _).1 k).all { m.pieces[j] with chunks := cs } (List.mem_iff_getElem.2 ⟨j, by simpa using hj, by simp⟩)
  have h2 := h.all m.pieces[j] (List.getElem_mem hj)
  exact hc (h1.cl.trans h2.cl.symm)
end Go.Proofs.YteimgnmjmpeobaaDoor
namespace Go.Proofs.YteimgnmjmpeobaaDoor
open Go.ChangeShapes Go.WideShapes Go.ChangeAt Go.RowKit

theorem ownKnob_none : ownKnob Tryd.prog.godebug = none := by kernel_rfl
theorem laidOut_ok : laidOutB Tryd.prog = true := by kernel_rfl

theorem trod_blocks {H : Type} {enc : TypeId × Value → H} {P : Program} {W : World} {sp : Nat → Bool} {hd : Bool} {t : TypeId} {v : Value} {d : DataW H} {p : List MemPlace} (h : DataW.Trod enc P W 0 sp hd t v d p) : ∀ x ∈ p, x.block < W.heap.size := by
  obtain ⟨m, hm⟩ := h
  exact DataW.trod_lt m _ _ _ hm

section
variable {H : Type} {enc : TypeId × Value → H} {P : Program} {W : World}

/-- A slice of integers of one kind. -/
theorem arg_ints {k : IntKind} {t e : TypeId} {base : Nat} {v : Value} {d : DataW H} {p : List MemPlace} (ht : P.underlying t = some (.slice e)) (he : P.underlying e = some (.int k)) (hc : P.cellsOf e = 1) (hv : Value.okWide P W .any base t v)
    (h : DataW.Trod enc P W 0 (fun _ => true) true t v d p) (hsz : ∀ elems spare, d = .slice elems spare → (elems.length + spare.length) * P.bytesOf e ≤ reachBytes) :
    ∃ (A : Option Addr) (c : Nat) (zs : List Int), v = .slice A zs.length c ∧ Rd W A (zs.map (Value.int k)) ∧ zs.length ≤ c ∧ c * P.bytesOf e ≤ reachBytes ∧ c ≤ maxLen ∧ ∀ n ∈ zs, (Lit.int k n).wf = true := by
  obtain ⟨a, len, cap, rfl⟩ := okWide_slice ht hv
  obtain ⟨fuel, hf⟩ := h
  rcases open_ints ht he hc hf with ⟨hcs, _⟩ | ⟨x, l, c, zs, hcs, _, hl, hm, hz, hx, hcell, hwz⟩
  · simp [Value.cells] at hcs
    obtain ⟨rfl, rfl, rfl⟩ := hcs
    exact ⟨none, 0, [], rfl, .inl rfl, Nat.le_refl _, by simp, by unfold maxLen; omega, by simp⟩
  · simp [Value.cells] at hcs
    obtain ⟨rfl, rfl, rfl⟩ := hcs
    have hz' : zs.length = cap := by simpa using hz
    have hsz' := hsz _ _ (congrArg Prod.fst hx)
    simp only [lits, List.length_map, List.length_take, List.length_drop] at hsz'
    rw [show min len zs.length + (zs.length - len) = cap by omega] at hsz'
    refine ⟨some x, cap, zs.take len, by simp; omega, .inr ⟨x, rfl, ?_⟩, by simp; omega, hsz', hm, fun n hn => hwz n (List.mem_of_mem_take hn)⟩
    intro j u hu
    have hj : j < (zs.take len).length := by have := (List.getElem?_eq_some_iff.1 hu).1; simpa using this
    rw [List.length_take] at hj
    rw [hcell j (by omega)]
    simp [show j < len by omega, show j < zs.length by omega] at hu
    simp [show j < zs.length by omega, hu]

theorem arg_bytes {t e : TypeId} {base : Nat} {v : Value} {d : DataW H} {p : List MemPlace} (ht : P.underlying t = some (.slice e)) (he : P.underlying e = some (.int .u8)) (hc : P.cellsOf e = 1) (hby : P.bytesOf e = 1) (hv : Value.okWide P W .any base t v)
    (h : DataW.Trod enc P W 0 (fun _ => true) true t v d p) (hsz : ∀ elems spare, d = .slice elems spare → (elems.length + spare.length) * P.bytesOf e ≤ reachBytes) :
    ∃ (A : Option Addr) (c : Nat) (l : List UInt8), v = .slice A l.length c ∧ Rd W A (by8 l) ∧ l.length ≤ c ∧ c ≤ 140737488351232 := by
  obtain ⟨A, c, zs, rfl, hr, h1, h2, _, h4⟩ := arg_ints ht he hc hv h hsz
  rw [hby] at h2
  have e1 : by8 (zs.map fun n => UInt8.ofNat n.toNat) = zs.map (Value.int .u8) := by
    rw [by8, List.map_map]
    refine List.map_congr_left fun n hn => ?_
    have := bounds_u8 (h4 n hn)
    simp
    omega
  refine ⟨A, c, zs.map fun n => UInt8.ofNat n.toNat, by simp, by rw [e1]; exact hr, by simpa using h1, ?_⟩
  simp only [reachBytes] at h2
  omega

theorem arg_strs {t e : TypeId} {base : Nat} {v : Value} {d : DataW H} {p : List MemPlace} (ht : P.underlying t = some (.slice e)) (he : P.underlying e = some .string) (hc : P.cellsOf e = 1) (hby : P.bytesOf e = 16) (hv : Value.okWide P W .any base t v)
    (h : DataW.Trod enc P W 0 (fun _ => true) true t v d p) (hsz : ∀ elems spare, d = .slice elems spare → (elems.length + spare.length) * P.bytesOf e ≤ reachBytes) :
    ∃ (A : Option Addr) (c : Nat) (ls : List ByteArray), v = .slice A ls.length c ∧ Rd W A (strV ls) ∧ ls.length ≤ c ∧ c * 16 ≤ 140737488351232 ∧ ∀ s ∈ ls, s.size ≤ maxLen := by
  obtain ⟨a, len, cap, rfl⟩ := okWide_slice ht hv
  obtain ⟨fuel, hf⟩ := h
  rcases open_strings ht he hc hf with ⟨hcs, _⟩ | ⟨x, l, c, zs, hcs, _, hl, hm, hz, hx, hcell, hwz⟩
  · simp [Value.cells] at hcs
    obtain ⟨rfl, rfl, rfl⟩ := hcs
    exact ⟨none, 0, [], rfl, .inl rfl, Nat.le_refl _, by omega, by simp⟩
  · simp [Value.cells] at hcs
    obtain ⟨rfl, rfl, rfl⟩ := hcs
    have hz' : zs.length = cap := by simpa using hz
    have hsz' := hsz _ _ (congrArg Prod.fst hx)
    simp only [strs, List.length_map, List.length_take, List.length_drop] at hsz'
    rw [show min len zs.length + (zs.length - len) = cap by omega, hby] at hsz'
    refine ⟨some x, cap, zs.take len, by simp; omega, .inr ⟨x, rfl, ?_⟩, by simp; omega, by simpa [reachBytes] using hsz', fun n hn => hwz n (List.mem_of_mem_take hn)⟩
    intro j u hu
    have hj : j < (zs.take len).length := by have := (List.getElem?_eq_some_iff.1 hu).1; simpa [strV] using this
    rw [List.length_take] at hj
    rw [hcell j (by omega)]
    simp [strV, show j < len by omega, show j < zs.length by omega] at hu
    simp [show j < zs.length by omega, hu]

theorem arg_int {k : IntKind} {t : TypeId} {base : Nat} {v : Value} {d : DataW H} {p : List MemPlace} (ht : P.underlying t = some (.int k)) (hv : Value.okWide P W .any base t v)
    (h : DataW.Trod enc P W 0 (fun _ => true) true t v d p) : ∃ a, v = .int k a ∧ (Lit.int k a).wf = true := by
  obtain ⟨a, rfl, rfl, rfl, w⟩ := open_int ht hv h
  exact ⟨a, rfl, w⟩
theorem arg_str {t : TypeId} {base : Nat} {v : Value} {d : DataW H} {p : List MemPlace} (ht : P.underlying t = some .string) (hv : Value.okWide P W .any base t v)
    (h : DataW.Trod enc P W 0 (fun _ => true) true t v d p) (hsz : ∀ bytes, d = .lit (.string bytes) → bytes.length ≤ reachBytes) : ∃ s : ByteArray, v = .string s ∧ s.size ≤ 140737488351232 := by
  obtain ⟨s, rfl, rfl, rfl, hs⟩ := Go.ChangeMaps.open_string ht hv h
  refine ⟨s, rfl, ?_⟩
  have h1 := hsz _ rfl
  rw [Array.length_toList] at h1
  exact h1
end
end Go.Proofs.YteimgnmjmpeobaaDoor
namespace Go.Proofs.YteimgnmjmpeobaaDoor
open Go.ChangeShapes Go.WideShapes Go.ChangeAt Go.RowKit Go.Deep

def intV (l : List Int) : List Value := l.map (Value.int .i64)
theorem intV_length (l : List Int) : (intV l).length = l.length := by simp [intV]
theorem intV_one (l : List Int) : ∀ u ∈ intV l, u.oneCell' = true := by
  intro u hu
  obtain ⟨_, _, rfl⟩ := List.mem_map.1 hu
  rfl
theorem intV_append (a b : List Int) : intV (a ++ b) = intV a ++ intV b := by simp [intV]
theorem intV_at {l : List Int} {j : Nat} (h : j < l.length) : (intV l)[j]? = some (.int .i64 l[j]) := by simp [intV, h]
theorem int_at {w : World} {B : Option Addr} {l : List Int} (h : Rd w B (intV l)) {j : Nat} (hj : j < l.length) : ∃ g o, B = some ⟨g, o, none⟩ ∧ w.cell? ⟨g, o + j, none⟩ = some (.int .i64 l[j]) ∧ g < w.heap.size := by
  obtain ⟨b, off, e, hc, hb⟩ := h.at_ (k := j) (by rw [intV_length]; exact hj)
  refine ⟨b, off, e, ?_, hb⟩
  rw [hc]; simp [intV]
/-- A piece as cells. -/
def pcV (p : Pce) (C : Option Addr) (c : Nat) : List Value := [.string p.path, .bool p.has, .int .i64 p.size, .slice C p.chunks.length c, .int .i64 p.digest, .int .i64 p.l, .int .i64 p.r]
/-- A piece lies at an address. -/
def PcAt (w : World) (ad : Addr) (p : Pce) : Prop := ∃ C c, (∀ k, k < 7 → w.cell? (ad.add k) = (pcV p C c)[k]?) ∧ Rd w C (intV p.chunks) ∧ p.chunks.length ≤ c ∧ c ≤ maxLen
/-- Pieces lie there. -/
def PcsAt (w : World) (A : Option Addr) (ps : List Pce) : Prop := ps = [] ∨ ∃ ad, A = some ad ∧ ∀ j (hj : j < ps.length), PcAt w (ad.add (j * 7)) ps[j]
/-- A manifest's pieces, and the slice's bounds. -/
structure Mt (w : World) (A : Option Addr) (c : Nat) (m : Man) : Prop where
  ps : PcsAt w A m.pieces
  cap : m.pieces.length ≤ c
  capm : c ≤ maxLen
abbrev manV (m : Man) (A : Option Addr) (c : Nat) : Value := .agg #[.int .i64 m.author, .int .i64 m.version, .int .i64 m.prev, .int .i64 m.epoch, .int .i64 m.next, .int .i64 m.seen, .int .i64 m.head, .slice A m.pieces.length c]
theorem PcAt.below {w w' : World} {ad : Addr} {p : Pce} (h : PcAt w ad p) (hb : Below w.heap.size w w') : PcAt w' ad p := by
  obtain ⟨C, c, hc, hr, h1, h2⟩ := h
  refine ⟨C, c, fun k hk => ?_, hr.below hb, h1, h2⟩
  have := hc k hk
  have hs : ∃ u, (pcV p C c)[k]? = some u := ⟨_, List.getElem?_eq_getElem (by simpa [pcV] using hk)⟩
  obtain ⟨u, hu⟩ := hs
  rw [hu] at this ⊢
  exact (hb.cell (World.block_lt_of_cell? w _ this)).trans this
theorem PcsAt.below {w w' : World} {A : Option Addr} {ps : List Pce} (h : PcsAt w A ps) (hb : Below w.heap.size w w') : PcsAt w' A ps := by
  rcases h with h | ⟨ad, ha, h⟩
  · exact .inl h
  · exact .inr ⟨ad, ha, fun j hj => (h j hj).below hb⟩
theorem Mt.below {w w' : World} {A : Option Addr} {c : Nat} {m : Man} (h : Mt w A c m) (hb : Below w.heap.size w w') : Mt w' A c m := ⟨h.ps.below hb, h.cap, h.capm⟩
theorem Mt.drewN {w : World} {A : Option Addr} {c : Nat} {m : Man} (h : Mt w A c m) (n : Nat) : Mt (w.drewN n) A c m := ⟨h.ps, h.cap, h.capm⟩
/-- The cells of the piece at j. -/
theorem PcsAt.pc {w : World} {A : Option Addr} {ps : List Pce} (h : PcsAt w A ps) {j : Nat} (hj : j < ps.length) :
    ∃ b off C c, A = some ⟨b, off, none⟩ ∧ w.cell? ⟨b, off + j * 7, none⟩ = some (.string ps[j].path) ∧ w.cell? ⟨b, off + j * 7 + 1, none⟩ = some (.bool ps[j].has) ∧ w.cell? ⟨b, off + j * 7 + 2, none⟩ = some (.int .i64 ps[j].size) ∧
      w.cell? ⟨b, off + j * 7 + 3, none⟩ = some (.slice C ps[j].chunks.length c) ∧ w.cell? ⟨b, off + j * 7 + 4, none⟩ = some (.int .i64 ps[j].digest) ∧ w.cell? ⟨b, off + j * 7 + 5, none⟩ = some (.int .i64 ps[j].l) ∧ w.cell? ⟨b, off + j * 7 + 6, none⟩ = some (.int .i64 ps[j].r) ∧
      Rd w C (intV ps[j].chunks) ∧ ps[j].chunks.length ≤ c ∧ c ≤ maxLen ∧ b < w.heap.size := by
  rcases h with rfl | ⟨ad, rfl, h⟩
  · exact absurd hj (by simp)
  · obtain ⟨C, c, hc, hr, h1, h2⟩ := h j hj
    obtain ⟨C0, c0, hc0, -⟩ := h 0 (by omega)
    have hz : w.cell? ad = some (.string ps[0].path) := by
      have := hc0 0 (by omega)
      rw [add_assoc'] at this
      simpa [Addr.add, pcV] using this
    have hs := World.cell?_spot hz
    obtain ⟨b, off, s⟩ := ad
    have : s = none := by simpa using hs
    subst this
    have g : ∀ k, k < 7 → w.cell? ⟨b, off + j * 7 + k, none⟩ = (pcV ps[j] C c)[k]? := fun k hk => by
      have := hc k hk
      rw [Addr.add_lit, Addr.add_lit] at this
      exact this
    have hb := World.block_lt_of_cell? w _ (g 0 (by omega))
    exact ⟨b, off, C, c, rfl, g 0 (by omega), g 1 (by omega), g 2 (by omega), g 3 (by omega), g 4 (by omega), g 5 (by omega), g 6 (by omega), hr, h1, h2, hb⟩

/-! ### As an argument -/
theorem list7 {α : Type} {l : List α} (h : l.length = 7) : ∃ a b c d e f g, l = [a, b, c, d, e, f, g] := by
  match l, h with
  | [a, b, c, d, e, f, g], _ => exact ⟨a, b, c, d, e, f, g, rfl⟩
theorem list6 {α : Type} {l : List α} (h : l.length = 6) : ∃ a b c d e f, l = [a, b, c, d, e, f] := by
  match l, h with
  | [a, b, c, d, e, f], _ => exact ⟨a, b, c, d, e, f, rfl⟩
theorem list8 {α : Type} {l : List α} (h : l.length = 8) : ∃ a b c d e f g i, l = [a, b, c, d, e, f, g, i] := by
  match l, h with
  | [a, b, c, d, e, f, g, i], _ => exact ⟨a, b, c, d, e, f, g, i, rfl⟩
set_option maxRecDepth 20000 in
theorem trod_ints {H : Type} {enc : TypeId × Value → H} {W : World} {base : Nat} {sp : Nat → Bool} {hd : Bool} {fuel : Nat} {u : Value} {y : DataW H × List MemPlace} (h : DataW.trod enc Tryd.prog W base sp hd fuel 27 [u] = some y) : ∃ (C : Option Addr) (c : Nat) (zs : List Int), u = .slice C zs.length c ∧ Rd W C (intV zs) ∧ zs.length ≤ c ∧ c ≤ maxLen := by
  have hci : Tryd.prog.cellsOf 3 = 1 := by kernel_rfl
  rcases open_ints Tryd.underlying27 Tryd.underlying3 hci h with ⟨hcs, _⟩ | ⟨x, l, c, zs, hcs, _, hl, hm, hz, -, hcell, -⟩
  · injection hcs with hcs
    subst hcs
    exact ⟨none, 0, [], rfl, .inl rfl, Nat.le_refl _, by unfold maxLen; omega⟩
  · injection hcs with hcs
    subst hcs
    have hzl : l ≤ zs.length := by rw [hz]; split <;> omega
    refine ⟨some x, c, zs.take l, by rw [List.length_take]; congr 1; omega, .inr ⟨x, rfl, fun j v hv => ?_⟩, by rw [List.length_take]; omega, hm⟩
    have hj := (List.getElem?_eq_some_iff.1 hv).1
    rw [intV_length, List.length_take] at hj
    rw [hcell j (by omega)]
    rw [intV_at (by rw [List.length_take]; exact hj), List.getElem_take] at hv
    rw [← hv]
    simp [List.getD, show j < zs.length by omega]
set_option maxRecDepth 20000 in
theorem trod_pce {H : Type} {enc : TypeId × Value → H} {W : World} {base : Nat} {sp : Nat → Bool} {hd : Bool} {fuel : Nat} {cs : List Value} {y : DataW H × List MemPlace} (h : DataW.trod enc Tryd.prog W base sp hd fuel 57 cs = some y) :
    ∃ (p : Pce) (C : Option Addr) (c : Nat), cs = pcV p C c ∧ Rd W C (intV p.chunks) ∧ p.chunks.length ≤ c ∧ c ≤ maxLen := by
  have hct : Tryd.prog.cellsOf 57 = 7 := by kernel_rfl
  have hcs : Tryd.prog.cellsOf 9 = 1 := by kernel_rfl
  have hcb : Tryd.prog.cellsOf 4 = 1 := by kernel_rfl
  have hci : Tryd.prog.cellsOf 3 = 1 := by kernel_rfl
  have hcl : Tryd.prog.cellsOf 27 = 1 := by kernel_rfl
  have hcp : Tryd.prog.cellsOf 55 = 2 := by kernel_rfl
  obtain ⟨xs, n, -, -, hl, hlen, hf⟩ := DataW.trod_struct Tryd.underlying57 h
  rw [hct] at hl
  obtain ⟨u0, u1, u2, u3, u4, u5, u6, rfl⟩ := list7 hl
  obtain ⟨y0, y1, y2, y3, y4, y5, rfl⟩ := list6 (hlen.trans rfl)
  have h0 := hf 0 _ rfl
  have h1 := hf 1 _ rfl
  have h2 := hf 2 _ rfl
  have h3 := hf 3 _ rfl
  have h4 := hf 4 _ rfl
  have h5 := hf 5 _ rfl
  simp only [List.getElem?_cons_zero, List.getElem?_cons_succ] at h0 h1 h2 h3 h4 h5
  obtain ⟨z0, e0, -⟩ := DataW.trod_string Tryd.underlying9 h0
  obtain ⟨z1, e1, -⟩ := DataW.trod_bool Tryd.underlying4 h1
  obtain ⟨z2, e2, -⟩ := DataW.trod_int Tryd.underlying3 h2
  obtain ⟨z4, e4, -⟩ := DataW.trod_int Tryd.underlying3 h4
  obtain ⟨x0, x1, m, -, -, g0, g1⟩ := trod_struct2 Tryd.underlying55 h5
  obtain ⟨z5, e5, -⟩ := DataW.trod_int Tryd.underlying3 g0
  obtain ⟨z6, e6, -⟩ := DataW.trod_int Tryd.underlying3 g1
  simp [hcl] at h3
  obtain ⟨C, c, zs, e3, hr, hle, hm⟩ := trod_ints h3
  simp [hci] at e2 e4
  simp [hci, hcp] at e5 e6
  simp [hcs] at e0
  simp [hcb] at e1
  exact ⟨⟨z0, z1, z2, zs, z4, z5, z6⟩, C, c, by rw [e0, e1, e2, e3, e4, e5, e6]; rfl, hr, hle, hm⟩
set_option maxRecDepth 20000 in
theorem trod_pces {H : Type} {enc : TypeId × Value → H} {W : World} {sp : Nat → Bool} {hd : Bool} {fuel : Nat} {u : Value} {y : DataW H × List MemPlace} (h : DataW.trod enc Tryd.prog W 0 sp hd fuel 24 [u] = some y) :
    ∃ (A : Option Addr) (c : Nat) (ps : List Pce), u = .slice A ps.length c ∧ PcsAt W A ps ∧ ps.length ≤ c ∧ c ≤ maxLen := by
  have hct : Tryd.prog.cellsOf 57 = 7 := by kernel_rfl
  rcases open_slice Tryd.underlying24 h with ⟨hcs, _⟩ | ⟨x, l, c, m, n, D, Pl, hcs, _, hl, hm, hmm, -, hcell⟩
  · injection hcs with hcs
    subst hcs
    exact ⟨none, 0, [], rfl, .inl rfl, Nat.le_refl _, by unfold maxLen; omega⟩
  · injection hcs with hcs
    subst hcs
    have hlm : l ≤ m := by rw [hmm]; split <;> omega
    have one : ∀ i, ∃ p : Pce, i < l → PcAt W (x.add (i * 7)) p := by
      intro i
      by_cases hi : i < l
      · obtain ⟨cs', hc1, hc2⟩ := hcell i (by omega)
        rw [hct] at hc1
        obtain ⟨-, hl2, hg⟩ := World.cells?_some hc1
        obtain ⟨p, C, c', rfl, hr, h1, h2⟩ := trod_pce hc2
        exact ⟨p, fun _ => ⟨C, c', fun k hk => hg k (by simpa [pcV] using hk), hr, h1, h2⟩⟩
      · exact ⟨⟨noS, false, 0, [], 0, 0, 0⟩, fun h => absurd h hi⟩
    obtain ⟨B, hB⟩ := Classical.axiomOfChoice one
    refine ⟨some x, c, (List.range l).map B, by simp, .inr ⟨x, rfl, fun j hj => ?_⟩, by simpa using hl, hm⟩
    have hj' : j < l := by simpa using hj
    have := hB j hj'
    simpa using this
set_option maxRecDepth 100000 in
theorem arg_man {H : Type} {enc : TypeId × Value → H} {W : World} {base : Nat} {v : Value} {d : DataW H} {p : List MemPlace} (hv : Value.okWide Tryd.prog W .any base 26 v)
    (h : DataW.Trod enc Tryd.prog W 0 (fun _ => true) true 26 v d p) : ∃ (A : Option Addr) (c : Nat) (m : Man), v = manV m A c ∧ Mt W A c m := by
  have hct : Tryd.prog.cellsOf 26 = 8 := by kernel_rfl
  have hci : Tryd.prog.cellsOf 3 = 1 := by kernel_rfl
  have hcl : Tryd.prog.cellsOf 24 = 1 := by kernel_rfl
  obtain ⟨cs, rfl, hsz⟩ := okWide_struct Tryd.underlying26 hv
  obtain ⟨fuel, hF⟩ := h
  obtain ⟨xs, n, -, -, hl, hlen, hf⟩ := DataW.trod_struct Tryd.underlying26 hF
  rw [hct] at hl
  obtain ⟨u0, u1, u2, u3, u4, u5, u6, u7, hcs⟩ := list8 hl
  obtain ⟨y0, y1, y2, y3, y4, y5, y6, y7, rfl⟩ := list8 (hlen.trans rfl)
  have h0 := hf 0 _ rfl
  have h1 := hf 1 _ rfl
  have h2 := hf 2 _ rfl
  have h3 := hf 3 _ rfl
  have h4 := hf 4 _ rfl
  have h5 := hf 5 _ rfl
  have h6 := hf 6 _ rfl
  have h7 := hf 7 _ rfl
  simp only [List.getElem?_cons_zero, List.getElem?_cons_succ, hcs] at h0 h1 h2 h3 h4 h5 h6 h7
  obtain ⟨z0, e0, -⟩ := DataW.trod_int Tryd.underlying3 h0
  obtain ⟨z1, e1, -⟩ := DataW.trod_int Tryd.underlying3 h1
  obtain ⟨z2, e2, -⟩ := DataW.trod_int Tryd.underlying3 h2
  obtain ⟨z3, e3, -⟩ := DataW.trod_int Tryd.underlying3 h3
  obtain ⟨z4, e4, -⟩ := DataW.trod_int Tryd.underlying3 h4
  obtain ⟨z5, e5, -⟩ := DataW.trod_int Tryd.underlying3 h5
  obtain ⟨z6, e6, -⟩ := DataW.trod_int Tryd.underlying3 h6
  simp [hci] at e0 e1 e2 e3 e4 e5 e6
  simp [hcl] at h7
  obtain ⟨A, c, ps, e7, hp, hle, hm⟩ := trod_pces h7
  refine ⟨A, c, ⟨z0, z1, z2, z3, z4, z5, z6, ps⟩, ?_, ⟨hp, hle, hm⟩⟩
  have : cs.toList = [u0, u1, u2, u3, u4, u5, u6, u7] := by simpa [Value.cells] using hcs
  rw [show cs = #[u0, u1, u2, u3, u4, u5, u6, u7] by rw [← Array.toArray_toList (xs := cs), this], e0, e1, e2, e3, e4, e5, e6, e7]
end Go.Proofs.YteimgnmjmpeobaaDoor
namespace Go.Proofs.YteimgnmjmpeobaaDoor
open Go.RowKit

abbrev pcA (p : Pce) (C : Option Addr) (c : Nat) : Value := .agg #[.string p.path, .bool p.has, .int .i64 p.size, .slice C p.chunks.length c, .int .i64 p.digest, .int .i64 p.l, .int .i64 p.r]

theorem rwithin_any (n most : Int) (w : World) : Calls Tryd.prog 36 #[.int .i64 n, .int .i64 most] w fun e w' => e = .returned (.bool (inN n most)) ∧ w = w' := by
  by_cases h0 : 0 ≤ n
  · by_cases h1 : n ≤ most
    · have HE : Hid (inN n most = true) := inN_iff.2 ⟨h0, h1⟩
      go_enter Tryd.func36, Tryd.ntmps36
      go_wp2
      go_ret
      exact ⟨ret_bool HE.out.symm, rfl⟩
    · have HE : Hid (inN n most = false) := not_true fun k => h1 (inN_iff.1 k).2
      go_enter Tryd.func36, Tryd.ntmps36
      go_wp2
      go_ret
      exact ⟨ret_bool HE.out.symm, rfl⟩
  · have HE : Hid (inN n most = false) := not_true fun k => h0 (inN_iff.1 k).1
    go_enter Tryd.func36, Tryd.ntmps36
    go_wp2
    go_ret
    exact ⟨ret_bool HE.out.symm, rfl⟩

set_option maxHeartbeats 1000000 in
theorem rints_any (A B : Option Addr) (n m c d : Nat) (xs ys : List Int) (w : World) (hl : xs.length = n) (hl2 : ys.length = m) (hr : Rd w A (intV xs)) (hr2 : Rd w B (intV ys)) (hn : n ≤ 9223372036854775807) :
    Calls Tryd.prog 25 #[.slice A n c, .slice B m d] w fun e w' => e = .returned (.bool (decide (xs = ys))) ∧ Below w.heap.size w w' := by
  by_cases hnm : n = m
  · subst hnm
    have HL := hid hl
    have HL2 := hid hl2
    clear hl hl2
    go_enter Tryd.func25, Tryd.ntmps25
    go_wp2_with fail
    go_loopw [5] (fun i wr => ∃ j : Nat, j ≤ n ∧ i = .int .i64 j ∧ Hid (xs.take j = ys.take j) ∧ ∃ q, wr = w.drewN q) (fun i _ => n - (intOf i).toNat)
    case atStart => exact ⟨0, by omega, rfl, rfl, 0, rfl⟩
    case round =>
      obtain ⟨j, hj, rfl, HT, q, rfl⟩ := hrel
      by_cases hjn : j < n
      · have hjl : j < xs.length := by rw [HL.out]; exact hjn
        have hjl2 : j < ys.length := by rw [HL2.out]; exact hjn
        obtain ⟨b, off, rfl, x0, -⟩ := int_at hr hjl
        obtain ⟨b2, off2, rfl, y0, -⟩ := int_at hr2 hjl2
        have hz : (0 : Int) ≤ j := by omega
        have hlt : (j : Int) < n := by omega
        have HXY : Hid (xs.take (j + 1) = ys.take (j + 1) ↔ xs[j] = ys[j]) := by
          show _ ↔ _
          have e1 : xs.take (j + 1) = ys.take j ++ [xs[j]] := by rw [List.take_add_one, List.getElem?_eq_getElem hjl, HT.out]; rfl
          have e2 : ys.take (j + 1) = ys.take j ++ [ys[j]] := by rw [List.take_add_one, List.getElem?_eq_getElem hjl2]; rfl
          rw [e1, e2]
          exact ⟨fun h => by have := List.append_cancel_left h; injection this, fun h => by rw [h]⟩
        have HNE : Hid (xs[j] ≠ ys[j] → decide (xs = ys) = false) := fun h => decide_eq_false fun e => h (by subst e; rfl)
        generalize xs[j] = x at *
        generalize ys[j] = y at *
        by_cases hq : x = y
        · have HT2 : Hid (xs.take (j + 1) = ys.take (j + 1)) := HXY.out.2 hq
          subst hq
          clear HXY HNE HT
          go_wp2_with fail
          go_quiet (fail)
          go_wp2
          go_roundw
          case rel => exact ⟨j + 1, by omega, by go_num, HT2, _, rfl⟩
          case measure => simp [intOf]; omega
        · have HF : Hid (decide (xs = ys) = false) := HNE.out hq
          have hqb : (x == y) = false := by simp [hq]
          clear HXY HNE HT
          go_wp2_with fail
          go_quiet (fail)
          go_wp2
          go_ret
          exact ⟨ret_bool HF.out.symm, ⟨rfl, rfl, rfl, Nat.le_refl _, fun _ _ => rfl⟩⟩
      · have HE := hid (show j = n by omega)
        have hnlt : ¬ (j : Int) < n := by omega
        have HF : Hid (decide (xs = ys) = true) := by
          refine decide_eq_true ?_
          have h1 := HT.out
          rw [HE.out] at h1
          rw [← List.take_of_length_le (l := xs) (i := n) (by rw [HL.out]; omega), h1, List.take_of_length_le (by rw [HL2.out]; omega)]
        go_wp2
        go_ret
        exact ⟨ret_bool HF.out.symm, ⟨rfl, rfl, rfl, Nat.le_refl _, fun _ _ => rfl⟩⟩
  · have HF : Hid (decide (xs = ys) = false) := decide_eq_false fun e => hnm (by rw [← hl, ← hl2, e])
    have hne : ((n : Int) == (m : Int)) = false := by simp; omega
    have hne2 : ¬ (n : Int) = m := by omega
    go_enter Tryd.func25, Tryd.ntmps25
    go_wp2
    go_ret
    exact ⟨ret_bool HF.out.symm, Below.refl _ _⟩

/-! ### Small enough -/
theorem all_more {α : Type} (q : α → Bool) (l : List α) (j : Nat) (h : j < l.length) : (l.take (j + 1)).all q = ((l.take j).all q && q l[j]) := by
  rw [List.take_add_one, List.getElem?_eq_getElem h, List.all_append]; simp
def fewP1 (p : Pce) : Bool := decide (p.path.size ≤ 200) && decide (p.chunks.length ≤ 30)
def fewM (m : Man) : Bool := decide (m.pieces.length ≤ 60) && m.pieces.all fewP1
theorem fewM_sz {m : Man} (h : fewM m = true) : m.pieces.length ≤ 60 ∧ ∀ p ∈ m.pieces, p.path.size ≤ 200 ∧ p.chunks.length ≤ 30 := by
  simp only [fewM, fewP1, Bool.and_eq_true, decide_eq_true_eq, List.all_eq_true] at h
  exact h
set_option maxHeartbeats 1000000 in
theorem fewM_any {w : World} {A : Option Addr} {c : Nat} {m : Man} (h : Mt w A c m) : Calls Tryd.prog 20 #[manV m A c] w fun e w' => e = .returned (.bool (fewM m)) ∧ Below w.heap.size w w' := by
  obtain ⟨au, ve, pr, ep, ne, se, he, ps⟩ := m
  obtain ⟨hps, hcap, hcm⟩ := h
  dsimp only at hps hcap
  unfold manV
  dsimp only
  have hal : ∀ (W : World) (o : Obj), Below W.heap.size W (W.alloc o) := fun W o => (Below.refl _ _).alloc (Nat.le_refl _) o
  have HF : Hid (fewM ⟨au, ve, pr, ep, ne, se, he, ps⟩ = (decide (ps.length ≤ 60) && ps.all fewP1)) := rfl
  have hpb := hps.below (hal w (.cells #[.int .i64 au, .int .i64 ve, .int .i64 pr, .int .i64 ep, .int .i64 ne, .int .i64 se, .int .i64 he, .slice A ps.length c] 26))
  have bb := hal w (.cells #[.int .i64 au, .int .i64 ve, .int .i64 pr, .int .i64 ep, .int .i64 ne, .int .i64 se, .int .i64 he, .slice A ps.length c] 26)
  generalize hn : ps.length = n at *
  have HN := hid hn
  clear hn hps
  by_cases h60 : (60 : Int) < n
  · have HB : Hid (fewM ⟨au, ve, pr, ep, ne, se, he, ps⟩ = false) := by show _ = _; rw [HF.out, decide_eq_false (by omega)]; rfl
    go_enter Tryd.func20, Tryd.ntmps20
    go_wp2
    go_ret
    exact ⟨ret_bool HB.out.symm, bb⟩
  · go_enter Tryd.func20, Tryd.ntmps20
    go_wp2_with fail
    go_loop [3] (fun i => ∃ j : Nat, j ≤ n ∧ i = .int .i64 j ∧ Hid ((ps.take j).all fewP1 = true)) (fun i => n - (intOf i).toNat)
    case atStart => exact ⟨0, by omega, rfl, by simp [Hid]⟩
    case round =>
      obtain ⟨j, hj, rfl, HO⟩ := hrel
      by_cases hjn : j < n
      · have hjl : j < ps.length := by rw [HN.out]; exact hjn
        obtain ⟨b, off, C, cc, rfl, x0, -, -, x3, -, -, -, -, -, -, -⟩ := hpb.pc hjl
        have HK := hid (all_more fewP1 ps j hjl)
        have HNO : Hid (fewP1 ps[j] = false → (decide (n ≤ 60) && ps.all fewP1) = false) := fun k => by
          refine not_true fun e => ?_
          rw [Bool.and_eq_true, List.all_eq_true] at e
          rw [e.2 _ (List.getElem_mem hjl)] at k
          cases k
        have hz : (0 : Int) ≤ j := by omega
        have hlt : (j : Int) < n := by omega
        generalize ps[j] = p at *
        obtain ⟨pp, ph, ps', pc, pd, pl, prr⟩ := p
        dsimp only at x0 x3
        by_cases hx : (200 : Int) < pp.size
        · have HB : Hid (fewM ⟨au, ve, pr, ep, ne, se, he, ps⟩ = false) := by show _ = _; rw [HF.out]; exact HNO.out (by simp [fewP1]; omega)
          go_wp2
          go_ret
          exact ⟨ret_bool HB.out.symm, bb⟩
        · by_cases hd : (30 : Int) < pc.length
          · have HB : Hid (fewM ⟨au, ve, pr, ep, ne, se, he, ps⟩ = false) := by show _ = _; rw [HF.out]; exact HNO.out (by simp [fewP1]; omega)
            go_wp2
            go_ret
            exact ⟨ret_bool HB.out.symm, bb⟩
          · have HO2 : Hid ((ps.take (j + 1)).all fewP1 = true) := by show _ = _; rw [HK.out, HO.out]; simp [fewP1]; omega
            go_wp2
            go_round
            case rel => exact ⟨j + 1, by omega, by go_num, HO2⟩
            case measure => simp [intOf]; omega
      · have HE := hid (show j = n by omega)
        have hnlt : ¬ (j : Int) < n := by omega
        have HB : Hid (fewM ⟨au, ve, pr, ep, ne, se, he, ps⟩ = true) := by
          have ho := HO.out
          rw [HE.out, ← HN.out, List.take_length] at ho
          show _ = _
          rw [HF.out, ho, decide_eq_true (by omega)]; rfl
        go_wp2
        go_ret
        exact ⟨ret_bool HB.out.symm, bb⟩
end Go.Proofs.YteimgnmjmpeobaaDoor
namespace Go.Proofs.YteimgnmjmpeobaaDoor
open Go.RowKit

/-- append(v, x...), v the call's own, elements of one cell. -/
theorem run_app {P : Program} (w : World) (base : Nat) (t ty e : TypeId) (z : Value) (bytes : Nat) (ht : P.underlying t = some (.slice e)) (hinf : (P.info? e).map (fun i => (i.zero, i.size, i.bytes)) = some (some z, 1, bytes)) (hz : z.cells.size = 1)
    (A : Option Addr) (n c : Nat) (xs : List Value) (hown : w.ownsRow base e 1 (.slice A n c) n xs)
    (B : Option Addr) (m d : Nat) (news : List Value) (hl : news.length = m) (hr : Rd w B news) (h1 : ∀ u ∈ news, u.oneCell' = true)
    (hbytes : (n + m) * bytes ≤ 140737488355328) (hbase : base ≤ w.heap.size) (h63 : n + m ≤ maxLen) :
    ∃ A' c' w', (Builtin.append_ #[t, t] ty #[.slice A n c, .slice B m d]).run P w = .ok (.slice A' (n + m) c') w' ∧ w'.ownsRow base e 1 (.slice A' (n + m) c') (n + m) (xs ++ news) ∧ w.grownBy w' (Value.slice A n c).ownBlock := by
  obtain ⟨i, hi, hz0, hz1, hz2⟩ := info_parts hinf
  have own : ∀ ad, (∀ j u, news[j]? = some u → w.cell? (ad.add j) = some u) → ∃ A' c' w', (Builtin.append_ #[t, t] ty #[.slice A n c, .slice (some ad) m d]).run P w = .ok (.slice A' (n + m) c') w' ∧ w'.ownsRow base e 1 (.slice A' (n + m) c') (n + m) (xs ++ news) ∧ w.grownBy w' (Value.slice A n c).ownBlock := by
    intro ad hc
    obtain ⟨v', w', h2, h3, h4, _⟩ := run_append_own (P := P) w base t ty e i z 1 bytes ht hi hz0 hz1 hz2 hz (by decide) _ n xs hown ad m d news (by omega) hc h1 h63 hbytes hbase
    obtain ⟨_, A', c', rfl, _⟩ := own_form h3
    exact ⟨A', c', w', h2, h3, h4⟩
  rcases hr with rfl | ⟨ad, rfl, hc⟩
  · have hm : m = 0 := by simpa using hl.symm
    subst hm
    cases B with
    | none => exact ⟨A, c, w, run_app_nil (P := P) w base t ty e i ht hi _ n xs hown d, by simpa using hown, World.grownBy.refl _ _⟩
    | some ad => exact own ad (by simp)
  · exact own ad hc

/-- append where the order is open: its run is known. -/
theorem stepApp {P : Program} {w w' : World} {ops : Array Oper} {o : Oper} {a : Act} {K : Act → World → Prop} {Q : Exit → Act → World → Prop} {E : Prop} (hw : Region.wanted o (yielded ops a.tmps) = true) (s x : Operand) (t : TypeId)
    (ho : o.op = .call { callee := .builtin .append, args := #[s, x], argTypes := #[t, t] }) (v1 v2 v : Value) (hs : a.eval s = v1) (hx : a.eval x = v2)
    (hrun : (Builtin.append_ #[t, t] o.type #[v1, v2]).run P w = .ok v w') (h : K (a.put o.dst v) w') : if Region.wanted o (yielded ops a.tmps) = true then Oper.wp P o a w K Q else E := by
  rw [if_pos hw]
  unfold Oper.wp
  simp [execOp, ho, resolve, invoke, builtin, hs, hx, hrun, Result.andThen]
  exact h

/-- append behind a guard that holds: its run is known. -/
theorem wpAppG {P : Program} {w w' : World} {ops : Array Oper} {rest : List Oper} {o : Oper} {a : Act} {Q : Exit → Act → World → Prop} (hw : Region.wanted o (yielded ops a.tmps) = true) (s x : Operand) (t : TypeId)
    (ho : o.op = .call { callee := .builtin .append, args := #[s, x], argTypes := #[t, t] }) (v1 v2 v : Value) (hs : a.eval s = v1) (hx : a.eval x = v2)
    (hrun : (Builtin.append_ #[t, t] o.type #[v1, v2]).run P w = .ok v w') (h : wpList P ops Q rest (a.put o.dst v) w') : wpList P ops Q (o :: rest) a w :=
  wpList_step fun _ hK => stepApp hw s x t ho v1 v2 v hs hx hrun (hK _ _ h)

end Go.Proofs.YteimgnmjmpeobaaDoor
namespace Go.Proofs.YteimgnmjmpeobaaDoor
open Go.RowKit

theorem Pce.same {a b : Pce} (h1 : a.path = b.path) (h2 : a.has = b.has) (h3 : a.size = b.size) (h4 : a.chunks = b.chunks) (h5 : a.digest = b.digest) (h6 : a.l = b.l) (h7 : a.r = b.r) : a = b := by
  cases a; cases b; simp only at h1 h2 h3 h4 h5 h6 h7; subst h1 h2 h3 h4 h5 h6 h7; rfl
instance pceDec : DecidableEq Pce := fun a b =>
  decidable_of_iff (a.path = b.path ∧ a.has = b.has ∧ a.size = b.size ∧ a.chunks = b.chunks ∧ a.digest = b.digest ∧ a.l = b.l ∧ a.r = b.r)
    ⟨fun h => Pce.same h.1 h.2.1 h.2.2.1 h.2.2.2.1 h.2.2.2.2.1 h.2.2.2.2.2.1 h.2.2.2.2.2.2, fun h => by subst h; exact ⟨rfl, rfl, rfl, rfl, rfl, rfl, rfl⟩⟩
theorem Man.same {a b : Man} (h1 : a.author = b.author) (h2 : a.version = b.version) (h3 : a.prev = b.prev) (h4 : a.epoch = b.epoch) (h5 : a.next = b.next) (h6 : a.seen = b.seen) (h7 : a.head = b.head) (h8 : a.pieces = b.pieces) : a = b := by
  cases a; cases b; simp only at h1 h2 h3 h4 h5 h6 h7 h8; subst h1 h2 h3 h4 h5 h6 h7 h8; rfl
instance manDec : DecidableEq Man := fun a b =>
  decidable_of_iff (a.author = b.author ∧ a.version = b.version ∧ a.prev = b.prev ∧ a.epoch = b.epoch ∧ a.next = b.next ∧ a.seen = b.seen ∧ a.head = b.head ∧ a.pieces = b.pieces)
    ⟨fun h => Man.same h.1 h.2.1 h.2.2.1 h.2.2.2.1 h.2.2.2.2.1 h.2.2.2.2.2.1 h.2.2.2.2.2.2.1 h.2.2.2.2.2.2.2, fun h => by subst h; exact ⟨rfl, rfl, rfl, rfl, rfl, rfl, rfl, rfl⟩⟩
theorem Tryd.infoI : (Tryd.prog.info? 3).map (fun i => (i.zero, i.size, i.bytes)) = some (some (.int .i64 0), 1, 8) := by kernel_rfl
theorem chunks_more (ps : List Pce) (j : Nat) (h : j < ps.length) : (ps.take (j + 1)).flatMap (·.chunks) = (ps.take j).flatMap (·.chunks) ++ ps[j].chunks := by
  rw [List.take_add_one, List.getElem?_eq_getElem h, List.flatMap_append]; simp
theorem chunks_le : ∀ (ps : List Pce), (∀ p ∈ ps, p.chunks.length ≤ 1000) → (ps.flatMap (·.chunks)).length ≤ 1000 * ps.length
  | [], _ => by simp
  | p :: ps, h => by
    have h1 := h p List.mem_cons_self
    have h2 := chunks_le ps fun q hq => h q (List.mem_cons_of_mem _ hq)
    rw [List.flatMap_cons, List.length_append, List.length_cons]
    omega
theorem own_below1 {W W' : World} {base : Nat} {e : TypeId} {sz k : Nat} {v : Value} {xs : List Value} (h : W.ownsRow base e sz v k xs) (hb : Below W.heap.size W W') : W'.ownsRow base e sz v k xs := by
  refine h.kept (grown_below (row := none) hb) ?_
  rcases h.2 with ⟨e, -⟩ | ⟨g, cap', cur, e, -⟩
  · exact .inl (by rw [e]; rfl)
  · exact .inr (by rw [e]; simp [Value.ownBlock])
theorem own_low1 {w : World} {base base' : Nat} {e : TypeId} {sz : Nat} {v : Value} {n : Nat} {xs : List Value} (h : w.ownsRow base e sz v n xs) (hb : base' ≤ base) : w.ownsRow base' e sz v n xs := by
  refine ⟨h.1, ?_⟩
  rcases h.2 with h2 | ⟨g, cap, cur, h2, h3, h4⟩
  · exact .inl h2
  · exact .inr ⟨g, cap, cur, h2, by omega, h4⟩

/-- Numbers were answered, in a row of the call's own. -/
def IntsA (w : World) (l : List Int) (e : Ending) (w' : World) : Prop :=
  ∃ B d, e = .returned (.slice B l.length d) ∧ w'.ownsRow w.heap.size 3 1 (.slice B l.length d) l.length (intV l) ∧ Below w.heap.size w w'
end Go.Proofs.YteimgnmjmpeobaaDoor
namespace Go.Proofs.YteimgnmjmpeobaaDoor
open Go.RowKit

/-- A number of 64 bits. -/
abbrev InI (x : Int) : Prop := -9223372036854775808 ≤ x ∧ x ≤ 9223372036854775807
structure Cur where
  v : Int
  h : Int
  e : Int
  a : Int
theorem Cur.same {x y : Cur} (h1 : x.v = y.v) (h2 : x.h = y.h) (h3 : x.e = y.e) (h4 : x.a = y.a) : x = y := by
  cases x; cases y; simp only at h1 h2 h3 h4; subst h1 h2 h3 h4; rfl
instance curDec : DecidableEq Cur := fun x y =>
  decidable_of_iff (x.v = y.v ∧ x.h = y.h ∧ x.e = y.e ∧ x.a = y.a) ⟨fun h => Cur.same h.1 h.2.1 h.2.2.1 h.2.2.2, fun h => by subst h; exact ⟨rfl, rfl, rfl, rfl⟩⟩
def zeroC : Cur := ⟨0, 0, 0, 0⟩
/-- The own digest of a version. -/
def ownD (own : List Int) (v : Int) : Int := if v = 0 then 0 else if v < 0 ∨ (own.length : Int) < v then -1 else own.getD (v - 1).toNat 0
theorem ownD_zero (own : List Int) : ownD own 0 = 0 := rfl
theorem ownD_none {own : List Int} {v : Int} (h0 : v ≠ 0) (h : v < 0 ∨ (own.length : Int) < v) : ownD own v = -1 := by unfold ownD; rw [if_neg h0, if_pos h]
theorem ownD_some {own : List Int} {k : Nat} (h : k < own.length) : ownD own ((k : Int) + 1) = own[k] := by
  unfold ownD
  rw [if_neg (by omega), if_neg (by omega), show ((k : Int) + 1 - 1).toNat = k by omega, List.getD_eq_getElem?_getD, List.getElem?_eq_getElem h]
  rfl
/-- What Accept tells. -/
def accN (c : Cur) (au : Int) (m : Man) (own : List Int) : Int :=
  if manR m = false ∨ m.author ≠ au then 4 else if m.version ≤ c.v then 9 else if c.v + 1 < m.version then 10 else if m.prev ≠ c.h then 11 else if m.epoch ≠ c.e then 12
  else if m.seen < c.a ∨ m.head ≠ ownD own m.seen then 11 else 0
/-- Where the chain is then. -/
def accC (c : Cur) (au : Int) (m : Man) (head : Int) (own : List Int) : Cur := if accN c au m own = 0 then ⟨m.version, head, m.next, m.seen⟩ else c
structure Acc (c : Cur) (au : Int) (m : Man) (own : List Int) : Prop where
  right : RightM m
  au : m.author = au
  v : m.version = c.v + 1
  p : m.prev = c.h
  e : m.epoch = c.e
  s : c.a ≤ m.seen
  o : m.head = ownD own m.seen
theorem acc_iff {c : Cur} {au : Int} {m : Man} {own : List Int} : accN c au m own = 0 ↔ Acc c au m own := by
  unfold accN
  constructor
  · intro h
    split at h
    · cases h
    split at h
    · cases h
    split at h
    · cases h
    split at h
    · cases h
    split at h
    · cases h
    split at h
    · cases h
    rename_i h1 h2 h3 h4 h5 h6
    have hr : manR m = true := by cases hm : manR m with | true => rfl | false => exact absurd (.inl hm) h1
    have ha : m.author = au := Classical.byContradiction fun k => h1 (.inr k)
    have ho : m.head = ownD own m.seen := Classical.byContradiction fun k => h6 (.inr k)
    have hs : c.a ≤ m.seen := by by_cases k : m.seen < c.a; · exact absurd (.inl k) h6
                                 · omega
    exact ⟨(manR_iff m).1 hr, ha, by omega, by omega, by omega, hs, ho⟩
  · rintro ⟨hr, ha, hv, hp, he, hs, ho⟩
    have hr' := (manR_iff m).2 hr
    rw [if_neg (by rw [hr']; simp [ha]), if_neg (by omega), if_neg (by omega), if_neg (by simp [hp]), if_neg (by simp [he]), if_neg (by rw [← ho]; simp; omega)]
theorem acc_four {c : Cur} {au : Int} {m : Man} {own : List Int} (h : manR m = false ∨ m.author ≠ au) : accN c au m own = 4 := by unfold accN; rw [if_pos h]
theorem acc_nine {c : Cur} {au : Int} {m : Man} {own : List Int} (hr : manR m = true) (ha : m.author = au) (h : m.version ≤ c.v) : accN c au m own = 9 := by
  unfold accN; rw [if_neg (by rw [hr]; simp [ha]), if_pos h]
theorem acc_ten {c : Cur} {au : Int} {m : Man} {own : List Int} (hr : manR m = true) (ha : m.author = au) (h : c.v + 1 < m.version) : accN c au m own = 10 := by
  unfold accN; rw [if_neg (by rw [hr]; simp [ha]), if_neg (by omega), if_pos h]
theorem acc_prev {c : Cur} {au : Int} {m : Man} {own : List Int} (hr : manR m = true) (ha : m.author = au) (hv : m.version = c.v + 1) (h : m.prev ≠ c.h) : accN c au m own = 11 := by
  unfold accN; rw [if_neg (by rw [hr]; simp [ha]), if_neg (by omega), if_neg (by omega), if_pos h]
theorem acc_epoch {c : Cur} {au : Int} {m : Man} {own : List Int} (hr : manR m = true) (ha : m.author = au) (hv : m.version = c.v + 1) (hp : m.prev = c.h) (h : m.epoch ≠ c.e) : accN c au m own = 12 := by
  unfold accN; rw [if_neg (by rw [hr]; simp [ha]), if_neg (by omega), if_neg (by omega), if_neg (by simp [hp]), if_pos h]
theorem acc_seen {c : Cur} {au : Int} {m : Man} {own : List Int} (hr : manR m = true) (ha : m.author = au) (hv : m.version = c.v + 1) (hp : m.prev = c.h) (he : m.epoch = c.e) (h : m.seen < c.a ∨ m.head ≠ ownD own m.seen) : accN c au m own = 11 := by
  unfold accN; rw [if_neg (by rw [hr]; simp [ha]), if_neg (by omega), if_neg (by omega), if_neg (by simp [hp]), if_neg (by simp [he]), if_pos h]
theorem accC_yes {c : Cur} {au head : Int} {m : Man} {own : List Int} (h : accN c au m own = 0) : accC c au m head own = ⟨m.version, head, m.next, m.seen⟩ := by unfold accC; rw [if_pos h]
theorem accC_no {c : Cur} {au head : Int} {m : Man} {own : List Int} (h : accN c au m own ≠ 0) : accC c au m head own = c := by unfold accC; rw [if_neg h]

/-! ### Follow -/
/-- Where the chain is ahead of the place j. -/
def curAt (c : Cur) (au : Int) (l : List Man) (hd own : List Int) : Nat → Cur
  | 0 => c
  | j + 1 => match l[j]? with
    | some m => accC (curAt c au l hd own j) au m (hd.getD j 0) own
    | none => curAt c au l hd own j
theorem curAt_succ {c : Cur} {au : Int} {l : List Man} {hd own : List Int} {j : Nat} (h : j < l.length) : curAt c au l hd own (j + 1) = accC (curAt c au l hd own j) au l[j] (hd.getD j 0) own := by
  show (match l[j]? with | some m => _ | none => _) = _
  rw [List.getElem?_eq_getElem h]
/-- What Follow answers. -/
structure FolP (c : Cur) (au : Int) (l : List Man) (hd own : List Int) (x : Cur) (k : Nat) (e : Int) : Prop where
  ahead : ∀ i (hi : i < l.length), i < k → accN (curAt c au l hd own i) au l[i] own = 0
  le : k ≤ l.length
  cur : x = curAt c au l hd own k
  last : k = l.length → e = 0
  stop : ∀ hk : k < l.length, e = accN (curAt c au l hd own k) au l[k] own ∧ e ≠ 0
theorem FolP.one {c : Cur} {au : Int} {l : List Man} {hd own : List Int} {x y : Cur} {k n : Nat} {e f : Int} (h : FolP c au l hd own x k e) (g : FolP c au l hd own y n f) : x = y ∧ k = n ∧ e = f := by
  have aux : ∀ {x y : Cur} {k n : Nat} {e f : Int}, FolP c au l hd own x k e → FolP c au l hd own y n f → ¬ k < n := fun {x y k n e f} h g hlt => by
    have hk : k < l.length := by have := g.le; omega
    have h1 := g.ahead k hk hlt
    have h2 := h.stop hk
    exact h2.2 (h2.1.trans h1)
  have hkn : k = n := by have := aux h g; have := aux g h; omega
  subst hkn
  refine ⟨h.cur.trans g.cur.symm, rfl, ?_⟩
  by_cases hl : k = l.length
  · rw [h.last hl, g.last hl]
  · have hk : k < l.length := by have := h.le; omega
    rw [(h.stop hk).1, (g.stop hk).1]

/-! ### Next -/
def nextM (c : Cur) (au : Int) (t : Bool) (p : Cur) (ps : List Pce) : Man := ⟨au, c.v + 1, c.h, c.e, c.e + bitI t, p.v, p.h, ps⟩
def nextN (c : Cur) (au : Int) (t : Bool) (p : Cur) (ps : List Pce) : Int := if 200 ≤ c.v ∨ 100 - bitI t < c.e then 2 else if manR (nextM c au t p ps) = false then 4 else 0
def nextA (c : Cur) (au : Int) (t : Bool) (p : Cur) (ps : List Pce) : Man := if nextN c au t p ps = 0 then nextM c au t p ps else zeroM
theorem next_two {c : Cur} {au : Int} {t : Bool} {p : Cur} {ps : List Pce} (h : 200 ≤ c.v ∨ 100 - bitI t < c.e) : nextN c au t p ps = 2 ∧ nextA c au t p ps = zeroM := by
  have : nextN c au t p ps = 2 := by unfold nextN; rw [if_pos h]
  exact ⟨this, by unfold nextA; rw [this]; rfl⟩
theorem next_four {c : Cur} {au : Int} {t : Bool} {p : Cur} {ps : List Pce} (h : ¬ (200 ≤ c.v ∨ 100 - bitI t < c.e)) (hr : manR (nextM c au t p ps) = false) : nextN c au t p ps = 4 ∧ nextA c au t p ps = zeroM := by
  have : nextN c au t p ps = 4 := by unfold nextN; rw [if_neg h, if_pos hr]
  exact ⟨this, by unfold nextA; rw [this]; rfl⟩
theorem next_yes {c : Cur} {au : Int} {t : Bool} {p : Cur} {ps : List Pce} (h : ¬ (200 ≤ c.v ∨ 100 - bitI t < c.e)) (hr : manR (nextM c au t p ps) = true) : nextN c au t p ps = 0 ∧ nextA c au t p ps = nextM c au t p ps := by
  have : nextN c au t p ps = 0 := by unfold nextN; rw [if_neg h, if_neg (by rw [hr]; simp)]
  exact ⟨this, by unfold nextA; rw [this]; rfl⟩
theorem next_ok {c : Cur} {au : Int} {t : Bool} {p : Cur} {ps : List Pce} (h : nextN c au t p ps = 0) : c.v < 200 ∧ c.e ≤ 100 - bitI t ∧ RightM (nextM c au t p ps) ∧ nextA c au t p ps = nextM c au t p ps := by
  by_cases h1 : 200 ≤ c.v ∨ 100 - bitI t < c.e
  · rw [(next_two h1).1] at h; cases h
  · cases hr : manR (nextM c au t p ps) with
    | false => rw [(next_four h1 hr).1] at h; cases h
    | true => exact ⟨by omega, by omega, (manR_iff _).1 hr, (next_yes h1 hr).2⟩
theorem next_no {c : Cur} {au : Int} {t : Bool} {p : Cur} {ps : List Pce} (h : nextN c au t p ps ≠ 0) : (nextN c au t p ps = 2 ∨ nextN c au t p ps = 4) ∧ nextA c au t p ps = zeroM := by
  by_cases h1 : 200 ≤ c.v ∨ 100 - bitI t < c.e
  · exact ⟨.inl (next_two h1).1, (next_two h1).2⟩
  · cases hr : manR (nextM c au t p ps) with
    | false => exact ⟨.inr (next_four h1 hr).1, (next_four h1 hr).2⟩
    | true => exact absurd (next_yes h1 hr).1 h
/-- What Next makes is accepted next. -/
theorem next_acc {c : Cur} {au : Int} {t : Bool} {p : Cur} {ps : List Pce} {own : List Int} (h : nextN c au t p ps = 0) (hs : c.a ≤ p.v) (ho : p.h = ownD own p.v) : accN c au (nextA c au t p ps) own = 0 := by
  obtain ⟨-, -, hr, he⟩ := next_ok h
  rw [he]
  exact acc_iff.2 ⟨hr, rfl, rfl, rfl, rfl, hs, ho⟩
end Go.Proofs.YteimgnmjmpeobaaDoor
namespace Go.Proofs.YteimgnmjmpeobaaDoor
open Go.ChangeShapes Go.WideShapes Go.ChangeAt Go.RowKit Go.Deep

theorem arg__bool {H : Type} {enc : TypeId × Value → H} {W : World} {base : Nat} {v : Value} {d : DataW H} {p : List MemPlace} (hv : Value.okWide Tryd.prog W .any base 44 v)
    (h : DataW.Trod enc Tryd.prog W 0 (fun _ => true) true 44 v d p) (_ : ∀ elems spare, d = .slice elems spare → (elems.length + spare.length) * Tryd.prog.bytesOf 4 ≤ reachBytes) :
    ∃ (A : Option Addr) (c : Nat) (bs : List Bool), v = .slice A bs.length c ∧ Rd W A (bs.map Value.bool) ∧ bs.length ≤ c ∧ c ≤ maxLen ∧ True := by
  have hct : Tryd.prog.cellsOf 4 = 1 := by kernel_rfl
  obtain ⟨a, len, cap, rfl⟩ := okWide_slice Tryd.underlying44 hv
  obtain ⟨fuel, hf⟩ := h
  rcases open_slice Tryd.underlying44 hf with ⟨hcs, _⟩ | ⟨x, l, c, m, n, D, Pl, hcs, _, hl, hm, hmm, hx, hcell⟩
  · simp [Value.cells] at hcs
    obtain ⟨rfl, rfl, rfl⟩ := hcs
    exact ⟨none, 0, [], rfl, .inl rfl, Nat.le_refl _, by unfold maxLen; omega, trivial⟩
  · simp [Value.cells] at hcs
    obtain ⟨rfl, rfl, rfl⟩ := hcs
    have hmm' : m = cap := by simpa using hmm
    have one : ∀ i, ∃ b, i < len → W.cell? (x.add i) = some (.bool b) := by
      intro i
      by_cases hi : i < len
      · obtain ⟨cs', hc1, hc2⟩ := hcell i (by omega)
        rw [hct] at hc1
        obtain ⟨-, -, hg⟩ := World.cells?_some hc1
        obtain ⟨b, e0, _⟩ := DataW.trod_bool Tryd.underlying4 hc2
        refine ⟨b, fun _ => ?_⟩
        have g0 := hg 0 (by omega)
        rw [add_assoc', e0] at g0
        simpa using g0
      · exact ⟨false, fun h => absurd h hi⟩
    obtain ⟨B, hB⟩ := Classical.axiomOfChoice one
    refine ⟨some x, cap, (List.range len).map B, by simp, .inr ⟨x, rfl, fun j u hu => ?_⟩, by simpa using hl, hm, trivial⟩
    have hj : j < len := by have := (List.getElem?_eq_some_iff.1 hu).1; simpa using this
    rw [hB j hj]
    simp [hj] at hu
    rw [hu]
end Go.Proofs.YteimgnmjmpeobaaDoor
namespace Go.Proofs.YteimgnmjmpeobaaDoor
open Go.ChangeShapes Go.WideShapes Go.ChangeAt Go.RowKit Go.Deep

abbrev curV (c : Cur) : Value := .agg #[.int .i64 c.v, .int .i64 c.h, .int .i64 c.e, .int .i64 c.a]
/-- A cursor's numbers are of 64 bits. -/
structure CurI (c : Cur) : Prop where
  v : InI c.v
  h : InI c.h
  e : InI c.e
  a : InI c.a
/-- A manifest as cells. -/
def mcV (m : Man) (A : Option Addr) (c : Nat) : List Value := [.int .i64 m.author, .int .i64 m.version, .int .i64 m.prev, .int .i64 m.epoch, .int .i64 m.next, .int .i64 m.seen, .int .i64 m.head, .slice A m.pieces.length c]
/-- A manifest lies at an address. -/
def MAt (w : World) (ad : Addr) (m : Man) : Prop := ∃ A c, (∀ k, k < 8 → w.cell? (ad.add k) = (mcV m A c)[k]?) ∧ Mt w A c m
/-- Manifests lie there. -/
def MsAt (w : World) (A : Option Addr) (ms : List Man) : Prop := ms = [] ∨ ∃ ad, A = some ad ∧ ∀ j (hj : j < ms.length), MAt w (ad.add (j * 8)) ms[j]
theorem MAt.below {w w' : World} {ad : Addr} {m : Man} (h : MAt w ad m) (hb : Below w.heap.size w w') : MAt w' ad m := by
  obtain ⟨A, c, hc, hm⟩ := h
  refine ⟨A, c, fun k hk => ?_, hm.below hb⟩
  have := hc k hk
  have hs : ∃ u, (mcV m A c)[k]? = some u := ⟨_, List.getElem?_eq_getElem (by simpa [mcV] using hk)⟩
  obtain ⟨u, hu⟩ := hs
  rw [hu] at this ⊢
  exact (hb.cell (World.block_lt_of_cell? w _ this)).trans this
theorem MsAt.below {w w' : World} {A : Option Addr} {ms : List Man} (h : MsAt w A ms) (hb : Below w.heap.size w w') : MsAt w' A ms := by
  rcases h with h | ⟨ad, ha, h⟩
  · exact .inl h
  · exact .inr ⟨ad, ha, fun j hj => (h j hj).below hb⟩
/-- The cells of the manifest at j. -/
theorem MsAt.man {w : World} {A : Option Addr} {ms : List Man} (h : MsAt w A ms) {j : Nat} (hj : j < ms.length) :
    ∃ b off B c, A = some ⟨b, off, none⟩ ∧ w.cell? ⟨b, off + j * 8, none⟩ = some (.int .i64 ms[j].author) ∧ w.cell? ⟨b, off + j * 8 + 1, none⟩ = some (.int .i64 ms[j].version) ∧ w.cell? ⟨b, off + j * 8 + 2, none⟩ = some (.int .i64 ms[j].prev) ∧
      w.cell? ⟨b, off + j * 8 + 3, none⟩ = some (.int .i64 ms[j].epoch) ∧ w.cell? ⟨b, off + j * 8 + 4, none⟩ = some (.int .i64 ms[j].next) ∧ w.cell? ⟨b, off + j * 8 + 5, none⟩ = some (.int .i64 ms[j].seen) ∧ w.cell? ⟨b, off + j * 8 + 6, none⟩ = some (.int .i64 ms[j].head) ∧
      w.cell? ⟨b, off + j * 8 + 7, none⟩ = some (.slice B ms[j].pieces.length c) ∧ Mt w B c ms[j] ∧ b < w.heap.size := by
  rcases h with rfl | ⟨ad, rfl, h⟩
  · exact absurd hj (by simp)
  · obtain ⟨B, c, hc, hm⟩ := h j hj
    obtain ⟨B0, c0, hc0, -⟩ := h 0 (by omega)
    have hz : w.cell? ad = some (.int .i64 ms[0].author) := by
      have := hc0 0 (by omega)
      rw [add_assoc'] at this
      simpa [Addr.add, mcV] using this
    have hs := World.cell?_spot hz
    obtain ⟨b, off, s⟩ := ad
    have : s = none := by simpa using hs
    subst this
    have g : ∀ k, k < 8 → w.cell? ⟨b, off + j * 8 + k, none⟩ = (mcV ms[j] B c)[k]? := fun k hk => by
      have := hc k hk
      rw [Addr.add_lit, Addr.add_lit] at this
      exact this
    have hb := World.block_lt_of_cell? w _ (g 0 (by omega))
    exact ⟨b, off, B, c, rfl, g 0 (by omega), g 1 (by omega), g 2 (by omega), g 3 (by omega), g 4 (by omega), g 5 (by omega), g 6 (by omega), g 7 (by omega), hm, hb⟩

/-! ### As arguments -/
theorem i64_in {x : Int} (h : (Lit.int .i64 x).wf = true) : InI x := by
  have e : IntKind.i64.min = -9223372036854775808 := rfl
  simp [Lit.wf, e] at h
  exact h
theorem list4 {α : Type} {l : List α} (h : l.length = 4) : ∃ a b c d, l = [a, b, c, d] := by
  match l, h with
  | [a, b, c, d], _ => exact ⟨a, b, c, d, rfl⟩
set_option maxRecDepth 20000 in
theorem arg_cur {H : Type} {enc : TypeId × Value → H} {W : World} {base : Nat} {v : Value} {d : DataW H} {p : List MemPlace} (hv : Value.okWide Tryd.prog W .any base 23 v)
    (h : DataW.Trod enc Tryd.prog W 0 (fun _ => true) true 23 v d p) : ∃ c : Cur, v = curV c ∧ CurI c := by
  have hct : Tryd.prog.cellsOf 23 = 4 := by kernel_rfl
  have hci : Tryd.prog.cellsOf 3 = 1 := by kernel_rfl
  obtain ⟨cs, rfl, hsz⟩ := okWide_struct Tryd.underlying23 hv
  obtain ⟨fuel, hF⟩ := h
  obtain ⟨xs, n, -, -, hl, hlen, hf⟩ := DataW.trod_struct Tryd.underlying23 hF
  rw [hct] at hl
  obtain ⟨u0, u1, u2, u3, hcs⟩ := list4 hl
  obtain ⟨y0, y1, y2, y3, rfl⟩ := list4 (hlen.trans rfl)
  have h0 := hf 0 _ rfl
  have h1 := hf 1 _ rfl
  have h2 := hf 2 _ rfl
  have h3 := hf 3 _ rfl
  simp only [List.getElem?_cons_zero, List.getElem?_cons_succ, hcs] at h0 h1 h2 h3
  obtain ⟨z0, e0, -, w0⟩ := DataW.trod_int Tryd.underlying3 h0
  obtain ⟨z1, e1, -, w1⟩ := DataW.trod_int Tryd.underlying3 h1
  obtain ⟨z2, e2, -, w2⟩ := DataW.trod_int Tryd.underlying3 h2
  obtain ⟨z3, e3, -, w3⟩ := DataW.trod_int Tryd.underlying3 h3
  simp [hci] at e0 e1 e2 e3
  refine ⟨⟨z0, z1, z2, z3⟩, ?_, i64_in w0, i64_in w1, i64_in w2, i64_in w3⟩
  have : cs.toList = [u0, u1, u2, u3] := by simpa [Value.cells] using hcs
  rw [show cs = #[u0, u1, u2, u3] by rw [← Array.toArray_toList (xs := cs), this], e0, e1, e2, e3]
set_option maxRecDepth 100000 in
theorem trod_man {H : Type} {enc : TypeId × Value → H} {W : World} {sp : Nat → Bool} {hd : Bool} {fuel : Nat} {cs : List Value} {y : DataW H × List MemPlace} (h : DataW.trod enc Tryd.prog W 0 sp hd fuel 26 cs = some y) :
    ∃ (m : Man) (A : Option Addr) (c : Nat), cs = mcV m A c ∧ Mt W A c m := by
  have hct : Tryd.prog.cellsOf 26 = 8 := by kernel_rfl
  have hci : Tryd.prog.cellsOf 3 = 1 := by kernel_rfl
  have hcl : Tryd.prog.cellsOf 24 = 1 := by kernel_rfl
  obtain ⟨xs, n, -, -, hl, hlen, hf⟩ := DataW.trod_struct Tryd.underlying26 h
  rw [hct] at hl
  obtain ⟨u0, u1, u2, u3, u4, u5, u6, u7, rfl⟩ := list8 hl
  obtain ⟨y0, y1, y2, y3, y4, y5, y6, y7, rfl⟩ := list8 (hlen.trans rfl)
  have h0 := hf 0 _ rfl
  have h1 := hf 1 _ rfl
  have h2 := hf 2 _ rfl
  have h3 := hf 3 _ rfl
  have h4 := hf 4 _ rfl
  have h5 := hf 5 _ rfl
  have h6 := hf 6 _ rfl
  have h7 := hf 7 _ rfl
  simp only [List.getElem?_cons_zero, List.getElem?_cons_succ] at h0 h1 h2 h3 h4 h5 h6 h7
  obtain ⟨z0, e0, -⟩ := DataW.trod_int Tryd.underlying3 h0
  obtain ⟨z1, e1, -⟩ := DataW.trod_int Tryd.underlying3 h1
  obtain ⟨z2, e2, -⟩ := DataW.trod_int Tryd.underlying3 h2
  obtain ⟨z3, e3, -⟩ := DataW.trod_int Tryd.underlying3 h3
  obtain ⟨z4, e4, -⟩ := DataW.trod_int Tryd.underlying3 h4
  obtain ⟨z5, e5, -⟩ := DataW.trod_int Tryd.underlying3 h5
  obtain ⟨z6, e6, -⟩ := DataW.trod_int Tryd.underlying3 h6
  simp [hci] at e0 e1 e2 e3 e4 e5 e6
  simp [hcl] at h7
  obtain ⟨A, c, ps, e7, hp, hle, hm⟩ := trod_pces h7
  exact ⟨⟨z0, z1, z2, z3, z4, z5, z6, ps⟩, A, c, by rw [e0, e1, e2, e3, e4, e5, e6, e7]; rfl, hp, hle, hm⟩
set_option maxRecDepth 20000 in
theorem arg__api_Manifest {H : Type} {enc : TypeId × Value → H} {W : World} {base : Nat} {v : Value} {d : DataW H} {p : List MemPlace} (hv : Value.okWide Tryd.prog W .any base 30 v)
    (h : DataW.Trod enc Tryd.prog W 0 (fun _ => true) true 30 v d p) (_ : ∀ elems spare, d = .slice elems spare → (elems.length + spare.length) * Tryd.prog.bytesOf 26 ≤ reachBytes) :
    ∃ (A : Option Addr) (c : Nat) (ms : List Man), v = .slice A ms.length c ∧ MsAt W A ms ∧ ms.length ≤ c ∧ c ≤ maxLen ∧ True := by
  have hct : Tryd.prog.cellsOf 26 = 8 := by kernel_rfl
  obtain ⟨a, len, cap, rfl⟩ := okWide_slice Tryd.underlying30 hv
  obtain ⟨fuel, hf⟩ := h
  rcases open_slice Tryd.underlying30 hf with ⟨hcs, _⟩ | ⟨x, l, c, m, n, D, Pl, hcs, _, hl, hm, hmm, hx, hcell⟩
  · simp [Value.cells] at hcs
    obtain ⟨rfl, rfl, rfl⟩ := hcs
    exact ⟨none, 0, [], rfl, .inl rfl, Nat.le_refl _, by unfold maxLen; omega, trivial⟩
  · simp [Value.cells] at hcs
    obtain ⟨rfl, rfl, rfl⟩ := hcs
    have hlm : len ≤ m := by rw [hmm]; split <;> omega
    have one : ∀ i, ∃ z : Man, i < len → MAt W (x.add (i * 8)) z := by
      intro i
      by_cases hi : i < len
      · obtain ⟨cs', hc1, hc2⟩ := hcell i (by omega)
        rw [hct] at hc1
        obtain ⟨-, hl2, hg⟩ := World.cells?_some hc1
        obtain ⟨z, B, c', rfl, hz⟩ := trod_man hc2
        exact ⟨z, fun _ => ⟨B, c', fun k hk => hg k (by simpa [mcV] using hk), hz⟩⟩
      · exact ⟨zeroM, fun h => absurd h hi⟩
    obtain ⟨B, hB⟩ := Classical.axiomOfChoice one
    refine ⟨some x, cap, (List.range len).map B, by simp, .inr ⟨x, rfl, fun j hj => ?_⟩, by simpa using hl, hm, trivial⟩
    have hj' : j < len := by simpa using hj
    have := hB j hj'
    simpa using this
end Go.Proofs.YteimgnmjmpeobaaDoor
namespace Go.Proofs.YteimgnmjmpeobaaDoor
open Go.RowKit

theorem neqP (a b c d : Int) (w : World) : (binOp .neq 55 (.agg #[.int .i64 a, .int .i64 b]) (.agg #[.int .i64 c, .int .i64 d])).run Tryd.prog w = .ok (.bool (!(decide (a = c) && decide (b = d)))) w := by
  have u3 := Tryd.underlying3
  have a3 := Tryd.isAgg3
  have z3 := Tryd.sizeOf3
  have hS : Tryd.prog.underlying 55 = some (.struct (Tryd.prog.fieldsOf 55)) := by kernel_rfl
  have hp : Tryd.prog.stoodInHeld 55 = false := by kernel_rfl
  rw [run_neq_struct, show (10000 : Nat) = 9999 + 1 from rfl, run_equalIn_agg w 9999 55 _ _ hS hp]
  simp only [Program.fieldsOf, Tryd.underlying55]
  go_simp
  by_cases h1 : a = c
  · by_cases h2 : b = d
    · simp [h1, h2]
    · simp [h1, h2]
  · simp [h1]
theorem str_eqb1 (a b : ByteArray) : (a.toList == b.toList) = decide (a = b) := by
  rw [Lib.toList_data, Lib.toList_data]
  by_cases h : a = b
  · subst h; simp
  · rw [decide_eq_false h]
    exact beq_eq_false_iff_ne.2 fun e => h (data_inj e)

set_option maxHeartbeats 4000000 in
set_option maxRecDepth 20000 in
theorem rsame_any {w : World} {A B : Option Addr} {c d : Nat} {m o : Man} (h : Mt w A c m) (k : Mt w B d o) :
    Calls Tryd.prog 18 #[manV m A c, manV o B d] w fun e w' => e = .returned (.bool (decide (m = o))) ∧ Below w.heap.size w w' := by
  obtain ⟨a1, a2, a3, a4, a5, a6, a7, ps⟩ := m
  obtain ⟨e1, e2, e3, e4, e5, e6, e7, qs⟩ := o
  obtain ⟨hps, hcap, hcm⟩ := h
  obtain ⟨kps, kcap, kcm⟩ := k
  dsimp only at hps hcap kps kcap
  unfold manV
  dsimp only
  have hal : ∀ (W : World) (o : Obj), Below W.heap.size W (W.alloc o) := fun W o => (Below.refl _ _).alloc (Nat.le_refl _) o
  have bb := below2 (hal w (.cells #[.int .i64 a1, .int .i64 a2, .int .i64 a3, .int .i64 a4, .int .i64 a5, .int .i64 a6, .int .i64 a7, .slice A ps.length c] 26)) (hal _ (.cells #[.int .i64 e1, .int .i64 e2, .int .i64 e3, .int .i64 e4, .int .i64 e5, .int .i64 e6, .int .i64 e7, .slice B qs.length d] 26))
  by_cases q1 : a1 = e1
  rotate_left
  · have HB : Hid (decide ((⟨a1, a2, a3, a4, a5, a6, a7, ps⟩ : Man) = ⟨e1, e2, e3, e4, e5, e6, e7, qs⟩) = false) := decide_eq_false fun e => q1 (by injection e)
    have hne : (a1 == e1) = false := by simp [q1]
    go_enter Tryd.func18, Tryd.ntmps18
    go_wp2
    go_ret
    exact ⟨ret_bool HB.out.symm, bb⟩
  subst q1
  by_cases q2 : a2 = e2
  rotate_left
  · have HB : Hid (decide ((⟨a1, a2, a3, a4, a5, a6, a7, ps⟩ : Man) = ⟨a1, e2, e3, e4, e5, e6, e7, qs⟩) = false) := decide_eq_false fun e => q2 (by injection e)
    have hne : (a2 == e2) = false := by simp [q2]
    go_enter Tryd.func18, Tryd.ntmps18
    go_wp2
    go_ret
    exact ⟨ret_bool HB.out.symm, bb⟩
  subst q2
  by_cases q3 : a3 = e3
  rotate_left
  · have HB : Hid (decide ((⟨a1, a2, a3, a4, a5, a6, a7, ps⟩ : Man) = ⟨a1, a2, e3, e4, e5, e6, e7, qs⟩) = false) := decide_eq_false fun e => q3 (by injection e)
    have hne : (a3 == e3) = false := by simp [q3]
    go_enter Tryd.func18, Tryd.ntmps18
    go_wp2
    go_ret
    exact ⟨ret_bool HB.out.symm, bb⟩
  subst q3
  by_cases q4 : a4 = e4
  rotate_left
  · have HB : Hid (decide ((⟨a1, a2, a3, a4, a5, a6, a7, ps⟩ : Man) = ⟨a1, a2, a3, e4, e5, e6, e7, qs⟩) = false) := decide_eq_false fun e => q4 (by injection e)
    have hne : (a4 == e4) = false := by simp [q4]
    go_enter Tryd.func18, Tryd.ntmps18
    go_wp2
    go_ret
    exact ⟨ret_bool HB.out.symm, bb⟩
  subst q4
  by_cases q5 : a5 = e5
  rotate_left
  · have HB : Hid (decide ((⟨a1, a2, a3, a4, a5, a6, a7, ps⟩ : Man) = ⟨a1, a2, a3, a4, e5, e6, e7, qs⟩) = false) := decide_eq_false fun e => q5 (by injection e)
    have hne : (a5 == e5) = false := by simp [q5]
    go_enter Tryd.func18, Tryd.ntmps18
    go_wp2
    go_ret
    exact ⟨ret_bool HB.out.symm, bb⟩
  subst q5
  by_cases q6 : a6 = e6
  rotate_left
  · have HB : Hid (decide ((⟨a1, a2, a3, a4, a5, a6, a7, ps⟩ : Man) = ⟨a1, a2, a3, a4, a5, e6, e7, qs⟩) = false) := decide_eq_false fun e => q6 (by injection e)
    have hne : (a6 == e6) = false := by simp [q6]
    go_enter Tryd.func18, Tryd.ntmps18
    go_wp2
    go_ret
    exact ⟨ret_bool HB.out.symm, bb⟩
  subst q6
  by_cases q7 : a7 = e7
  rotate_left
  · have HB : Hid (decide ((⟨a1, a2, a3, a4, a5, a6, a7, ps⟩ : Man) = ⟨a1, a2, a3, a4, a5, a6, e7, qs⟩) = false) := decide_eq_false fun e => q7 (by injection e)
    have hne : (a7 == e7) = false := by simp [q7]
    go_enter Tryd.func18, Tryd.ntmps18
    go_wp2
    go_ret
    exact ⟨ret_bool HB.out.symm, bb⟩
  subst q7
  by_cases q8 : ps.length = qs.length
  rotate_left
  · have HB : Hid (decide ((⟨a1, a2, a3, a4, a5, a6, a7, ps⟩ : Man) = ⟨a1, a2, a3, a4, a5, a6, a7, qs⟩) = false) := decide_eq_false fun e => q8 (by injection e with _ _ _ _ _ _ _ e; rw [e])
    generalize ps.length = n1 at *
    generalize qs.length = n2 at *
    have hne : ((n1 : Int) == (n2 : Int)) = false := by simp; omega
    have hne2 : ¬ (n1 : Int) = n2 := by omega
    go_enter Tryd.func18, Tryd.ntmps18
    go_wp2
    go_ret
    exact ⟨ret_bool HB.out.symm, bb⟩
  have pk1 := (Blk.new w [.int .i64 a1, .int .i64 a2, .int .i64 a3, .int .i64 a4, .int .i64 a5, .int .i64 a6, .int .i64 a7, .slice A ps.length c] 26).below (hal _ (.cells #[.int .i64 a1, .int .i64 a2, .int .i64 a3, .int .i64 a4, .int .i64 a5, .int .i64 a6, .int .i64 a7, .slice B qs.length d] 26))
  have pk2 := Blk.new (w.alloc (.cells #[.int .i64 a1, .int .i64 a2, .int .i64 a3, .int .i64 a4, .int .i64 a5, .int .i64 a6, .int .i64 a7, .slice A ps.length c] 26)) [.int .i64 a1, .int .i64 a2, .int .i64 a3, .int .i64 a4, .int .i64 a5, .int .i64 a6, .int .i64 a7, .slice B qs.length d] 26
  rw [World.size_alloc] at pk2
  have hpb := hps.below bb
  have kpb := kps.below bb
  have HD : Hid (decide ((⟨a1, a2, a3, a4, a5, a6, a7, ps⟩ : Man) = ⟨a1, a2, a3, a4, a5, a6, a7, qs⟩) = decide (ps = qs)) := by
    show _ = _
    by_cases hpq : ps = qs
    · subst hpq; rw [decide_eq_true rfl, decide_eq_true rfl]
    · rw [decide_eq_false hpq, decide_eq_false fun e => hpq (by injection e)]
  obtain ⟨n, hn0⟩ : ∃ n, n = ps.length := ⟨_, rfl⟩
  rw [← q8, ← hn0] at pk1 pk2 bb hpb kpb ⊢
  have hnb : n ≤ c ∧ c ≤ 9223372036854775807 := by unfold maxLen at hcm; omega
  have HN := hid hn0
  have HN2 := hid (hn0.trans q8)
  clear hn0 q8 hps kps
  go_enter Tryd.func18, Tryd.ntmps18
  go_wp2_with fail
  generalize (w.alloc (.cells #[.int .i64 a1, .int .i64 a2, .int .i64 a3, .int .i64 a4, .int .i64 a5, .int .i64 a6, .int .i64 a7, .slice A n c] 26)).alloc (.cells #[.int .i64 a1, .int .i64 a2, .int .i64 a3, .int .i64 a4, .int .i64 a5, .int .i64 a6, .int .i64 a7, .slice B n d] 26) = w0 at *
  have lg1 := pk1.lt
  have lg2 := pk2.lt
  have k1 := pk1.cell 7
  have k2 := pk2.cell 7
  simp only [List.getElem?_cons_zero, List.getElem?_cons_succ] at k1 k2
  clear pk1 pk2
  go_loopw [5] (fun i wr => ∃ j : Nat, j ≤ n ∧ i = .int .i64 j ∧ Hid (ps.take j = qs.take j) ∧ Below w0.heap.size w0 wr) (fun i _ => n - (intOf i).toNat)
  case atStart => exact ⟨0, by omega, rfl, rfl, Below.refl _ _⟩
  case round =>
    obtain ⟨j, hj, rfl, HT, b⟩ := hrel
    have k1 := (b.cell (p := ⟨w.heap.size, 7, none⟩) lg1).trans k1
    have k2 := (b.cell (p := ⟨w.heap.size + 1, 7, none⟩) lg2).trans k2
    by_cases hjn : j < n
    · have hjl : j < ps.length := by rw [← HN.out]; exact hjn
      have hjl2 : j < qs.length := by rw [← HN2.out]; exact hjn
      have hz : (0 : Int) ≤ j := by omega
      have HJ := hid hjn
      have hlt : (j : Int) < n := by omega
      obtain ⟨g, og, C, cc, rfl, x0, x1, x2, x3, x4, x5, x6, rx, hcx, hcx2, -⟩ := (hpb.below b).pc hjl
      have HXY : Hid (ps.take (j + 1) = qs.take (j + 1) ↔ ps[j] = qs[j]) := by
        show _ ↔ _
        have e1 : ps.take (j + 1) = qs.take j ++ [ps[j]] := by rw [List.take_add_one, List.getElem?_eq_getElem hjl, HT.out]; rfl
        have e2 : qs.take (j + 1) = qs.take j ++ [qs[j]] := by rw [List.take_add_one, List.getElem?_eq_getElem hjl2]; rfl
        rw [e1, e2]
        exact ⟨fun h => by have := List.append_cancel_left h; injection this, fun h => by rw [h]⟩
      have HNE : Hid (ps[j] ≠ qs[j] → decide ((⟨a1, a2, a3, a4, a5, a6, a7, ps⟩ : Man) = ⟨a1, a2, a3, a4, a5, a6, a7, qs⟩) = false) := by
        refine hid fun h => ?_
        rw [HD.out]
        refine decide_eq_false fun e => h ?_
        exact Option.some.inj ((List.getElem?_eq_getElem hjl).symm.trans ((congrArg (·[j]?) e).trans (List.getElem?_eq_getElem hjl2)))
      generalize ps[j] = x at *
      obtain ⟨xp, xh, xs, xc, xd, xl, xr⟩ := x
      have b1 := hal wr (.cells #[.string xp, .bool xh, .int .i64 xs, .slice C xc.length cc, .int .i64 xd, .int .i64 xl, .int .i64 xr] 57)
      obtain ⟨g', og', C', cc', rfl, y0, y1, y2, y3, y4, y5, y6, ry, hcy, hcy2, -⟩ := (kpb.below (b.trans (b1.mono b.size))).pc hjl2
      generalize qs[j] = y at *
      obtain ⟨yp, yh, ys, yc, yd, yl, yr⟩ := y
      dsimp only at x0 x1 x2 x3 x4 x5 x6 y0 y1 y2 y3 y4 y5 y6 rx ry hcx hcy
      have hsq := str_eqb1 xp yp
      have hpr := neqP xl xr yl yr
      have b2 := hal (wr.alloc (.cells #[.string xp, .bool xh, .int .i64 xs, .slice C xc.length cc, .int .i64 xd, .int .i64 xl, .int .i64 xr] 57)) (.cells #[.string yp, .bool yh, .int .i64 ys, .slice C' yc.length cc', .int .i64 yd, .int .i64 yl, .int .i64 yr] 57)
      have k2a := (b1.cell (p := ⟨w.heap.size + 1, 7, none⟩) (Nat.lt_of_lt_of_le lg2 b.size)).trans k2
      have b3 := below2 b1 b2
      have bq := bb.trans ((b.trans (b3.mono b.size)).mono bb.size)
      have rx3 := rx.below b3
      have ry3 := ry.below b2
      by_cases h1 : xp = yp
      rotate_left
      · have HF := hid (HNE.out fun e => h1 (by injection e))
        rw [decide_eq_false h1] at hsq
        clear HXY HNE HT HD rx ry rx3 ry3 hpb kpb
        go_wp2
        go_ret
        exact ⟨ret_bool HF.out.symm, bq⟩
      rw [decide_eq_true h1] at hsq
      subst h1
      by_cases h2 : xh = yh
      rotate_left
      · have HF := hid (HNE.out fun e => h2 (by injection e))
        have hbb : (xh == yh) = false := by simp [h2]
        clear HXY HNE HT HD rx ry rx3 ry3 hpb kpb
        go_wp2
        go_ret
        exact ⟨ret_bool HF.out.symm, bq⟩
      subst h2
      by_cases h3 : xs = ys
      rotate_left
      · have HF := hid (HNE.out fun e => h3 (by injection e))
        have hbb : (xs == ys) = false := by simp [h3]
        clear HXY HNE HT HD rx ry rx3 ry3 hpb kpb
        go_wp2
        go_ret
        exact ⟨ret_bool HF.out.symm, bq⟩
      subst h3
      by_cases h4 : xd = yd
      rotate_left
      · have HF := hid (HNE.out fun e => h4 (by injection e))
        have hbb : (xd == yd) = false := by simp [h4]
        clear HXY HNE HT HD rx ry rx3 ry3 hpb kpb
        go_wp2
        go_ret
        exact ⟨ret_bool HF.out.symm, bq⟩
      subst h4
      by_cases h5 : xl = yl
      rotate_left
      · have HF := hid (HNE.out fun e => h5 (by injection e))
        rw [decide_eq_false h5, Bool.false_and, Bool.not_false] at hpr
        clear HXY HNE HT HD rx ry rx3 ry3 hpb kpb
        go_wp2
        go_ret
        exact ⟨ret_bool HF.out.symm, bq⟩
      subst h5
      by_cases h6 : xr = yr
      rotate_left
      · have HF := hid (HNE.out fun e => h6 (by injection e))
        rw [decide_eq_true (rfl : xl = xl), decide_eq_false h6, show (!(true && false)) = true from rfl] at hpr
        clear HXY HNE HT HD rx ry rx3 ry3 hpb kpb
        go_wp2
        go_ret
        exact ⟨ret_bool HF.out.symm, bq⟩
      rw [decide_eq_true (rfl : xl = xl), decide_eq_true h6, show (!(true && true)) = false from rfl] at hpr
      subst h6
      have ci := rints_any C C' xc.length yc.length cc cc' xc yc _ rfl rfl rx3 ry3 (by unfold maxLen at hcx2; omega)
      by_cases hcc : xc = yc
      · have HT2 := hid (HXY.out.2 (by rw [hcc]))
        rw [decide_eq_true hcc] at ci
        clear hcc HXY HNE HT rx ry rx3 ry3
        go_wp2_with fail
        refine ci.mono ?_
        rintro e w5 ⟨rfl, b5⟩
        simp only
        have bz := b.trans ((b3.trans (b5.mono b3.size)).mono b.size)
        clear ci b1 b2 b3 b5 x0 x1 x2 x3 x4 x5 x6 y0 y1 y2 y3 y4 y5 y6 k1 k2 k2a
        go_wp2
        go_roundw
        case rel => exact ⟨j + 1, HJ.out, by go_num, HT2, bz⟩
        case measure => have := HJ.out; simp [intOf]; omega
      · have HF := hid (HNE.out fun e => hcc (by injection e))
        rw [decide_eq_false hcc] at ci
        clear hcc HXY HNE HT rx ry rx3 ry3
        go_wp2_with fail
        refine ci.mono ?_
        rintro e w5 ⟨rfl, b5⟩
        simp only
        have bz := bq.trans (b5.mono bq.size)
        go_wp2
        go_ret
        exact ⟨ret_bool HF.out.symm, bz⟩
    · have hjn2 : j = n := by omega
      have HT3 : Hid (decide ((⟨a1, a2, a3, a4, a5, a6, a7, ps⟩ : Man) = ⟨a1, a2, a3, a4, a5, a6, a7, qs⟩) = true) := by
        have ht := HT.out
        rw [hjn2, List.take_of_length_le (by rw [HN.out]; exact Nat.le_refl _), List.take_of_length_le (by rw [HN2.out]; exact Nat.le_refl _)] at ht
        rw [hid (HD.out)]
        exact decide_eq_true ht
      have hnl : ¬ (j : Int) < n := by omega
      have bz := bb.trans (b.mono bb.size)
      go_wp2
      go_ret
      exact ⟨ret_bool (HD.out.symm.trans HT3.out).symm, bz⟩
end Go.Proofs.YteimgnmjmpeobaaDoor
namespace Go.Proofs.YteimgnmjmpeobaaDoor
open Go.RowKit

/-- A piece, and the slice in which its chunks lie. -/
structure Pw where
  p : Pce
  C : Option Addr
  c : Nat
def pwV (xs : List Pw) : List Value := xs.flatMap fun x => pcV x.p x.C x.c
theorem pwV_length (xs : List Pw) : (pwV xs).length = xs.length * 7 := by
  induction xs with
  | nil => rfl
  | cons x xs ih => rw [pwV, List.flatMap_cons, List.length_append, ← pwV, ih, List.length_cons]; simp [pcV]; omega
theorem pwV_append (a b : List Pw) : pwV (a ++ b) = pwV a ++ pwV b := by simp [pwV]
theorem pwV_cons (x : Pw) (xs : List Pw) : pwV (x :: xs) = pcV x.p x.C x.c ++ pwV xs := rfl
theorem pwV_one (xs : List Pw) : ∀ u ∈ pwV xs, u.oneCell' = true := by
  intro u hu
  obtain ⟨x, -, hx⟩ := List.mem_flatMap.1 hu
  simp only [pcV, List.mem_cons, List.not_mem_nil, or_false] at hx
  rcases hx with rfl | rfl | rfl | rfl | rfl | rfl | rfl <;> rfl
theorem pwV_at : ∀ (xs : List Pw) (j : Nat) (h : j < xs.length) (k : Nat), k < 7 → (pwV xs)[j * 7 + k]? = (pcV xs[j].p xs[j].C xs[j].c)[k]?
  | x :: xs, 0, _, k, hk => by
    rw [pwV_cons, List.getElem?_append_left (by simp [pcV]; omega)]
    simp
  | x :: xs, j + 1, h, k, hk => by
    have := pwV_at xs j (by simpa using h) k hk
    rw [pwV_cons, List.getElem?_append_right (by simp [pcV]; omega)]
    simp only [List.getElem_cons_succ]
    rw [← this]
    congr 1
    simp [pcV]
    omega
/-- Its chunks lie there. -/
def CkAt (w : World) (x : Pw) : Prop := Rd w x.C (intV x.p.chunks) ∧ x.p.chunks.length ≤ x.c ∧ x.c ≤ maxLen
theorem CkAt.below {w w' : World} {x : Pw} (h : CkAt w x) (hb : Below w.heap.size w w') : CkAt w' x := ⟨h.1.below hb, h.2⟩
def pcesOf (xs : List Pw) : List Pce := xs.map (·.p)
theorem pcesOf_length (xs : List Pw) : (pcesOf xs).length = xs.length := by simp [pcesOf]
theorem pcs_of {w : World} {A : Option Addr} {xs : List Pw} (hr : Rd w A (pwV xs)) (hk : ∀ x ∈ xs, CkAt w x) : PcsAt w A (pcesOf xs) := by
  rcases hr with hr | ⟨ad, rfl, hc⟩
  · have h0 := congrArg List.length hr
    rw [pwV_length] at h0
    exact .inl (by
      have : xs = [] := List.eq_nil_of_length_eq_zero (by simp at h0; omega)
      rw [this]; rfl)
  · refine .inr ⟨ad, rfl, fun j hj => ?_⟩
    have hj' : j < xs.length := by rw [pcesOf_length] at hj; exact hj
    obtain ⟨h1, h2, h3⟩ := hk xs[j] (List.getElem_mem hj')
    have e : (pcesOf xs)[j] = xs[j].p := by simp [pcesOf]
    rw [e]
    refine ⟨xs[j].C, xs[j].c, fun k hk => ?_, h1, h2, h3⟩
    have hs : ∃ u, (pcV xs[j].p xs[j].C xs[j].c)[k]? = some u := ⟨_, List.getElem?_eq_getElem (by simpa [pcV] using hk)⟩
    obtain ⟨u, hu⟩ := hs
    rw [add_assoc', hu]
    exact hc (j * 7 + k) u (by rw [pwV_at xs j hj' k hk, hu])

/-! ### A row of the call's own -/
def OwnP (base : Nat) (w : World) (A : Option Addr) (n c : Nat) (xs : List Pw) : Prop := xs.length = n ∧ w.ownsRow base 57 7 (.slice A n c) n (pwV xs)
theorem OwnP.form {base : Nat} {w : World} {A : Option Addr} {n c : Nat} {xs : List Pw} (h : OwnP base w A n c xs) : n ≤ c ∧ c ≤ maxLen ∧ Rd w A (pwV xs) := by
  obtain ⟨hl, h⟩ := h
  rcases h.2 with ⟨hv, hn⟩ | ⟨g, cap, cur, hv, _, _, h1, h2, _⟩
  · injection hv with a1 a2 a3
    subst a1 a2 a3
    exact ⟨Nat.le_refl _, by unfold maxLen; omega, .inl (List.eq_nil_of_length_eq_zero (by rw [pwV_length, hl]))⟩
  · injection hv with a1 a2 a3
    subst a1 a3
    exact ⟨h1, h2, .inr ⟨_, rfl, h.cells (g := g) rfl⟩⟩
theorem OwnP.nil (base : Nat) (w : World) : OwnP base w none 0 0 [] := ⟨rfl, World.ownsRow_nil _ _ _ _⟩
theorem OwnP.block {base : Nat} {w : World} {A : Option Addr} {n c : Nat} {xs : List Pw} (h : OwnP base w A n c xs) : ∀ k, (Value.slice A n c).ownBlock = some k → base ≤ k := fun k hk => (h.2.lt k hk).1
theorem OwnP.below {base : Nat} {w w' : World} {A : Option Addr} {n c : Nat} {xs : List Pw} (h : OwnP base w A n c xs) (hb : Below w.heap.size w w') : OwnP base w' A n c xs := ⟨h.1, own_below1 h.2 hb⟩
theorem OwnP.mt {base : Nat} {w : World} {A : Option Addr} {n c : Nat} {xs : List Pw} (h : OwnP base w A n c xs) (hk : ∀ x ∈ xs, CkAt w x) (a1 a2 a3 a4 a5 a6 a7 : Int) : Mt w A c ⟨a1, a2, a3, a4, a5, a6, a7, pcesOf xs⟩ := by
  obtain ⟨h1, h2, h3⟩ := h.form
  exact ⟨pcs_of h3 hk, by show (pcesOf xs).length ≤ c; rw [pcesOf_length, h.1]; exact h1, h2⟩
theorem Tryd.infoPc : (Tryd.prog.info? 57).map (fun i => (i.zero, i.size, i.bytes)) = some (some (.agg #[.string ⟨#[]⟩, .bool false, .int .i64 0, .slice none 0 0, .int .i64 0, .int .i64 0, .int .i64 0]), 7, 80) := by kernel_rfl
/-- append(v, x) of one piece, v the call's own. -/
theorem run_appP {w : World} {base : Nat} {A : Option Addr} {n c : Nat} {xs : List Pw} (hown : OwnP base w A n c xs) (ad : Addr) (d : Nat) (x : Pw) (hc : ∀ j u, (pcV x.p x.C x.c)[j]? = some u → w.cell? (ad.add j) = some u) (hn : n ≤ 1000000) (hbase : base ≤ w.heap.size) :
    ∃ A' c' w', Hid (∀ ty, (Builtin.append_ #[24, 24] ty #[.slice A n c, .slice (some ad) 1 d]).run Tryd.prog w = .ok (.slice A' (n + 1) c') w') ∧ OwnP base w' A' (n + 1) c' (xs ++ [x]) ∧ w.grownBy w' (Value.slice A n c).ownBlock := by
  obtain ⟨i, hi, hz0, hz1, hz2⟩ := info_parts Tryd.infoPc
  have hll : (xs ++ [x]).length = n + 1 := by rw [List.length_append, hown.1]; rfl
  have hx1 : pwV [x] = pcV x.p x.C x.c := by simp [pwV]
  have key := fun ty => run_append_own (P := Tryd.prog) w base 24 ty 57 i _ 7 80 Tryd.underlying24 hi hz0 hz1 hz2 rfl (by decide) _ n (pwV xs) hown.2 ad 1 d (pwV [x]) (by rw [pwV_length]; rfl) (by rw [hx1]; exact hc) (pwV_one _) (by unfold maxLen; omega) (by omega) hbase
  obtain ⟨v', w', h2, h3, h4, _⟩ := key 0
  have hv : ∃ A' c', v' = .slice A' (n + 1) c' := by
    rcases h3.2 with ⟨rfl, e⟩ | ⟨g, cap, cur, rfl, _⟩
    · exact ⟨none, 0, by rw [e]⟩
    · exact ⟨_, cap, rfl⟩
  obtain ⟨A', c', rfl⟩ := hv
  exact ⟨A', c', w', fun ty => h2, ⟨hll, by rw [pwV_append]; exact h3⟩, h4⟩
/-- append(l, n) of one number, l the call's own. -/
theorem run_appI {w : World} {base : Nat} {A : Option Addr} {n c : Nat} {xs : List Int} (hown : w.ownsRow base 3 1 (.slice A n c) n (intV xs)) (ad : Addr) (d : Nat) (x : Int) (hc : w.cell? ad = some (.int .i64 x)) (hn : n ≤ 1000000) (hbase : base ≤ w.heap.size) :
    ∃ A' c' w', Hid (∀ ty, (Builtin.append_ #[27, 27] ty #[.slice A n c, .slice (some ad) 1 d]).run Tryd.prog w = .ok (.slice A' (n + 1) c') w') ∧ w'.ownsRow base 3 1 (.slice A' (n + 1) c') (n + 1) (intV (xs ++ [x])) ∧ w.grownBy w' (Value.slice A n c).ownBlock := by
  obtain ⟨A', c', w', h1, h2, h3⟩ := run_app (P := Tryd.prog) w base 27 0 3 (.int .i64 0) 8 Tryd.underlying27 Tryd.infoI rfl A n c (intV xs) hown (some ad) 1 d (intV [x]) rfl (.inr ⟨ad, rfl, fun j u hu => by
    match j, hu with
    | 0, hu =>
      simp [intV] at hu
      subst hu
      simpa [Addr.add] using hc⟩) (intV_one _) (by omega) hbase (by unfold maxLen; omega)
  exact ⟨A', c', w', fun ty => h1, by rw [intV_append]; exact h2, h3⟩
end Go.Proofs.YteimgnmjmpeobaaDoor
