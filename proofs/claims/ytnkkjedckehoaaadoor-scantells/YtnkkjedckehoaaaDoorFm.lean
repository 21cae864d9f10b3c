/- Whole numbers as float64, and their quotients. -/
import Derived.Test.YtnkkjedckehoaaaDoorFl
namespace Go.Proofs.YtnkkjedckehoaaaDoor
open Ieee

theorem d_sign : double.signWeight = 9223372036854775808 := by decide +kernel
theorem d_bin : double.binade = 4503599627370496 := by decide +kernel
theorem d_inf : double.infRung = 9218868437227405312 := by decide +kernel
theorem d_least : double.leastPlace = -1074 := by decide +kernel

theorem cut_even (neg : Bool) (n drop : Nat) (h : drop ≤ n.log2 + 2) : Toward.even.cut neg n drop = n / 2 ^ drop ∨ (0 < drop ∧ Toward.even.cut neg n drop = n / 2 ^ drop + 1) := by
  simp only [Toward.cut, Nat.min_eq_left h, Nat.one_shiftLeft]
  by_cases h0 : drop = 0
  · subst h0
    left
    simp [Nat.mod_one]
  · cases (decide (2 ^ drop < 2 * (n % 2 ^ drop)) || 2 ^ drop == 2 * (n % 2 ^ drop) && n / 2 ^ drop % 2 == 1)
    · left; rfl
    · right; exact ⟨by omega, rfl⟩

theorem read_word (neg : Bool) (rung : Nat) (h1 : 4503599627370496 ≤ rung) (h2 : rung < 9218868437227405312) :
    double.read (double.word neg rung) = .number neg (4503599627370496 + rung % 4503599627370496) (-1074 + ((rung / 4503599627370496 - 1 : Nat) : Int)) := by
  have hs : (double.word neg rung / 9223372036854775808 % 2 == 1) = neg ∧ double.word neg rung % 9223372036854775808 = rung := by
    unfold Format.word
    rw [d_sign]
    cases neg
    · simp; omega
    · simp; omega
  simp only [Format.read, d_sign, d_bin, d_inf, d_least, hs.1, hs.2]
  rw [if_neg (by omega), if_pos h2]

/-- The digits of a number that are kept. -/
def lowOf (mag : Nat) : Nat := mag * 2 ^ (52 - mag.log2) / 2 ^ (mag.log2 - 52)
theorem low_small {mag : Nat} (h : mag.log2 ≤ 52) : lowOf mag = mag * 2 ^ (52 - mag.log2) := by
  unfold lowOf
  rw [show mag.log2 - 52 = 0 by omega, Nat.pow_zero, Nat.div_one]
theorem low_great {mag : Nat} (h : 52 ≤ mag.log2) : lowOf mag = mag / 2 ^ (mag.log2 - 52) := by
  unfold lowOf
  rw [show 52 - mag.log2 = 0 by omega, Nat.pow_zero, Nat.mul_one]
theorem low_bounds {mag : Nat} (hm : 0 < mag) : 4503599627370496 ≤ lowOf mag ∧ lowOf mag < 9007199254740992 := by
  have h1 : 2 ^ mag.log2 ≤ mag := Nat.log2_self_le (by omega)
  have h2 : mag < 2 ^ (mag.log2 + 1) := Nat.lt_log2_self
  by_cases h : mag.log2 ≤ 52
  · rw [low_small h]
    constructor
    · refine Nat.le_trans ?_ (Nat.mul_le_mul_right _ h1)
      rw [← Nat.pow_add, show mag.log2 + (52 - mag.log2) = 52 by omega]
      decide
    · refine Nat.lt_of_lt_of_le (Nat.mul_lt_mul_of_pos_right h2 (Nat.two_pow_pos _)) ?_
      rw [← Nat.pow_add, show mag.log2 + 1 + (52 - mag.log2) = 53 by omega]
      decide
  · rw [low_great (by omega)]
    constructor
    · rw [Nat.le_div_iff_mul_le (Nat.two_pow_pos _)]
      refine Nat.le_trans ?_ h1
      rw [show (4503599627370496 : Nat) = 2 ^ 52 by decide, ← Nat.pow_add, show 52 + (mag.log2 - 52) = mag.log2 by omega]
      exact Nat.le_refl _
    · rw [Nat.div_lt_iff_lt_mul (Nat.two_pow_pos _)]
      refine Nat.lt_of_lt_of_le h2 ?_
      rw [show (9007199254740992 : Nat) = 2 ^ 53 by decide, ← Nat.pow_add, show 53 + (mag.log2 - 52) = mag.log2 + 1 by omega]
      exact Nat.le_refl _

theorem read_nearest (neg : Bool) (mag : Nat) (place : Int) (hm : 0 < mag) (h1 : -1000 ≤ place + mag.log2) (h2 : place + mag.log2 ≤ 1000) :
    ∃ K e kept, double.read (double.nearest neg mag place) = .number neg K e ∧ (kept = lowOf mag ∨ (52 < mag.log2 ∧ kept = lowOf mag + 1)) ∧
      ((K = kept ∧ e = place + mag.log2 - 52) ∨ (kept = 9007199254740992 ∧ K = 4503599627370496 ∧ e = place + mag.log2 - 51)) := by
  have hb := low_bounds hm
  have hcut : Toward.even.cut neg (mag * 2 ^ (52 - mag.log2)) (mag.log2 - 52) = lowOf mag ∨ (52 < mag.log2 ∧ Toward.even.cut neg (mag * 2 ^ (52 - mag.log2)) (mag.log2 - 52) = lowOf mag + 1) := by
    have hd : mag.log2 - 52 ≤ (mag * 2 ^ (52 - mag.log2)).log2 + 2 := by
      by_cases h : mag.log2 ≤ 52
      · omega
      · rw [show 52 - mag.log2 = 0 by omega, Nat.pow_zero, Nat.mul_one]; omega
    rcases cut_even neg _ _ hd with h | ⟨h, h'⟩
    · exact .inl h
    · exact .inr ⟨by omega, h'⟩
  generalize hke : Toward.even.cut neg (mag * 2 ^ (52 - mag.log2)) (mag.log2 - 52) = kept at hcut
  have hkb : 4503599627370496 ≤ kept ∧ kept ≤ 9007199254740992 := by omega
  have hw : double.nearest neg mag place = double.word neg ((place + mag.log2 + 1022).toNat * 4503599627370496 + kept) := by
    unfold Format.nearest
    rw [if_neg (by omega)]
    simp only [d_least, d_bin, d_inf, show ((double.fractionBits : Nat) : Int) = 52 from rfl]
    rw [show max (place + (mag.log2 : Int) - 52) (-1074) = place + mag.log2 - 52 by omega, show (place - (place + (mag.log2 : Int) - 52)).toNat = 52 - mag.log2 by omega,
      show (place + (mag.log2 : Int) - 52 - place).toNat = mag.log2 - 52 by omega, Nat.shiftLeft_eq, hke, show (place + (mag.log2 : Int) - 52 - -1074).toNat = (place + mag.log2 + 1022).toNat by omega]
    rw [Nat.min_eq_left (by omega)]
  rw [hw, read_word _ _ (by omega) (by omega)]
  by_cases hc : kept = 9007199254740992
  · exact ⟨4503599627370496, place + mag.log2 - 51, kept, by congr 1 <;> omega, hcut, .inr ⟨hc, rfl, rfl⟩⟩
  · exact ⟨kept, place + mag.log2 - 52, kept, by congr 1 <;> omega, hcut, .inl ⟨rfl, rfl⟩⟩

theorem log2_lt {n k : Nat} (h : n < 2 ^ k) (hk : 0 < k) : n.log2 < k := by
  by_cases hn : n = 0
  · subst hn; simpa using hk
  · exact (Nat.log2_lt hn).2 h

theorem floatOf_eq (a : Int) : floatOfInt .f64 a = double.nearest (decide (a < 0)) a.natAbs 0 := rfl

/-- A whole number's word. -/
theorem read_int (a : Int) (h0 : a ≠ 0) (h : a.natAbs < 2 ^ 53) :
    double.read (floatOfInt .f64 a) = .number (decide (a < 0)) (a.natAbs * 2 ^ (52 - a.natAbs.log2)) (-((52 - a.natAbs.log2 : Nat) : Int)) := by
  have hl : a.natAbs.log2 < 53 := log2_lt h (by decide)
  rw [floatOf_eq]
  obtain ⟨K, e, kept, hr, hk, he⟩ := read_nearest (decide (a < 0)) a.natAbs 0 (by omega) (by omega) (by omega)
  have hb := low_bounds (mag := a.natAbs) (by omega)
  rw [hr]
  rw [low_small (by omega)] at hk hb
  rcases hk with hk | hk
  · rcases he with ⟨rfl, rfl⟩ | he
    · rw [hk]; congr 1; omega
    · omega
  · omega
theorem read_int0 : double.read (floatOfInt .f64 0) = .number false 0 (-(1074 : Nat)) := by decide +kernel

theorem whole_nil {d : Datum} {k : Nat} (h : d = .number false 0 (-(k : Int))) : Whole d 0 := ⟨k, by rw [h, Nat.zero_mul]⟩
theorem whole_int (n : Nat) (h : n < 2 ^ 53) : Whole (double.read (floatOfInt .f64 (n : Int))) n := by
  by_cases h0 : n = 0
  · subst h0; exact whole_nil read_int0
  · refine ⟨52 - n.log2, ?_⟩
    rw [read_int (n : Int) (by omega) (by simpa using h)]
    simp

theorem log2_norm {n : Nat} (h0 : 0 < n) (h : n.log2 ≤ 52) : (n * 2 ^ (52 - n.log2)).log2 = 52 := by
  have hb := low_bounds h0
  rw [low_small h] at hb
  rw [Nat.log2_eq_iff (by omega)]
  exact ⟨Nat.le_trans (by decide) hb.1, Nat.lt_of_lt_of_le hb.2 (by decide)⟩

/-- The quotient of whole numbers, as it is rounded: as far as whole numbers go, it is right. -/
theorem div_floor (A B : Nat) (hA : 0 < A) (hA2 : A ≤ 2 ^ 40) (hB : 0 < B) (hB2 : B ≤ 1000) (s : Bool) :
    ∃ K e, double.read (double.nearest s (2 * ((A * 2 ^ (52 - A.log2)) <<< 54 / (B * 2 ^ (52 - B.log2))) + ((A * 2 ^ (52 - A.log2)) <<< 54 % (B * 2 ^ (52 - B.log2)) != 0).toNat)
      (-((52 - A.log2 : Nat) : Int) - -((52 - B.log2 : Nat) : Int) - (54 : Nat) - 1)) = .number s K e ∧ ∃ k : Nat, e = -(k : Int) ∧ A / B * 2 ^ k ≤ K ∧ K < (A / B + 1) * 2 ^ k := by
  have hla : A.log2 < 41 := log2_lt (Nat.lt_of_le_of_lt hA2 (by decide)) (by decide)
  have hlb : B.log2 < 10 := log2_lt (Nat.lt_of_le_of_lt hB2 (by decide)) (by decide)
  have hab := low_bounds hA
  have hbb := low_bounds hB
  rw [low_small (by omega)] at hab hbb
  rw [Nat.shiftLeft_eq]
  generalize hm : A * 2 ^ (52 - A.log2) = m at *
  generalize hn : B * 2 ^ (52 - B.log2) = n at *
  have hq1 : 9007199254740992 ≤ m * 2 ^ 54 / n := (Nat.le_div_iff_mul_le (by omega)).2 (by omega)
  have hq2 : m * 2 ^ 54 / n < 36028797018963968 := (Nat.div_lt_iff_lt_mul (by omega)).2 (by omega)
  generalize hst : (m * 2 ^ 54 % n != 0).toNat = st
  have hst1 : st ≤ 1 := by rw [← hst]; exact Bool.toNat_le _
  generalize hQ : m * 2 ^ 54 / n = Q at *
  obtain ⟨g, hg, hg1, hg2⟩ : ∃ g, (2 * Q + st).log2 = 53 + g ∧ 1 ≤ g ∧ g ≤ 2 := by
    have h1 : 54 ≤ (2 * Q + st).log2 := (Nat.le_log2 (by omega)).2 (by omega)
    have h2 : (2 * Q + st).log2 < 56 := log2_lt (by omega) (by decide)
    exact ⟨(2 * Q + st).log2 - 53, by omega, by omega, by omega⟩
  obtain ⟨K, e, kept, hr, hk, he⟩ := read_nearest s (2 * Q + st) (-((52 - A.log2 : Nat) : Int) - -((52 - B.log2 : Nat) : Int) - (54 : Nat) - 1) (by omega) (by omega) (by omega)
  refine ⟨K, e, hr, ?_⟩
  have hlow : lowOf (2 * Q + st) = A * 2 ^ (54 + B.log2 - A.log2 - g) / B := by
    rw [low_great (by omega), hg, show 53 + g - 52 = 1 + g by omega, Nat.pow_add, Nat.pow_one, ← Nat.div_div_eq_div_mul, show (2 * Q + st) / 2 = Q by omega, ← hQ, Nat.div_div_eq_div_mul, ← hm, ← hn,
      Nat.mul_assoc, ← Nat.pow_add, Nat.mul_assoc, ← Nat.pow_add, show 52 - A.log2 + 54 = (54 + B.log2 - A.log2 - g) + (52 - B.log2 + g) by omega, Nat.pow_add, ← Nat.mul_assoc, Nat.mul_div_mul_right _ _ (Nat.two_pow_pos _)]
  rw [hlow, hg] at hk
  rw [hg] at he
  clear hlow hr hQ hq1 hq2 hst hm hn
  have hk0 : 12 ≤ 54 + B.log2 - A.log2 - g := by omega
  have hke : -((52 - A.log2 : Nat) : Int) - -((52 - B.log2 : Nat) : Int) - (54 : Nat) - 1 + ((53 + g : Nat) : Int) - 52 = -((54 + B.log2 - A.log2 - g : Nat) : Int) := by omega
  have hke' : -((52 - A.log2 : Nat) : Int) - -((52 - B.log2 : Nat) : Int) - (54 : Nat) - 1 + ((53 + g : Nat) : Int) - 51 = -((54 + B.log2 - A.log2 - g - 1 : Nat) : Int) := by omega
  rw [hke, hke'] at he
  generalize 54 + B.log2 - A.log2 - g = k at *
  have hN1 : A / B * 2 ^ k ≤ A * 2 ^ k / B := by
    rw [Nat.le_div_iff_mul_le hB, Nat.mul_right_comm]
    exact Nat.mul_le_mul_right _ (Nat.div_mul_le_self A B)
  have hN2 : A * 2 ^ k / B + 1 < (A / B + 1) * 2 ^ k := by
    have hA3 : A + 1 ≤ (A / B + 1) * B := by
      have := Nat.div_add_mod A B
      have := Nat.mod_lt A hB
      rw [Nat.add_mul, Nat.one_mul, Nat.mul_comm]
      omega
    have h3 := Nat.mul_le_mul_right (2 ^ k) hA3
    rw [Nat.add_mul, Nat.one_mul, Nat.mul_right_comm] at h3
    have h4 := Nat.div_mul_le_self (A * 2 ^ k) B
    have h5 : 4096 ≤ 2 ^ k := Nat.le_trans (by decide) (Nat.pow_le_pow_right (by decide) hk0)
    refine Nat.lt_of_not_le fun h6 => ?_
    have h7 := Nat.mul_le_mul_right B h6
    rw [Nat.add_mul (A * 2 ^ k / B), Nat.one_mul] at h7
    omega
  rcases he with ⟨rfl, rfl⟩ | ⟨hkx, rfl, rfl⟩
  · exact ⟨k, rfl, by omega, by omega⟩
  · refine ⟨k - 1, rfl, ?_⟩
    obtain ⟨j, rfl⟩ : ∃ j, k = j + 1 := ⟨k - 1, by omega⟩
    generalize A * 2 ^ (j + 1) / B = z at *
    rw [Nat.pow_succ, ← Nat.mul_assoc] at hN1 hN2
    rw [show j + 1 - 1 = j by omega]
    omega

/-- A word that is the quotient of a and b, and what it is, rounded towards 0. -/
theorem quo_floor (a b : Int) (ha : -(2 ^ 40) ≤ a) (ha2 : a ≤ 2 ^ 40) (hb : 1 ≤ b) (hb2 : b ≤ 1000) :
    ∃ r, floatBits .quo .f64 (floatOfInt .f64 a) (floatOfInt .f64 b) = some r ∧ FloorIs (double.read r) (a.tdiv b).toNat := by
  show ∃ r, double.div _ _ = some r ∧ _
  unfold Format.div
  have hrb := read_int b (by omega) (by omega)
  rw [hrb, show decide (b < 0) = false by simp; omega]
  have hB : 0 < b.natAbs := by omega
  have hlb : b.natAbs.log2 < 10 := log2_lt (by omega) (by decide)
  have hbb := low_bounds hB
  rw [low_small (by omega)] at hbb
  by_cases h0 : a = 0
  · subst h0
    rw [read_int0]
    refine ⟨0, ?_, ?_⟩
    · simp only [Datum.quotient]
      rw [if_neg (by omega)]
      simp only [Nat.zero_shiftLeft, Nat.zero_div, Nat.zero_mod, Option.map, Format.write, Format.nearest]
      rfl
    · rw [Int.zero_tdiv]; exact (whole_nil read_zero).floor
  · have hA : 0 < a.natAbs := by omega
    have hla : a.natAbs.log2 < 41 := log2_lt (by omega) (by decide)
    obtain ⟨K, e, hr, k, rfl, h1, h2⟩ := div_floor a.natAbs b.natAbs hA (by omega) hB (by omega) (decide (a < 0) ^^ false)
    rw [read_int a h0 (by omega)]
    simp only [Datum.quotient]
    rw [if_neg (by omega), log2_norm hA (by omega), log2_norm hB (by omega), show double.fractionBits + 2 + 52 - 52 = 54 from rfl]
    refine ⟨_, rfl, ?_⟩
    simp only [Format.write]
    rw [hr]
    by_cases hs : a < 0
    · refine .inr ⟨?_, K, -(k : Int), by simp [hs]⟩
      have h3 : 0 ≤ (-a).tdiv b := Int.tdiv_nonneg (by omega) (by omega)
      rw [Int.neg_tdiv] at h3
      omega
    · refine .inl ⟨K, k, by simp [hs], ?_⟩
      have : (a.tdiv b).toNat = a.natAbs / b.natAbs := by
        obtain ⟨x, rfl⟩ := Int.eq_ofNat_of_zero_le (show 0 ≤ a by omega)
        obtain ⟨y, rfl⟩ := Int.eq_ofNat_of_zero_le (show 0 ≤ b by omega)
        rw [← Int.ofNat_tdiv]
        rfl
      rw [this]
      exact ⟨h1, h2⟩
end Go.Proofs.YtnkkjedckehoaaaDoor
