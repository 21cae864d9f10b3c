/- WireNumbers: the walk. -/
import Derived.Test.YtpiinamfibhjdaaWg
namespace Go.Proofs.Ytpiinamfibhjdaa
open Go.RowKit

def clampI (x : Int) : Int := max 0 (min x 4294967295)
theorem clampN_eq (x : Int) : (clampN x : Int) = clampI x := by unfold clampN clampI; omega
theorem clampN_le (x : Int) : clampN x ≤ 4294967295 := by unfold clampN; omega

theorem ofNat_lt (a b : Nat) : (UInt8.ofNat a < UInt8.ofNat b) ↔ a % 256 < b % 256 := by rw [UInt8.lt_iff_toNat_lt]; simp
theorem ofNat_eq (a b : Nat) : (UInt8.ofNat a = UInt8.ofNat b) ↔ a % 256 = b % 256 := by rw [← UInt8.toNat_inj]; simp
theorem digits (a : Nat) (h : a ≤ 4294967295) : a / 65536 / 256 = a / 16777216 ∧ a / 256 / 256 = a / 65536 ∧ a / 16777216 / 256 = 0 := by
  rw [Nat.div_div_eq_div_mul, Nat.div_div_eq_div_mul, Nat.div_div_eq_div_mul]
  exact ⟨rfl, rfl, Nat.div_eq_of_lt (by omega)⟩
theorem numB_less (n m : Int) : Op.bytesLess (numB n) (numB m) = decide (clampI n < clampI m) := by
  have h1 := clampN_le n
  have h2 := clampN_le m
  have h3 := digits _ h1
  have h4 := digits _ h2
  rw [← clampN_eq, ← clampN_eq]
  rw [Bool.eq_iff_iff]
  simp only [numB, Op.bytesLess, Bool.or_eq_true, Bool.and_eq_true, decide_eq_true_eq, beq_iff_eq, ofNat_lt, ofNat_eq, Bool.false_eq_true, and_false, or_false]
  omega
theorem numB_same (n m : Int) : (numB n == numB m) = (clampI n == clampI m) := by
  have h1 := clampN_le n
  have h2 := clampN_le m
  have h3 := digits _ h1
  have h4 := digits _ h2
  rw [← clampN_eq, ← clampN_eq]
  rw [Bool.eq_iff_iff]
  simp only [numB, beq_iff_eq, List.cons.injEq, and_true, ofNat_eq]
  omega

set_option maxHeartbeats 1000000 in
theorem wireNumbers_walk (n m : Int) (w : World) (_ : (Lit.int .i64 n).wf = true) (_ : (Lit.int .i64 m).wf = true) :
    Calls Try.prog 8 #[.int .i64 n, .int .i64 m] w fun e w' => e = .returned (.bool true) ∧ Below w.heap.size w w' := by
  go_enter Try.func8, Try.ntmps8
  go_wp2_with fail
  refine (small_any _).mono ?_
  rintro e w1 ⟨rfl, hb1⟩
  go_upto_region 2 with (fail)
  go_cut [6] (fun x wx => x = .int .i64 (clampI n) ∧ w1 = wx)
  case first =>
    go_wp2_with fail
    all_goals
      go_meet
      case rel => exact ⟨by unfold clampI; congr 1; omega, rfl⟩
  case rest =>
  obtain ⟨rfl, rfl⟩ := hcut
  go_upto_region 3 with (fail)
  go_cut [7] (fun x wx => x = .int .i64 (clampI m) ∧ w1 = wx)
  case first =>
    go_wp2_with fail
    all_goals
      go_meet
      case rel => exact ⟨by unfold clampI; congr 1; omega, rfl⟩
  case rest =>
  obtain ⟨rfl, rfl⟩ := hcut
  go_wp2_with fail
  refine (number_any none 0 0 [] n _ rfl (.inl rfl) (by omega)).mono ?_
  rintro e w2 ⟨A2, c2, rfl, hown2, hb2⟩
  have hcv2 := conv_rd (P := Try.prog) w2 22 9 5 Try.underlying22 Try.underlying5 Try.underlying9 A2 (0 + 4) c2 (numB n) rfl (Rd.of_own hown2)
  have hb2' := hb1.trans (hb2.mono hb1.size)
  clear hown2 hb2 hb1
  go_wp2_with fail
  refine (number_any none 0 0 [] m _ rfl (.inl rfl) (by omega)).mono ?_
  rintro e w3 ⟨A3, c3, rfl, hown3, hb3⟩
  have hcv3 := conv_rd (P := Try.prog) w3 22 9 5 Try.underlying22 Try.underlying5 Try.underlying9 A3 (0 + 4) c3 (numB m) rfl (Rd.of_own hown3)
  have hb3' := hb2'.trans (hb3.mono hb2'.size)
  clear hown3 hb3 hb2' hcv2
  have hless := numB_less n m
  have hsame := numB_same n m
  have hl : (numB n).length = 4 := rfl
  go_wp2
  go_ret
  exact ⟨rfl, hb3'⟩
end Go.Proofs.Ytpiinamfibhjdaa
