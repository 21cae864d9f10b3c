/- Package clock: what clamps, and counts; Of, Pair. -/
import Derived.Test.YtnkkjedckehoaaaDoorMem
import Derived.Test.YtnkkjedckehoaaaDoorFm
import Derived.Deep.QuietTactic
import Derived.BigQuiet
import Derived.Handy
import Derived.WalkSmall
namespace Go.Proofs.YtnkkjedckehoaaaDoor
open Go.RowKit


/-- A count, clamped. -/
def cl (n : Int) : Nat := (min (max n 0) 1073741824).toNat

set_option maxHeartbeats 400000 in
theorem clamped_any (n : Int) (w : World) :
    Calls Tryd.prog 52 #[.int .i64 n] w fun e w' => e = .returned (.int .i64 (cl n)) ∧ w' = w := by
  go_enter Tryd.func52, Tryd.ntmps52
  go_wp2
  all_goals
    go_ret
    exact ⟨ret_int (by unfold cl; omega), rfl⟩

def odd (n : Int) : Bool := n % 2 != 0
theorem odd_eq (n : Int) : odd n = (n.tmod 2 != 0) := by
  unfold odd
  rw [bne, bne]
  congr 1
  rw [Bool.eq_iff_iff, beq_iff_eq, beq_iff_eq, ← Int.dvd_iff_emod_eq_zero, ← Int.dvd_iff_tmod_eq_zero]

set_option maxHeartbeats 400000 in
theorem second_any (n : Int) (w : World) :
    Calls Tryd.prog 53 #[.int .i64 n] w fun e w' => e = .returned (.bool (odd n)) ∧ w' = w := by
  go_enter Tryd.func53, Tryd.ntmps53
  go_wp2
  go_ret
  exact ⟨by rw [odd_eq]; rfl, rfl⟩

set_option maxHeartbeats 400000 in
theorem count_any (x N : Nat) (h : FloorIs (Ieee.double.read x) N) (w : World) :
    Calls Tryd.prog 57 #[.float .f64 x] w fun e w' => e = .returned (.int .i64 ((min N 1073741824 : Nat) : Int)) ∧ w' = w := by
  rcases h with ⟨m, k, hr, h1, h2⟩ | ⟨rfl, m, e, hr⟩
  · have h3 := gt_zero hr
    by_cases hm : 0 < m
    · rw [show decide (0 < m) = true by simpa using hm] at h3
      have h4 := ge_max hr h1 h2
      by_cases hn : 1073741824 ≤ N
      · rw [show decide (1073741824 ≤ N) = true by simpa using hn] at h4
        have h3' : (FloatKind.f64.format.order x 0 == some .gt) = true := h3
        have h4' : (FloatKind.f64.format.order x 4742290407621132288 == some .gt || FloatKind.f64.format.order x 4742290407621132288 == some .eq) = true := h4
        clear h1 h2 h3 h4 hr
        go_enter Tryd.func57, Tryd.ntmps57
        go_wp2
        go_ret
        exact ⟨ret_int (by omega), rfl⟩
      · rw [show decide (1073741824 ≤ N) = false by simpa using hn] at h4
        have h3' : (FloatKind.f64.format.order x 0 == some .gt) = true := h3
        have h4' : (FloatKind.f64.format.order x 4742290407621132288 == some .gt || FloatKind.f64.format.order x 4742290407621132288 == some .eq) = false := h4
        have hc : (convert 74 3 (.float .f64 x)).run Tryd.prog w = .ok (.int .i64 N) w :=
          run_convert_float_int w _ _ .f64 .i64 x N (by rw [Tryd.underlying74]; rfl) Tryd.underlying3 (by
            unfold floatToIntVal
            rw [show FloatKind.f64.decode x = Ieee.double.read x from rfl, to_int hr h1 h2]
            exact if_pos ⟨by show (-9223372036854775808 : Int) ≤ N; omega, by show (N : Int) ≤ 9223372036854775807; omega⟩)
        clear h1 h2 h3 h4 hr
        go_enter Tryd.func57, Tryd.ntmps57
        go_wp2
        go_ret
        exact ⟨ret_int (by omega), rfl⟩
    · rw [show decide (0 < m) = false by simpa using hm] at h3
      have h3' : (FloatKind.f64.format.order x 0 == some .gt) = false := h3
      have hN : N = 0 := by
        have := Nat.two_pow_pos k
        rcases Nat.eq_zero_or_pos N with h | h
        · exact h
        · have := Nat.mul_pos h this; omega
      subst hN
      clear h1 h2 h3 hr
      go_enter Tryd.func57, Tryd.ntmps57
      go_wp2
      go_ret
      exact ⟨ret_int (by omega), rfl⟩
  · have h3' : (FloatKind.f64.format.order x 0 == some .gt) = false := not_gt hr
    clear hr
    go_enter Tryd.func57, Tryd.ntmps57
    go_wp2
    go_ret
    exact ⟨ret_int (by omega), rfl⟩

/-- A count as a part of a clock. -/
def fl (a : Nat) : Nat := floatOfInt .f64 (a : Int)
theorem fl_eq (n : Int) : floatOfInt .f64 ((cl n : Nat) : Int) = fl (cl n) := rfl
theorem cl_le (n : Int) : cl n ≤ 1073741824 := by unfold cl; omega
theorem fl_whole {a : Nat} (h : a ≤ 1073741824) : Whole (Ieee.double.read (fl a)) a := whole_int a (by omega)

set_option maxHeartbeats 400000 in
theorem of_any (l r : Int) (w : World) :
    Calls Tryd.prog 28 #[.agg #[.int .i64 l, .int .i64 r]] w fun e w' => e = .returned (.complex .f64 (fl (cl l)) (fl (cl r))) ∧ Below w.heap.size w w' := by
  go_enter Tryd.func28, Tryd.ntmps28
  go_wp2
  go_quiet (first | (go_at_call 52; exact Calls.quiet_of_same (clamped_any _ _)))
  go_wp2
  go_ret
  refine ⟨rfl, ?_⟩
  refine below_drewN ?_ _
  go_grown

set_option maxHeartbeats 400000 in
theorem pair_any (x y N M : Nat) (hx : FloorIs (Ieee.double.read x) N) (hy : FloorIs (Ieee.double.read y) M) (w : World) :
    Calls Tryd.prog 32 #[.complex .f64 x y] w fun e w' => e = .returned (.agg #[.int .i64 ((min N 1073741824 : Nat) : Int), .int .i64 ((min M 1073741824 : Nat) : Int)]) ∧ Below w.heap.size w w' := by
  go_enter Tryd.func32, Tryd.ntmps32
  go_wp2_with fail
  refine (count_any x N hx _).mono ?_
  rintro e w1 ⟨rfl, rfl⟩
  go_wp2_with fail
  refine (count_any y M hy _).mono ?_
  rintro e w1 ⟨rfl, rfl⟩
  go_wp2
  go_returns
  refine ⟨rfl, ?_⟩
  go_grown
end Go.Proofs.YtnkkjedckehoaaaDoor
