/- Package clock: Right, Tick, Join, Order, Mine. -/
import Derived.Test.YtnkkjedckehoaaaDoorCa
namespace Go.Proofs.YtnkkjedckehoaaaDoor
open Go.RowKit

theorem pair_clk {a b : Nat} (ha : a ≤ 1073741824) (hb : b ≤ 1073741824) (w : World) :
    Calls Tryd.prog 32 #[.complex .f64 (fl a) (fl b)] w fun e w' => e = .returned (.agg #[.int .i64 (a : Int), .int .i64 (b : Int)]) ∧ Below w.heap.size w w' := by
  have h := pair_any (fl a) (fl b) a b (fl_whole ha).floor (fl_whole hb).floor w
  rw [Nat.min_eq_left ha, Nat.min_eq_left hb] at h
  exact h

/-- Is it a right pair? -/
def rt (l r : Int) : Bool := decide (0 ≤ l ∧ l ≤ 1073741824 ∧ 0 ≤ r ∧ r ≤ 1073741824)

set_option maxHeartbeats 1000000 in
theorem cright_any (l r : Int) (w : World) :
    Calls Tryd.prog 63 #[.agg #[.int .i64 l, .int .i64 r]] w fun e w' => e = .returned (.bool (rt l r)) ∧ Below w.heap.size w w' := by
  by_cases h : ((cl l : Nat) : Int) = l
  · go_enter Tryd.func63, Tryd.ntmps63
    go_wp2
    go_quiet (first | (go_at_call 52; exact Calls.quiet_of_same (clamped_any _ _)))
    go_wp2
    go_ret
    refine ⟨?_, ?_⟩
    · refine congrArg (fun b => Ending.returned (.bool b)) ?_
      unfold cl at h ⊢; unfold rt
      show (_ == _) = _
      rw [Bool.eq_iff_iff]
      simp only [beq_iff_eq, decide_eq_true_eq]
      omega
    · refine below_drewN ?_ _
      go_grown
  · have h' : (((cl l : Nat) : Int) == l) = false := by simpa using h
    go_enter Tryd.func63, Tryd.ntmps63
    go_wp2
    go_quiet (first | (go_at_call 52; exact Calls.quiet_of_same (clamped_any _ _)))
    go_wp2
    go_ret
    refine ⟨?_, ?_⟩
    · refine congrArg (fun b => Ending.returned (.bool b)) ?_
      unfold cl at h; unfold rt
      symm
      rw [decide_eq_false_iff_not]
      omega
    · refine below_drewN ?_ _
      go_grown

/-- One more, as far as may be. -/
def up (a : Nat) : Nat := min (a + 1) 1073741824
theorem up_le (a : Nat) : up a ≤ 1073741824 := by unfold up; omega

theorem cl_nat {a : Nat} (h : a ≤ 1073741824) : cl (a : Int) = a := by unfold cl; omega
theorem cl_up {a : Nat} (h : a ≤ 1073741824) : cl ((a : Int) + 1) = up a := by unfold cl up; omega

set_option maxHeartbeats 1000000 in
theorem tick_even {a b : Nat} (ha : a ≤ 1073741824) (hb : b ≤ 1073741824) (author : Int) (ho : odd author = false) (w : World) :
    Calls Tryd.prog 33 #[.complex .f64 (fl a) (fl b), .int .i64 author] w fun e w' => e = .returned (.complex .f64 (fl (up a)) (fl b)) ∧ Below w.heap.size w w' := by
  have H2 := hid (cl_nat hb)
  have H3 := hid (cl_up ha)
  go_enter Tryd.func33, Tryd.ntmps33
  go_wp2_with fail
  refine (pair_clk ha hb _).mono ?_
  rintro e w1 ⟨rfl, hb1⟩
  go_wp2_with fail
  refine (second_any author _).mono ?_
  rintro e w2 ⟨rfl, rfl⟩
  rw [ho]
  go_wp2_with fail
  refine (of_any _ _ _).mono ?_
  rintro e w2 ⟨rfl, hb2⟩
  rw [H2.out, H3.out]
  have hb2' : Below w.heap.size w w2 := by
    refine Below.trans ?_ (hb2.mono ?_)
    · refine Below.trans hb1 ?_
      have := hb1.size
      go_grown
    · have := hb1.size
      go_size
  clear hb1 hb2
  go_wp2
  go_ret
  exact ⟨rfl, hb2'⟩

set_option maxHeartbeats 1000000 in
theorem tick_odd {a b : Nat} (ha : a ≤ 1073741824) (hb : b ≤ 1073741824) (author : Int) (ho : odd author = true) (w : World) :
    Calls Tryd.prog 33 #[.complex .f64 (fl a) (fl b), .int .i64 author] w fun e w' => e = .returned (.complex .f64 (fl a) (fl (up b))) ∧ Below w.heap.size w w' := by
  have H2 := hid (cl_nat ha)
  have H3 := hid (cl_up hb)
  go_enter Tryd.func33, Tryd.ntmps33
  go_wp2_with fail
  refine (pair_clk ha hb _).mono ?_
  rintro e w1 ⟨rfl, hb1⟩
  go_wp2_with fail
  refine (second_any author _).mono ?_
  rintro e w2 ⟨rfl, rfl⟩
  rw [ho]
  go_wp2_with fail
  refine (of_any _ _ _).mono ?_
  rintro e w2 ⟨rfl, hb2⟩
  rw [H2.out, H3.out]
  have hb2' : Below w.heap.size w w2 := by
    refine Below.trans ?_ (hb2.mono ?_)
    · refine Below.trans hb1 ?_
      have := hb1.size
      go_grown
    · have := hb1.size
      go_size
  clear hb1 hb2
  go_wp2
  go_ret
  exact ⟨rfl, hb2'⟩
end Go.Proofs.YtnkkjedckehoaaaDoor
