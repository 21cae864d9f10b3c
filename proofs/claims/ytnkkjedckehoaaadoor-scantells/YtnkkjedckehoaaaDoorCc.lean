/- Package clock: Join, Order, Mine. -/
import Derived.Test.YtnkkjedckehoaaaDoorCb
namespace Go.Proofs.YtnkkjedckehoaaaDoor
open Go.RowKit

theorem cl_of {a : Nat} {x : Int} (h : a ≤ 1073741824) (e : x = a) : cl x = a := by unfold cl; omega

/-- What Mine tells. -/
def mineI (a b : Nat) (author : Int) : Int := if odd author then b else a

set_option maxHeartbeats 1000000 in
theorem mine_any {a b : Nat} (ha : a ≤ 1073741824) (hb : b ≤ 1073741824) (author : Int) (w : World) :
    Calls Tryd.prog 29 #[.complex .f64 (fl a) (fl b), .int .i64 author] w fun e w' => e = .returned (.int .i64 (mineI a b author)) ∧ Below w.heap.size w w' := by
  unfold mineI
  cases ho : odd author
  · go_enter Tryd.func29, Tryd.ntmps29
    go_wp2_with fail
    refine (pair_clk ha hb _).mono ?_
    rintro e w1 ⟨rfl, hb1⟩
    go_wp2_with fail
    refine (second_any author _).mono ?_
    rintro e w2 ⟨rfl, rfl⟩
    rw [ho]
    go_wp2
    go_ret
    refine ⟨rfl, Below.trans hb1 ?_⟩
    have := hb1.size
    go_grown
  · go_enter Tryd.func29, Tryd.ntmps29
    go_wp2_with fail
    refine (pair_clk ha hb _).mono ?_
    rintro e w1 ⟨rfl, hb1⟩
    go_wp2_with fail
    refine (second_any author _).mono ?_
    rintro e w2 ⟨rfl, rfl⟩
    rw [ho]
    go_wp2
    go_ret
    refine ⟨rfl, Below.trans hb1 ?_⟩
    have := hb1.size
    go_grown

/-- What Order tells. -/
def ordI (a b c d : Nat) : Int := if a = c ∧ b = d then 0 else if a ≤ c ∧ b ≤ d then 1 else if c ≤ a ∧ d ≤ b then 2 else 3

set_option maxHeartbeats 2000000 in
theorem order_any {a b c d : Nat} (ha : a ≤ 1073741824) (hb : b ≤ 1073741824) (hc : c ≤ 1073741824) (hd : d ≤ 1073741824) (w : World) :
    Calls Tryd.prog 27 #[.complex .f64 (fl a) (fl b), .complex .f64 (fl c) (fl d)] w fun e w' => e = .returned (.int .i64 (ordI a b c d)) ∧ Below w.heap.size w w' := by
  go_enter Tryd.func27, Tryd.ntmps27
  go_wp2_with fail
  refine (pair_clk ha hb _).mono ?_
  rintro e w1 ⟨rfl, hb1⟩
  go_wp2_with fail
  refine (pair_clk hc hd _).mono ?_
  rintro e w2 ⟨rfl, hb2⟩
  have hb2' := hb1.trans (hb2.mono hb1.size)
  clear hb1 hb2 ha hb hc hd
  go_wp2
  all_goals
    go_ret
    refine ⟨ret_int ?_, ?_⟩
    · unfold ordI
      omega
    · refine Below.trans hb2' ?_
      have := hb2'.size
      go_grown
end Go.Proofs.YtnkkjedckehoaaaDoor
