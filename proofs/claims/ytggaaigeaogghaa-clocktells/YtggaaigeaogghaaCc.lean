/- Package clock: Join, Order, Mine. -/
import Derived.Test.YtggaaigeaogghaaCb
namespace Go.Proofs.Ytggaaigeaogghaa
open Go.RowKit

theorem cl_of {a : Nat} {x : Int} (h : a ≤ 1073741824) (e : x = a) : cl x = a := by unfold cl; omega

/-- What Mine tells. -/
def mineI (a b : Nat) (author : Int) : Int := if odd author then b else a

set_option maxHeartbeats 1000000 in
theorem mine_any {a b : Nat} (ha : a ≤ 1073741824) (hb : b ≤ 1073741824) (author : Int) (w : World) :
    Calls Try.prog 22 #[.complex .f64 (fl a) (fl b), .int .i64 author] w fun e w' => e = .returned (.int .i64 (mineI a b author)) ∧ Below w.heap.size w w' := by
  unfold mineI
  cases ho : odd author
  · go_enter Try.func22, Try.ntmps22
    go_wp2_with fail
    refine (pair_clk ha hb _).mono ?_
    rintro e w1 ⟨rfl, hb1⟩
    go_wp2_with fail
    refine (second_any author _).mono ?_
    rintro e w2 ⟨rfl, rfl⟩
    rw [ho]
    go_wp2
    go_ret
    refine ⟨rfl, Below.trans hb1 ?_⟩
    have := hb1.size
    go_grown
  · go_enter Try.func22, Try.ntmps22
    go_wp2_with fail
    refine (pair_clk ha hb _).mono ?_
    rintro e w1 ⟨rfl, hb1⟩
    go_wp2_with fail
    refine (second_any author _).mono ?_
    rintro e w2 ⟨rfl, rfl⟩
    rw [ho]
    go_wp2
    go_ret
    refine ⟨rfl, Below.trans hb1 ?_⟩
    have := hb1.size
    go_grown

set_option maxHeartbeats 1000000 in
theorem join_any {a b c d : Nat} (ha : a ≤ 1073741824) (hb : b ≤ 1073741824) (hc : c ≤ 1073741824) (hd : d ≤ 1073741824) (w : World) :
    Calls Try.prog 19 #[.complex .f64 (fl a) (fl b), .complex .f64 (fl c) (fl d)] w fun e w' => e = .returned (.complex .f64 (fl (max a c)) (fl (max b d))) ∧ Below w.heap.size w w' := by
  have H1 := fun (x : Int) (e : x = (max a c : Nat)) => cl_of (show max a c ≤ 1073741824 by omega) e
  have H2 := fun (x : Int) (e : x = (max b d : Nat)) => cl_of (show max b d ≤ 1073741824 by omega) e
  have H1' := hid H1
  have H2' := hid H2
  clear H1 H2
  go_enter Try.func19, Try.ntmps19
  go_wp2_with fail
  refine (pair_clk ha hb _).mono ?_
  rintro e w1 ⟨rfl, hb1⟩
  go_wp2_with fail
  refine (pair_clk hc hd _).mono ?_
  rintro e w2 ⟨rfl, hb2⟩
  have hb2' := hb1.trans (hb2.mono hb1.size)
  clear hb1 hb2
  go_wp2_with fail
  all_goals
    refine (of_any _ _ _).mono ?_
    rintro e w3 ⟨rfl, hb3⟩
    rw [H1'.out _ (by omega), H2'.out _ (by omega)]
    have hb3' : Below w.heap.size w w3 := by
      refine Below.trans ?_ (hb3.mono ?_)
      · refine Below.trans hb2' ?_
        have := hb2'.size
        go_grown
      · have := hb2'.size
        go_size
    clear hb3 hb2'
    go_wp2
    go_ret
    exact ⟨rfl, hb3'⟩

/-- What Order tells. -/
def ordI (a b c d : Nat) : Int := if a = c ∧ b = d then 0 else if a ≤ c ∧ b ≤ d then 1 else if c ≤ a ∧ d ≤ b then 2 else 3

set_option maxHeartbeats 2000000 in
theorem order_any {a b c d : Nat} (ha : a ≤ 1073741824) (hb : b ≤ 1073741824) (hc : c ≤ 1073741824) (hd : d ≤ 1073741824) (w : World) :
    Calls Try.prog 20 #[.complex .f64 (fl a) (fl b), .complex .f64 (fl c) (fl d)] w fun e w' => e = .returned (.int .i64 (ordI a b c d)) ∧ Below w.heap.size w w' := by
  go_enter Try.func20, Try.ntmps20
  go_wp2_with fail
  refine (pair_clk ha hb _).mono ?_
  rintro e w1 ⟨rfl, hb1⟩
  go_wp2_with fail
  refine (pair_clk hc hd _).mono ?_
  rintro e w2 ⟨rfl, hb2⟩
  have hb2' := hb1.trans (hb2.mono hb1.size)
  clear hb1 hb2 ha hb hc hd
  go_wp2
  all_goals
    go_ret
    refine ⟨ret_int ?_, ?_⟩
    · trace_state
      unfold ordI
      omega
    · refine Below.trans hb2' ?_
      have := hb2'.size
      go_grown
end Go.Proofs.Ytggaaigeaogghaa
