/- The small case; under. -/
import Derived.Test.YtggaaigeaogghaaCc
namespace Go.Proofs.Ytggaaigeaogghaa
open Go.RowKit

theorem below2 {a b c : World} (h : Below a.heap.size a b) (k : Below b.heap.size b c) : Below a.heap.size a c := h.trans (k.mono h.size)

theorem sm_a : FloorIs (Ieee.double.read 13830554455654793216) 0 := .inr ⟨rfl, 4503599627370496, -52, by decide +kernel⟩
theorem sm_b : FloorIs (Ieee.double.read 4612811918334230528) 2 := .inl ⟨5629499534213120, 51, by decide +kernel, by decide, by decide⟩
theorem sm1 : (FloatKind.f64.format.order (fl 3) 4613937818241073152 == some .eq) = true := by kernel_rfl
theorem sm2 : (FloatKind.f64.format.order (fl 4) 4616189618054758400 == some .eq) = true := by kernel_rfl
theorem sm3 : (FloatKind.f64.format.order (fl 2) 4611686018427387904 == some .eq) = true := by kernel_rfl

set_option maxHeartbeats 2000000 in
set_option maxRecDepth 100000 in
theorem small_any (w : World) :
    Calls Try.prog 10 #[] w fun e w' => e = .returned (.bool true) ∧ Below w.heap.size w w' := by
  have s1 := sm1
  have s2 := sm2
  have s3 := sm3
  go_enter Try.func10, Try.ntmps10
  go_wp2_with fail
  refine (of_any _ _ _).mono ?_
  rintro e w1 ⟨rfl, b1⟩
  rw [show cl 3 = 3 by decide, show cl 1 = 1 by decide]
  go_wp2_with fail
  refine (of_any _ _ _).mono ?_
  rintro e w2 ⟨rfl, hb2⟩
  have b2 := below2 b1 hb2
  clear b1 hb2
  rw [show cl 2 = 2 by decide, show cl 4 = 4 by decide]
  go_wp2_with fail
  refine (order_any (a := 3) (b := 1) (c := 2) (d := 4) (by omega) (by omega) (by omega) (by omega) _).mono ?_
  rintro e w3 ⟨rfl, hb3⟩
  have b3 := below2 b2 hb3
  clear b2 hb3
  rw [show ordI 3 1 2 4 = 3 by decide]
  go_wp2_with fail
  refine (join_any (a := 3) (b := 1) (c := 2) (d := 4) (by omega) (by omega) (by omega) (by omega) _).mono ?_
  rintro e w4 ⟨rfl, hb4⟩
  have b4 := below2 b3 hb4
  clear b3 hb4
  rw [show max 3 2 = 3 by decide, show max 1 4 = 4 by decide]
  go_wp2_with fail
  refine (tick_odd (a := 3) (b := 1) (by omega) (by omega) 1 (by decide) _).mono ?_
  rintro e w5 ⟨rfl, hb5⟩
  have b5 := below2 b4 hb5
  clear b4 hb5
  rw [show up 1 = 2 by decide]
  go_wp2_with fail
  refine (tick_even (a := 3) (b := 1) (by omega) (by omega) 0 (by decide) _).mono ?_
  rintro e w6 ⟨rfl, hb6⟩
  have b6 := below2 b5 hb6
  clear b5 hb6
  rw [show up 3 = 4 by decide]
  go_wp2_with fail
  refine (order_any (a := 3) (b := 1) (c := 4) (d := 1) (by omega) (by omega) (by omega) (by omega) _).mono ?_
  rintro e w7 ⟨rfl, hb7⟩
  have b7 := below2 b6 hb7
  clear b6 hb7
  rw [show ordI 3 1 4 1 = 1 by decide]
  go_wp2_with fail
  refine (order_any (a := 3) (b := 1) (c := 3) (d := 1) (by omega) (by omega) (by omega) (by omega) _).mono ?_
  rintro e w8 ⟨rfl, hb8⟩
  have b8 := below2 b7 hb8
  clear b7 hb8
  rw [show ordI 3 1 3 1 = 0 by decide]
  go_wp2_with fail
  refine (mine_any (a := 2) (b := 4) (by omega) (by omega) 1 _).mono ?_
  rintro e w9 ⟨rfl, hb9⟩
  have b9 := below2 b8 hb9
  clear b8 hb9
  rw [show mineI 2 4 1 = 4 by decide]
  go_wp2_with fail
  refine (pair_any _ _ 0 2 sm_a sm_b _).mono ?_
  rintro e w10 ⟨rfl, hb10⟩
  have b10 := below2 b9 hb10
  clear b9 hb10
  rw [show ((min 0 1073741824 : Nat) : Int) = 0 by decide, show ((min 2 1073741824 : Nat) : Int) = 2 by decide]
  go_wp2_with fail
  refine (right_any _ _ _).mono ?_
  rintro e w11 ⟨rfl, hb11⟩
  have b11 := below2 b10 hb11
  clear b10 hb11
  rw [show rt 1073741824 0 = true by decide]
  go_wp2_with fail
  refine (right_any _ _ _).mono ?_
  rintro e w12 ⟨rfl, hb12⟩
  have b12 := below2 b11 hb12
  clear b11 hb12
  rw [show rt 0 (-1) = false by decide]
  go_wp2
  go_ret
  exact ⟨rfl, b12⟩

/-- Is it Before, or Alike? -/
def und (o : Int) : Bool := o == 0 || o == 1

set_option maxHeartbeats 400000 in
theorem under_any (o : Int) (w : World) :
    Calls Try.prog 24 #[.int .i64 o] w fun e w' => e = .returned (.bool (und o)) ∧ w' = w := by
  by_cases h : o = 0
  · subst h
    go_enter Try.func24, Try.ntmps24
    go_wp2
    go_ret
    exact ⟨rfl, rfl⟩
  · have h' : (o == 0) = false := by simpa using h
    go_enter Try.func24, Try.ntmps24
    go_wp2
    all_goals
      go_ret
      refine ⟨?_, rfl⟩
      unfold und
      rw [h']
      rfl
end Go.Proofs.Ytggaaigeaogghaa
