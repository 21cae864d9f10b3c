/- The small case. -/
import Derived.Test.YtekmclbnbbhcmaaDoorQd
namespace Go.Proofs.YtekmclbnbbhcmaaDoor
open Go.RowKit

theorem below_new {w w' : World} (o : Obj) (h : Below (w.alloc o).heap.size (w.alloc o) w') : Below w.heap.size w w' := below2 ((Below.refl _ _).alloc (Nat.le_refl _) o) h

set_option maxHeartbeats 2000000 in
theorem small_any (w : World) : Calls Tryd.prog 10 #[] w fun e w' => e = .returned (.bool true) ∧ Below w.heap.size w w' := by
  go_enter Tryd.func10, Tryd.ntmps10
  go_wp2_with fail
  refine (under_any ⟨#[97, 47, 98, 47, 99]⟩ ⟨#[97]⟩ _ (by decide) (by decide)).mono ?_
  rintro e w1 ⟨he, hb1⟩
  obtain rfl : e = .returned (.bool true) := he.trans (ret_bool (by kernel_rfl))
  have b1 := hb1
  clear he hb1
  go_wp2_with fail
  refine (under_any ⟨#[97]⟩ ⟨#[97]⟩ _ (by decide) (by decide)).mono ?_
  rintro e w2 ⟨he, hb2⟩
  obtain rfl : e = .returned (.bool false) := he.trans (ret_bool (by kernel_rfl))
  have b2 := below2 b1 hb2
  clear he hb2 b1
  go_wp2_with fail
  refine (clash_any ⟨#[97]⟩ ⟨#[97, 46, 98]⟩ _ (by decide) (by decide)).mono ?_
  rintro e w3 ⟨he, hb3⟩
  obtain rfl : e = .returned (.bool false) := he.trans (ret_bool (by kernel_rfl))
  have b3 := below2 b2 hb3
  clear he hb3 b2
  go_wp2_with fail
  refine (clash_any ⟨#[97, 47, 98]⟩ ⟨#[97, 47, 98, 47, 99]⟩ _ (by decide) (by decide)).mono ?_
  rintro e w4 ⟨he, hb4⟩
  obtain rfl : e = .returned (.bool true) := he.trans (ret_bool (by kernel_rfl))
  have b4 := below2 b3 hb4
  clear he hb4 b3
  go_wp2_with fail
  refine (parent_any ⟨#[97, 47, 98, 47, 99]⟩ _ (by decide)).mono ?_
  rintro e w5 ⟨he, hb5⟩
  obtain rfl : e = .returned (.string ⟨#[97, 47, 98]⟩) := he.trans (ret_str (by kernel_rfl))
  have b5 := below2 b4 hb5
  clear he hb5 b4
  go_wp2_with fail
  refine (parent_any ⟨#[97]⟩ _ (by decide)).mono ?_
  rintro e w6 ⟨he, hb6⟩
  obtain rfl : e = .returned (.string ⟨#[]⟩) := he.trans (ret_str (by kernel_rfl))
  have b6 := below2 b5 hb6
  clear he hb6 b5
  go_wp2_with fail
  refine (join_any _ 2 2 [⟨#[97]⟩, ⟨#[98, 45, 49]⟩] _ rfl (.inr ⟨_, rfl, new_cells w6 9 (strV [⟨#[97]⟩, ⟨#[98, 45, 49]⟩])⟩) (by omega)).mono ?_
  rintro e w7 ⟨he, hb7⟩
  obtain rfl : e = .returned (.string ⟨#[97, 47, 98, 45, 49]⟩) := he.trans (ret_str (by kernel_rfl))
  have b7 := below2 b6 (below_new _ hb7)
  clear he hb7 b6
  go_wp2_with fail
  refine (join_any none 0 0 [] _ rfl (.inl rfl) (by omega)).mono ?_
  rintro e w8 ⟨he, hb8⟩
  obtain rfl : e = .returned (.string ⟨#[]⟩) := he.trans (ret_str (by kernel_rfl))
  have b8 := below2 b7 hb8
  clear he hb8 b7
  go_wp2_with fail
  refine (names_any ⟨#[97, 47, 98]⟩ _ (by decide)).mono ?_
  rintro e w9 ⟨A, c, rfl, -, -, -, hb9⟩
  rw [show (namesL ((⟨#[97, 47, 98]⟩ : ByteArray).data.toList)).length = 2 by kernel_rfl]
  have b9 := below2 b8 hb9
  clear hb9 b8
  go_wp2_with fail
  refine (right_any ⟨#[97, 47, 47, 98]⟩ _ (by decide)).mono ?_
  rintro e w10 ⟨he, hb10⟩
  obtain rfl : e = .returned (.bool false) := he.trans (ret_bool (by kernel_rfl))
  have b10 := below2 b9 hb10
  clear he hb10 b9
  go_wp2_with fail
  refine (right_any ⟨#[97, 47, 98, 47, 99, 47, 100, 47, 101]⟩ _ (by decide)).mono ?_
  rintro e w11 ⟨he, hb11⟩
  obtain rfl : e = .returned (.bool false) := he.trans (ret_bool (by kernel_rfl))
  have b11 := below2 b10 hb11
  clear he hb11 b10
  go_wp2_with fail
  refine (name_any ⟨#[46, 46]⟩ _).mono ?_
  rintro e wx ⟨he, rfl⟩
  obtain rfl : e = .returned (.bool false) := he.trans (ret_bool (by kernel_rfl))
  clear he
  go_wp2_with fail
  refine (sorted_any _ 3 3 [⟨#[97]⟩, ⟨#[97, 46, 98]⟩, ⟨#[97, 47, 98]⟩] _ rfl (.inr ⟨_, rfl, new_cells w11 9 (strV [⟨#[97]⟩, ⟨#[97, 46, 98]⟩, ⟨#[97, 47, 98]⟩])⟩) (by omega) (by decide)).mono ?_
  rintro e w12 ⟨he, hb12⟩
  obtain rfl : e = .returned (.bool true) := he.trans (ret_bool (by kernel_rfl))
  have b12 := below2 b11 (below_new _ hb12)
  clear he hb12 b11
  go_wp2
  go_ret
  exact ⟨rfl, b12⟩
end Go.Proofs.YtekmclbnbbhcmaaDoor
