/- The texts Kp, in one. -/
import Derived.Test.YtgafjbmpaeejbaaDoorP3
import Derived.Handy
namespace Go.Proofs.YtgafjbmpaeejbaaDoor
open Go.RowKit

/-- The first bucket that is wide enough. -/
def bucketI (n : Int) : Int := if n < 0 then -1 else if n ≤ 76 then 0 else if n ≤ 316 then 1 else if n ≤ 1276 then 2 else if n ≤ 5116 then 3 else -1
/-- A bucket's size. -/
def sizeI (b : Int) : Int := if b = 0 then 80 else if b = 1 then 320 else if b = 2 then 1280 else if b = 3 then 5120 else 0
/-- The size of the bucket of n bytes, where there is one. -/
def sizeN (n : Nat) : Nat := if n ≤ 76 then 80 else if n ≤ 316 then 320 else if n ≤ 1276 then 1280 else 5120
theorem bucket_cases (n : Nat) (h : n ≤ 5116) : (n ≤ 76 ∧ bucketI n = 0 ∧ sizeN n = 80) ∨ (76 < n ∧ n ≤ 316 ∧ bucketI n = 1 ∧ sizeN n = 320) ∨ (316 < n ∧ n ≤ 1276 ∧ bucketI n = 2 ∧ sizeN n = 1280) ∨ (1276 < n ∧ n ≤ 5116 ∧ bucketI n = 3 ∧ sizeN n = 5120) := by
  unfold sizeN bucketI
  (repeat' split) <;> omega
theorem sizeN_four (n : Nat) : sizeN n = 80 ∨ sizeN n = 320 ∨ sizeN n = 1280 ∨ sizeN n = 5120 := by
  unfold sizeN
  (repeat' split) <;> omega
theorem sizeN_ge (n : Nat) (h : n ≤ 5116) : 4 + n ≤ sizeN n := by
  have := bucket_cases n h
  omega
theorem sizeN_le (n : Nat) : sizeN n ≤ 5120 := by
  have := sizeN_four n
  omega
theorem size_bucket (n : Nat) (h : n ≤ 5116) : sizeI (bucketI n) = sizeN n := by
  rcases bucket_cases n h with ⟨_, h1, h2⟩ | ⟨_, _, h1, h2⟩ | ⟨_, _, h1, h2⟩ | ⟨_, _, h1, h2⟩ <;> rw [h1, h2] <;> rfl
theorem bucket_yes (n : Nat) (h : n ≤ 5116) : 0 ≤ bucketI n ∧ bucketI n ≤ 3 := by
  have := bucket_cases n h
  omega
theorem bucket_no (n : Nat) (h : 5116 < n) : bucketI n = -1 := by
  unfold bucketI
  (repeat' split) <;> omega
theorem bucket_same (n m : Nat) (hn : n ≤ 5116) (hm : m ≤ 5116) : sizeN n = sizeN m ↔ bucketI n = bucketI m := by
  have := bucket_cases n hn
  have := bucket_cases m hm
  omega

abbrev sizesV : List Value := [.int .i64 80, .int .i64 320, .int .i64 1280, .int .i64 5120]

set_option maxHeartbeats 400000 in
theorem sizes_any (w : World) : Calls Tryd.prog 52 #[] w fun e w' => e = .returned (.agg #[.int .i64 80, .int .i64 320, .int .i64 1280, .int .i64 5120]) ∧ Below w.heap.size w w' := by
  go_enter Tryd.func52, Tryd.ntmps52
  go_wp2
  go_returns
  exact ⟨rfl, (Below.refl _ _).alloc (Nat.le_refl _) _⟩
/-- What Sizes answers. -/
def SizesPost (w : World) (e : Ending) (w' : World) : Prop := ∃ g, e = .returned (.slice (some ⟨g, 0, none⟩) 4 4) ∧ Blk w' g sizesV 77 ∧ w.heap.size ≤ g ∧ Below w.heap.size w w'
theorem sizeI_out (b : Int) (h : b < 0 ∨ 4 ≤ b) : sizeI b = 0 := by
  unfold sizeI
  (repeat' split) <;> omega
set_option maxHeartbeats 400000 in
theorem bucket_any (n : Int) (w : World) : Calls Tryd.prog 24 #[.int .i64 n] w fun e w' => e = .returned (.int .i64 (bucketI n)) ∧ Below w.heap.size w w' := by
  have i0 : ∀ w : World, (Instr.index 77 (.agg #[.int .i64 80, .int .i64 320, .int .i64 1280, .int .i64 5120]) (.int .i64 0)).run Tryd.prog w = .ok (.int .i64 80) w := fun _ => by kernel_rfl
  have i1 : ∀ w : World, (Instr.index 77 (.agg #[.int .i64 80, .int .i64 320, .int .i64 1280, .int .i64 5120]) (.int .i64 1)).run Tryd.prog w = .ok (.int .i64 320) w := fun _ => by kernel_rfl
  have i2 : ∀ w : World, (Instr.index 77 (.agg #[.int .i64 80, .int .i64 320, .int .i64 1280, .int .i64 5120]) (.int .i64 2)).run Tryd.prog w = .ok (.int .i64 1280) w := fun _ => by kernel_rfl
  have i3 : ∀ w : World, (Instr.index 77 (.agg #[.int .i64 80, .int .i64 320, .int .i64 1280, .int .i64 5120]) (.int .i64 3)).run Tryd.prog w = .ok (.int .i64 5120) w := fun _ => by kernel_rfl
  by_cases h : n < 0
  · go_enter Tryd.func24, Tryd.ntmps24
    go_wp2
    go_ret
    exact ⟨ret_int (by rw [bucketI, if_pos h]), Below.refl _ _⟩
  · go_enter Tryd.func24, Tryd.ntmps24
    go_wp2_with fail
    refine (sizes_any _).mono ?_
    rintro e w1 ⟨rfl, hb1⟩
    go_wp2_with fail
    go_loop [8] (fun i => ∃ j : Nat, j ≤ 4 ∧ i = .int .i64 j ∧ (0 < j → 76 < n) ∧ (1 < j → 316 < n) ∧ (2 < j → 1276 < n) ∧ (3 < j → 5116 < n)) (fun i => 4 - (intOf i).toNat)
    case atStart => exact ⟨0, by omega, rfl, by omega, by omega, by omega, by omega⟩
    case round =>
      obtain ⟨j, hj, rfl, h0, h1, h2, h3⟩ := hrel
      rcases (by omega : j = 0 ∨ j = 1 ∨ j = 2 ∨ j = 3 ∨ j = 4) with rfl | rfl | rfl | rfl | rfl
      · by_cases hk : n ≤ 76
        · go_wp2
          go_ret
          exact ⟨ret_int (by unfold bucketI; (repeat' split) <;> omega), hb1⟩
        · go_wp2
          go_round
          case rel => exact ⟨1, by omega, by go_num, by omega, by omega, by omega, by omega⟩
          case measure => simp [intOf]
      · by_cases hk : n ≤ 316
        · go_wp2
          go_ret
          exact ⟨ret_int (by unfold bucketI; (repeat' split) <;> omega), hb1⟩
        · go_wp2
          go_round
          case rel => exact ⟨2, by omega, by go_num, by omega, by omega, by omega, by omega⟩
          case measure => simp [intOf]
      · by_cases hk : n ≤ 1276
        · go_wp2
          go_ret
          exact ⟨ret_int (by unfold bucketI; (repeat' split) <;> omega), hb1⟩
        · go_wp2
          go_round
          case rel => exact ⟨3, by omega, by go_num, by omega, by omega, by omega, by omega⟩
          case measure => simp [intOf]
      · by_cases hk : n ≤ 5116
        · go_wp2
          go_ret
          exact ⟨ret_int (by unfold bucketI; (repeat' split) <;> omega), hb1⟩
        · go_wp2
          go_round
          case rel => exact ⟨4, by omega, by go_num, by omega, by omega, by omega, by omega⟩
          case measure => simp [intOf]
      · go_wp2
        go_ret
        exact ⟨ret_int (by unfold bucketI; (repeat' split) <;> omega), hb1⟩
end Go.Proofs.YtgafjbmpaeejbaaDoor
