/- Sizes and buckets of package pad: plainly, the code's, the document's. -/
import Derived.Test.YtdejhpinmkbngaaBlk
import Derived.Handy
namespace Go.Proofs.Ytdejhpinmkbngaa
open Go.RowKit

/-- The first bucket that is wide enough. -/
def bucketI (n : Int) : Int := if n < 0 then -1 else if n ≤ 76 then 0 else if n ≤ 316 then 1 else if n ≤ 1276 then 2 else if n ≤ 5116 then 3 else -1
/-- A bucket's size. -/
def sizeI (b : Int) : Int := if b = 0 then 80 else if b = 1 then 320 else if b = 2 then 1280 else if b = 3 then 5120 else 0
/-- The size of the bucket of n bytes, where there is one. -/
def sizeN (n : Nat) : Nat := if n ≤ 76 then 80 else if n ≤ 316 then 320 else if n ≤ 1276 then 1280 else 5120
theorem bucket_cases (n : Nat) (h : n ≤ 5116) : (n ≤ 76 ∧ bucketI n = 0 ∧ sizeN n = 80) ∨ (76 < n ∧ n ≤ 316 ∧ bucketI n = 1 ∧ sizeN n = 320) ∨ (316 < n ∧ n ≤ 1276 ∧ bucketI n = 2 ∧ sizeN n = 1280) ∨ (1276 < n ∧ n ≤ 5116 ∧ bucketI n = 3 ∧ sizeN n = 5120) := by
  unfold sizeN bucketI
  (repeat' split) <;> omega
theorem sizeN_four (n : Nat) : sizeN n = 80 ∨ sizeN n = 320 ∨ sizeN n = 1280 ∨ sizeN n = 5120 := by
  unfold sizeN
  (repeat' split) <;> omega
theorem sizeN_ge (n : Nat) (h : n ≤ 5116) : 4 + n ≤ sizeN n := by
  have := bucket_cases n h
  omega
theorem sizeN_le (n : Nat) : sizeN n ≤ 5120 := by
  have := sizeN_four n
  omega
theorem size_bucket (n : Nat) (h : n ≤ 5116) : sizeI (bucketI n) = sizeN n := by
  rcases bucket_cases n h with ⟨_, h1, h2⟩ | ⟨_, _, h1, h2⟩ | ⟨_, _, h1, h2⟩ | ⟨_, _, h1, h2⟩ <;> rw [h1, h2] <;> rfl
theorem bucket_yes (n : Nat) (h : n ≤ 5116) : 0 ≤ bucketI n ∧ bucketI n ≤ 3 := by
  have := bucket_cases n h
  omega
theorem bucket_no (n : Nat) (h : 5116 < n) : bucketI n = -1 := by
  unfold bucketI
  (repeat' split) <;> omega
theorem bucket_same (n m : Nat) (hn : n ≤ 5116) (hm : m ≤ 5116) : sizeN n = sizeN m ↔ bucketI n = bucketI m := by
  have := bucket_cases n hn
  have := bucket_cases m hm
  omega

abbrev sizesV : List Value := [.int .i64 80, .int .i64 320, .int .i64 1280, .int .i64 5120]

set_option maxHeartbeats 400000 in
theorem sizes_any (w : World) : Calls Try.prog 32 #[] w fun e w' => e = .returned (.agg #[.int .i64 80, .int .i64 320, .int .i64 1280, .int .i64 5120]) ∧ Below w.heap.size w w' := by
  go_enter Try.func32, Try.ntmps32
  go_wp2
  go_returns
  exact ⟨rfl, (Below.refl _ _).alloc (Nat.le_refl _) _⟩
/-- What Sizes answers. -/
def SizesPost (w : World) (e : Ending) (w' : World) : Prop := ∃ g, e = .returned (.slice (some ⟨g, 0, none⟩) 4 4) ∧ Blk w' g sizesV 67 ∧ w.heap.size ≤ g ∧ Below w.heap.size w w'
theorem sizeI_out (b : Int) (h : b < 0 ∨ 4 ≤ b) : sizeI b = 0 := by
  unfold sizeI
  (repeat' split) <;> omega
set_option maxHeartbeats 400000 in
theorem size_any (b : Int) (w : World) : Calls Try.prog 30 #[.int .i64 b] w fun e w' => e = .returned (.int .i64 (sizeI b)) ∧ Below w.heap.size w w' := by
  rcases (by omega : b < 0 ∨ 4 ≤ b ∨ b = 0 ∨ b = 1 ∨ b = 2 ∨ b = 3) with h | h | rfl | rfl | rfl | rfl
  all_goals
    go_enter Try.func30, Try.ntmps30
    go_wp2_with fail
    refine (sizes_any _).mono ?_
    rintro e w1 ⟨rfl, hb1⟩
    go_wp2
    go_ret
    first
    | exact ⟨ret_int (sizeI_out b (by omega)).symm, hb1.alloc hb1.size _⟩
    | exact ⟨rfl, hb1.alloc hb1.size _⟩
set_option maxHeartbeats 400000 in
theorem bucket_any (n : Int) (w : World) : Calls Try.prog 23 #[.int .i64 n] w fun e w' => e = .returned (.int .i64 (bucketI n)) ∧ Below w.heap.size w w' := by
  have i0 : ∀ w : World, (Instr.index 67 (.agg #[.int .i64 80, .int .i64 320, .int .i64 1280, .int .i64 5120]) (.int .i64 0)).run Try.prog w = .ok (.int .i64 80) w := fun _ => by kernel_rfl
  have i1 : ∀ w : World, (Instr.index 67 (.agg #[.int .i64 80, .int .i64 320, .int .i64 1280, .int .i64 5120]) (.int .i64 1)).run Try.prog w = .ok (.int .i64 320) w := fun _ => by kernel_rfl
  have i2 : ∀ w : World, (Instr.index 67 (.agg #[.int .i64 80, .int .i64 320, .int .i64 1280, .int .i64 5120]) (.int .i64 2)).run Try.prog w = .ok (.int .i64 1280) w := fun _ => by kernel_rfl
  have i3 : ∀ w : World, (Instr.index 67 (.agg #[.int .i64 80, .int .i64 320, .int .i64 1280, .int .i64 5120]) (.int .i64 3)).run Try.prog w = .ok (.int .i64 5120) w := fun _ => by kernel_rfl
  by_cases h : n < 0
  · go_enter Try.func23, Try.ntmps23
    go_wp2
    go_ret
    exact ⟨ret_int (by rw [bucketI, if_pos h]), Below.refl _ _⟩
  · go_enter Try.func23, Try.ntmps23
    go_wp2_with fail
    refine (sizes_any _).mono ?_
    rintro e w1 ⟨rfl, hb1⟩
    go_wp2_with fail
    go_loop [8] (fun i => ∃ j : Nat, j ≤ 4 ∧ i = .int .i64 j ∧ (0 < j → 76 < n) ∧ (1 < j → 316 < n) ∧ (2 < j → 1276 < n) ∧ (3 < j → 5116 < n)) (fun i => 4 - (intOf i).toNat)
    case atStart => exact ⟨0, by omega, rfl, by omega, by omega, by omega, by omega⟩
    case round =>
      obtain ⟨j, hj, rfl, h0, h1, h2, h3⟩ := hrel
      rcases (by omega : j = 0 ∨ j = 1 ∨ j = 2 ∨ j = 3 ∨ j = 4) with rfl | rfl | rfl | rfl | rfl
      · by_cases hk : n ≤ 76
        · go_wp2
          go_ret
          exact ⟨ret_int (by unfold bucketI; (repeat' split) <;> omega), hb1⟩
        · go_wp2
          go_round
          case rel => exact ⟨1, by omega, by go_num, by omega, by omega, by omega, by omega⟩
          case measure => simp [intOf]
      · by_cases hk : n ≤ 316
        · go_wp2
          go_ret
          exact ⟨ret_int (by unfold bucketI; (repeat' split) <;> omega), hb1⟩
        · go_wp2
          go_round
          case rel => exact ⟨2, by omega, by go_num, by omega, by omega, by omega, by omega⟩
          case measure => simp [intOf]
      · by_cases hk : n ≤ 1276
        · go_wp2
          go_ret
          exact ⟨ret_int (by unfold bucketI; (repeat' split) <;> omega), hb1⟩
        · go_wp2
          go_round
          case rel => exact ⟨3, by omega, by go_num, by omega, by omega, by omega, by omega⟩
          case measure => simp [intOf]
      · by_cases hk : n ≤ 5116
        · go_wp2
          go_ret
          exact ⟨ret_int (by unfold bucketI; (repeat' split) <;> omega), hb1⟩
        · go_wp2
          go_round
          case rel => exact ⟨4, by omega, by go_num, by omega, by omega, by omega, by omega⟩
          case measure => simp [intOf]
      · go_wp2
        go_ret
        exact ⟨ret_int (by unfold bucketI; (repeat' split) <;> omega), hb1⟩
set_option maxHeartbeats 400000 in
theorem ref5Size (b : Int) (w : World) : Calls Try.prog 31 #[.int .i64 b] w fun e w' => e = .returned (.int .i64 (sizeI b)) ∧ w = w' := by
  by_cases h : b < 0 ∨ 4 ≤ b
  · have k0 : (b == 0) = false := by rw [beq_eq_false_iff_ne]; omega
    have k1 : (b == 1) = false := by rw [beq_eq_false_iff_ne]; omega
    have k2 : (b == 2) = false := by rw [beq_eq_false_iff_ne]; omega
    have k3 : (b == 3) = false := by rw [beq_eq_false_iff_ne]; omega
    have HO := hid (sizeI_out b h)
    clear h
    go_enter Try.func31, Try.ntmps31
    go_wp2
    go_ret
    exact ⟨ret_int HO.out.symm, rfl⟩
  · rcases (by omega : b = 0 ∨ b = 1 ∨ b = 2 ∨ b = 3) with rfl | rfl | rfl | rfl
    all_goals
      go_enter Try.func31, Try.ntmps31
      go_wp2
      go_ret
      exact ⟨rfl, rfl⟩
set_option maxHeartbeats 1000000 in
theorem ref5Bucket (n : Int) (w : World) : Calls Try.prog 27 #[.int .i64 n] w fun e w' => e = .returned (.int .i64 (bucketI n)) ∧ w = w' := by
  by_cases h : n < 0
  · go_enter Try.func27, Try.ntmps27
    go_wp2_with fail
    go_loop [3] (fun i => i = .int .i64 0) (fun _ => 0)
    case atStart => rfl
    case round =>
      subst hrel
      go_wp2
      go_ret
      exact ⟨ret_int (by rw [bucketI, if_pos h]), rfl⟩
  · go_enter Try.func27, Try.ntmps27
    go_wp2_with fail
    go_loop [3] (fun i => ∃ j : Nat, j ≤ 4 ∧ i = .int .i64 j ∧ (0 < j → 76 < n) ∧ (1 < j → 316 < n) ∧ (2 < j → 1276 < n) ∧ (3 < j → 5116 < n)) (fun i => 4 - (intOf i).toNat)
    case atStart => exact ⟨0, by omega, rfl, by omega, by omega, by omega, by omega⟩
    case round =>
      obtain ⟨j, hj, rfl, h0, h1, h2, h3⟩ := hrel
      rcases (by omega : j = 0 ∨ j = 1 ∨ j = 2 ∨ j = 3 ∨ j = 4) with rfl | rfl | rfl | rfl | rfl
      · by_cases hk : n ≤ 76
        · go_wp2_with fail
          refine (ref5Size _ _).mono ?_
          rintro e wx ⟨rfl, rfl⟩
          rw [show sizeI 0 = 80 from rfl]
          go_wp2
          go_ret
          exact ⟨ret_int (by unfold bucketI; (repeat' split) <;> omega), rfl⟩
        · go_wp2_with fail
          refine (ref5Size _ _).mono ?_
          rintro e wx ⟨rfl, rfl⟩
          rw [show sizeI 0 = 80 from rfl]
          go_wp2
          go_round
          case rel => exact ⟨1, by omega, by go_num, by omega, by omega, by omega, by omega⟩
          case measure => simp [intOf]
      · by_cases hk : n ≤ 316
        · go_wp2_with fail
          refine (ref5Size _ _).mono ?_
          rintro e wx ⟨rfl, rfl⟩
          rw [show sizeI 1 = 320 from rfl]
          go_wp2
          go_ret
          exact ⟨ret_int (by unfold bucketI; (repeat' split) <;> omega), rfl⟩
        · go_wp2_with fail
          refine (ref5Size _ _).mono ?_
          rintro e wx ⟨rfl, rfl⟩
          rw [show sizeI 1 = 320 from rfl]
          go_wp2
          go_round
          case rel => exact ⟨2, by omega, by go_num, by omega, by omega, by omega, by omega⟩
          case measure => simp [intOf]
      · by_cases hk : n ≤ 1276
        · go_wp2_with fail
          refine (ref5Size _ _).mono ?_
          rintro e wx ⟨rfl, rfl⟩
          rw [show sizeI 2 = 1280 from rfl]
          go_wp2
          go_ret
          exact ⟨ret_int (by unfold bucketI; (repeat' split) <;> omega), rfl⟩
        · go_wp2_with fail
          refine (ref5Size _ _).mono ?_
          rintro e wx ⟨rfl, rfl⟩
          rw [show sizeI 2 = 1280 from rfl]
          go_wp2
          go_round
          case rel => exact ⟨3, by omega, by go_num, by omega, by omega, by omega, by omega⟩
          case measure => simp [intOf]
      · by_cases hk : n ≤ 5116
        · go_wp2_with fail
          refine (ref5Size _ _).mono ?_
          rintro e wx ⟨rfl, rfl⟩
          rw [show sizeI 3 = 5120 from rfl]
          go_wp2
          go_ret
          exact ⟨ret_int (by unfold bucketI; (repeat' split) <;> omega), rfl⟩
        · go_wp2_with fail
          refine (ref5Size _ _).mono ?_
          rintro e wx ⟨rfl, rfl⟩
          rw [show sizeI 3 = 5120 from rfl]
          go_wp2
          go_round
          case rel => exact ⟨4, by omega, by go_num, by omega, by omega, by omega, by omega⟩
          case measure => simp [intOf]
      · go_wp2
        go_ret
        exact ⟨ret_int (by unfold bucketI; (repeat' split) <;> omega), rfl⟩
end Go.Proofs.Ytdejhpinmkbngaa
