/- Package pad: sizes, Sizes, Size, Bucket; slices.Contains of them. -/
import Derived.Test.YtohnommmmdlnpaaKa
import Derived.Handy
namespace Go.Proofs.Ytohnommmmdlnpaa
open Go.RowKit

abbrev sizesV : List Value := [.int .i64 80, .int .i64 320, .int .i64 1280, .int .i64 5120]

set_option maxHeartbeats 400000 in
theorem sizes_any (w : World) : Calls Try.prog 27 #[] w fun e w' => e = .returned (.agg #[.int .i64 80, .int .i64 320, .int .i64 1280, .int .i64 5120]) ∧ Below w.heap.size w w' := by
  go_enter Try.func27, Try.ntmps27
  go_wp2
  go_returns
  exact ⟨rfl, (Below.refl _ _).alloc (Nat.le_refl _) _⟩
/-- What Sizes answers. -/
def SizesPost (w : World) (e : Ending) (w' : World) : Prop := ∃ g, e = .returned (.slice (some ⟨g, 0, none⟩) 4 4) ∧ Blk w' g sizesV 46 ∧ w.heap.size ≤ g ∧ Below w.heap.size w w'
set_option maxHeartbeats 400000 in
theorem sizesS_any (w : World) : Calls Try.prog 19 #[] w (SizesPost w) := by
  go_enter Try.func19, Try.ntmps19
  go_wp2_with fail
  refine (sizes_any _).mono ?_
  rintro e w1 ⟨rfl, hb1⟩
  go_wp2
  go_ret
  exact ⟨w1.heap.size, rfl, Blk.new w1 sizesV _, hb1.size, hb1.alloc hb1.size _⟩
theorem sizeI_out (b : Int) (h : b < 0 ∨ 4 ≤ b) : sizeI b = 0 := by
  unfold sizeI
  (repeat' split) <;> omega
set_option maxHeartbeats 400000 in
theorem size_any (b : Int) (w : World) : Calls Try.prog 17 #[.int .i64 b] w fun e w' => e = .returned (.int .i64 (sizeI b)) ∧ Below w.heap.size w w' := by
  rcases (by omega : b < 0 ∨ 4 ≤ b ∨ b = 0 ∨ b = 1 ∨ b = 2 ∨ b = 3) with h | h | rfl | rfl | rfl | rfl
  all_goals
    go_enter Try.func17, Try.ntmps17
    go_wp2_with fail
    refine (sizes_any _).mono ?_
    rintro e w1 ⟨rfl, hb1⟩
    go_wp2
    go_ret
    first
    | exact ⟨ret_int (sizeI_out b (by omega)).symm, hb1.alloc hb1.size _⟩
    | exact ⟨rfl, hb1.alloc hb1.size _⟩
set_option maxHeartbeats 400000 in
theorem bucket_any (n : Int) (w : World) : Calls Try.prog 15 #[.int .i64 n] w fun e w' => e = .returned (.int .i64 (bucketI n)) ∧ Below w.heap.size w w' := by
  have i0 : ∀ w : World, (Instr.index 46 (.agg #[.int .i64 80, .int .i64 320, .int .i64 1280, .int .i64 5120]) (.int .i64 0)).run Try.prog w = .ok (.int .i64 80) w := fun _ => by kernel_rfl
  have i1 : ∀ w : World, (Instr.index 46 (.agg #[.int .i64 80, .int .i64 320, .int .i64 1280, .int .i64 5120]) (.int .i64 1)).run Try.prog w = .ok (.int .i64 320) w := fun _ => by kernel_rfl
  have i2 : ∀ w : World, (Instr.index 46 (.agg #[.int .i64 80, .int .i64 320, .int .i64 1280, .int .i64 5120]) (.int .i64 2)).run Try.prog w = .ok (.int .i64 1280) w := fun _ => by kernel_rfl
  have i3 : ∀ w : World, (Instr.index 46 (.agg #[.int .i64 80, .int .i64 320, .int .i64 1280, .int .i64 5120]) (.int .i64 3)).run Try.prog w = .ok (.int .i64 5120) w := fun _ => by kernel_rfl
  by_cases h : n < 0
  · go_enter Try.func15, Try.ntmps15
    go_wp2
    go_ret
    exact ⟨ret_int (by rw [bucketI, if_pos h]), Below.refl _ _⟩
  · go_enter Try.func15, Try.ntmps15
    go_wp2_with fail
    refine (sizes_any _).mono ?_
    rintro e w1 ⟨rfl, hb1⟩
    go_wp2_with fail
    go_loop [8] (fun i => ∃ j : Nat, j ≤ 4 ∧ i = .int .i64 j ∧ (0 < j → 76 < n) ∧ (1 < j → 316 < n) ∧ (2 < j → 1276 < n) ∧ (3 < j → 5116 < n)) (fun i => 4 - (intOf i).toNat)
    case atStart => exact ⟨0, by omega, rfl, by omega, by omega, by omega, by omega⟩
    case round =>
      obtain ⟨j, hj, rfl, h0, h1, h2, h3⟩ := hrel
      rcases (by omega : j = 0 ∨ j = 1 ∨ j = 2 ∨ j = 3 ∨ j = 4) with rfl | rfl | rfl | rfl | rfl
      · by_cases hk : n ≤ 76
        · go_wp2
          go_ret
          exact ⟨ret_int (by unfold bucketI; (repeat' split) <;> omega), hb1⟩
        · go_wp2
          go_round
          case rel => exact ⟨1, by omega, by go_num, by omega, by omega, by omega, by omega⟩
          case measure => simp [intOf]
      · by_cases hk : n ≤ 316
        · go_wp2
          go_ret
          exact ⟨ret_int (by unfold bucketI; (repeat' split) <;> omega), hb1⟩
        · go_wp2
          go_round
          case rel => exact ⟨2, by omega, by go_num, by omega, by omega, by omega, by omega⟩
          case measure => simp [intOf]
      · by_cases hk : n ≤ 1276
        · go_wp2
          go_ret
          exact ⟨ret_int (by unfold bucketI; (repeat' split) <;> omega), hb1⟩
        · go_wp2
          go_round
          case rel => exact ⟨3, by omega, by go_num, by omega, by omega, by omega, by omega⟩
          case measure => simp [intOf]
      · by_cases hk : n ≤ 5116
        · go_wp2
          go_ret
          exact ⟨ret_int (by unfold bucketI; (repeat' split) <;> omega), hb1⟩
        · go_wp2
          go_round
          case rel => exact ⟨4, by omega, by go_num, by omega, by omega, by omega, by omega⟩
          case measure => simp [intOf]
      · go_wp2
        go_ret
        exact ⟨ret_int (by unfold bucketI; (repeat' split) <;> omega), hb1⟩
/-- A size of a bucket? -/
def isSize (n : Int) : Bool := n == 80 || n == 320 || n == 1280 || n == 5120
def indexI (n : Int) : Int := if n = 80 then 0 else if n = 320 then 1 else if n = 1280 then 2 else if n = 5120 then 3 else -1
set_option maxHeartbeats 400000 in
theorem index_any (g : Nat) (t : TypeId) (n : Int) (w : World) (h : Blk w g sizesV t) : Calls Try.prog 32 #[.slice (some ⟨g, 0, none⟩) 4 4, .int .i64 n] w fun e w' => e = .returned (.int .i64 (indexI n)) ∧ w = w' := by
  have c0 := h.cell 0
  have c1 := h.cell 1
  have c2 := h.cell 2
  have c3 := h.cell 3
  simp only [sizesV, List.getElem?_cons_zero, List.getElem?_cons_succ] at c0 c1 c2 c3
  clear h
  go_enter Try.func32, Try.ntmps32
  go_wp2_with fail
  go_loop [8] (fun i => ∃ j : Nat, j ≤ 4 ∧ i = .int .i64 j ∧ (0 < j → (n == 80) = false) ∧ (1 < j → (n == 320) = false) ∧ (2 < j → (n == 1280) = false) ∧ (3 < j → (n == 5120) = false)) (fun i => 4 - (intOf i).toNat)
  case atStart => exact ⟨0, by omega, rfl, by omega, by omega, by omega, by omega⟩
  case round =>
    obtain ⟨j, hj, rfl, h0, h1, h2, h3⟩ := hrel
    rcases (by omega : j = 0 ∨ j = 1 ∨ j = 2 ∨ j = 3 ∨ j = 4) with rfl | rfl | rfl | rfl | rfl
    · clear h0 h1 h2 h3
      cases hk : n == 80
      · go_wp2
        go_round
        case rel => exact ⟨1, by omega, by go_num, fun _ => trivial, by omega, by omega, by omega⟩
        case measure => simp [intOf]
      · go_wp2
        go_ret
        exact ⟨ret_int (by rw [eq_of_beq hk]; rfl), rfl⟩
    · have k0 := hid (h0 (by omega))
      clear h0 h1 h2 h3
      cases hk : n == 320
      · go_wp2
        go_round
        case rel => exact ⟨2, by omega, by go_num, fun _ => k0.out, fun _ => trivial, by omega, by omega⟩
        case measure => simp [intOf]
      · go_wp2
        go_ret
        exact ⟨ret_int (by rw [eq_of_beq hk]; rfl), rfl⟩
    · have k0 := hid (h0 (by omega))
      have k1 := hid (h1 (by omega))
      clear h0 h1 h2 h3
      cases hk : n == 1280
      · go_wp2
        go_round
        case rel => exact ⟨3, by omega, by go_num, fun _ => k0.out, fun _ => k1.out, fun _ => trivial, by omega⟩
        case measure => simp [intOf]
      · go_wp2
        go_ret
        exact ⟨ret_int (by rw [eq_of_beq hk]; rfl), rfl⟩
    · have k0 := hid (h0 (by omega))
      have k1 := hid (h1 (by omega))
      have k2 := hid (h2 (by omega))
      clear h0 h1 h2 h3
      cases hk : n == 5120
      · go_wp2
        go_round
        case rel => exact ⟨4, by omega, by go_num, fun _ => k0.out, fun _ => k1.out, fun _ => k2.out, fun _ => trivial⟩
        case measure => simp [intOf]
      · go_wp2
        go_ret
        exact ⟨ret_int (by rw [eq_of_beq hk]; rfl), rfl⟩
    · have k0 := hid (h0 (by omega))
      have k1 := hid (h1 (by omega))
      have k2 := hid (h2 (by omega))
      have k3 := hid (h3 (by omega))
      clear h0 h1 h2 h3
      go_wp2
      go_ret
      exact ⟨ret_int (by
        have := ne_of_beq_false k0.out
        have := ne_of_beq_false k1.out
        have := ne_of_beq_false k2.out
        have := ne_of_beq_false k3.out
        unfold indexI
        (repeat' split) <;> omega), rfl⟩
theorem index_isSize (n : Int) : decide (0 ≤ indexI n) = isSize n := by
  have e : isSize n = decide (n = 80 ∨ n = 320 ∨ n = 1280 ∨ n = 5120) := by
    unfold isSize
    by_cases h0 : n = 80 <;> by_cases h1 : n = 320 <;> by_cases h2 : n = 1280 <;> by_cases h3 : n = 5120 <;> simp [h0, h1, h2, h3]
  rw [e]
  unfold indexI
  (repeat' split) <;> simp_all
set_option maxHeartbeats 400000 in
theorem contains_any (g : Nat) (t : TypeId) (n : Int) (w : World) (h : Blk w g sizesV t) : Calls Try.prog 22 #[.slice (some ⟨g, 0, none⟩) 4 4, .int .i64 n] w fun e w' => e = .returned (.bool (isSize n)) ∧ w = w' := by
  go_enter Try.func22, Try.ntmps22
  go_wp2_with fail
  refine (index_any g t n _ h).mono ?_
  rintro e w1 ⟨rfl, rfl⟩
  go_wp2
  go_ret
  exact ⟨ret_bool (index_isSize n), rfl⟩
end Go.Proofs.Ytohnommmmdlnpaa
