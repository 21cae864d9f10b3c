/- Package wire: contracts of what writes. -/
import Derived.Test.YtodgcajehadaaaaMem
namespace Go.Proofs.Ytodgcajehadaaaa
open Go.RowKit


/-- A number as it is clamped. -/
def clampN (x : Int) : Nat := (max 0 (min x 4294967295)).toNat
/-- A number's bytes. -/
def numB (x : Int) : List UInt8 := [UInt8.ofNat (clampN x / 16777216), UInt8.ofNat (clampN x / 65536), UInt8.ofNat (clampN x / 256), UInt8.ofNat (clampN x)]


theorem numB_cells (x a b c d : Int) (y : Nat) (hy : clampN x = y) (h1 : a = (y / 16777216 % 256 : Nat)) (h2 : b = (y / 65536 % 256 : Nat)) (h3 : c = (y / 256 % 256 : Nat)) (h4 : d = (y % 256 : Nat)) :
    [Value.int .u8 a, .int .u8 b, .int .u8 c, .int .u8 d] = by8 (numB x) := by
  subst h1 h2 h3 h4
  simp [by8, numB, hy]

set_option maxHeartbeats 400000 in
theorem putNumber_own (base : Nat) (A : Option Addr) (n c : Nat) (xs : List Value) (x : Int) (w : World) (hown : w.ownsRow base 5 1 (.slice A n c) n xs) (hn : n ≤ 140737488355000) (hb : base ≤ w.heap.size) :
    Calls Try.prog 32 #[.slice A n c, .int .i64 x] w fun e w' => ∃ A' c', e = .returned (.slice A' (n + 4) c') ∧ w'.ownsRow base 5 1 (.slice A' (n + 4) c') (n + 4) (xs ++ by8 (numB x)) ∧ w.grownBy w' (Value.slice A n c).ownBlock := by
  rcases (by omega : x < 0 ∨ (0 ≤ x ∧ x ≤ 4294967295) ∨ 4294967295 < x) with hx | ⟨hx, hx2⟩ | hx
  · have HB : Hid ([Value.int .u8 0, .int .u8 0, .int .u8 0, .int .u8 0] = by8 (numB x)) := numB_cells x _ _ _ _ 0 (by unfold clampN; omega) (by decide) (by decide) (by decide) (by decide)
    go_enter Try.func32, Try.ntmps32
    go_wp2_with (at_builtin; refine wpApp _ rfl _ _ 38 rfl base 5 (.int .u8 0) 1 Try.underlying38 Try.info8 rfl A n c xs rfl (hown.alloc _) _ _ _ [Value.int .u8 0, .int .u8 0, .int .u8 0, .int .u8 0] rfl rfl (.inr ⟨_, rfl, new_cells w 5 _⟩) (by rw [HB.out]; exact by8_one _) (by omega) (by simp; omega) (by omega) ?_)
    intro A' c' w1 hown1 hg1
    rw [HB.out] at hown1
    go_wp2
    go_ret
    exact ⟨A', c', rfl, hown1, grown_trans (World.grownBy_alloc w _ _) hg1⟩
  · have HB : Hid ([Value.int .u8 (x / 16777216), .int .u8 (x / 65536 % 256), .int .u8 (x / 256 % 256), .int .u8 (x % 256)] = by8 (numB x)) := numB_cells x _ _ _ _ x.toNat (by unfold clampN; omega) (by omega) (by omega) (by omega) (by omega)
    go_enter Try.func32, Try.ntmps32
    go_wp2_with (at_builtin; refine wpApp _ rfl _ _ 38 rfl base 5 (.int .u8 0) 1 Try.underlying38 Try.info8 rfl A n c xs rfl (hown.alloc _) _ _ _ [Value.int .u8 (x / 16777216), .int .u8 (x / 65536 % 256), .int .u8 (x / 256 % 256), .int .u8 (x % 256)] rfl rfl (.inr ⟨_, rfl, new_cells w 5 _⟩) (by rw [HB.out]; exact by8_one _) (by omega) (by simp; omega) (by omega) ?_)
    intro A' c' w1 hown1 hg1
    rw [HB.out] at hown1
    go_wp2
    go_ret
    exact ⟨A', c', rfl, hown1, grown_trans (World.grownBy_alloc w _ _) hg1⟩
  · have HB : Hid ([Value.int .u8 255, .int .u8 255, .int .u8 255, .int .u8 255] = by8 (numB x)) := numB_cells x _ _ _ _ 4294967295 (by unfold clampN; omega) (by decide) (by decide) (by decide) (by decide)
    go_enter Try.func32, Try.ntmps32
    go_wp2_with (at_builtin; refine wpApp _ rfl _ _ 38 rfl base 5 (.int .u8 0) 1 Try.underlying38 Try.info8 rfl A n c xs rfl (hown.alloc _) _ _ _ [Value.int .u8 255, .int .u8 255, .int .u8 255, .int .u8 255] rfl rfl (.inr ⟨_, rfl, new_cells w 5 _⟩) (by rw [HB.out]; exact by8_one _) (by omega) (by simp; omega) (by omega) ?_)
    intro A' c' w1 hown1 hg1
    rw [HB.out] at hown1
    go_wp2
    go_ret
    exact ⟨A', c', rfl, hown1, grown_trans (World.grownBy_alloc w _ _) hg1⟩

set_option maxHeartbeats 400000 in
theorem copied_any (A : Option Addr) (n c : Nat) (l : List UInt8) (r : Int) (w : World) (hl : l.length = n) (hr : Rd w A (by8 l)) (h0 : 0 ≤ r) (hn : (n : Int) + r ≤ 140737488355000) :
    Calls Try.prog 33 #[.slice A n c, .int .i64 r] w fun e w' => ∃ A' c', e = .returned (.slice A' n c') ∧ w'.ownsRow w.heap.size 5 1 (.slice A' n c') n (by8 l) ∧ Below w.heap.size w w' := by
  obtain ⟨i0, hi, hz0, hz1, hz2⟩ := info_parts Try.info8
  have HL := hid hl
  clear hl
  obtain ⟨k, rfl⟩ := Int.eq_ofNat_of_zero_le h0
  clear h0
  have hsz : i0.bytes * (n + k) ≤ 281474976710656 := by rw [hz2]; omega
  have HZ := hid hsz
  clear hsz
  go_enter Try.func33, Try.ntmps33
  go_wp2_with (at_make; refine wpList_make_own _ rfl _ _ 38 rfl w.heap.size 5 i0 (.int .u8 0) 1 Try.underlying38 hi hz0 hz1 _ _ _ (n + k) rfl rfl (by omega) HZ.out (by unfold maxLen; omega) (Nat.le_refl _) ?_)
  intro w1 hown1 hg1
  go_wp2_with (at_builtin; refine wpApp _ rfl _ _ 38 rfl w.heap.size 5 (.int .u8 0) 1 Try.underlying38 Try.info8 rfl _ _ _ _ rfl hown1 _ _ _ (by8 l) rfl (by rw [by8_length]; exact HL.out) (hr.grownNone hg1) (by8_one _) (by omega) hg1.size (by omega) ?_)
  intro A' c' w2 hown2 hg2
  go_wp2
  go_ret
  refine ⟨A', c', rfl, hown2, ((Below.refl _ _).grown hg1 (Nat.le_refl _) (by simp)).grown hg2 hg1.size ?_⟩
  intro k hk
  simp [Value.ownBlock] at hk
  omega


set_option maxHeartbeats 400000 in
theorem number_any (A : Option Addr) (n c : Nat) (l : List UInt8) (x : Int) (w : World) (hl : l.length = n) (hr : Rd w A (by8 l)) (hn : n ≤ 140737488354000) :
    Calls Try.prog 26 #[.slice A n c, .int .i64 x] w fun e w' => ∃ A' c', e = .returned (.slice A' (n + 4) c') ∧ w'.ownsRow w.heap.size 5 1 (.slice A' (n + 4) c') (n + 4) (by8 (l ++ numB x)) ∧ Below w.heap.size w w' := by
  have HL := hid hl
  clear hl
  go_enter Try.func26, Try.ntmps26
  go_wp2_with fail
  refine (copied_any A n c l 4 _ HL.out hr (by omega) (by omega)).mono ?_
  rintro e w1 ⟨A1, c1, rfl, hown1, hb1⟩
  go_wp2_with fail
  refine (putNumber_own w.heap.size A1 n c1 (by8 l) x _ hown1 (by omega) hb1.size).mono ?_
  rintro e w2 ⟨A2, c2, rfl, hown2, hg2⟩
  go_wp2
  go_ret
  exact ⟨A2, c2, rfl, by rw [by8_append]; exact hown2, hb1.grown hg2 hb1.size (own_app_block hown1)⟩

/-- The first m bytes of a string. -/
def cutS (m : Nat) (s : ByteArray) : List UInt8 := s.data.toList.take m
/-- A string's bytes. -/
def strB (s : ByteArray) : List UInt8 := numB (min (s.size : Int) 16384) ++ cutS 16384 s

theorem size_list (s : ByteArray) : s.data.toList.length = s.size := by rw [Array.length_toList]; rfl
theorem cutS_length (m : Nat) (s : ByteArray) : (cutS m s).length = min m s.size := by rw [cutS, List.length_take, size_list]
theorem strB_length (s : ByteArray) : (strB s).length = 4 + min 16384 s.size := by simp [strB, numB, cutS_length]; omega
theorem strB_short (s : ByteArray) (h : s.size ≤ 16384) : strB s = numB s.size ++ s.data.toList := by
  unfold strB cutS
  rw [List.take_of_length_le (by rw [size_list]; exact h), show min (s.size : Int) 16384 = s.size by omega]
theorem extract_list (s : ByteArray) (m : Nat) : (s.extract 0 m).data.toList = s.data.toList.take m := by
  simp [ByteArray.data_extract, Array.toList_extract, List.extract]

end Go.Proofs.Ytodgcajehadaaaa
