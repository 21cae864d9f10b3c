/- What path calls of Go's library, and names. -/
import Derived.Test.YtnkkjedckehoaaaDoorQa
import Derived.Test.YtnkkjedckehoaaaDoorFr
import Derived.Deep.QuietTactic
import Derived.BigQuiet
namespace Go.Proofs.YtnkkjedckehoaaaDoor
open Go.RowKit


/-- What path.parts cuts. -/
def cutB (s : ByteArray) : List ByteArray := Lib.splitB ⟨#[47]⟩ 0 (min 5 (s.size + 1) - 1) s
theorem size_len (s : ByteArray) : s.size = s.data.toList.length := by cases s; rfl
theorem cutB_data (s : ByteArray) : (cutB s).map (·.data.toList) = Lib.splitK [47] 0 (min 5 (s.data.toList.length + 1) - 1) s.data.toList := by
  unfold cutB
  rw [Lib.splitB_data, size_len]
theorem cutB_le (s : ByteArray) : (cutB s).length ≤ min 5 (s.size + 1) := by
  have := Lib.splitB_length_le ⟨#[47]⟩ 0 (min 5 (s.size + 1) - 1) s
  unfold cutB
  omega

theorem genSplit5 (s : ByteArray) (w : World) (hs : s.size < 4294967281) :
    Calls Tryd.prog 77 #[.string s, .string ⟨#[47]⟩, .int .i64 0, .int .i64 5] w fun e w' =>
      e = .returned (.slice (some ⟨w.heap.size, 0, none⟩) (cutB s).length (min 5 (s.size + 1))) ∧ w' = w.alloc (.cells (Lib.cellsOf (cutB s) (min 5 (s.size + 1))) 9) :=
  Any.strings_genSplit_core Tryd.lays221 (by kernel_rfl) s ⟨#[47]⟩ 0 5 (min 5 (s.size + 1)) w hs (by decide) (by decide)
    (fun x c _ => (Any.strings_Index_one { Tryd.lays221 with } x 47 _).mono fun e w' ⟨he, hw⟩ => ⟨by rw [he, ← Lib.index_one], hw⟩)
    ((Any.strings_Count_one { Tryd.lays221 with } s 47 w).mono fun e w' ⟨he, hw⟩ => ⟨by rw [he]; show _ = Ending.returned (Value.int .i64 ((Lib.count s.data.toList [47] : Nat) : Int)); rw [Lib.count_one]; rfl, hw⟩)
    (by decide) (by decide) (by rw [if_neg (by decide)]; omega)

set_option maxHeartbeats 400000 in
theorem splitN5 (s : ByteArray) (w : World) (hs : s.size < 4294967281) :
    Calls Tryd.prog 74 #[.string s, .string ⟨#[47]⟩, .int .i64 5] w fun e w' =>
      e = .returned (.slice (some ⟨w.heap.size, 0, none⟩) (cutB s).length (min 5 (s.size + 1))) ∧ w' = w.alloc (.cells (Lib.cellsOf (cutB s) (min 5 (s.size + 1))) 9) := by
  go_enter Tryd.func74, Tryd.ntmps74
  go_wp2_with fail
  refine (genSplit5 s _ hs).mono ?_
  rintro e w1 ⟨rfl, rfl⟩
  go_wp2
  go_ret
  exact ⟨rfl, rfl⟩

set_option maxHeartbeats 400000 in
theorem parts_any (s : ByteArray) (w : World) (hs : s.size < 4294967281) :
    Calls Tryd.prog 69 #[.string s] w fun e w' =>
      e = .returned (.slice (some ⟨w.heap.size, 0, none⟩) (cutB s).length (min 5 (s.size + 1))) ∧ w' = w.alloc (.cells (Lib.cellsOf (cutB s) (min 5 (s.size + 1))) 9) := by
  go_enter Tryd.func69, Tryd.ntmps69
  go_wp2_with fail
  refine (splitN5 s _ hs).mono ?_
  rintro e w1 ⟨rfl, rfl⟩
  go_wp2
  go_ret
  exact ⟨rfl, rfl⟩

set_option maxHeartbeats 400000 in
theorem ofName_any (b : UInt8) (w : World) :
    Calls Tryd.prog 76 #[.int .u8 (b.toNat : Int)] w fun e w' => e = .returned (.bool (okB b)) ∧ w = w' := by
  have hb : b.toNat < 256 := b.toNat_lt
  go_enter Tryd.func76, Tryd.ntmps76
  go_wp2
  all_goals
    go_ret
    refine ⟨ret_bool ?_, rfl⟩
    unfold okB
    rw [Bool.eq_iff_iff]
    simp
    omega

theorem take_ok (s : ByteArray) (j : Nat) (h : j < s.size) : (s.data.toList.take (j + 1)).all okB = ((s.data.toList.take j).all okB && okB s[j]) := by
  have e : s.data.toList[j]? = some s[j] := by
    have h' : j < s.data.size := h
    rw [Array.getElem?_toList, Array.getElem?_eq_getElem h']
    rfl
  rw [List.take_add_one, e, List.all_append]
  simp
theorem nameL_head {l : List UInt8} (h : nameL l = true) : 1 ≤ l.length ∧ l.length ≤ 12 ∧ l ≠ [46] ∧ l ≠ [46, 46] := by
  simp only [nameL, Bool.and_eq_true, decide_eq_true_eq] at h
  exact h.1
theorem nameL_no {l : List UInt8} (h : ¬ (1 ≤ l.length ∧ l.length ≤ 12 ∧ l ≠ [46] ∧ l ≠ [46, 46])) : false = nameL l := by
  cases hn : nameL l with
  | false => rfl
  | true => exact absurd (nameL_head hn) h

set_option maxHeartbeats 1000000 in
theorem name_any (s : ByteArray) (w : World) :
    Calls Tryd.prog 73 #[.string s] w fun e w' => e = .returned (.bool (nameL s.data.toList)) ∧ w = w' := by
  by_cases h1 : (s.size : Int) < 1
  · go_enter Tryd.func73, Tryd.ntmps73
    go_wp2
    go_ret
    exact ⟨ret_bool (nameL_no (by have := size_len s; omega)), rfl⟩
  by_cases h2 : (12 : Int) < s.size
  · go_enter Tryd.func73, Tryd.ntmps73
    go_wp2
    go_ret
    exact ⟨ret_bool (nameL_no (by have := size_len s; omega)), rfl⟩
  cases h3 : (s.toList == [46])
  case true =>
    have H := hid (show s.data.toList = [46] by rw [← Lib.toList_data s]; simpa using h3)
    go_enter Tryd.func73, Tryd.ntmps73
    go_wp2
    go_ret
    exact ⟨ret_bool (nameL_no (fun h => h.2.2.1 H.out)), rfl⟩
  cases h4 : (s.toList == [46, 46])
  case true =>
    have H := hid (show s.data.toList = [46, 46] by rw [← Lib.toList_data s]; simpa using h4)
    go_enter Tryd.func73, Tryd.ntmps73
    go_wp2
    go_ret
    exact ⟨ret_bool (nameL_no (fun h => h.2.2.2 H.out)), rfl⟩
  have HH := hid (show 1 ≤ s.data.toList.length ∧ s.data.toList.length ≤ 12 ∧ s.data.toList ≠ [46] ∧ s.data.toList ≠ [46, 46] by
    have hl := size_len s
    rw [Lib.toList_data s] at h3 h4
    exact ⟨by omega, by omega, by simpa using h3, by simpa using h4⟩)
  go_enter Tryd.func73, Tryd.ntmps73
  go_wp2_with fail
  go_loop [22] (fun i => ∃ j : Nat, j ≤ s.size ∧ i = .int .i64 j ∧ (s.data.toList.take j).all okB = true) (fun i => s.size - (intOf i).toNat)
  case atStart => exact ⟨0, by omega, rfl, by simp⟩
  case round =>
    obtain ⟨j, hj, rfl, hok⟩ := hrel
    by_cases hjn : j < s.size
    · have hlt : (j : Int) < s.size := by omega
      have HK := hid (take_ok s j hjn)
      have HO := hid hok
      clear hok
      go_wp2_with fail
      refine (ofName_any _ _).mono ?_
      rintro e w1 ⟨rfl, rfl⟩
      cases hb : okB s[j]
      · go_wp2
        go_ret
        refine ⟨ret_bool ?_, rfl⟩
        have hk : (s.data.toList.take (j + 1)).all okB = false := by rw [HK.out, HO.out, hb]; rfl
        cases hn : nameL s.data.toList with
        | false => rfl
        | true =>
          simp only [nameL, Bool.and_eq_true, List.all_eq_true] at hn
          have : (s.data.toList.take (j + 1)).all okB = true := List.all_eq_true.2 fun b hbm => hn.2 b (List.mem_of_mem_take hbm)
          rw [hk] at this
          cases this
      · go_wp2
        go_roundw
        case rel => exact ⟨j + 1, by omega, by go_num, by rw [HK.out, HO.out, hb]; rfl⟩
        case measure => simp [intOf]; omega
    · have e : s.size = j := by omega
      have HE := hid e
      have HO := hid hok
      have hnlt : ¬ (j : Int) < s.size := by omega
      clear e hok
      go_wp2
      go_ret
      refine ⟨ret_bool ?_, rfl⟩
      have hl := size_len s
      have ho := HO.out
      rw [← HE.out, hl, List.take_length] at ho
      have hh := HH.out
      simp only [nameL, ho, Bool.and_true]
      exact (decide_eq_true hh).symm
end Go.Proofs.YtnkkjedckehoaaaDoor
