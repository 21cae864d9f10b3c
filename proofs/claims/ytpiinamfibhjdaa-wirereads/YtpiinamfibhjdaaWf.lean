/- Small callees: Fits, Rows, few. -/
import Derived.Test.YtpiinamfibhjdaaWe
namespace Go.Proofs.Ytpiinamfibhjdaa
open Go.RowKit

theorem ret_bool {a b : Bool} (h : a = b) : Ending.returned (.bool a) = .returned (.bool b) := by rw [h]
def fitsB (n : Nat) (most : Int) : Bool := decide ((n : Int) ≤ min most 16384)
theorem fitsB_yes {n : Nat} {most : Int} (h : (n : Int) ≤ min most 16384) : true = fitsB n most := (decide_eq_true h).symm
theorem fitsB_no {n : Nat} {most : Int} (h : ¬ (n : Int) ≤ min most 16384) : false = fitsB n most := (decide_eq_false h).symm

set_option maxHeartbeats 400000 in
theorem fits_any (s : ByteArray) (most : Int) (w : World) :
    Calls Try.prog 19 #[.string s, .int .i64 most] w fun e w' => e = .returned (.bool (fitsB s.size most)) ∧ w = w' := by
  by_cases hm : most ≤ 16384
  · by_cases hs : (s.size : Int) ≤ most
    · go_enter Try.func19, Try.ntmps19
      go_wp2
      go_ret
      exact ⟨ret_bool (fitsB_yes (by omega)), rfl⟩
    · go_enter Try.func19, Try.ntmps19
      go_wp2
      go_ret
      exact ⟨ret_bool (fitsB_no (by omega)), rfl⟩
  · by_cases hs : (s.size : Int) ≤ 16384
    · go_enter Try.func19, Try.ntmps19
      go_wp2
      go_ret
      exact ⟨ret_bool (fitsB_yes (by omega)), rfl⟩
    · go_enter Try.func19, Try.ntmps19
      go_wp2
      go_ret
      exact ⟨ret_bool (fitsB_no (by omega)), rfl⟩

set_option maxHeartbeats 400000 in
theorem rows_same (A B : Option Addr) (n c d : Nat) (ls : List ByteArray) (w : World) (hl : ls.length = n) (hn : n ≤ 140737488355328) (ha : Rd w A (strV ls)) (hb : Rd w B (strV ls)) :
    Calls Try.prog 26 #[.slice A n c, .slice B n d] w fun e w' => e = .returned (.bool true) ∧ Below w.heap.size w w' := by
  have HL := hid hl
  clear hl
  go_enter Try.func26, Try.ntmps26
  go_wp2
  go_loopw [5] (fun i wr => ∃ j : Nat, j ≤ n ∧ i = .int .i64 j ∧ ∃ k, wr = w.drewN k) (fun i _ => n - (intOf i).toNat)
  case atStart => exact ⟨0, by omega, rfl, 0, rfl⟩
  case round =>
    obtain ⟨j, hj, rfl, k, rfl⟩ := hrel
    by_cases hjn : j < n
    · have hjl : j < ls.length := by rw [HL.out]; exact hjn
      obtain ⟨b, off, rfl, hc, -⟩ := ha.at_ (k := j) (by rw [strV_length]; exact hjl)
      obtain ⟨b', off', rfl, hc', -⟩ := hb.at_ (k := j) (by rw [strV_length]; exact hjl)
      have h1 : w.cell? ⟨b, off + j, none⟩ = some (.string ls[j]) := by rw [hc]; simp [strV]
      have h2 : w.cell? ⟨b', off' + j, none⟩ = some (.string ls[j]) := by rw [hc']; simp [strV]
      clear hc hc'
      generalize ls[j] = x at *
      have hz : (0 : Int) ≤ j := by omega
      have hlt : (j : Int) < n := by omega
      go_wp2_with fail
      go_quiet (fail)
      go_wp2
      go_roundw
      case rel => exact ⟨j + 1, by omega, by go_num, _, rfl⟩
      case measure => simp [intOf]; omega
    · have e : n = j := by omega
      subst e
      go_wp2
      go_ret
      exact ⟨rfl, by exact ⟨rfl, rfl, rfl, Nat.le_refl _, fun _ _ => rfl⟩⟩


def SomeBool (w : World) (e : Ending) (w' : World) : Prop := ∃ bo, e = .returned (.bool bo) ∧ w = w'

set_option maxHeartbeats 400000 in
theorem few_any (A : Option Addr) (n c : Nat) (ls : List ByteArray) (w : World) (hl : ls.length = n) (hn : n ≤ 140737488355328) (ha : Rd w A (strV ls)) :
    Calls Try.prog 12 #[.slice A n c] w (SomeBool w) := by
  have HL := hid hl
  clear hl
  go_enter Try.func12, Try.ntmps12
  go_wp2
  go_loop [3, 4] (fun z i => ∃ j : Nat, j ≤ n ∧ i = .int .i64 j ∧ ∃ q, z = .int .i64 q) (fun _ i => n - (intOf i).toNat)
  case atStart => exact ⟨0, by omega, rfl, 0, rfl⟩
  case round =>
    obtain ⟨j, hj, rfl, q, rfl⟩ := hrel
    by_cases hjn : j < n
    · have hjl : j < ls.length := by rw [HL.out]; exact hjn
      obtain ⟨b, off, rfl, hc, -⟩ := ha.at_ (k := j) (by rw [strV_length]; exact hjl)
      have h1 : w.cell? ⟨b, off + j, none⟩ = some (.string ls[j]) := by rw [hc]; simp [strV]
      clear hc
      generalize ls[j] = x at *
      go_wp2
      go_round
      case rel => exact ⟨j + 1, by omega, by go_num, _, rfl⟩
      case measure => simp [intOf]; omega
    · have e : n = j := by omega
      subst e
      go_wp2
      all_goals
        go_ret
        exact ⟨_, rfl, rfl⟩

end Go.Proofs.Ytpiinamfibhjdaa
