/- carpetbagref01.Rows at two rows that are the same. -/
import Derived.Test.YtnkkjedckehoaaaDoorMem
import Derived.Deep.QuietTactic
import Derived.BigQuiet
namespace Go.Proofs.YtnkkjedckehoaaaDoor
open Go.RowKit

set_option maxHeartbeats 400000 in
theorem rows_same (A B : Option Addr) (n c d : Nat) (ls : List ByteArray) (w : World) (hl : ls.length = n) (hn : n ≤ 140737488355328) (ha : Rd w A (strV ls)) (hb : Rd w B (strV ls)) :
    Calls Tryd.prog 16 #[.slice A n c, .slice B n d] w fun e w' => e = .returned (.bool true) ∧ Below w.heap.size w w' := by
  have HL := hid hl
  clear hl
  go_enter Tryd.func16, Tryd.ntmps16
  go_wp2
  go_loopw [5] (fun i wr => ∃ j : Nat, j ≤ n ∧ i = .int .i64 j ∧ ∃ k, wr = w.drewN k) (fun i _ => n - (intOf i).toNat)
  case atStart => exact ⟨0, by omega, rfl, 0, rfl⟩
  case round =>
    obtain ⟨j, hj, rfl, k, rfl⟩ := hrel
    by_cases hjn : j < n
    · have hjl : j < ls.length := by rw [HL.out]; exact hjn
      obtain ⟨b, off, rfl, hc, -⟩ := ha.at_ (k := j) (by rw [strV_length]; exact hjl)
      obtain ⟨b', off', rfl, hc', -⟩ := hb.at_ (k := j) (by rw [strV_length]; exact hjl)
      have h1 : w.cell? ⟨b, off + j, none⟩ = some (.string ls[j]) := by rw [hc]; simp [strV]
      have h2 : w.cell? ⟨b', off' + j, none⟩ = some (.string ls[j]) := by rw [hc']; simp [strV]
      clear hc hc'
      generalize ls[j] = x at *
      have hz : (0 : Int) ≤ j := by omega
      have hlt : (j : Int) < n := by omega
      go_wp2_with fail
      go_quiet (fail)
      go_wp2
      go_roundw
      case rel => exact ⟨j + 1, by omega, by go_num, _, rfl⟩
      case measure => simp [intOf]; omega
    · have e : n = j := by omega
      subst e
      go_wp2
      go_ret
      exact ⟨rfl, by exact ⟨rfl, rfl, rfl, Nat.le_refl _, fun _ _ => rfl⟩⟩
end Go.Proofs.YtnkkjedckehoaaaDoor
