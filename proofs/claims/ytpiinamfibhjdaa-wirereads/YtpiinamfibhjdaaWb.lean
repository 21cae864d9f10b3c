/- Package wire: Row, Fits. -/
import Derived.Test.YtpiinamfibhjdaaWa
import Derived.Deep.DeepCutAuto
namespace Go.Proofs.Ytpiinamfibhjdaa
open Go.RowKit

/-- The bytes of rows of strings, without their number. -/
def strsB (ls : List ByteArray) : List UInt8 := (ls.map strB).flatten
/-- A row's bytes. -/
def rowB (ls : List ByteArray) : List UInt8 := numB (min (ls.length : Int) 256) ++ strsB (ls.take 256)

theorem strsB_snoc (ls : List ByteArray) (k : Nat) (h : k < ls.length) : strsB (ls.take (k + 1)) = strsB (ls.take k) ++ strB ls[k] := by
  unfold strsB
  rw [List.take_succ_eq_append_getElem h, List.map_append, List.flatten_append]
  simp only [List.map_cons, List.map_nil, List.flatten_cons, List.flatten_nil, List.append_nil]
theorem strsB_le (ls : List ByteArray) : (strsB ls).length ≤ ls.length * 16388 := by
  unfold strsB
  induction ls with
  | nil => simp
  | cons a t ih =>
    simp only [List.map_cons, List.flatten_cons, List.length_append, List.length_cons]
    have := strB_length a
    omega

set_option maxHeartbeats 400000 in
theorem row_any (A : Option Addr) (n c : Nat) (l : List UInt8) (B : Option Addr) (m d : Nat) (ls : List ByteArray) (w : World) (hl : l.length = n) (hr : Rd w A (by8 l)) (hm : ls.length = m) (hmd : m ≤ d) (hd : d ≤ maxLen) (hrs : Rd w B (strV ls)) (hss : ∀ s ∈ ls, s.size ≤ maxLen) (hn : n ≤ 140737480000000) :
    Calls Try.prog 15 #[.slice A n c, .slice B m d] w fun e w' => ∃ A' c', e = .returned (.slice A' (n + (rowB ls).length) c') ∧ w'.ownsRow w.heap.size 5 1 (.slice A' (n + (rowB ls).length) c') (n + (rowB ls).length) (by8 (l ++ rowB ls)) ∧ Below w.heap.size w w' := by
  unfold maxLen at hd
  have HL := hid hl
  clear hl
  have HM := hid hm
  clear hm
  have HSS := hid hss
  clear hss
  obtain ⟨k, hk1, hk2, hk3⟩ : ∃ k : Nat, k ≤ m ∧ k ≤ 256 ∧ k = min m 256 := ⟨min m 256, by omega, by omega, rfl⟩
  have HK := hid hk3
  clear hk3
  go_enter Try.func15, Try.ntmps15
  go_upto_region 1 with (fail)
  go_cut [1] (fun s w1 => s = .slice B k d ∧ w = w1)
  case first =>
    by_cases h : m ≤ 256
    · have e : k = m := by have := HK.out; omega
      clear HK
      subst e
      go_wp2_with fail
      go_meet
      case rel => exact ⟨rfl, rfl⟩
    · have e : k = 256 := by have := HK.out; omega
      clear HK
      subst e
      go_wp2_with fail
      go_meet
      case rel => exact ⟨rfl, rfl⟩
  case rest =>
  obtain ⟨rfl, rfl⟩ := hcut
  go_wp2_with fail
  go_loop [5, 17] (fun z i => ∃ j : Nat, j ≤ k ∧ i = .int .i64 j ∧ ∃ q : Int, z = .int .i64 q ∧ 0 ≤ q ∧ q ≤ 4 + j * 16388) (fun _ i => k - (intOf i).toNat)
  case atStart => exact ⟨0, by omega, rfl, 4, rfl, by omega, by omega⟩
  case round =>
    obtain ⟨j, hj, rfl, q, rfl, hq0, hq1⟩ := hrel
    by_cases hjk : j < k
    · have hjl : j < ls.length := by have := HM.out; omega
      obtain ⟨b, off, rfl, hc, hb⟩ := hrs.at_ (k := j) (by rw [strV_length]; exact hjl)
      have hc' : w.cell? ⟨b, off + j, none⟩ = some (.string ls[j]) := by rw [hc]; simp [strV]
      clear hc
      have hsz : ls[j].size ≤ maxLen := HSS.out _ (List.getElem_mem hjl)
      go_wp2_with fail
      refine (stringSize_any _ _ hsz).mono ?_
      rintro e w' ⟨rfl, rfl⟩
      go_wp2
      go_round
      case rel => exact ⟨j + 1, by omega, by go_num, _, rfl, by omega, by omega⟩
      case measure => simp [intOf]; omega
    · have e : k = j := by omega
      subst e
      go_wp2_with fail
      refine (copied_any A n c l q _ HL.out hr (by omega) (by omega)).mono ?_
      rintro e w1 ⟨A1, c1, rfl, hown1, hb1⟩
      go_wp2_with fail
      refine (putNumber_own w.heap.size A1 n c1 (by8 l) _ _ hown1 (by omega) hb1.size).mono ?_
      rintro e w2 ⟨A2, c2, rfl, hown2, hg2⟩
      have hb2 : Below w.heap.size w w2 := hb1.grown hg2 hb1.size (own_app_block hown1)
      clear hg2 hown1 hb1
      go_wp2_with fail
      go_loopw [0, 34] (fun v i wr => ∃ j : Nat, j ≤ k ∧ i = .int .i64 j ∧ ∃ A' c', v = .slice A' (n + 4 + (strsB (ls.take j)).length) c' ∧ wr.ownsRow w.heap.size 5 1 (.slice A' (n + 4 + (strsB (ls.take j)).length) c') (n + 4 + (strsB (ls.take j)).length) (by8 l ++ by8 (numB k) ++ by8 (strsB (ls.take j))) ∧ Below w.heap.size w wr) (fun _ i _ => k - (intOf i).toNat)
      case atStart => exact ⟨0, by omega, rfl, A2, c2, by simp [strsB], by simpa [strsB, by8] using hown2, hb2⟩
      case round =>
        clear hown2 hb2
        obtain ⟨j, hj, rfl, A3, c3, rfl, hown3, hb3⟩ := hrel
        have hle := strsB_le (ls.take j)
        have hlt : (ls.take j).length ≤ j := List.length_take_le _ _
        by_cases hjk : j < k
        · have hjl : j < ls.length := by have := HM.out; omega
          obtain ⟨b, off, rfl, hc, hb⟩ := hrs.at_ (k := j) (by rw [strV_length]; exact hjl)
          have hc' : wr.cell? ⟨b, off + j, none⟩ = some (.string ls[j]) := by rw [hb3.cell hb, hc]; simp [strV]
          clear hc
          have hsz : ls[j].size ≤ maxLen := HSS.out _ (List.getElem_mem hjl)
          have HSn := hid (strsB_snoc ls j hjl)
          go_wp2_with fail
          refine (putString_own w.heap.size A3 _ c3 _ _ _ hown3 (by omega) hsz hb3.size).mono ?_
          rintro e w4 ⟨A4, c4, rfl, hown4, hb4⟩
          have hlen : n + 4 + (strsB (ls.take j)).length + (strB ls[j]).length = n + 4 + (strsB (ls.take (j + 1))).length := by rw [HSn.out, List.length_append]; omega
          have hcat : by8 l ++ by8 (numB k) ++ by8 (strsB (ls.take j)) ++ by8 (strB ls[j]) = by8 l ++ by8 (numB k) ++ by8 (strsB (ls.take (j + 1))) := by rw [HSn.out, by8_append, List.append_assoc]
          rw [hlen] at hown4
          rw [hcat] at hown4
          rw [hlen]
          clear hlen hcat
          go_wp2
          go_roundw
          case rel => exact ⟨j + 1, by omega, by go_num, A4, c4, rfl, hown4, hb3.trans hb4⟩
          case measure => simp [intOf]; omega
        · have e : k = j := by omega
          subst e
          go_wp2
          go_ret
          have hk : k = min m 256 := HK.out
          have hm := HM.out
          have e1 : rowB ls = numB k ++ strsB (ls.take k) := by
            unfold rowB
            have h1 : min (ls.length : Int) 256 = (k : Int) := by omega
            have h2 : ls.take 256 = ls.take k := by
              by_cases h : m ≤ 256
              · rw [List.take_of_length_le (by omega), List.take_of_length_le (by omega)]
              · have : k = 256 := by omega
                rw [this]
            rw [h1, h2]
          have e2 : n + (rowB ls).length = n + 4 + (strsB (ls.take k)).length := by rw [e1, List.length_append]; simp [numB]; omega
          rw [e2]
          refine ⟨A3, c3, rfl, ?_, hb3⟩
          rw [e1, by8_append, by8_append, ← List.append_assoc]
          exact hown3
end Go.Proofs.Ytpiinamfibhjdaa
