/- PathTells: the walk. -/
import Derived.Test.YtekmclbnbbhcmaaDoorQh
import Derived.Test.YtekmclbnbbhcmaaDoorRs
namespace Go.Proofs.YtekmclbnbbhcmaaDoor
open Go.RowKit

/-- The bytes of strings, counted. -/
def sumS (ls : List ByteArray) : Nat := (ls.map (·.size)).sum
theorem sumS_step (ls : List ByteArray) (j : Nat) (h : j < ls.length) : sumS (ls.take (j + 1)) = sumS (ls.take j) + ls[j].size := by
  rw [List.take_add_one, List.getElem?_eq_getElem h, sumS, List.map_append, List.sum_append]
  simp only [sumS, Option.toList_some, List.map_cons, List.map_nil, List.sum_cons, List.sum_nil]
  omega
theorem sumS_le : ∀ (ls : List ByteArray) (M : Nat), (∀ s ∈ ls, s.size ≤ M) → sumS ls ≤ ls.length * M
  | [], _, _ => by simp [sumS]
  | s :: r, M, h => by
    have h1 := h s (by simp)
    have h2 := sumS_le r M (fun x hx => h x (List.mem_cons_of_mem _ hx))
    simp only [sumS, List.map_cons, List.sum_cons, List.length_cons] at h2 ⊢
    rw [Nat.add_mul]
    omega
theorem sumS_mem : ∀ (ls : List ByteArray) (s : ByteArray), s ∈ ls → s.size ≤ sumS ls
  | x :: r, s, h => by
    simp only [sumS, List.map_cons, List.sum_cons]
    rcases List.mem_cons.1 h with rfl | h
    · omega
    · have := sumS_mem r s h
      simp only [sumS] at this
      omega

set_option maxHeartbeats 2000000 in
theorem pathTells_walk (s : ByteArray) (A : Option Addr) (c : Nat) (ls : List ByteArray) (w : World) (hs0 : s.size ≤ 140737488351232) (hr : Rd w A (strV ls)) (hlc : ls.length ≤ c) (_ : c * 16 ≤ 140737488351232) (hss : ∀ s ∈ ls, s.size ≤ 140737488351232) :
    Calls Tryd.prog 3 #[.string s, .slice A ls.length c] w fun e w' => e = .returned (.bool true) ∧ Below w.heap.size w w' := by
  have HS := hid hss
  clear hss
  go_enter Tryd.func3, Tryd.ntmps3
  go_wp2_with fail
  refine (small_any _).mono ?_
  rintro e w1 ⟨rfl, b1⟩
  have r1 := hr.below b1
  clear hr
  by_cases h1 : (300 : Int) < s.size
  · go_wp2
    go_ret
    exact ⟨rfl, b1⟩
  by_cases h2 : (20 : Int) < ls.length
  · go_wp2
    go_ret
    exact ⟨rfl, b1⟩
  have hs : s.size < 4294967281 := by omega
  go_wp2_with fail
  go_loop [6, 7] (fun v i => ∃ j : Nat, j ≤ ls.length ∧ i = .int .i64 j ∧ v = .int .i64 (sumS (ls.take j) : Nat)) (fun _ i => ls.length - (intOf i).toNat)
  case atStart => exact ⟨0, by omega, rfl, rfl⟩
  case round =>
    obtain ⟨j, hj, rfl, rfl⟩ := hrel
    have hbd : sumS (ls.take j) ≤ j * 140737488351232 := Nat.le_trans (sumS_le _ _ (fun x hx => HS.out x (List.mem_of_mem_take hx))) (Nat.mul_le_mul_right _ (List.length_take_le _ _))
    by_cases hjn : j < ls.length
    · obtain ⟨b, off, rfl, hc, -⟩ := r1.at_ (k := j) (by rw [strV_length]; exact hjn)
      have h5 : w1.cell? ⟨b, off + j, none⟩ = some (.string ls[j]) := by rw [hc]; simp [strV]
      have HK := hid (sumS_step ls j hjn)
      have hszj := HS.out ls[j] (List.getElem_mem hjn)
      clear hc
      have hz : (0 : Int) ≤ j := by omega
      have hlt : (j : Int) < ls.length := by omega
      go_wp2
      go_roundw
      case rel => exact ⟨j + 1, by omega, by go_num, by rw [HK.out]; go_num⟩
      case measure => simp [intOf]; omega
    · have hnlt : ¬ (j : Int) < ls.length := by omega
      have e : j = ls.length := by omega
      subst e
      rw [List.take_length] at hbd ⊢
      by_cases h5 : (500 : Int) < (sumS ls : Nat)
      · go_wp2
        go_ret
        exact ⟨rfl, b1⟩
      have HM := hid (show ∀ s ∈ ls, s.size < 4294967281 from fun x hx => by have := sumS_mem ls x hx; omega)
      go_wp2_with fail
      refine (names_any s _ hs).mono ?_
      rintro e w2 ⟨A2, c2, rfl, n2, -, -, hb2⟩
      have b2 := below2 b1 hb2
      have r2 := r1.below hb2
      clear b1 r1 hb2
      go_wp2_with fail
      refine (refNames s _ hs).mono ?_
      rintro e w3 ⟨A3, c3, rfl, n3, -, hb3⟩
      have b3 := below2 b2 hb3
      have r3 := r2.below hb3
      have n4 := n2.below hb3
      clear b2 r2 n2 hb3
      have hnl := names_len s.data.toList
      go_wp2_with fail
      refine (rows_same A2 A3 _ c2 c3 ((namesL s.data.toList).map mkS) _ (by simp) (by omega) n4 n3).mono ?_
      rintro e w4 ⟨rfl, hb4⟩
      have b4 := below2 b3 hb4
      have r4 := r3.below hb4
      clear b3 r3 n3 n4 hb4
      go_wp2_with fail
      refine (name_any s _).mono ?_
      rintro e wx ⟨rfl, rfl⟩
      go_wp2_with fail
      refine (refName s _).mono ?_
      rintro e wx ⟨rfl, rfl⟩
      go_wp2_with fail
      refine (right_any s _ hs).mono ?_
      rintro e w5 ⟨rfl, hb5⟩
      have b5 := below2 b4 hb5
      have r5 := r4.below hb5
      clear b4 r4 hb5
      go_wp2_with fail
      refine (refRight s _ hs).mono ?_
      rintro e w6 ⟨rfl, hb6⟩
      have b6 := below2 b5 hb6
      have r6 := r5.below hb6
      clear b5 r5 hb6
      go_wp2_with fail
      refine (join_any A _ c ls _ rfl r6 hlc).mono ?_
      rintro e w7 ⟨rfl, hb7⟩
      have b7 := below2 b6 hb7
      have r7 := r6.below hb7
      clear b6 r6 hb7
      go_wp2_with fail
      refine (refJoin A _ c (lst ls) _ (lst_length ls) (by omega) (by rw [lst, mkS_map]; exact r7)).mono ?_
      rintro e w8 ⟨rfl, hb8⟩
      have b8 := below2 b7 hb8
      have r8 := r7.below hb8
      clear b7 r7 hb8
      go_wp2_with fail
      refine (parent_any s _ hs).mono ?_
      rintro e w9 ⟨rfl, hb9⟩
      have b9 := below2 b8 hb9
      have r9 := r8.below hb9
      clear b8 r8 hb9
      go_wp2_with fail
      refine (refParent s _ hs).mono ?_
      rintro e w10 ⟨rfl, hb10⟩
      have b10 := below2 b9 hb10
      have r10 := r9.below hb10
      clear b9 r9 hb10
      go_wp2_with fail
      refine (sorted_any A _ c ls _ rfl r10 (by omega) HM.out).mono ?_
      rintro e w11 ⟨rfl, hb11⟩
      have b11 := below2 b10 hb11
      have r11 := r10.below hb11
      clear b10 r10 hb11
      go_wp2_with fail
      refine (refSorted A _ c ls _ rfl r11 (by omega) HM.out).mono ?_
      rintro e w12 ⟨rfl, hb12⟩
      have b12 := below2 b11 hb12
      clear b11 r11 hb12
      go_wp2
      go_ret
      exact ⟨rfl, b12⟩
end Go.Proofs.YtekmclbnbbhcmaaDoor
