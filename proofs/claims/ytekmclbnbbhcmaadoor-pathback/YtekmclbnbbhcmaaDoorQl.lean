/- PathBack: the walk. -/
import Derived.Test.YtekmclbnbbhcmaaDoorQe
import Derived.Test.YtekmclbnbbhcmaaDoorRs
import Derived.Deep.DeepCutAuto
namespace Go.Proofs.YtekmclbnbbhcmaaDoor
open Go.RowKit

/-- Is there a path of these names, as far as they were looked at? -/
def fineTo (L : List (List UInt8)) (j : Nat) : Bool := decide (1 ≤ L.length ∧ L.length ≤ 4) && (L.take j).all nameL
theorem fineTo_step {L : List (List UInt8)} {j : Nat} (h : j < L.length) : fineTo L (j + 1) = (fineTo L j && nameL L[j]) := by
  unfold fineTo
  rw [List.take_add_one, List.getElem?_eq_getElem h, List.all_append, Bool.and_assoc]
  simp
theorem fineTo_end (L : List (List UInt8)) : fineTo L L.length = fineL L := by
  unfold fineTo fineL
  rw [List.take_length]
theorem fineTo_zero (L : List (List UInt8)) : fineTo L 0 = decide (1 ≤ L.length ∧ L.length ≤ 4) := by simp [fineTo]
theorem names_joined {L : List (List UInt8)} (h : fineL L = true) : namesL (joinN L) = L := by
  rw [joinN_fine h, names_right (right_join h), fine_pieces h]
theorem lst_get (ls : List ByteArray) (j : Nat) (h : j < ls.length) (h' : j < (lst ls).length) : (lst ls)[j] = ls[j].data.toList := by simp [lst]

set_option maxHeartbeats 4000000 in
set_option maxRecDepth 100000 in
theorem pathBack_walk (A : Option Addr) (c : Nat) (ls : List ByteArray) (s : ByteArray) (w : World) (hr : Rd w A (strV ls)) (hlc : ls.length ≤ c) (_ : c * 16 ≤ 140737488351232) (_ : ∀ s ∈ ls, s.size ≤ 140737488351232) (hs0 : s.size ≤ 140737488351232) :
    Calls Tryd.prog 5 #[.slice A ls.length c, .string s] w fun e w' => e = .returned (.bool true) ∧ Below w.heap.size w w' := by
  go_enter Tryd.func5, Tryd.ntmps5
  go_wp2_with fail
  refine (small_any _).mono ?_
  rintro e w1 ⟨rfl, b1⟩
  have r1 := hr.below b1
  clear hr
  by_cases h1 : (10 : Int) < ls.length
  · go_wp2
    go_ret
    exact ⟨rfl, b1⟩
  by_cases h2 : (300 : Int) < s.size
  · go_wp2
    go_ret
    exact ⟨rfl, b1⟩
  have hs : s.size < 4294967281 := by omega
  have HZ := hid (fineTo_zero (lst ls))
  rw [lst_length] at HZ
  go_upto_region 4 with (fail)
  go_cut [6] (fun v wx => v = .bool (fineTo (lst ls) 0) ∧ w1 = wx)
  case first =>
    by_cases h3 : (1 : Int) ≤ ls.length
    · by_cases h4 : (ls.length : Int) ≤ 4
      · go_wp2_with fail
        go_meet
        case rel => exact ⟨congrArg Value.bool (by rw [HZ.out]; exact (decide_eq_true (by omega)).symm), rfl⟩
      · go_wp2_with fail
        go_meet
        case rel => exact ⟨congrArg Value.bool (by rw [HZ.out]; exact (decide_eq_false (by omega)).symm), rfl⟩
    · go_wp2_with fail
      go_meet
      case rel => exact ⟨congrArg Value.bool (by rw [HZ.out]; exact (decide_eq_false (by omega)).symm), rfl⟩
  case rest =>
  obtain ⟨rfl, rfl⟩ := hcut
  clear HZ
  go_wp2_with fail
  go_loop [6, 7] (fun v i => ∃ j : Nat, j ≤ ls.length ∧ i = .int .i64 j ∧ v = .bool (fineTo (lst ls) j)) (fun _ i => ls.length - (intOf i).toNat)
  case atStart => exact ⟨0, by omega, rfl, rfl⟩
  case round =>
    obtain ⟨j, hj, rfl, rfl⟩ := hrel
    by_cases hjn : j < ls.length
    · obtain ⟨b, off, rfl, hc, -⟩ := r1.at_ (k := j) (by rw [strV_length]; exact hjn)
      have h5 : w1.cell? ⟨b, off + j, none⟩ = some (.string ls[j]) := by rw [hc]; simp [strV]
      have HK := hid (fineTo_step (L := lst ls) (j := j) (by rw [lst_length]; exact hjn))
      rw [lst_get ls j hjn] at HK
      clear hc
      have hz : (0 : Int) ≤ j := by omega
      have hlt : (j : Int) < ls.length := by omega
      by_cases h6 : (100 : Int) < ls[j].size
      · go_wp2
        go_ret
        exact ⟨rfl, b1⟩
      cases hf : fineTo (lst ls) j
      · have HF := hid (show fineTo (lst ls) (j + 1) = false by rw [HK.out, hf]; rfl)
        go_wp2
        go_roundw
        case rel => exact ⟨j + 1, by omega, by go_num, by rw [HF.out]⟩
        case measure => simp [intOf]; omega
      · have HF := hid (show fineTo (lst ls) (j + 1) = nameL ls[j].data.toList by rw [HK.out, hf]; rfl)
        go_wp2_with fail
        refine (name_any _ _).mono ?_
        rintro e wx ⟨rfl, rfl⟩
        go_wp2
        go_roundw
        case rel => exact ⟨j + 1, by omega, by go_num, by rw [HF.out]⟩
        case measure => simp [intOf]; omega
    · have hnlt : ¬ (j : Int) < ls.length := by omega
      have e : j = ls.length := by omega
      subst e
      rw [← lst_length, fineTo_end, lst_length]
      go_wp2_with fail
      refine (join_any A _ c ls _ rfl r1 hlc).mono ?_
      rintro e w2 ⟨rfl, hb2⟩
      have b2 := below2 b1 hb2
      have r2 := r1.below hb2
      clear b1 r1 hb2
      have hpz : (mkS (joinN (lst ls))).size < 4294967281 := by
        have h5 := joinN_len (lst ls)
        rw [size_len, mkS_data]
        omega
      have c3 := right_any (mkS (joinN (lst ls)))
      simp only [mkS_data, joinN_right] at c3
      have HC3 := hid c3
      clear c3
      go_wp2_with fail
      refine (HC3.out _ hpz).mono ?_
      rintro e w3 ⟨rfl, hb3⟩
      have b3 := below2 b2 hb3
      have r3 := r2.below hb3
      clear b2 r2 hb3 HC3
      cases hf : fineL (lst ls)
      · have HE := hid (joinN_not hf)
        rw [HE.out]
        have hme : (mkS []).toList = [] := by rw [Lib.toList_data, mkS_data]
        clear hf HE hpz
        go_wp2_with fail
        refine (names_any s _ hs).mono ?_
        rintro e w6 ⟨A6, c6, rfl, n6, hc6, -, hb6⟩
        have b6 := below2 b3 hb6
        clear b3 hb6
        go_wp2_with fail
        refine (right_any s _ hs).mono ?_
        rintro e w7 ⟨rfl, hb7⟩
        have b7 := below2 b6 hb7
        have n7 := n6.below hb7
        clear b6 hb7 n6
        cases hrs : rightL s.data.toList
        · rw [names_wrong hrs]
          go_wp2
          go_ret
          exact ⟨rfl, b7⟩
        · rw [names_right hrs] at n7 hc6 ⊢
          have hpos := List.length_pos_iff.2 (pieces_ne s.data.toList)
          have hposi : (0 : Int) < (pieces s.data.toList).length := by omega
          have hq : (((pieces s.data.toList).length : Int) == 0) = false := by rw [beq_eq_false_iff_ne]; omega
          have c8 := join_any A6 (pieces s.data.toList).length c6 ((pieces s.data.toList).map mkS) w7 (by simp) n7 hc6
          rw [lst, map_mkS, joinN_fine hrs, join_pieces, mkS_of] at c8
          go_wp2_with fail
          refine c8.mono ?_
          rintro e w8 ⟨rfl, hb8⟩
          go_wp2
          go_ret
          exact ⟨rfl, below2 b7 hb8⟩
      · have c4 := names_any (mkS (joinN (lst ls))) w3 hpz
        rw [mkS_data, names_joined hf] at c4
        go_wp2_with fail
        refine c4.mono ?_
        clear c4
        rintro e w4 ⟨A4, c4, rfl, n4, -, -, hb4⟩
        have b4 := below2 b3 hb4
        have r4 := r3.below hb4
        rw [lst, mkS_map] at n4
        rw [lst_length]
        clear b3 r3 hb4
        go_wp2_with fail
        refine (rows_same A4 A _ c4 c ls _ rfl (by omega) n4 r4).mono ?_
        rintro e w5 ⟨rfl, hb5⟩
        have b5 := below2 b4 hb5
        clear b4 r4 n4 hb5 hpz
        go_wp2_with fail
        refine (names_any s _ hs).mono ?_
        rintro e w6 ⟨A6, c6, rfl, n6, hc6, -, hb6⟩
        have b6 := below2 b5 hb6
        clear b5 hb6
        go_wp2_with fail
        refine (right_any s _ hs).mono ?_
        rintro e w7 ⟨rfl, hb7⟩
        have b7 := below2 b6 hb7
        have n7 := n6.below hb7
        clear b6 hb7 n6
        cases hrs : rightL s.data.toList
        · rw [names_wrong hrs]
          go_wp2
          go_ret
          exact ⟨rfl, b7⟩
        · rw [names_right hrs] at n7 hc6 ⊢
          have hpos := List.length_pos_iff.2 (pieces_ne s.data.toList)
          have hposi : (0 : Int) < (pieces s.data.toList).length := by omega
          have hq : (((pieces s.data.toList).length : Int) == 0) = false := by rw [beq_eq_false_iff_ne]; omega
          have c8 := join_any A6 (pieces s.data.toList).length c6 ((pieces s.data.toList).map mkS) w7 (by simp) n7 hc6
          rw [lst, map_mkS, joinN_fine hrs, join_pieces, mkS_of] at c8
          go_wp2_with fail
          refine c8.mono ?_
          rintro e w8 ⟨rfl, hb8⟩
          go_wp2
          go_ret
          exact ⟨rfl, below2 b7 hb8⟩
end Go.Proofs.YtekmclbnbbhcmaaDoor
