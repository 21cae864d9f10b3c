/- PathParents: the walk. -/
import Derived.Test.YtekmclbnbbhcmaaDoorQn
namespace Go.Proofs.YtekmclbnbbhcmaaDoor
open Go.RowKit

/-- The path without its last k names. -/
def anc (s : List UInt8) (k : Nat) : List UInt8 := joinL ((pieces s).take ((pieces s).length - k))
section
variable {s : List UInt8} {k : Nat}
theorem anc_zero : anc s 0 = s := by rw [anc, Nat.sub_zero, List.take_length, join_pieces]
theorem anc_fine (h : rightL s = true) (hk : k < (pieces s).length) : fineL ((pieces s).take ((pieces s).length - k)) = true := by
  have hl := fine_len h
  exact fine_mk (by rw [List.length_take]; omega) (by rw [List.length_take]; omega) fun p hp => fine_all h p (List.mem_of_mem_take hp)
theorem anc_pieces (h : rightL s = true) (hk : k < (pieces s).length) : pieces (anc s k) = (pieces s).take ((pieces s).length - k) := fine_pieces (anc_fine h hk)
theorem anc_right (h : rightL s = true) (hk : k < (pieces s).length) : rightL (anc s k) = true := right_join (anc_fine h hk)
theorem anc_len (h : rightL s = true) (hk : k < (pieces s).length) : (pieces (anc s k)).length = (pieces s).length - k := by
  rw [anc_pieces h hk, List.length_take]
  omega
theorem anc_parent (h : rightL s = true) (hk : k + 1 < (pieces s).length) : parentL (anc s k) = anc s (k + 1) := by
  refine pieces_inj ?_
  rw [(parent_of (anc_right h (by omega)) (by rw [anc_len h (by omega)]; omega)).1, anc_pieces h (by omega), anc_pieces h hk, List.dropLast_eq_take, List.take_take, List.length_take]
  congr 1
  omega
theorem anc_last (h : rightL s = true) (hk : k + 1 = (pieces s).length) : parentL (anc s k) = [] := parent_one (by rw [anc_len h (by omega)]; omega)
theorem anc_under (h : rightL s = true) (h0 : 0 < k) (hk : k < (pieces s).length) : underL s (anc s k) = true := by
  refine (under_iff _ _).2 ⟨h, anc_right h hk, (pieces s).drop ((pieces s).length - k), ?_, ?_⟩
  · intro e
    have := congrArg List.length e
    rw [List.length_drop, List.length_nil] at this
    omega
  · rw [anc_pieces h hk, List.take_append_drop]
theorem anc_first (hk : k + 1 = (pieces s).length) : (pieces s)[0]? = some (anc s k) := by
  have e : (pieces s).length - k = 1 := by omega
  rw [anc, e, joinL_first (by omega), List.getElem?_eq_getElem (by omega)]
theorem anc_small (h : rightL s = true) (hk : k < (pieces s).length) : (mkS (anc s k)).size < 4294967281 := by
  rw [size_len, mkS_data]
  have := joinN_len ((pieces s).take ((pieces s).length - k))
  rw [joinN_fine (anc_fine h hk)] at this
  show (joinL _).length < _
  omega
end

set_option maxHeartbeats 2000000 in
set_option maxRecDepth 100000 in
theorem pathParents_walk (s : ByteArray) (w : World) (hs0 : s.size ≤ 140737488351232) :
    Calls Tryd.prog 7 #[.string s] w fun e w' => e = .returned (.bool true) ∧ Below w.heap.size w w' := by
  go_enter Tryd.func7, Tryd.ntmps7
  go_wp2_with fail
  refine (small_any _).mono ?_
  rintro e w1 ⟨rfl, b1⟩
  by_cases h1 : (300 : Int) < s.size
  · go_wp2
    go_ret
    exact ⟨rfl, b1⟩
  have hs : s.size < 4294967281 := by omega
  go_wp2_with fail
  refine (right_any s _ hs).mono ?_
  rintro e w2 ⟨rfl, hb2⟩
  have b2 := below2 b1 hb2
  clear b1 hb2
  cases hrs : rightL s.data.toList
  · have c3 := parent_any s w2 hs
    rw [parent_wrong hrs] at c3
    have hme := mkS_list []
    go_wp2_with fail
    refine c3.mono ?_
    rintro e w3 ⟨rfl, hb3⟩
    go_wp2
    go_ret
    exact ⟨rfl, below2 b2 hb3⟩
  have hm4 := (fine_len hrs).2
  have HR := hid hrs
  obtain ⟨m, hm⟩ : ∃ m, (pieces s.data.toList).length = m := ⟨_, rfl⟩
  have HM := hid hm
  rw [hm] at hm4
  have hm1 : 0 < m := by rw [← hm]; exact List.length_pos_iff.2 (pieces_ne _)
  clear hm hrs
  go_wp2_with fail
  go_loopw [4, 5, 6] (fun n v i wr => ∃ k : Nat, k < m ∧ i = .int .i64 k ∧ n = .int .i64 ((k : Int) + 1) ∧ v = .string (mkS (anc s.data.toList k)) ∧ Below w.heap.size w wr) (fun _ _ i _ => m - (intOf i).toNat)
  case atStart => exact ⟨0, hm1, rfl, rfl, by rw [anc_zero, mkS_of], b2⟩
  case round =>
    obtain ⟨k, hk, rfl, rfl, rfl, b3⟩ := hrel
    have hk4 : (k : Int) < 4 := by omega
    have hz := anc_small HR.out (k := k) (by rw [HM.out]; exact hk)
    by_cases hlast : k + 1 = m
    · have hp := anc_last HR.out (k := k) (by rw [HM.out]; exact hlast)
      have cP : ∀ wx, Calls Tryd.prog 20 #[.string (mkS (anc s.data.toList k))] wx fun e w' => e = .returned (.string (mkS [])) ∧ Below wx.heap.size wx w' := fun wx => by
        have c0 := parent_any (mkS (anc s.data.toList k)) wx hz
        rw [mkS_data, hp] at c0
        exact c0
      have HF := hid (anc_first (s := s.data.toList) (k := k) (by rw [HM.out]; exact hlast))
      have hme := mkS_list []
      have HL := hid hlast
      clear hp hlast
      go_wp2_with fail
      refine (cP _).mono ?_
      rintro e w4 ⟨rfl, hb4⟩
      have b4 := below2 b3 hb4
      clear b3 hb4
      go_wp2_with fail
      refine (names_any s _ hs).mono ?_
      rintro e w5 ⟨A5, c5, rfl, n5, -, -, hb5⟩
      have b5 := below2 b4 hb5
      clear b4 hb5
      rw [names_right HR.out] at n5 ⊢
      rw [HM.out]
      have hcell : ∃ b off, A5 = some ⟨b, off, none⟩ ∧ w5.cell? ⟨b, off, none⟩ = some (.string (mkS (anc s.data.toList k))) := by
        have h0 : 0 < (strV ((pieces s.data.toList).map mkS)).length := by rw [strV_length, List.length_map]; exact List.length_pos_iff.2 (pieces_ne _)
        obtain ⟨b, off, e1, e2, _⟩ := n5.at_ (k := 0) h0
        refine ⟨b, off, e1, ?_⟩
        have e3 : (strV ((pieces s.data.toList).map mkS))[0]? = some (.string (mkS (anc s.data.toList k))) := by
          simp only [strV, List.getElem?_map, HF.out, Option.map_some]
        rw [List.getElem?_eq_getElem h0] at e3
        injection e3 with e3
        rw [← e3]
        exact e2
      obtain ⟨b, off, rfl, hcell⟩ := hcell
      have hq : (((k : Int) + 1) == (m : Int)) = true := by have := HL.out; rw [beq_iff_eq]; omega
      have hle : ((k : Int) + 1) ≤ 4 := by omega
      clear n5
      go_wp2_with fail
      refine (cP _).mono ?_
      rintro e w6 ⟨rfl, hb6⟩
      have b6 := below2 b5 hb6
      have hcell6 := (hb6.cell (World.block_lt_of_cell? w5 _ hcell)).trans hcell
      have hm1i : (0 : Int) < m := by omega
      clear hcell b5 hb6
      go_wp2
      go_ret
      exact ⟨rfl, b6⟩
    · have hk2 : k + 1 < m := by omega
      have hp := anc_parent HR.out (k := k) (by rw [HM.out]; exact hk2)
      have cP : ∀ wx, Calls Tryd.prog 20 #[.string (mkS (anc s.data.toList k))] wx fun e w' => e = .returned (.string (mkS (anc s.data.toList (k + 1)))) ∧ Below wx.heap.size wx w' := fun wx => by
        have c0 := parent_any (mkS (anc s.data.toList k)) wx hz
        rw [mkS_data, hp] at c0
        exact c0
      have hz2 := anc_small HR.out (k := k + 1) (by rw [HM.out]; exact hk2)
      have hr2 := anc_right HR.out (k := k + 1) (by rw [HM.out]; exact hk2)
      have hu2 := anc_under HR.out (k := k + 1) (by omega) (by rw [HM.out]; exact hk2)
      have hne : ((mkS (anc s.data.toList (k + 1))).toList == []) = false := by
        rw [mkS_list]
        simpa using right_ne hr2
      have cU : ∀ wx, Calls Tryd.prog 24 #[.string s, .string (mkS (anc s.data.toList (k + 1)))] wx fun e w' => e = .returned (.bool true) ∧ Below wx.heap.size wx w' := fun wx => by
        have c0 := under_any s (mkS (anc s.data.toList (k + 1))) wx hs hz2
        rw [mkS_data, hu2] at c0
        exact c0
      have cR : ∀ wx, Calls Tryd.prog 16 #[.string (mkS (anc s.data.toList (k + 1)))] wx fun e w' => e = .returned (.bool true) ∧ Below wx.heap.size wx w' := fun wx => by
        have c0 := right_any (mkS (anc s.data.toList (k + 1))) wx hz2
        rw [mkS_data, hr2] at c0
        exact c0
      clear hp hr2 hu2
      go_wp2_with fail
      refine (cP _).mono ?_
      rintro e w4 ⟨rfl, hb4⟩
      have b4 := below2 b3 hb4
      clear b3 hb4
      go_wp2_with fail
      refine (cP _).mono ?_
      rintro e w5 ⟨rfl, hb5⟩
      have b5 := below2 b4 hb5
      clear b4 hb5
      go_wp2_with fail
      refine (cU _).mono ?_
      rintro e w6 ⟨rfl, hb6⟩
      have b6 := below2 b5 hb6
      clear b5 hb6
      go_wp2_with fail
      refine (cR _).mono ?_
      rintro e w7 ⟨rfl, hb7⟩
      have b7 := below2 b6 hb7
      clear b6 hb7
      go_wp2
      go_roundw
      case rel => exact ⟨k + 1, hk2, by go_num, by go_num, rfl, b7⟩
      case measure => simp [intOf]; omega
end Go.Proofs.YtekmclbnbbhcmaaDoor
