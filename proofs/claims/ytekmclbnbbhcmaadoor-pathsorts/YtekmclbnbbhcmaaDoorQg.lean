/- The document's answers of layer 3: paths, their names, joined, parents, under. -/
import Derived.Test.YtekmclbnbbhcmaaDoorQf
namespace Go.Proofs.YtekmclbnbbhcmaaDoor
open Go.RowKit

theorem all_take_step (L : List (List UInt8)) (j : Nat) (h : j < L.length) : (L.take (j + 1)).all nameL = ((L.take j).all nameL && nameL L[j]) := by
  rw [List.take_add_one, List.getElem?_eq_getElem h, List.all_append]
  simp
theorem not_fine_at {L : List (List UInt8)} {j : Nat} (h : j < L.length) (hb : nameL L[j] = false) : fineL L = false := by
  cases hf : fineL L with
  | false => rfl
  | true =>
    have := fine_all hf L[j] (List.getElem_mem h)
    rw [hb] at this
    cases this

set_option maxHeartbeats 1000000 in
theorem refRight (s : ByteArray) (w : World) (hs : s.size < 4294967281) :
    Calls Tryd.prog 17 #[.string s] w fun e w' => e = .returned (.bool (rightL s.data.toList)) ∧ Below w.heap.size w w' := by
  have c0 := refCut s w hs
  have hpl := pieces_len s.data.toList
  rw [← size_len] at hpl
  have hpos := List.length_pos_iff.2 (pieces_ne s.data.toList)
  unfold rightL
  generalize pieces s.data.toList = L at c0 hpl hpos ⊢
  go_enter Tryd.func17, Tryd.ntmps17
  go_wp2_with fail
  refine c0.mono ?_
  clear c0
  rintro e w1 ⟨A, c, rfl, hr1, hc1, hb1⟩
  by_cases h4 : (4 : Int) < L.length
  · go_wp2
    go_ret
    exact ⟨ret_bool (fine_long (by omega)).symm, hb1⟩
  go_wp2_with fail
  go_loop [4] (fun i => ∃ j : Nat, j ≤ L.length ∧ i = .int .i64 j ∧ (L.take j).all nameL = true) (fun i => L.length - (intOf i).toNat)
  case atStart => exact ⟨0, by omega, rfl, by simp⟩
  case round =>
    obtain ⟨j, hj, rfl, hok⟩ := hrel
    by_cases hjn : j < L.length
    · obtain ⟨b, off, rfl, hc, -⟩ := hr1.at_ (k := j) (by rw [strV_length, List.length_map]; exact hjn)
      have h5 : w1.cell? ⟨b, off + j, none⟩ = some (.string (mkS L[j])) := by rw [hc]; simp [strV]
      have HK := hid (all_take_step L j hjn)
      have HO := hid hok
      clear hc hok
      have hz : (0 : Int) ≤ j := by omega
      have hlt : (j : Int) < L.length := by omega
      go_wp2_with fail
      refine (refName _ _).mono ?_
      rintro e w2 ⟨he, rfl⟩
      rw [mkS_data] at he
      subst he
      cases hb : nameL L[j]
      · go_wp2
        go_ret
        exact ⟨ret_bool (not_fine_at hjn hb).symm, hb1⟩
      · go_wp2
        go_roundw
        case rel => exact ⟨j + 1, by omega, by go_num, by rw [HK.out, HO.out, hb]; rfl⟩
        case measure => simp [intOf]; omega
    · have HE := hid (show j = L.length by omega)
      have HO := hid hok
      have hnlt : ¬ (j : Int) < L.length := by omega
      clear hok
      go_wp2
      go_ret
      refine ⟨ret_bool ?_, hb1⟩
      have ho := HO.out
      rw [HE.out, List.take_length] at ho
      exact (fine_mk (by omega) (by omega) (List.all_eq_true.1 ho)).symm

set_option maxHeartbeats 400000 in
theorem refNames (s : ByteArray) (w : World) (hs : s.size < 4294967281) :
    Calls Tryd.prog 13 #[.string s] w (CutPost w (namesL s.data.toList)) := by
  go_enter Tryd.func13, Tryd.ntmps13
  go_wp2_with fail
  refine (refRight s _ hs).mono ?_
  rintro e w1 ⟨rfl, hb1⟩
  cases h : rightL s.data.toList
  · go_wp2
    go_ret
    rw [names_wrong h]
    exact ⟨none, 0, rfl, .inl rfl, Nat.le_refl _, hb1⟩
  · go_wp2_with fail
    refine (refCut s _ hs).mono ?_
    rintro e w2 ⟨A, c, rfl, hr2, hc2, hb2⟩
    go_wp2
    go_ret
    rw [names_right h]
    exact ⟨A, c, rfl, hr2, hc2, below2 hb1 hb2⟩

theorem mkS_app (a b : List UInt8) : mkS a ++ mkS b = mkS (a ++ b) := by
  apply ByteArray.ext
  simp [mkS, ByteArray.data_append]
theorem mkS_size (a : List UInt8) : (mkS a).size = a.length := rfl
theorem joinL_step {L : List (List UInt8)} {j : Nat} (h0 : 0 < j) (h : j < L.length) : joinL (L.take (j + 1)) = joinL (L.take j) ++ 47 :: L[j] := by
  rw [List.take_add_one, List.getElem?_eq_getElem h, Option.toList_some, joinL_app _ _ (by intro e; have := congrArg List.length e; rw [List.length_take, List.length_nil] at this; omega) (by simp), joinL_one]
theorem joinL_first {L : List (List UInt8)} (h : 0 < L.length) : joinL (L.take 1) = L[0] := by
  cases L with
  | nil => simp at h
  | cons p r => exact joinL_one p
theorem joinL_nil : joinL [] = [] := rfl
theorem joinL_zero {L : List (List UInt8)} {j : Nat} (h0 : j = 0) (h : j < L.length) : mkS (joinL (L.take j)) ++ mkS L[j] = mkS (joinL (L.take (j + 1))) := by
  subst h0
  rw [joinL_first h, List.take_zero, joinL_nil, mkS_app]
  rfl
theorem join_end {L : List (List UInt8)} {j : Nat} (hj : j = min L.length 5) (h : (L.take j).all nameL = true) : rightL (joinL (L.take j)) = fineL L := by
  subst hj
  have ha := List.all_eq_true.1 h
  by_cases h0 : L = []
  · subst h0; rfl
  · have hp := List.length_pos_iff.2 h0
    rw [rightL, pieces_join _ (by intro e; have := congrArg List.length e; rw [List.length_take, List.length_nil] at this; omega) (fun p hpm => name_free (ha p hpm))]
    by_cases h5 : L.length ≤ 5
    · rw [List.take_of_length_le (by omega)]
    · rw [fine_long (by rw [List.length_take]; omega), fine_long (by omega)]
theorem join_end2 {L : List (List UInt8)} {j : Nat} (hj : j = min L.length 5) (h : fineL L = true) : joinL (L.take j) = joinN L := by
  have := fine_len h
  rw [joinN_fine h, List.take_of_length_le (by omega)]

set_option maxHeartbeats 2000000 in
theorem refJoin (A : Option Addr) (n c : Nat) (L : List (List UInt8)) (w : World) (hl : L.length = n) (hn : n ≤ 140737488355328) (hr : Rd w A (strV (L.map mkS))) :
    Calls Tryd.prog 19 #[.slice A n c] w fun e w' => e = .returned (.string (mkS (joinN L))) ∧ Below w.heap.size w w' := by
  subst hl
  go_enter Tryd.func19, Tryd.ntmps19
  go_wp2_with fail
  go_loop [3, 4] (fun v i => ∃ j : Nat, j ≤ L.length ∧ j ≤ 5 ∧ i = .int .i64 j ∧ v = .string (mkS (joinL (L.take j))) ∧ (L.take j).all nameL = true) (fun _ i => L.length - (intOf i).toNat)
  case atStart => exact ⟨0, by omega, by omega, rfl, rfl, by simp⟩
  case round =>
    obtain ⟨j, hj, hj5, rfl, rfl, hok⟩ := hrel
    have hsz : (mkS (joinL (L.take j))).size ≤ 65 := by
      have h1 := join_len _ (List.all_eq_true.1 hok)
      have h2 : (L.take j).length ≤ j := List.length_take_le _ _
      rw [mkS_size]
      omega
    by_cases hjn : j < L.length ∧ j < 5
    · obtain ⟨hjn, hj4⟩ := hjn
      obtain ⟨b, off, rfl, hc, -⟩ := hr.at_ (k := j) (by rw [strV_length, List.length_map]; exact hjn)
      have h5 : w.cell? ⟨b, off + j, none⟩ = some (.string (mkS L[j])) := by rw [hc]; simp [strV]
      have HK := hid (all_take_step L j hjn)
      have HO := hid hok
      clear hc hok
      have hz : (0 : Int) ≤ j := by omega
      have hlt : (j : Int) < L.length := by omega
      have hlt5 : (j : Int) < 5 := by omega
      go_wp2_with fail
      refine (refName _ _).mono ?_
      rintro e w2 ⟨he, rfl⟩
      rw [mkS_data] at he
      subst he
      cases hb : nameL L[j]
      · go_wp2
        go_ret
        rw [joinN_not (not_fine_at hjn hb)]
        exact ⟨rfl, Below.refl _ _⟩
      · have hnl : (mkS L[j]).size ≤ 12 := by rw [mkS_size]; exact name_len hb
        have HA := hid (show (L.take (j + 1)).all nameL = true by rw [HK.out, HO.out, hb]; rfl)
        by_cases h0 : j = 0
        · have hnp : ¬ (0 : Int) < j := by omega
          have HF := hid (joinL_zero h0 hjn)
          clear h0
          go_wp2
          go_roundw
          case rel => exact ⟨j + 1, by omega, by omega, by go_num, congrArg Value.string HF.out, HA.out⟩
          case measure => simp [intOf]; omega
        · have hpos : (0 : Int) < j := by omega
          have HF := hid (joinL_step (by omega) hjn)
          have hsz2 : (mkS (joinL (L.take j)) ++ (⟨#[47]⟩ : ByteArray)).size ≤ 66 := by rw [app_size]; show _ + 1 ≤ 66; omega
          go_wp2
          go_roundw
          case rel => exact ⟨j + 1, by omega, by omega, by go_num, by rw [HF.out]; exact congrArg Value.string ((congrArg (· ++ mkS L[j]) (mkS_app _ [47])).trans ((mkS_app _ _).trans (by simp))), HA.out⟩
          case measure => simp [intOf]; omega
    · have HE := hid (show j = min L.length 5 by omega)
      have HO := hid hok
      clear hok
      have c0 := refRight (mkS (joinL (L.take j))) w (by omega)
      rw [mkS_data, join_end HE.out HO.out] at c0
      have fin : Calls Tryd.prog 17 #[.string (mkS (joinL (L.take j)))] w fun e w' => e = .returned (.bool (fineL L)) ∧ Below w.heap.size w w' := c0
      clear c0
      by_cases hjl : (j : Int) < L.length
      · have hj5 : ¬ (j : Int) < 5 := by omega
        go_wp2_with fail
        refine fin.mono ?_
        rintro e w2 ⟨rfl, hb2⟩
        cases hf : fineL L
        · go_wp2
          go_ret
          rw [joinN_not hf]
          exact ⟨rfl, hb2⟩
        · go_wp2
          go_ret
          rw [← join_end2 HE.out hf]
          exact ⟨rfl, hb2⟩
      · go_wp2_with fail
        refine fin.mono ?_
        rintro e w2 ⟨rfl, hb2⟩
        cases hf : fineL L
        · go_wp2
          go_ret
          rw [joinN_not hf]
          exact ⟨rfl, hb2⟩
        · go_wp2
          go_ret
          rw [← join_end2 HE.out hf]
          exact ⟨rfl, hb2⟩

set_option maxHeartbeats 1000000 in
theorem refParent (s : ByteArray) (w : World) (hs : s.size < 4294967281) :
    Calls Tryd.prog 21 #[.string s] w fun e w' => e = .returned (.string (mkS (parentL s.data.toList))) ∧ Below w.heap.size w w' := by
  have c0 := refNames s w hs
  have hlen := names_len s.data.toList
  unfold parentL
  generalize namesL s.data.toList = L at c0 hlen ⊢
  go_enter Tryd.func21, Tryd.ntmps21
  go_wp2_with fail
  refine c0.mono ?_
  clear c0
  rintro e w1 ⟨A, c, rfl, hr1, hc1, hb1⟩
  cases L with
  | nil =>
    go_wp2
    go_ret
    exact ⟨rfl, hb1⟩
  | cons p r =>
    have hr2 : Rd w1 A (strV (((p :: r).dropLast).map mkS)) := by
      rcases hr1 with h | ⟨ad, rfl, hc⟩
      · simp [strV] at h
      · refine .inr ⟨ad, rfl, fun j u hu => hc j u ?_⟩
        rw [← map_dropLast, strV, ← map_dropLast, List.dropLast_eq_take, List.getElem?_take] at hu
        split at hu
        · exact hu
        · cases hu
    have HL := hid (show ((p :: r).dropLast).length = r.length by simp)
    simp only [List.length_cons] at hc1 hlen ⊢
    clear hr1
    by_cases hr0 : r = []
    · subst hr0
      go_wp2
      go_ret
      exact ⟨rfl, hb1⟩
    · have hpos : 0 < r.length := List.length_pos_iff.2 hr0
      have hnl : ¬ ((r.length : Int) + 1 < 2) := by omega
      clear hr0
      go_wp2_with fail
      refine (refJoin A r.length c ((p :: r).dropLast) _ HL.out (by omega) hr2).mono ?_
      rintro e w2 ⟨he, hb2⟩
      subst he
      go_wp2
      go_ret
      exact ⟨rfl, below2 hb1 hb2⟩

theorem pre_no {s d : List UInt8} (h : s.length ≤ d.length) : Lib.hasPrefix s (d ++ [47]) = false := by
  cases hp : Lib.hasPrefix s (d ++ [47]) with
  | false => rfl
  | true =>
    have := Lib.hasPrefix_of_take s (d ++ [47])
    rw [hp] at this
    simp at this
    omega
theorem pre_at {s d : List UInt8} (h : d.length < s.length) : Lib.hasPrefix s (d ++ [47]) = (s.take d.length == d && s[d.length] == 47) := by
  rw [← Lib.hasPrefix_of_take]
  have e1 : decide ((d ++ [47]).length ≤ s.length) = true := by simp; omega
  have e2 : s.take (d ++ [47]).length = s.take d.length ++ [s[d.length]] := by
    rw [List.length_append, List.length_cons, List.length_nil, List.take_add_one, List.getElem?_eq_getElem h]
    rfl
  rw [e1, e2, Bool.true_and, Bool.eq_iff_iff]
  simp only [beq_iff_eq, Bool.and_eq_true]
  constructor
  · intro e
    have := List.append_inj' e rfl
    exact ⟨this.1, by simpa using this.2⟩
  · rintro ⟨h1, h2⟩
    rw [h1, h2]

set_option maxHeartbeats 1000000 in
theorem refUnder (s d : ByteArray) (w : World) (hs : s.size < 4294967281) (hd : d.size < 4294967281) :
    Calls Tryd.prog 25 #[.string s, .string d] w fun e w' => e = .returned (.bool (underL s.data.toList d.data.toList)) ∧ Below w.heap.size w w' := by
  have HL1 := hid (size_len s)
  have HL2 := hid (size_len d)
  go_enter Tryd.func25, Tryd.ntmps25
  go_wp2_with fail
  refine (refRight s _ hs).mono ?_
  rintro e w1 ⟨rfl, hb1⟩
  cases h1 : rightL s.data.toList
  · go_wp2
    go_ret
    exact ⟨ret_bool (by simp [underL, h1]), hb1⟩
  · go_wp2_with fail
    refine (refRight d _ hd).mono ?_
    rintro e w2 ⟨rfl, hb2⟩
    have hb2' := below2 hb1 hb2
    clear hb1 hb2
    cases h2 : rightL d.data.toList
    · go_wp2
      go_ret
      exact ⟨ret_bool (by simp [underL, h2]), hb2'⟩
    · by_cases hle : (s.size : Int) ≤ d.size
      · go_wp2
        go_ret
        exact ⟨ret_bool (by rw [underL, pre_no (by have := HL1.out; have := HL2.out; omega)]; simp), hb2'⟩
      · have hlt : d.size < s.size := by omega
        have HP := hid (pre_at (s := s.data.toList) (d := d.data.toList) (by have := HL1.out; have := HL2.out; omega))
        cases h7 : ((s.extract 0 d.size).toList == d.toList)
        · go_wp2
          go_ret
          refine ⟨ret_bool ?_, hb2'⟩
          rw [underL, h1, h2, HP.out]
          rw [Lib.toList_data, Lib.toList_data, Lib.extract_from_zero, HL2.out] at h7
          rw [h7]
          rfl
        · have hlti : (d.size : Int) < s.size := by omega
          have HB := hid (ba_at s d.size hlt)
          go_wp2
          go_ret
          refine ⟨ret_bool ?_, hb2'⟩
          rw [underL, h1, h2, HP.out]
          rw [Lib.toList_data, Lib.toList_data, Lib.extract_from_zero, HL2.out] at h7
          rw [h7, HB.out]
          have e : s.data.toList[d.size]'(by have := HL1.out; omega) = s.data.toList[d.data.toList.length]'(by have := HL1.out; have := HL2.out; omega) := by congr 1
          rw [e]
          generalize s.data.toList[d.data.toList.length]'(by have := HL1.out; have := HL2.out; omega) = b
          rw [Bool.eq_iff_iff]
          simp only [beq_iff_eq, Bool.and_self, Bool.true_and]
          constructor
          · intro h
            exact UInt8.toNat_inj.1 (show b.toNat = 47 by omega)
          · rintro rfl
            rfl
end Go.Proofs.YtekmclbnbbhcmaaDoor
