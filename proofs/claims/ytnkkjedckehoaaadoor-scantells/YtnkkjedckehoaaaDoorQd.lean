/- path.Join, Parent, Under, Clash, Sorted. -/
import Derived.Test.YtnkkjedckehoaaaDoorQc
namespace Go.Proofs.YtnkkjedckehoaaaDoor
open Go.RowKit

theorem Rd.cells {w : World} {b off : Nat} {xs : List Value} (h : Rd w (some ⟨b, off, none⟩) xs) : ∀ j u, xs[j]? = some u → w.cell? ⟨b, off + j, none⟩ = some u := by
  intro j u hu
  rcases h with rfl | ⟨ad, he, hc⟩
  · simp at hu
  · injection he with he
    subst he
    have := hc j u hu
    rwa [Addr.add_lit] at this
theorem joinN_fine {L : List (List UInt8)} (h : fineL L = true) : joinN L = joinL L := by rw [joinN, if_pos h]
theorem joinN_not {L : List (List UInt8)} (h : fineL L = false) : joinN L = [] := by rw [joinN, if_neg (by simp [h])]

theorem map_dropLast {α β : Type} (f : α → β) (l : List α) : (l.map f).dropLast = l.dropLast.map f := by simp [List.dropLast_eq_take, List.map_take]

theorem app_data (a b : ByteArray) : (a ++ b).data.toList = a.data.toList ++ b.data.toList := by simp [ByteArray.data_append]
theorem app_size (a b : ByteArray) : (a ++ b).size = a.size + b.size := by rw [size_len, app_data, List.length_append, ← size_len, ← size_len]

set_option maxHeartbeats 1000000 in
theorem under_any (s d : ByteArray) (w : World) (hs : s.size < 4294967281) (hd : d.size < 4294967281) :
    Calls Tryd.prog 71 #[.string s, .string d] w fun e w' => e = .returned (.bool (underL s.data.toList d.data.toList)) ∧ Below w.heap.size w w' := by
  go_enter Tryd.func71, Tryd.ntmps71
  go_wp2_with fail
  refine (right_any s _ hs).mono ?_
  rintro e w1 ⟨rfl, hb1⟩
  cases h1 : rightL s.data.toList
  · go_wp2
    go_ret
    exact ⟨ret_bool (by simp [underL, h1]), hb1⟩
  · go_wp2_with fail
    refine (right_any d _ hd).mono ?_
    rintro e w2 ⟨rfl, hb2⟩
    have hb2' := hb1.trans (hb2.mono hb1.size)
    clear hb1 hb2
    cases h2 : rightL d.data.toList
    · go_wp2
      go_ret
      exact ⟨ret_bool (by simp [underL, h2]), hb2'⟩
    · go_wp2_with fail
      refine (Tryd.strings_HasPrefix _ _ _).mono ?_
      rintro e w3 ⟨rfl, rfl⟩
      go_wp2
      go_ret
      exact ⟨ret_bool (by simp [underL, h1, h2]), hb2'⟩

theorem range_step (L : List (List UInt8)) (j : Nat) : (List.range (j + 1)).all (srtAt L) = ((List.range j).all (srtAt L) && srtAt L j) := by
  rw [List.range_succ, List.all_append]
  simp
theorem sorted_no {L : List (List UInt8)} {j : Nat} (hj : j < L.length) (h : srtAt L j = false) : false = sortedL L := by
  cases hs : sortedL L with
  | false => rfl
  | true =>
    have := List.all_eq_true.1 hs j (List.mem_range.2 hj)
    rw [h] at this
    cases this
theorem lst_at (ls : List ByteArray) (j : Nat) (h : j < ls.length) : (lst ls).getD j [] = ls[j].data.toList := by simp [lst, List.getD, h]

set_option maxHeartbeats 2000000 in
theorem sorted_any (A : Option Addr) (n c : Nat) (ls : List ByteArray) (w : World) (hl : ls.length = n) (hr : Rd w A (strV ls)) (hn : n ≤ 140737488355328) (hss : ∀ s ∈ ls, s.size < 4294967281) :
    Calls Tryd.prog 26 #[.slice A n c] w fun e w' => e = .returned (.bool (sortedL (lst ls))) ∧ Below w.heap.size w w' := by
  have HL := hid hl
  have HS := hid hss
  clear hl hss
  go_enter Tryd.func26, Tryd.ntmps26
  go_wp2_with fail
  go_loopw [7] (fun i wr => ∃ j : Nat, j ≤ n ∧ i = .int .i64 j ∧ (List.range j).all (srtAt (lst ls)) = true ∧ Rd wr A (strV ls) ∧ Below w.heap.size w wr) (fun i _ => n - (intOf i).toNat)
  case atStart => exact ⟨0, by omega, rfl, by simp, hr, Below.refl _ _⟩
  case round =>
    clear hr
    obtain ⟨j, hj, rfl, hok, hr, hb⟩ := hrel
    have HO := hid hok
    clear hok
    by_cases hjn : j < n
    · have hjl : j < ls.length := by rw [HL.out]; exact hjn
      obtain ⟨b, off, rfl, hc, -⟩ := hr.at_ (k := j) (by rw [strV_length]; exact hjl)
      have h5 : wr.cell? ⟨b, off + j, none⟩ = some (.string ls[j]) := by rw [hc]; simp [strV]
      have HT := hid (show (lst ls).getD j [] = ls[j].data.toList from lst_at ls j hjl)
      have HLL := hid (show j < (lst ls).length by rw [lst_length]; exact hjl)
      clear hc
      have hz : (0 : Int) ≤ j := by omega
      have hlt : (j : Int) < n := by omega
      go_wp2_with fail
      refine (right_any ls[j] _ (HS.out _ (List.getElem_mem hjl))).mono ?_
      rintro e w1 ⟨rfl, hb1⟩
      have hr1 := hr.below hb1
      have hb1' := hb.trans (hb1.mono hb.size)
      clear hr hb hb1 h5
      cases h1 : rightL ls[j].data.toList
      · go_wp2
        go_ret
        exact ⟨ret_bool (sorted_no HLL.out (by simp only [srtAt, HT.out, h1, Bool.false_and])), hb1'⟩
      · by_cases hj0 : j = 0
        · subst hj0
          go_wp2
          go_roundw
          case rel => exact ⟨1, by omega, by go_num, by rw [range_step, HO.out, srtAt, HT.out, h1]; rfl, hr1, hb1'⟩
          case measure => simp [intOf]; omega
        · have hjl2 : j - 1 < ls.length := by omega
          obtain ⟨b2, off2, he, hc2, -⟩ := hr1.at_ (k := j - 1) (by rw [strV_length]; exact hjl2)
          injection he with he
          injection he with he1 he2
          subst he1 he2
          have h6 : w1.cell? ⟨b, off + (j - 1), none⟩ = some (.string ls[j - 1]) := by rw [hc2]; simp [strV]
          have HU := hid (lst_at ls (j - 1) hjl2)
          have hpos : (0 : Int) < j := by omega
          clear hc2
          have hj1 : ((j : Int) - 1) = ((j - 1 : Nat) : Int) := by omega
          cases h7 : Op.bytesLess ls[j - 1].toList ls[j].toList
          · go_wp2
            go_ret
            refine ⟨ret_bool (sorted_no HLL.out ?_), hb1'⟩
            rw [Lib.toList_data, Lib.toList_data] at h7
            rw [srtAt, HT.out, HU.out, h1, h7]
            simp [hj0]
          · go_wp2
            go_roundw
            case rel =>
              rw [Lib.toList_data, Lib.toList_data] at h7
              exact ⟨j + 1, by omega, by go_num, by rw [range_step, HO.out, srtAt, HT.out, HU.out, h1, h7]; simp, hr1, hb1'⟩
            case measure => simp [intOf]; omega
    · have hnlt : ¬ (j : Int) < n := by omega
      have e : j = n := by omega
      have HE := hid e
      clear e
      go_wp2
      go_ret
      refine ⟨ret_bool ?_, hb⟩
      have ho := HO.out
      rw [HE.out, ← HL.out, ← lst_length] at ho
      exact ho.symm
end Go.Proofs.YtnkkjedckehoaaaDoor
