/- path.Join, Parent, Under, Clash, Sorted. -/
import Derived.Test.YtblfpmlnpaibkaaDoorQc
namespace Go.Proofs.YtblfpmlnpaibkaaDoor
open Go.RowKit

theorem Rd.cells {w : World} {b off : Nat} {xs : List Value} (h : Rd w (some ⟨b, off, none⟩) xs) : ∀ j u, xs[j]? = some u → w.cell? ⟨b, off + j, none⟩ = some u := by
  intro j u hu
  rcases h with rfl | ⟨ad, he, hc⟩
  · simp at hu
  · injection he with he
    subst he
    have := hc j u hu
    rwa [Addr.add_lit] at this
theorem joinN_fine {L : List (List UInt8)} (h : fineL L = true) : joinN L = joinL L := by rw [joinN, if_pos h]
theorem joinN_not {L : List (List UInt8)} (h : fineL L = false) : joinN L = [] := by rw [joinN, if_neg (by simp [h])]

set_option maxHeartbeats 1000000 in
theorem join_any (A : Option Addr) (n c : Nat) (ls : List ByteArray) (w : World) (hl : ls.length = n) (hr : Rd w A (strV ls)) (hcap : n ≤ c) :
    Calls Tryd.prog 47 #[.slice A n c] w fun e w' => e = .returned (.string (mkS (joinN (lst ls)))) ∧ Below w.heap.size w w' := by
  subst hl
  go_enter Tryd.func47, Tryd.ntmps47
  go_wp2_with fail
  refine (fine_any A _ c ls _ rfl hr).mono ?_
  rintro e w1 ⟨rfl, rfl⟩
  cases hf : fineL (lst ls)
  · go_wp2
    go_ret
    rw [joinN_not hf]
    exact ⟨rfl, Below.refl _ _⟩
  · have hln := fine_len hf
    rw [lst_length] at hln
    obtain ⟨b, off, rfl, -, hb⟩ := hr.at_ (k := 0) (by rw [strV_length]; omega)
    have hjl := join_len _ (fine_all hf)
    rw [lst_length] at hjl
    have HJ := hid hjl
    have HF := hid hf
    have HR := hid hr
    clear hjl hf hr
    go_wp2_with fail
    refine (Tryd.strings_Join b off c ls ⟨#[47]⟩ _ (fun j x hx => HR.out.cells j _ (by simp [strV, hx])) hb (by omega) hcap (by have := HJ.out; show (joinL (lst ls)).length ≤ _; omega)).mono ?_
    rintro e w1 ⟨rfl, hb1⟩
    go_wp2_with fail
    refine (clone_any (mkS (joinL (lst ls))) _ (by have := HJ.out; rw [size_len, mkS_data]; omega)).mono ?_
    rintro e w2 ⟨rfl, hb2⟩
    go_wp2
    go_ret
    rw [joinN_fine HF.out]
    exact ⟨rfl, hb1.trans (hb2.mono hb1.size)⟩

theorem map_dropLast {α β : Type} (f : α → β) (l : List α) : (l.map f).dropLast = l.dropLast.map f := by simp [List.dropLast_eq_take, List.map_take]

set_option maxHeartbeats 1000000 in
theorem parent_any (s : ByteArray) (w : World) (hs : s.size < 4294967281) :
    Calls Tryd.prog 31 #[.string s] w fun e w' => e = .returned (.string (mkS (parentL s.data.toList))) ∧ Below w.heap.size w w' := by
  have c0 := names_any s w hs
  unfold parentL
  generalize namesL s.data.toList = L at c0 ⊢
  go_enter Tryd.func31, Tryd.ntmps31
  go_wp2_with fail
  refine c0.mono ?_
  clear c0
  rintro e w1 ⟨A, c, rfl, hr1, hc1, hc2, hb1⟩
  cases L with
  | nil =>
    go_wp2
    go_ret
    exact ⟨rfl, hb1⟩
  | cons p r =>
    have hr2 : Rd w1 A (strV (((p :: r).dropLast).map mkS)) := by
      rcases hr1 with h | ⟨ad, rfl, hc⟩
      · simp [strV] at h
      · refine .inr ⟨ad, rfl, fun j u hu => hc j u ?_⟩
        rw [← map_dropLast, strV, ← map_dropLast, List.dropLast_eq_take, List.getElem?_take] at hu
        split at hu
        · exact hu
        · cases hu
    have HL := hid (show (((p :: r).dropLast).map mkS).length = r.length by simp)
    simp only [List.length_cons] at hc1 ⊢
    clear hr1
    go_wp2_with fail
    refine (join_any A r.length c (((p :: r).dropLast).map mkS) _ HL.out hr2 (by omega)).mono ?_
    rintro e w2 ⟨he, hb2⟩
    rw [lst, map_mkS] at he
    subst he
    go_wp2
    go_ret
    exact ⟨rfl, hb1.trans (hb2.mono hb1.size)⟩

theorem app_data (a b : ByteArray) : (a ++ b).data.toList = a.data.toList ++ b.data.toList := by simp [ByteArray.data_append]
theorem app_size (a b : ByteArray) : (a ++ b).size = a.size + b.size := by rw [size_len, app_data, List.length_append, ← size_len, ← size_len]

set_option maxHeartbeats 1000000 in
theorem under_any (s d : ByteArray) (w : World) (hs : s.size < 4294967281) (hd : d.size < 4294967281) :
    Calls Tryd.prog 30 #[.string s, .string d] w fun e w' => e = .returned (.bool (underL s.data.toList d.data.toList)) ∧ Below w.heap.size w w' := by
  go_enter Tryd.func30, Tryd.ntmps30
  go_wp2_with fail
  refine (right_any s _ hs).mono ?_
  rintro e w1 ⟨rfl, hb1⟩
  cases h1 : rightL s.data.toList
  · go_wp2
    go_ret
    exact ⟨ret_bool (by simp [underL, h1]), hb1⟩
  · go_wp2_with fail
    refine (right_any d _ hd).mono ?_
    rintro e w2 ⟨rfl, hb2⟩
    have hb2' := hb1.trans (hb2.mono hb1.size)
    clear hb1 hb2
    cases h2 : rightL d.data.toList
    · go_wp2
      go_ret
      exact ⟨ret_bool (by simp [underL, h2]), hb2'⟩
    · go_wp2_with fail
      refine (Tryd.strings_HasPrefix _ _ _).mono ?_
      rintro e w3 ⟨rfl, rfl⟩
      go_wp2
      go_ret
      exact ⟨ret_bool (by simp [underL, h1, h2]), hb2'⟩

set_option maxHeartbeats 1000000 in
theorem clash_any (s d : ByteArray) (w : World) (hs : s.size < 4294967281) (hd : d.size < 4294967281) :
    Calls Tryd.prog 52 #[.string s, .string d] w fun e w' => e = .returned (.bool (clashL s.data.toList d.data.toList)) ∧ Below w.heap.size w w' := by
  go_enter Tryd.func52, Tryd.ntmps52
  go_wp2_with fail
  refine (under_any s d _ hs hd).mono ?_
  rintro e w1 ⟨rfl, hb1⟩
  cases h1 : underL s.data.toList d.data.toList
  · go_wp2_with fail
    refine (under_any d s _ hd hs).mono ?_
    rintro e w2 ⟨rfl, hb2⟩
    go_wp2
    go_ret
    exact ⟨ret_bool (by simp [clashL, h1]), hb1.trans (hb2.mono hb1.size)⟩
  · go_wp2
    go_ret
    exact ⟨ret_bool (by simp [clashL, h1]), hb1⟩

theorem range_step (L : List (List UInt8)) (j : Nat) : (List.range (j + 1)).all (srtAt L) = ((List.range j).all (srtAt L) && srtAt L j) := by
  rw [List.range_succ, List.all_append]
  simp
theorem sorted_no {L : List (List UInt8)} {j : Nat} (hj : j < L.length) (h : srtAt L j = false) : false = sortedL L := by
  cases hs : sortedL L with
  | false => rfl
  | true =>
    have := List.all_eq_true.1 hs j (List.mem_range.2 hj)
    rw [h] at this
    cases this
theorem lst_at (ls : List ByteArray) (j : Nat) (h : j < ls.length) : (lst ls).getD j [] = ls[j].data.toList := by simp [lst, List.getD, h]

set_option maxHeartbeats 2000000 in
theorem sorted_any (A : Option Addr) (n c : Nat) (ls : List ByteArray) (w : World) (hl : ls.length = n) (hr : Rd w A (strV ls)) (hn : n ≤ 140737488355328) (hss : ∀ s ∈ ls, s.size < 4294967281) :
    Calls Tryd.prog 29 #[.slice A n c] w fun e w' => e = .returned (.bool (sortedL (lst ls))) ∧ Below w.heap.size w w' := by
  have HL := hid hl
  have HS := hid hss
  clear hl hss
  go_enter Tryd.func29, Tryd.ntmps29
  go_wp2_with fail
  go_loopw [7] (fun i wr => ∃ j : Nat, j ≤ n ∧ i = .int .i64 j ∧ (List.range j).all (srtAt (lst ls)) = true ∧ Rd wr A (strV ls) ∧ Below w.heap.size w wr) (fun i _ => n - (intOf i).toNat)
  case atStart => exact ⟨0, by omega, rfl, by simp, hr, Below.refl _ _⟩
  case round =>
    clear hr
    obtain ⟨j, hj, rfl, hok, hr, hb⟩ := hrel
    have HO := hid hok
    clear hok
    by_cases hjn : j < n
    · have hjl : j < ls.length := by rw [HL.out]; exact hjn
      obtain ⟨b, off, rfl, hc, -⟩ := hr.at_ (k := j) (by rw [strV_length]; exact hjl)
      have h5 : wr.cell? ⟨b, off + j, none⟩ = some (.string ls[j]) := by rw [hc]; simp [strV]
      have HT := hid (show (lst ls).getD j [] = ls[j].data.toList from lst_at ls j hjl)
      have HLL := hid (show j < (lst ls).length by rw [lst_length]; exact hjl)
      clear hc
      have hz : (0 : Int) ≤ j := by omega
      have hlt : (j : Int) < n := by omega
      go_wp2_with fail
      refine (right_any ls[j] _ (HS.out _ (List.getElem_mem hjl))).mono ?_
      rintro e w1 ⟨rfl, hb1⟩
      have hr1 := hr.below hb1
      have hb1' := hb.trans (hb1.mono hb.size)
      clear hr hb hb1 h5
      cases h1 : rightL ls[j].data.toList
      · go_wp2
        go_ret
        exact ⟨ret_bool (sorted_no HLL.out (by simp only [srtAt, HT.out, h1, Bool.false_and])), hb1'⟩
      · by_cases hj0 : j = 0
        · subst hj0
          go_wp2
          go_roundw
          case rel => exact ⟨1, by omega, by go_num, by rw [range_step, HO.out, srtAt, HT.out, h1]; rfl, hr1, hb1'⟩
          case measure => simp [intOf]; omega
        · have hjl2 : j - 1 < ls.length := by omega
          obtain ⟨b2, off2, he, hc2, -⟩ := hr1.at_ (k := j - 1) (by rw [strV_length]; exact hjl2)
          injection he with he
          injection he with he1 he2
          subst he1 he2
          have h6 : w1.cell? ⟨b, off + (j - 1), none⟩ = some (.string ls[j - 1]) := by rw [hc2]; simp [strV]
          have HU := hid (lst_at ls (j - 1) hjl2)
          have hpos : (0 : Int) < j := by omega
          clear hc2
          have hj1 : ((j : Int) - 1) = ((j - 1 : Nat) : Int) := by omega
          cases h7 : Op.bytesLess ls[j - 1].toList ls[j].toList
          · go_wp2
            go_ret
            refine ⟨ret_bool (sorted_no HLL.out ?_), hb1'⟩
            rw [Lib.toList_data, Lib.toList_data] at h7
            rw [srtAt, HT.out, HU.out, h1, h7]
            simp [hj0]
          · go_wp2
            go_roundw
            case rel =>
              rw [Lib.toList_data, Lib.toList_data] at h7
              exact ⟨j + 1, by omega, by go_num, by rw [range_step, HO.out, srtAt, HT.out, HU.out, h1, h7]; simp, hr1, hb1'⟩
            case measure => simp [intOf]; omega
    · have hnlt : ¬ (j : Int) < n := by omega
      have e : j = n := by omega
      have HE := hid e
      clear e
      go_wp2
      go_ret
      refine ⟨ret_bool ?_, hb⟩
      have ho := HO.out
      rw [HE.out, ← HL.out, ← lst_length] at ho
      exact ho.symm
end Go.Proofs.YtblfpmlnpaibkaaDoor
