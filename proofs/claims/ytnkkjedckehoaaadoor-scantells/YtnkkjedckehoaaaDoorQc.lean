/- path.fine, Right, Names. -/
import Derived.Test.YtnkkjedckehoaaaDoorQb
import Derived.Test.YtnkkjedckehoaaaDoorBlk
namespace Go.Proofs.YtnkkjedckehoaaaDoor
open Go.RowKit

/-- The bytes of strings. -/
def lst (ls : List ByteArray) : List (List UInt8) := ls.map (·.data.toList)
theorem lst_length (ls : List ByteArray) : (lst ls).length = ls.length := by simp [lst]
theorem lst_take (ls : List ByteArray) (j : Nat) (h : j < ls.length) : ((lst ls).take (j + 1)).all nameL = (((lst ls).take j).all nameL && nameL ls[j].data.toList) := by
  have e : (lst ls)[j]? = some ls[j].data.toList := by simp [lst, h]
  rw [List.take_add_one, e, List.all_append]
  simp
theorem fine_no {L : List (List UInt8)} (h : ¬ (1 ≤ L.length ∧ L.length ≤ 4)) : false = fineL L := by
  cases hf : fineL L with
  | false => rfl
  | true => exact absurd (fine_len hf) h

set_option maxHeartbeats 1000000 in
theorem fine_any (A : Option Addr) (n c : Nat) (ls : List ByteArray) (w : World) (hl : ls.length = n) (hr : Rd w A (strV ls)) :
    Calls Tryd.prog 68 #[.slice A n c] w fun e w' => e = .returned (.bool (fineL (lst ls))) ∧ w = w' := by
  have HL := hid (show (lst ls).length = n by rw [lst_length]; exact hl)
  have HL2 := hid hl
  clear hl
  by_cases h1 : (n : Int) < 1
  · go_enter Tryd.func68, Tryd.ntmps68
    go_wp2
    go_ret
    exact ⟨ret_bool (fine_no (by have := HL.out; omega)), rfl⟩
  by_cases h2 : (4 : Int) < n
  · go_enter Tryd.func68, Tryd.ntmps68
    go_wp2
    go_ret
    exact ⟨ret_bool (fine_no (by have := HL.out; omega)), rfl⟩
  go_enter Tryd.func68, Tryd.ntmps68
  go_wp2_with fail
  go_loop [15] (fun i => ∃ j : Nat, j ≤ n ∧ i = .int .i64 j ∧ ((lst ls).take j).all nameL = true) (fun i => n - (intOf i).toNat)
  case atStart => exact ⟨0, by omega, rfl, by simp⟩
  case round =>
    obtain ⟨j, hj, rfl, hok⟩ := hrel
    by_cases hjn : j < n
    · have hjl : j < ls.length := by rw [HL2.out]; exact hjn
      obtain ⟨b, off, rfl, hc, -⟩ := hr.at_ (k := j) (by rw [strV_length]; exact hjl)
      have h5 : w.cell? ⟨b, off + j, none⟩ = some (.string ls[j]) := by rw [hc]; simp [strV]
      have HK := hid (lst_take ls j hjl)
      have HO := hid hok
      clear hc hok
      have hz : (0 : Int) ≤ j := by omega
      have hlt : (j : Int) < n := by omega
      go_wp2_with fail
      refine (name_any _ _).mono ?_
      rintro e w1 ⟨rfl, rfl⟩
      cases hb : nameL ls[j].data.toList
      · go_wp2
        go_ret
        refine ⟨ret_bool ?_, rfl⟩
        have hk : ((lst ls).take (j + 1)).all nameL = false := by rw [HK.out, HO.out, hb]; rfl
        cases hn : fineL (lst ls) with
        | false => rfl
        | true =>
          have : ((lst ls).take (j + 1)).all nameL = true := List.all_eq_true.2 fun b hbm => fine_all hn b (List.mem_of_mem_take hbm)
          rw [hk] at this
          cases this
      · go_wp2
        go_roundw
        case rel => exact ⟨j + 1, by omega, by go_num, by rw [HK.out, HO.out, hb]; rfl⟩
        case measure => simp [intOf]; omega
    · have e : n = j := by omega
      have HE := hid e
      have HO := hid hok
      have hnlt : ¬ (j : Int) < n := by omega
      clear e hok
      go_wp2
      go_ret
      refine ⟨ret_bool ?_, rfl⟩
      have hl := HL.out
      have ho := HO.out
      rw [← HE.out, ← hl, List.take_length] at ho
      exact (fine_mk (by omega) (by omega) (List.all_eq_true.1 ho)).symm

/-- The cells that are cut. -/
def cutCells (s : ByteArray) : List Value := strV (cutB s) ++ List.replicate (min 5 (s.size + 1) - (cutB s).length) (Value.string ByteArray.empty)
theorem cells_cut (s : ByteArray) : Lib.cellsOf (cutB s) (min 5 (s.size + 1)) = (cutCells s).toArray := rfl
theorem rd_cut {w : World} {g : Nat} {s : ByteArray} {t : TypeId} (h : Blk w g (cutCells s) t) : Rd w (some ⟨g, 0, none⟩) (strV (cutB s)) := by
  refine .inr ⟨_, rfl, fun j u hu => ?_⟩
  rw [Addr.add_lit, Nat.zero_add, h.cell, cutCells, List.getElem?_append_left (List.getElem?_eq_some_iff.1 hu).1]
  exact hu
theorem cut_fine (s : ByteArray) : fineL (lst (cutB s)) = rightL s.data.toList := by
  rw [lst, cutB_data, split_fine]

set_option maxHeartbeats 400000 in
theorem right_any (s : ByteArray) (w : World) (hs : s.size < 4294967281) :
    Calls Tryd.prog 51 #[.string s] w fun e w' => e = .returned (.bool (rightL s.data.toList)) ∧ Below w.heap.size w w' := by
  go_enter Tryd.func51, Tryd.ntmps51
  go_wp2_with fail
  refine (parts_any s _ hs).mono ?_
  rintro e w1 ⟨rfl, hw1⟩
  have hb1 : Below w.heap.size w w1 := by rw [hw1]; exact (Below.refl _ _).alloc (Nat.le_refl _) _
  have hblk : Blk w1 w.heap.size (cutCells s) 9 := by rw [hw1, cells_cut]; exact Blk.new w _ _
  clear hw1
  go_wp2_with fail
  refine (fine_any _ _ _ (cutB s) _ rfl (rd_cut hblk)).mono ?_
  rintro e w2 ⟨rfl, rfl⟩
  go_wp2
  go_ret
  exact ⟨ret_bool (cut_fine s), hb1⟩

theorem set_self {α : Type} (l : List α) (j : Nat) (x : α) (h : l[j]? = some x) : l.set j x = l := by
  apply List.ext_getElem?
  intro i
  rw [List.getElem?_set]
  split
  · rename_i e
    subst e
    have := (List.getElem?_eq_some_iff.1 h).1
    rw [if_pos this, h]
  · rfl

/-- A slice of names was answered. -/
def NamesPost (w : World) (L : List (List UInt8)) (e : Ending) (w' : World) : Prop :=
  ∃ A c, e = .returned (.slice A L.length c) ∧ Rd w' A (strV (L.map mkS)) ∧ L.length ≤ c ∧ c ≤ 5 ∧ Below w.heap.size w w'

end Go.Proofs.YtnkkjedckehoaaaDoor
