/- tree.Right. -/
import Derived.Test.YtnkkjedckehoaaaDoorTd
import Derived.Deep.DeepCutAuto
import Derived.Deep.OwnRows
namespace Go.Proofs.YtnkkjedckehoaaaDoor
open Go.RowKit

theorem made_one (z : Value) (n : Nat) : madeCells #[z] n = (List.replicate n z).toArray := by
  apply Array.toList_inj.1
  rw [toList_madeCells_one]
theorem made_two (a : Value) (n : Nat) : madeCells #[a, a] n = (List.replicate n a).toArray := by
  apply Array.ext
  · simp [madeCells]
  · intro i h1 h2
    simp only [madeCells, Array.getElem_map, Array.getElem_range, List.getElem_toArray, List.getElem_replicate]
    have h : i % (#[a, a] : Array Value).size = 0 ∨ i % (#[a, a] : Array Value).size = 1 := by
      have : (#[a, a] : Array Value).size = 2 := rfl
      rw [this]; omega
    rcases h with h | h <;> rw [h] <;> rfl
theorem make_strs (n : Nat) (hn : n ≤ 1000000) (w : World) : (Instr.makeSlice 27 (.int .i64 (n : Int)) (.int .i64 (n : Int))).run Tryd.prog w = .ok (.slice (some ⟨w.heap.size, 0, none⟩) n n) (w.alloc (.cells (List.replicate n (Value.string ⟨#[]⟩)).toArray 9)) := by
  rw [← made_one]
  exact run_make_row' 27 9 (.string ⟨#[]⟩) 16 Tryd.underlying27 Tryd.infoS rfl .i64 .i64 n (by omega) (by omega) w

/-- What was laid, and room for the rest. -/
def fill (xs : List Value) (z : Value) (j : Nat) : List Value := xs.take j ++ List.replicate (xs.length - j) z
theorem fill_zero (xs : List Value) (z : Value) : fill xs z 0 = List.replicate xs.length z := by simp [fill]
theorem fill_all (xs : List Value) (z : Value) : fill xs z xs.length = xs := by simp [fill]
theorem fill_at (xs : List Value) (z : Value) (j : Nat) (h : j < xs.length) : (fill xs z j)[j]? = some z := by
  rw [fill, List.getElem?_append_right (by rw [List.length_take]; omega), List.length_take, Nat.min_eq_left (by omega), Nat.sub_self, List.getElem?_replicate, if_pos (by omega)]
theorem fill_set (xs : List Value) (z : Value) (j : Nat) (x : Value) (h : xs[j]? = some x) : (fill xs z j).set j x = fill xs z (j + 1) := by
  have hj := (List.getElem?_eq_some_iff.1 h).1
  rw [fill, fill, List.set_append_right _ _ (by rw [List.length_take]; omega), List.length_take, Nat.min_eq_left (by omega), Nat.sub_self, show xs.length - j = (xs.length - (j + 1)) + 1 by omega, List.replicate_succ, List.set_cons_zero, List.take_add_one, h, List.append_assoc]
  rfl
theorem all_take_more {α : Type} (q : α → Bool) (l : List α) (j : Nat) (h : j < l.length) : (l.take (j + 1)).all q = ((l.take j).all q && q l[j]) := by
  rw [List.take_add_one, List.getElem?_eq_getElem h, List.all_append]
  simp

set_option maxHeartbeats 1000000 in
theorem tright_any (A : Option Addr) (n c : Nat) (fs : List Fil) (w : World) (hl : fs.length = n) (hr : Rd w A (filV fs)) (hn : n ≤ 140737488355328) (hf : ∀ f ∈ fs, f.1.size < 4294967281 ∧ f.2.size ≤ maxLen) :
    Calls Tryd.prog 30 #[.slice A n c] w fun e w' => e = .returned (.bool (treeR fs)) ∧ Below w.heap.size w w' := by
  have HF := hid hf
  have HL := hid hl
  clear hf hl
  by_cases h16 : (16 : Int) < n
  · go_enter Tryd.func30, Tryd.ntmps30
    go_wp2
    go_ret
    refine ⟨ret_bool ?_, Below.refl _ _⟩
    symm
    refine treeR_no fun h => ?_
    have := h.few
    have := HL.out
    omega
  · have hmk := make_strs n (by omega)
    go_enter Tryd.func30, Tryd.ntmps30
    go_upto_region 5 with (fail)
    go_loopw [14] (fun i wr => ∃ j : Nat, j ≤ n ∧ i = .int .i64 j ∧ Blk wr w.heap.size (fill (strV (fs.map (·.1))) (.string ⟨#[]⟩) j) 9 ∧ Below w.heap.size w wr ∧ Hid ((fs.take j).all (fun f => decide (f.2.size ≤ 600)) = true)) (fun i _ => n - (intOf i).toNat)
    case atStart =>
      refine ⟨0, by omega, rfl, ?_, (Below.refl _ _).alloc (Nat.le_refl _) _, by simp [Hid]⟩
      have := Blk.new w (List.replicate n (Value.string ⟨#[]⟩)) 9
      rw [fill_zero, strV_length, List.length_map, HL.out]
      simpa using this
    case round =>
      obtain ⟨j, hj, rfl, hblk, hb, HO⟩ := hrel
      by_cases hjn : j < n
      · have hjl : j < fs.length := by rw [HL.out]; exact hjn
        have hr1 := hr.below hb
        obtain ⟨b, off, rfl, h1, h2, -⟩ := hr1.fil hjl
        have hz : (0 : Int) ≤ j := by omega
        have hlt : (j : Int) < n := by omega
        clear hr1
        go_upto_region 7 with (fail)
        have HK := hid (all_take_more (fun f : Fil => decide (f.2.size ≤ 600)) fs j hjl)
        have HX := hid (show (strV (fs.map (·.1)))[j]? = some (.string fs[j].1) by simp [strV, hjl])
        have hblk2 := hblk.below ((Below.refl _ _).alloc (Nat.le_refl _) (.cells #[.string fs[j].1, .string fs[j].2] 53))
        have hb2 := hb.alloc hb.size (.cells #[.string fs[j].1, .string fs[j].2] 53)
        have k := Blk.new wr [.string fs[j].1, .string fs[j].2] 53
        have k1 := k.cell 0
        have k2 := k.cell 1
        simp only [List.getElem?_cons_zero, List.getElem?_cons_succ] at k1 k2
        have hd := (HF.out fs[j] (List.getElem_mem hjl)).2
        unfold maxLen at hd
        have HM := hid (List.getElem_mem hjl)
        clear k hblk hb h1 h2
        generalize fs[j] = f at *
        generalize wr.alloc (.cells #[.string f.1, .string f.2] 53) = wa at *
        generalize wr.heap.size = g at *
        have c1 := hblk2.cell j
        rw [fill_at _ _ _ (by rw [strV_length, List.length_map]; exact hjl)] at c1
        have c2 := hblk2.frozen j
        have hblk3 := hblk2.set_ j (.string f.1)
        rw [fill_set _ _ _ _ HX.out] at hblk3
        have hb3 : Below w.heap.size w (wa.setCell ⟨w.heap.size, j, none⟩ (.string f.1)) := hb2.grown (grown_set j _) hb2.size (by intro k hk; injection hk with hk; omega)
        clear hblk2
        by_cases h600 : (600 : Int) < f.2.size
        · go_wp2
          go_ret
          refine ⟨ret_bool ?_, hb2⟩
          symm
          refine treeR_no fun h => ?_
          have := h.datas f HM.out
          omega
        · go_wp2
          go_roundw
          case rel => exact ⟨j + 1, by omega, by go_num, hblk3, hb3, hid (by rw [HK.out, HO.out]; simp; omega)⟩
          case measure => simp [intOf]; omega
      · have HE := hid (show j = n by omega)
        have hnlt : ¬ (j : Int) < n := by omega
        have ho := HO.out
        have e1 : j = fs.length := by rw [HL.out]; omega
        rw [e1, List.take_length] at ho
        have HD := hid ho
        have e2 : (strV (fs.map (·.1))).length = fs.length := by rw [strV_length, List.length_map]
        rw [show j = (strV (fs.map (·.1))).length by rw [e2]; exact e1, fill_all] at hblk
        have hrd : Rd wr (some ⟨w.heap.size, 0, none⟩) (strV (fs.map (·.1))) := .inr ⟨_, rfl, fun k u hu => by rw [Addr.add_lit, Nat.zero_add, hblk.cell, hu]⟩
        have HLL := hid (show lst (fs.map (·.1)) = fs.map pth by simp [lst, pth])
        have hfn : (fs.map (·.1)).length = n := by rw [List.length_map, HL.out]
        have hss : ∀ s ∈ fs.map (·.1), s.size < 4294967281 := by
          intro s hs
          obtain ⟨f, hf, rfl⟩ := List.mem_map.1 hs
          exact (HF.out f hf).1
        have HFN := hid hfn
        have HSS := hid hss
        clear ho e1 e2 hblk hfn hss HO
        have hn16 : fs.length ≤ 16 := by rw [HL.out]; omega
        have HT := hid (show treeR fs = (sortedL (fs.map pth) && apartL (fs.map pth)) by rw [treeR, HD.out, decide_eq_true hn16]; rfl)
        clear hn16
        go_wp2_with fail
        refine (sorted_any _ n n (fs.map (·.1)) _ HFN.out hrd hn HSS.out).mono ?_
        rintro e w1 ⟨rfl, hb1⟩
        rw [HLL.out]
        have hrd1 := hrd.below hb1
        have hb1' := below2 hb hb1
        clear hrd hb hb1
        cases hq : sortedL (fs.map pth)
        · rw [hq] at HT
          go_wp2
          go_ret
          exact ⟨ret_bool HT.out.symm, hb1'⟩
        · rw [hq, Bool.true_and] at HT
          have HS := hid (srt_pair hq)
          go_wp2_with fail
          refine (apart_any _ n n (fs.map (·.1)) _ HFN.out (Nat.le_refl _) hn hrd1 (by rw [HLL.out]; exact HS.out) HSS.out).mono ?_
          rintro e w2 ⟨rfl, hb2⟩
          rw [HLL.out]
          go_wp2
          go_ret
          exact ⟨ret_bool HT.out.symm, below2 hb1' hb2⟩
end Go.Proofs.YtnkkjedckehoaaaDoor
