/- The texts Td, Te, Tf, Sb, Sc, Cp, Tg, Sd, Se, Hin, in one. -/
import Derived.Test.YtlmccjdpmhancaaDoorK1
import Derived.Deep.DeepCutAuto
import Derived.Deep.OwnRows
import Derived.Laws.StructEq
import Derived.Handy
import Derived.BigQuiet
import Derived.Deep.RegionHeld3
import Derived.Deep.AppendSrc
import Derived.Lib.AppendZeros
import Derived.Laws.CopyRow
import Derived.Laws.CopyOwn
import Derived.RangeFuncNested
import Derived.RangeFuncBound
import Derived.RangeFuncBox
import Derived.RangeFuncCalls
import Derived.RangeFuncLeaves
import Derived.Shelf.Abstract
import Derived.OwnWalkIn
import Derived.TacticsInMore
import Derived.LoopNIn
import Derived.LoopIn
import Derived.Maps.AppendAt
import Derived.OrdersIn
import Derived.ControlIn
import Derived.Deep.RegionHeld
namespace Go.Proofs.YtlmccjdpmhancaaDoor
open Go.RowKit


/-- Which file is the first that clashes. -/
def IdxPost (w : World) (b : Bool) (e : Ending) (w' : World) : Prop := ∃ k : Int, e = .returned (.int .i64 k) ∧ decide (0 ≤ k) = b ∧ Below w.heap.size w w'
theorem any_take_step {α : Type} (q : α → Bool) (l : List α) (j : Nat) (h : j < l.length) : (l.take (j + 1)).any q = ((l.take j).any q || q l[j]) := by
  rw [List.take_add_one, List.getElem?_eq_getElem h, List.any_append]
  simp

/-! ### None is under another one -/
theorem prefix_mid : ∀ (d s r : List UInt8), d < s → s ≤ d ++ r → Lib.hasPrefix s d = true
  | [], s, r, _, _ => by simp [Lib.hasPrefix]
  | c :: d, [], r, h, _ => by simp at h
  | c :: d, x :: s, r, h, h2 => by
    have h2' : x :: s < c :: (d ++ r) ∨ x :: s = c :: (d ++ r) := List.le_iff_lt_or_eq.1 h2
    rw [List.cons_lt_cons_iff] at h h2'
    have key : c = x ∧ d < s ∧ s ≤ d ++ r := by
      rcases h with h | ⟨e, h⟩
      · rcases h2' with (h3 | ⟨e3, _⟩) | h3
        · exact absurd h (UInt8.lt_asymm h3)
        · rw [e3] at h; exact absurd h (UInt8.lt_irrefl _)
        · injection h3 with e3 _; rw [e3] at h; exact absurd h (UInt8.lt_irrefl _)
      · rcases h2' with (h3 | ⟨_, h3⟩) | h3
        · rw [e] at h3; exact absurd h3 (UInt8.lt_irrefl _)
        · exact ⟨e, h, List.le_of_lt h3⟩
        · injection h3 with _ e3; exact ⟨e, h, by rw [e3]; exact List.le_refl _⟩
    have := prefix_mid d s r key.2.1 key.2.2
    rw [Lib.hasPrefix] at this ⊢
    simp [key.1, this]
theorem under_mid {d s t : List UInt8} (h1 : d < s) (h2 : s ≤ t) (h3 : Lib.hasPrefix s d = false) : underL t d = false := by
  refine not_true fun h => ?_
  unfold underL at h
  rw [Bool.and_eq_true, pre_iff] at h
  obtain ⟨_, r, rfl⟩ := h
  rw [prefix_mid d s (47 :: r) h1 h2] at h3
  cases h3
theorem apart_idx (L : List (List UInt8)) : apartL L = true ↔ ∀ i k (_ : i < k) (hk : k < L.length), underL L[k] (L[i]'(by omega)) = false := by
  rw [apart_iff, List.pairwise_iff_getElem]
  exact ⟨fun h i k hik hk => h i k (by omega) hk hik, fun h i k _ hk hik => h i k hik hk⟩

set_option maxHeartbeats 2000000 in
theorem apart_any (A : Option Addr) (n c : Nat) (ls : List ByteArray) (w : World) (hl : ls.length = n) (hnc : n ≤ c) (hcm : c ≤ 140737488355328) (hr : Rd w A (strV ls)) (hs : (lst ls).Pairwise (· < ·)) (hss : ∀ s ∈ ls, s.size < 4294967281) :
    Calls Tryd.prog 36 #[.slice A n c] w fun e w' => e = .returned (.bool (apartL (lst ls))) ∧ Below w.heap.size w w' := by
  have HI := hid (apart_idx (lst ls))
  have HP := hid (List.pairwise_iff_getElem.1 hs)
  have HL := hid (show (lst ls).length = n by rw [lst_length]; exact hl)
  have HL2 := hid hl
  have HS := hid hss
  have HA := hid (fun j (h : j < ls.length) (h' : j < (lst ls).length) => (show (lst ls)[j] = ls[j].data.toList by simp [lst]))
  clear hl hs hss
  generalize lst ls = L at *
  go_enter Tryd.func36, Tryd.ntmps36
  go_wp2_with fail
  go_loopw [9] (fun i wr => ∃ j : Nat, j ≤ n ∧ i = .int .i64 j ∧ Hid (∀ i k (hi : i < j) (hik : i < k) (hk : k < L.length), underL L[k] (L[i]'(by omega)) = false) ∧ Below w.heap.size w wr) (fun i _ => n - (intOf i).toNat)
  case atStart => exact ⟨0, by omega, rfl, hid (fun i k hi => absurd hi (by omega)), Below.refl _ _⟩
  case round =>
    obtain ⟨i, hi, rfl, HO, hb⟩ := hrel
    by_cases hin : i < n
    · have hil : i < ls.length := by rw [HL2.out]; exact hin
      have hr1 := hr.below hb
      obtain ⟨b, off, rfl, h1, -⟩ := hr1.at_ (k := i) (by rw [strV_length]; exact hil)
      have h2 : wr.cell? ⟨b, off + i, none⟩ = some (.string ls[i]) := by rw [h1]; simp [strV]
      have hz : (0 : Int) ≤ i := by omega
      have hlt : (i : Int) < n := by omega
      clear h1 hr1
      by_cases hci : c = i + 1
      · have hnn : n - (i + 1) = 0 := by omega
        have hn1 : n = i + 1 := by omega
        have HN := hid hn1
        clear hn1
        go_upto_region 5 with (fail)
        go_loopw [19] (fun v wx => v = .int .i64 0 ∧ wr = wx) (fun _ _ => 0)
        case atStart => exact ⟨rfl, rfl⟩
        case round =>
          obtain ⟨rfl, rfl⟩ := hrel
          go_wp2
          go_roundw
          case rel =>
            refine ⟨i + 1, by omega, by go_num, hid (fun i' k hi' hik hk => ?_), hb⟩
            have := HN.out
            have := HL.out
            exact HO.out i' k (by omega) hik hk
          case measure => simp [intOf]; omega
      · have HW := hid hb
        go_upto_region 5 with (fail)
        go_loopw [19] (fun v wx => ∃ j : Nat, j ≤ n - (i + 1) ∧ v = .int .i64 j ∧ Hid (∀ k (hk : k < L.length) (hik : i < k), k < i + 1 + j → underL L[k] (L[i]'(by omega)) = false) ∧ Below w.heap.size w wx) (fun v _ => n - (i + 1) - (intOf v).toNat)
        case atStart => exact ⟨0, by omega, rfl, hid (fun k hk hik h => absurd h (by omega)), hb⟩
        case round =>
          clear hb h2
          obtain ⟨j, hj, rfl, HJ, hb⟩ := hrel
          have hLi : i < L.length := by have := HL.out; omega
          have HAi := hid (HA.out i hil hLi)
          by_cases hjn : j < n - (i + 1)
          · have hkl : i + 1 + j < ls.length := by have := HL2.out; omega
            have hLk : i + 1 + j < L.length := by have := HL.out; omega
            have HAk := hid (HA.out (i + 1 + j) hkl hLk)
            have hr1 := hr.below hb
            obtain ⟨b', off', he, h1, -⟩ := hr1.at_ (k := i + 1 + j) (by rw [strV_length]; exact hkl)
            injection he with he
            injection he with he1 he2
            subst he1 he2
            have h3 : wr.cell? ⟨b, off + (i + 1) + j, none⟩ = some (.string ls[i + 1 + j]) := by
              rw [Nat.add_assoc off, h1]
              simp [strV]
            have hsi := HS.out ls[i] (List.getElem_mem hil)
            have hsk := HS.out ls[i + 1 + j] (List.getElem_mem hkl)
            have HPk := hid (HP.out i (i + 1 + j) hLi hLk (by omega))
            clear h1 hr1
            generalize ls[i + 1 + j] = x at *
            generalize ls[i] = y at *
            have hz2 : (0 : Int) ≤ j := by omega
            have hlt2 : (j : Int) < ((n - (i + 1) : Nat) : Int) := by omega
            go_wp2_with fail
            refine (Tryd.strings_HasPrefix _ _ _).mono ?_
            rintro e w1 ⟨rfl, rfl⟩
            cases hp : Lib.hasPrefix x.data.toList y.data.toList
            · have HPP := hid hp
              clear hp
              go_wp2
              go_roundw
              case rel =>
                refine ⟨i + 1, by omega, by go_num, hid (fun i' k hi' hik hk => ?_), hb⟩
                by_cases hii : i' < i
                · exact HO.out i' k hii hik hk
                · obtain rfl : i' = i := by omega
                  by_cases hkj : k < i' + 1 + j
                  · exact HJ.out k hk hik hkj
                  · refine under_mid HPk.out ?_ ?_
                    · by_cases hke : k = i' + 1 + j
                      · subst hke; exact List.le_refl _
                      · exact List.le_of_lt (HP.out (i' + 1 + j) k hLk hk (by omega))
                    · rw [HAi.out, HAk.out]; exact HPP.out
              case measure => simp [intOf]; omega
            · go_wp2_with fail
              refine (under_any _ _ _ hsk hsi).mono ?_
              rintro e w2 ⟨rfl, hb2⟩
              have hb2' := below2 hb hb2
              clear hb hb2
              cases hu : underL x.data.toList y.data.toList
              · have HU := hid hu
                clear hu
                go_wp2
                go_roundw
                case rel =>
                  refine ⟨j + 1, by omega, by go_num, hid (fun k hk hik hkj => ?_), hb2'⟩
                  by_cases hke : k = i + 1 + j
                  · subst hke
                    rw [HAi.out, HAk.out]; exact HU.out
                  · exact HJ.out k hk hik (by omega)
                case measure => simp [intOf]; omega
              · have HU := hid hu
                clear hu
                go_wp2
                go_ret
                refine ⟨ret_bool ?_, hb2'⟩
                symm
                refine not_true fun hap => ?_
                have := HI.out.1 hap i (i + 1 + j) (by omega) hLk
                rw [HAi.out, HAk.out, HU.out] at this
                cases this
          · have hnlt2 : ¬ (j : Int) < ((n - (i + 1) : Nat) : Int) := by omega
            have HJE := hid (show j = n - (i + 1) by omega)
            go_wp2
            go_roundw
            case rel =>
              refine ⟨i + 1, by omega, by go_num, hid (fun i' k hi' hik hk => ?_), hb⟩
              by_cases hii : i' < i
              · exact HO.out i' k hii hik hk
              · obtain rfl : i' = i := by omega
                have := HL.out
                have := HJE.out
                exact HJ.out k hk hik (by omega)
            case measure => simp [intOf]; omega
    · have HE := hid (show i = n by omega)
      have hnlt : ¬ (i : Int) < n := by omega
      go_wp2
      go_ret
      refine ⟨ret_bool ?_, hb⟩
      symm
      refine HI.out.2 fun i' k hik hk => ?_
      have := HE.out
      have := HL.out
      exact HO.out i' k (by omega) hik hk
end Go.Proofs.YtlmccjdpmhancaaDoor
namespace Go.Proofs.YtlmccjdpmhancaaDoor
open Go.RowKit

theorem made_one (z : Value) (n : Nat) : madeCells #[z] n = (List.replicate n z).toArray := by
  apply Array.toList_inj.1
  rw [toList_madeCells_one]
theorem made_two (a : Value) (n : Nat) : madeCells #[a, a] n = (List.replicate n a).toArray := by
  apply Array.ext
  · simp [madeCells]
  · intro i h1 h2
    simp only [madeCells, Array.getElem_map, Array.getElem_range, List.getElem_toArray, List.getElem_replicate]
    have h : i % (#[a, a] : Array Value).size = 0 ∨ i % (#[a, a] : Array Value).size = 1 := by
      have : (#[a, a] : Array Value).size = 2 := rfl
      rw [this]; omega
    rcases h with h | h <;> rw [h] <;> rfl
theorem make_strs (n : Nat) (hn : n ≤ 1000000) (w : World) : (Instr.makeSlice 25 (.int .i64 (n : Int)) (.int .i64 (n : Int))).run Tryd.prog w = .ok (.slice (some ⟨w.heap.size, 0, none⟩) n n) (w.alloc (.cells (List.replicate n (Value.string ⟨#[]⟩)).toArray 9)) := by
  rw [← made_one]
  exact run_make_row' 25 9 (.string ⟨#[]⟩) 16 Tryd.underlying25 Tryd.infoS rfl .i64 .i64 n (by omega) (by omega) w

/-- What was laid, and room for the rest. -/
def fill (xs : List Value) (z : Value) (j : Nat) : List Value := xs.take j ++ List.replicate (xs.length - j) z
theorem fill_zero (xs : List Value) (z : Value) : fill xs z 0 = List.replicate xs.length z := by simp [fill]
theorem fill_all (xs : List Value) (z : Value) : fill xs z xs.length = xs := by simp [fill]
theorem fill_at (xs : List Value) (z : Value) (j : Nat) (h : j < xs.length) : (fill xs z j)[j]? = some z := by
  rw [fill, List.getElem?_append_right (by rw [List.length_take]; omega), List.length_take, Nat.min_eq_left (by omega), Nat.sub_self, List.getElem?_replicate, if_pos (by omega)]
theorem fill_set (xs : List Value) (z : Value) (j : Nat) (x : Value) (h : xs[j]? = some x) : (fill xs z j).set j x = fill xs z (j + 1) := by
  have hj := (List.getElem?_eq_some_iff.1 h).1
  rw [fill, fill, List.set_append_right _ _ (by rw [List.length_take]; omega), List.length_take, Nat.min_eq_left (by omega), Nat.sub_self, show xs.length - j = (xs.length - (j + 1)) + 1 by omega, List.replicate_succ, List.set_cons_zero, List.take_add_one, h, List.append_assoc]
  rfl
theorem all_take_more {α : Type} (q : α → Bool) (l : List α) (j : Nat) (h : j < l.length) : (l.take (j + 1)).all q = ((l.take j).all q && q l[j]) := by
  rw [List.take_add_one, List.getElem?_eq_getElem h, List.all_append]
  simp

set_option maxHeartbeats 1000000 in
theorem tright_any (A : Option Addr) (n c : Nat) (fs : List Fil) (w : World) (hl : fs.length = n) (hr : Rd w A (filV fs)) (hn : n ≤ 140737488355328) (hf : ∀ f ∈ fs, f.1.size < 4294967281 ∧ f.2.size ≤ maxLen) :
    Calls Tryd.prog 16 #[.slice A n c] w fun e w' => e = .returned (.bool (treeR fs)) ∧ Below w.heap.size w w' := by
  have HF := hid hf
  have HL := hid hl
  clear hf hl
  by_cases h16 : (16 : Int) < n
  · go_enter Tryd.func16, Tryd.ntmps16
    go_wp2
    go_ret
    refine ⟨ret_bool ?_, Below.refl _ _⟩
    symm
    refine treeR_no fun h => ?_
    have := h.few
    have := HL.out
    omega
  · have hmk := make_strs n (by omega)
    go_enter Tryd.func16, Tryd.ntmps16
    go_upto_region 5 with (fail)
    go_loopw [14] (fun i wr => ∃ j : Nat, j ≤ n ∧ i = .int .i64 j ∧ Blk wr w.heap.size (fill (strV (fs.map (·.1))) (.string ⟨#[]⟩) j) 9 ∧ Below w.heap.size w wr ∧ Hid ((fs.take j).all (fun f => decide (f.2.size ≤ 600)) = true)) (fun i _ => n - (intOf i).toNat)
    case atStart =>
      refine ⟨0, by omega, rfl, ?_, (Below.refl _ _).alloc (Nat.le_refl _) _, by simp [Hid]⟩
      have := Blk.new w (List.replicate n (Value.string ⟨#[]⟩)) 9
      rw [fill_zero, strV_length, List.length_map, HL.out]
      simpa using this
    case round =>
      obtain ⟨j, hj, rfl, hblk, hb, HO⟩ := hrel
      by_cases hjn : j < n
      · have hjl : j < fs.length := by rw [HL.out]; exact hjn
        have hr1 := hr.below hb
        obtain ⟨b, off, rfl, h1, h2, -⟩ := hr1.fil hjl
        have hz : (0 : Int) ≤ j := by omega
        have hlt : (j : Int) < n := by omega
        clear hr1
        go_upto_region 7 with (fail)
        have HK := hid (all_take_more (fun f : Fil => decide (f.2.size ≤ 600)) fs j hjl)
        have HX := hid (show (strV (fs.map (·.1)))[j]? = some (.string fs[j].1) by simp [strV, hjl])
        have hblk2 := hblk.below ((Below.refl _ _).alloc (Nat.le_refl _) (.cells #[.string fs[j].1, .string fs[j].2] 50))
        have hb2 := hb.alloc hb.size (.cells #[.string fs[j].1, .string fs[j].2] 50)
        have k := Blk.new wr [.string fs[j].1, .string fs[j].2] 50
        have k1 := k.cell 0
        have k2 := k.cell 1
        simp only [List.getElem?_cons_zero, List.getElem?_cons_succ] at k1 k2
        have hd := (HF.out fs[j] (List.getElem_mem hjl)).2
        unfold maxLen at hd
        have HM := hid (List.getElem_mem hjl)
        clear k hblk hb h1 h2
        generalize fs[j] = f at *
        generalize wr.alloc (.cells #[.string f.1, .string f.2] 50) = wa at *
        generalize wr.heap.size = g at *
        have c1 := hblk2.cell j
        rw [fill_at _ _ _ (by rw [strV_length, List.length_map]; exact hjl)] at c1
        have c2 := hblk2.frozen j
        have hblk3 := hblk2.set_ j (.string f.1)
        rw [fill_set _ _ _ _ HX.out] at hblk3
        have hb3 : Below w.heap.size w (wa.setCell ⟨w.heap.size, j, none⟩ (.string f.1)) := hb2.grown (grown_set j _) hb2.size (by intro k hk; injection hk with hk; omega)
        clear hblk2
        by_cases h600 : (600 : Int) < f.2.size
        · go_wp2
          go_ret
          refine ⟨ret_bool ?_, hb2⟩
          symm
          refine treeR_no fun h => ?_
          have := h.datas f HM.out
          omega
        · go_wp2
          go_roundw
          case rel => exact ⟨j + 1, by omega, by go_num, hblk3, hb3, hid (by rw [HK.out, HO.out]; simp; omega)⟩
          case measure => simp [intOf]; omega
      · have HE := hid (show j = n by omega)
        have hnlt : ¬ (j : Int) < n := by omega
        have ho := HO.out
        have e1 : j = fs.length := by rw [HL.out]; omega
        rw [e1, List.take_length] at ho
        have HD := hid ho
        have e2 : (strV (fs.map (·.1))).length = fs.length := by rw [strV_length, List.length_map]
        rw [show j = (strV (fs.map (·.1))).length by rw [e2]; exact e1, fill_all] at hblk
        have hrd : Rd wr (some ⟨w.heap.size, 0, none⟩) (strV (fs.map (·.1))) := .inr ⟨_, rfl, fun k u hu => by rw [Addr.add_lit, Nat.zero_add, hblk.cell, hu]⟩
        have HLL := hid (show lst (fs.map (·.1)) = fs.map pth by simp [lst, pth])
        have hfn : (fs.map (·.1)).length = n := by rw [List.length_map, HL.out]
        have hss : ∀ s ∈ fs.map (·.1), s.size < 4294967281 := by
          intro s hs
          obtain ⟨f, hf, rfl⟩ := List.mem_map.1 hs
          exact (HF.out f hf).1
        have HFN := hid hfn
        have HSS := hid hss
        clear ho e1 e2 hblk hfn hss HO
        have hn16 : fs.length ≤ 16 := by rw [HL.out]; omega
        have HT := hid (show treeR fs = (sortedL (fs.map pth) && apartL (fs.map pth)) by rw [treeR, HD.out, decide_eq_true hn16]; rfl)
        clear hn16
        go_wp2_with fail
        refine (sorted_any _ n n (fs.map (·.1)) _ HFN.out hrd hn HSS.out).mono ?_
        rintro e w1 ⟨rfl, hb1⟩
        rw [HLL.out]
        have hrd1 := hrd.below hb1
        have hb1' := below2 hb hb1
        clear hrd hb hb1
        cases hq : sortedL (fs.map pth)
        · rw [hq] at HT
          go_wp2
          go_ret
          exact ⟨ret_bool HT.out.symm, hb1'⟩
        · rw [hq, Bool.true_and] at HT
          have HS := hid (srt_pair hq)
          go_wp2_with fail
          refine (apart_any _ n n (fs.map (·.1)) _ HFN.out (Nat.le_refl _) hn hrd1 (by rw [HLL.out]; exact HS.out) HSS.out).mono ?_
          rintro e w2 ⟨rfl, hb2⟩
          rw [HLL.out]
          go_wp2
          go_ret
          exact ⟨ret_bool HT.out.symm, below2 hb1' hb2⟩
end Go.Proofs.YtlmccjdpmhancaaDoor
namespace Go.Proofs.YtlmccjdpmhancaaDoor
open Go.RowKit

/-- A slice of n files: what is read, and the bounds. -/
structure Ft (w : World) (A : Option Addr) (n c : Nat) (fs : List Fil) : Prop where
  len : fs.length = n
  rd : Rd w A (filV fs)
  cap : n ≤ c
  big : n ≤ 140737488355328
  capm : c ≤ 9223372036854775807
  sz : ∀ f ∈ fs, f.1.size < 4294967281 ∧ f.2.size ≤ 140737488355328
theorem Ft.below {w w' : World} {A : Option Addr} {n c : Nat} {fs : List Fil} (h : Ft w A n c fs) (hb : Below w.heap.size w w') : Ft w' A n c fs := ⟨h.len, h.rd.below hb, h.cap, h.big, h.capm, h.sz⟩
theorem Ft.sz1 {w : World} {A : Option Addr} {n c : Nat} {fs : List Fil} (h : Ft w A n c fs) : ∀ f ∈ fs, f.1.size < 4294967281 := fun f hf => (h.sz f hf).1
theorem tree_any {w : World} {A : Option Addr} {n c : Nat} {fs : List Fil} (h : Ft w A n c fs) : Calls Tryd.prog 16 #[.slice A n c] w fun e w' => e = .returned (.bool (treeR fs)) ∧ Below w.heap.size w w' :=
  tright_any A n c fs w h.len h.rd h.big (fun f hf => ⟨(h.sz f hf).1, by have := (h.sz f hf).2; unfold maxLen; omega⟩)

def getV : Option ByteArray → Value
  | some d => .tuple #[.string d, .bool true]
  | none => .tuple #[.string ⟨#[]⟩, .bool false]
theorem get_of {fs : List Fil} {p : ByteArray} (hR : treeR fs = true) (ht : thereT fs p.data.toList = true) : ∃ hl : (lowT fs p.data.toList).length < fs.length, getT fs p.data.toList = some fs[(lowT fs p.data.toList).length].2 := by
  have hs := ((treeR_iff fs).1 hR).srt
  obtain ⟨hl, he⟩ := (there_at hs).1 ht
  refine ⟨hl, ?_⟩
  rw [getT, if_pos hR, data_iff hs]
  have : (p, fs[(lowT fs p.data.toList).length].2) = fs[(lowT fs p.data.toList).length] := pth_inj (by rw [he]; rfl) rfl
  rw [this]
  exact List.getElem_mem _
theorem get_none {fs : List Fil} {p : ByteArray} (h : (treeR fs && thereT fs p.data.toList) = false) : getT fs p.data.toList = none := by
  rw [getT]
  cases hR : treeR fs
  · rfl
  · rw [hR, Bool.true_and, ← data_some] at h
    simpa using h

theorem size_more (fs : List Fil) (j : Nat) (h : j < fs.length) : sizeT (fs.take (j + 1)) = sizeT (fs.take j) + fs[j].2.size := by
  rw [sizeT, List.take_add_one, List.getElem?_eq_getElem h, List.map_append, List.sum_append]
  simp [sizeT]
theorem size_part (fs : List Fil) (j : Nat) : sizeT (fs.take j) ≤ sizeT fs := by
  have e : sizeT fs = sizeT (fs.take j) + sizeT (fs.drop j) := by
    conv => lhs; rw [← List.take_append_drop j fs]
    rw [sizeT, List.map_append, List.sum_append]
    rfl
  omega

/-! ### Same -/
theorem neqF (f g : Fil) (w : World) : (binOp .neq 50 (.agg #[.string f.1, .string f.2]) (.agg #[.string g.1, .string g.2])).run Tryd.prog w = .ok (.bool (!decide (f = g))) w := by
  have u9 := Tryd.underlying9
  have a9 := Tryd.isAgg9
  have z9 := Tryd.sizeOf9
  have hS : Tryd.prog.underlying 50 = some (.struct (Tryd.prog.fieldsOf 50)) := by kernel_rfl
  have hp : Tryd.prog.stoodInHeld 50 = false := by kernel_rfl
  rw [run_neq_struct, show (10000 : Nat) = 9999 + 1 from rfl, run_equalIn_agg w 9999 50 _ _ hS hp]
  simp only [Program.fieldsOf, Tryd.underlying50]
  go_simp
  have inj : ∀ {a b : ByteArray}, a.toList = b.toList → a = b := fun h => data_inj (by rw [← Lib.toList_data, ← Lib.toList_data]; exact h)
  by_cases h1 : f.1.toList = g.1.toList
  · by_cases h2 : f.2.toList = g.2.toList
    · have e : f = g := Prod.ext (inj h1) (inj h2)
      rw [if_pos h1, if_pos h2, decide_eq_true e]; rfl
    · have e : f ≠ g := fun e => h2 (by rw [e])
      rw [if_pos h1, if_neg h2, decide_eq_false e]; rfl
  · have e : f ≠ g := fun e => h1 (by rw [e])
    rw [if_neg h1, decide_eq_false e]; rfl

theorem same_no {fs gs : List Fil} {j : Nat} (h1 : j < fs.length) (h2 : j < gs.length) (h : fs[j] ≠ gs[j]) : fs ≠ gs := fun e => by subst e; exact h rfl

/-! ### In -/
/-- A new slice of strings was answered. -/
def StrsPost (w : World) (ls : List ByteArray) (e : Ending) (w' : World) : Prop :=
  ∃ A c, e = .returned (.slice A ls.length c) ∧ Rd w' A (strV ls) ∧ ls.length ≤ c ∧ c ≤ maxLen ∧ Below w.heap.size w w'
def inTo (fs : List Fil) (d : List UInt8) : List ByteArray := (fs.filter fun f => underL (pth f) d).map (·.1)
theorem inTo_more (fs : List Fil) (d : List UInt8) (j : Nat) (h : j < fs.length) : inTo (fs.take (j + 1)) d = inTo (fs.take j) d ++ (if underL (pth fs[j]) d then [fs[j].1] else []) := by
  rw [inTo, List.take_add_one, List.getElem?_eq_getElem h, List.filter_append, List.map_append]
  simp only [Option.toList, List.filter_cons, List.filter_nil]
  split <;> rfl
theorem inTo_len (fs : List Fil) (d : List UInt8) : (inTo fs d).length ≤ fs.length := by rw [inTo, List.length_map]; exact List.length_filter_le _ _

end Go.Proofs.YtlmccjdpmhancaaDoor
namespace Go.Proofs.YtlmccjdpmhancaaDoor
open Go.RowKit

/-- An entry's value. -/
abbrev eA (e : Ent) : Value := .agg #[.string e.path, .bool e.has, .string e.data, .int .i64 e.l, .int .i64 e.r]
/-- A slice of n entries: what is read, and the bounds. -/
structure Et (w : World) (A : Option Addr) (n c : Nat) (es : List Ent) : Prop where
  len : es.length = n
  rd : Rd w A (entV es)
  cap : n ≤ c
  big : n ≤ 1000000
  capm : c ≤ 9223372036854775807
  sz : ∀ e ∈ es, e.path.size < 4294967281 ∧ e.data.size ≤ 140737488355328
theorem Et.below {w w' : World} {A : Option Addr} {n c : Nat} {es : List Ent} (h : Et w A n c es) (hb : Below w.heap.size w w') : Et w' A n c es := ⟨h.len, h.rd.below hb, h.cap, h.big, h.capm, h.sz⟩

theorem str_inj {a b : ByteArray} (h : a.toList = b.toList) : a = b := data_inj (by rw [← Lib.toList_data, ← Lib.toList_data]; exact h)
theorem eqInP (d : Nat) (a b c e : Int) (w : World) : (Op.equalIn (d + 1 + 1) 32 (.agg #[.int .i64 a, .int .i64 b]) (.agg #[.int .i64 c, .int .i64 e])).run Tryd.prog w = .ok (decide (a = c) && decide (b = e)) w := by
  have u9 := Tryd.underlying3
  have a9 := Tryd.isAgg3
  have z9 := Tryd.sizeOf3
  have hS : Tryd.prog.underlying 32 = some (.struct (Tryd.prog.fieldsOf 32)) := by kernel_rfl
  have hp : Tryd.prog.stoodInHeld 32 = false := by kernel_rfl
  rw [run_equalIn_agg w (d + 1) 32 _ _ hS hp]
  simp only [Program.fieldsOf, Tryd.underlying32]
  go_simp
  by_cases h1 : a = c <;> by_cases h2 : b = e <;> simp [h1, h2]
theorem eqP (a b c d : Int) (w : World) : (binOp .eql 32 (.agg #[.int .i64 a, .int .i64 b]) (.agg #[.int .i64 c, .int .i64 d])).run Tryd.prog w = .ok (.bool (decide (a = c) && decide (b = d))) w := by
  rw [run_eql_struct, show (10000 : Nat) = 9998 + 1 + 1 from rfl, eqInP]; rfl
theorem neqP (a b c d : Int) (w : World) : (binOp .neq 32 (.agg #[.int .i64 a, .int .i64 b]) (.agg #[.int .i64 c, .int .i64 d])).run Tryd.prog w = .ok (.bool (!(decide (a = c) && decide (b = d)))) w := by
  rw [run_neq_struct, show (10000 : Nat) = 9998 + 1 + 1 from rfl, eqInP]; rfl
theorem eqInE (e f : Ent) (w : World) : (Op.equalIn (9997 + 1 + 1 + 1) 34 (eA e) (eA f)).run Tryd.prog w = .ok (decide (e = f)) w := by
  have u9 := Tryd.underlying9
  have a9 := Tryd.isAgg9
  have z9 := Tryd.sizeOf9
  have u8 := Tryd.underlying4
  have a8 := Tryd.isAgg4
  have z8 := Tryd.sizeOf4
  have a6 := Tryd.isAgg32
  have z6 := Tryd.sizeOf32
  have hS : Tryd.prog.underlying 34 = some (.struct (Tryd.prog.fieldsOf 34)) := by kernel_rfl
  have hp : Tryd.prog.stoodInHeld 34 = false := by kernel_rfl
  have hpair := eqInP 9997 e.l e.r f.l f.r
  rw [run_equalIn_agg w (9997 + 1 + 1) 34 _ _ hS hp]
  simp only [Program.fieldsOf, Tryd.underlying34]
  go_simp
  by_cases h : e = f
  · subst h
    rw [if_pos rfl, if_pos rfl, if_pos rfl, if_neg (by simp), decide_eq_true rfl]
  · rw [decide_eq_false h]
    by_cases h1 : e.path.toList = f.path.toList
    · rw [if_pos h1]
      by_cases h2 : e.has = f.has
      · rw [if_pos h2]
        by_cases h3 : e.data.toList = f.data.toList
        · rw [if_pos h3, if_pos fun h4 h5 => h (Ent.same (str_inj h1) h2 (str_inj h3) h4 h5)]
        · rw [if_neg h3]
      · rw [if_neg h2]
    · rw [if_neg h1]
theorem eqE (e f : Ent) (w : World) : (binOp .eql 34 (eA e) (eA f)).run Tryd.prog w = .ok (.bool (decide (e = f))) w := by
  rw [run_eql_struct, show (10000 : Nat) = 9997 + 1 + 1 + 1 from rfl, eqInE]; rfl
theorem neqE (e f : Ent) (w : World) : (binOp .neq 34 (eA e) (eA f)).run Tryd.prog w = .ok (.bool (!decide (e = f))) w := by
  rw [run_neq_struct, show (10000 : Nat) = 9997 + 1 + 1 + 1 from rfl, eqInE]; rfl

theorem str_eqb (a b : ByteArray) : (a.toList == b.toList) = decide (a = b) := by
  by_cases h : a = b
  · subst h; simp
  · rw [decide_eq_false h, beq_eq_false_iff_ne]; exact fun e => h (str_inj e)

theorem isEmpty_no (d : ByteArray) : d.toList.isEmpty = decide (d = noS) := by
  by_cases h : d = noS
  · subst h; simp
  · rw [decide_eq_false h]
    cases hl : d.toList with
    | nil => exact absurd (str_inj (a := d) (b := noS) (by rw [hl]; simp)) h
    | cons _ _ => rfl
set_option maxHeartbeats 1000000 in
theorem efine_any (e : Ent) (w : World) :
    Calls Tryd.prog 14 #[eA e] w fun x w' => x = .returned (.bool (fineE e)) ∧ Below w.heap.size w w' := by
  obtain ⟨p, h, d, l, r⟩ := e
  have hn := neqP l r 0 0
  have HF := hid (show fineE ⟨p, h, d, l, r⟩ = (rt l r && !(decide (l = 0) && decide (r = 0)) && (h || decide (d = noS))) from rfl)
  have HD := hid (isEmpty_no d)
  have k := Blk.new w [.string p, .bool h, .string d, .int .i64 l, .int .i64 r] 34
  go_enter Tryd.func14, Tryd.ntmps14
  go_wp2_with fail
  refine (cright_any l r _).mono ?_
  rintro x w1 ⟨rfl, hb1⟩
  have k1 := k.below hb1
  have c1 := k1.cell 1
  have c2 := k1.cell 2
  have c3 := k1.cell 3
  have c4 := k1.cell 4
  simp only [List.getElem?_cons_zero, List.getElem?_cons_succ] at c1 c2 c3 c4
  have b1 := below_new _ hb1
  clear k k1 hb1
  generalize rt l r = q at *
  generalize (decide (l = 0) && decide (r = 0)) = z at *
  cases q <;> cases z <;> cases h
  all_goals
    go_wp2
    go_ret
    exact ⟨ret_bool (by rw [HF.out]; first | rfl | exact HD.out), b1⟩

/-! ### lesser -/
theorem run_minS (ts : Array TypeId) (t : TypeId) (a b : ByteArray) (w : World) : (Builtin.min_ ts t #[.string a, .string b]).run Tryd.prog w = .ok (.string (if Op.bytesLess b.toList a.toList then b else a)) w := by
  have h := less_flip b.toList a.toList
  simp [Builtin.min_, Builtin.min2, Op.stringOp, asBool]
  cases hq : Op.bytesLess b.toList a.toList
  · rw [hq] at h; simp at h; rcases h with h | h <;> simp [h]
  · rw [hq] at h; simp at h; simp [h.1, h.2]
def lesP : List Ent → List Fil → ByteArray
  | [], f :: _ => f.1
  | e :: _, [] => e.path
  | e :: _, f :: _ => if Op.bytesLess (pth f) (epth e) then f.1 else e.path
  | [], [] => noS
end Go.Proofs.YtlmccjdpmhancaaDoor
namespace Go.Proofs.YtlmccjdpmhancaaDoor
open Go.RowKit

/-! ### Cells of one entry, stored -/
theorem set_zero (x e : Ent) (es : List Ent) : (((((entV (x :: es)).set 0 (.string e.path)).set 1 (.bool e.has)).set 2 (.string e.data)).set 3 (.int .i64 e.l)).set 4 (.int .i64 e.r) = entV (e :: es) := rfl
theorem ent_set : ∀ (es : List Ent) (j : Nat) (_ : j < es.length) (e : Ent), (((((entV es).set (j * 5) (.string e.path)).set (j * 5 + 1) (.bool e.has)).set (j * 5 + 2) (.string e.data)).set (j * 5 + 3) (.int .i64 e.l)).set (j * 5 + 4) (.int .i64 e.r) = entV (es.set j e)
  | x :: es, 0, _, e => by
    rw [List.set_cons_zero, Nat.zero_mul]
    exact set_zero x e es
  | x :: es, j + 1, h, e => by
    have ih := ent_set es j (by simpa using h) e
    rw [List.set_cons_succ, entV_cons, entV_cons, ← ih]
    have e0 : (j + 1) * 5 = (j * 5) + 1 + 1 + 1 + 1 + 1 := by omega
    have e1 : (j + 1) * 5 + 1 = (j * 5 + 1) + 1 + 1 + 1 + 1 + 1 := by omega
    have e2 : (j + 1) * 5 + 2 = (j * 5 + 2) + 1 + 1 + 1 + 1 + 1 := by omega
    have e3 : (j + 1) * 5 + 3 = (j * 5 + 3) + 1 + 1 + 1 + 1 + 1 := by omega
    have e4 : (j + 1) * 5 + 4 = (j * 5 + 4) + 1 + 1 + 1 + 1 + 1 := by omega
    rw [e1, e2, e3, e4, e0]
    simp only [eV, List.cons_append, List.nil_append, List.set_cons_succ]
theorem path_set : ∀ (es : List Ent) (j : Nat) (h : j < es.length) (p : ByteArray), (entV es).set (j * 5) (.string p) = entV (es.set j ⟨p, es[j].has, es[j].data, es[j].l, es[j].r⟩)
  | x :: es, 0, _, p => rfl
  | x :: es, j + 1, h, p => by
    have ih := path_set es j (by simpa using h) p
    have e0 : (j + 1) * 5 = (j * 5) + 1 + 1 + 1 + 1 + 1 := by omega
    rw [List.set_cons_succ, entV_cons, entV_cons, e0]
    simp only [eV, List.cons_append, List.nil_append, List.set_cons_succ, List.getElem_cons_succ, ih]
theorem Blk.ent {w : World} {g : Nat} {es : List Ent} {t : TypeId} (h : Blk w g (entV es) t) {j : Nat} (hj : j < es.length) :
    w.cell? ⟨g, j * 5, none⟩ = some (.string es[j].path) ∧ w.cell? ⟨g, j * 5 + 1, none⟩ = some (.bool es[j].has) ∧ w.cell? ⟨g, j * 5 + 2, none⟩ = some (.string es[j].data) ∧ w.cell? ⟨g, j * 5 + 3, none⟩ = some (.int .i64 es[j].l) ∧ w.cell? ⟨g, j * 5 + 4, none⟩ = some (.int .i64 es[j].r) := by
  have g : ∀ q, q < 5 → w.cell? ⟨g, j * 5 + q, none⟩ = (eV es[j])[q]? := fun q hq => by rw [h.cell, entV_at es j hj q hq]
  exact ⟨g 0 (by omega), g 1 (by omega), g 2 (by omega), g 3 (by omega), g 4 (by omega)⟩
theorem Blk.rd {w : World} {g : Nat} {cs : List Value} {t : TypeId} (h : Blk w g cs t) : Rd w (some ⟨g, 0, none⟩) cs :=
  .inr ⟨_, rfl, fun k u hu => by rw [Addr.add_lit, Nat.zero_add, h.cell, hu]⟩

abbrev zE : Ent := ⟨noS, false, noS, 0, 0⟩
theorem Tryd.infoE : (Tryd.prog.info? 34).map (fun i => (i.zero, i.size, i.bytes)) = some (some (eA zE), 5, 56) := by kernel_rfl
theorem made_ents (n : Nat) : madeCells (eV zE).toArray (n * 5) = (entV (List.replicate n zE)).toArray := by
  apply Array.ext
  · simp [madeCells, entV_length]
  · intro i h1 h2
    have hi : i < n * 5 := by simpa [entV_length] using h2
    have e := entV_at (List.replicate n zE) (i / 5) (by simp; omega) (i % 5) (by omega)
    rw [show i / 5 * 5 + i % 5 = i by omega] at e
    simp only [madeCells, Array.getElem_map, Array.getElem_range, List.getElem_toArray]
    have e2 : (entV (List.replicate n zE))[i]? = some ((entV (List.replicate n zE))[i]'(by simpa using h2)) := List.getElem?_eq_getElem _
    rw [e2, List.getElem_replicate] at e
    have h5 : (eV zE).toArray.size = 5 := rfl
    rw [h5]
    have h6 : (eV zE)[i % 5]? = some ((eV zE).toArray[i % 5]!) := by
      have : i % 5 < 5 := by omega
      match i % 5, this with
      | 0, _ => rfl
      | 1, _ => rfl
      | 2, _ => rfl
      | 3, _ => rfl
      | 4, _ => rfl
    rw [h6] at e
    injection e with e
    rw [e]
theorem make_ents (n : Nat) (hn : n ≤ 1000000) (w : World) : (Instr.makeSlice 22 (.int .i64 (n : Int)) (.int .i64 (n : Int))).run Tryd.prog w = .ok (.slice (some ⟨w.heap.size, 0, none⟩) n n) (w.alloc (.cells (entV (List.replicate n zE)).toArray 34)) := by
  obtain ⟨i, hi, hz0, hz1, hz2⟩ := info_parts Tryd.infoE
  have h := run_make (P := Tryd.prog) w 22 34 i _ Tryd.underlying22 hi hz0 .i64 .i64 n n (by omega) (Int.le_refl _) (by rw [hz2]; omega) (by omega)
  rw [h, hz1, Int.toNat_natCast, ← made_ents]
  rfl

set_option maxHeartbeats 1000000 in
theorem eanew_any (x : Ent) (w : World) (hx : x.path.size ≤ 281474976710656) (hd : x.data.size ≤ 281474976710656) :
    Calls Tryd.prog 48 #[eA x] w fun e w' => e = .returned (eA x) ∧ Below w.heap.size w w' := by
  obtain ⟨x, h, d, l, r⟩ := x
  simp only at hx hd
  have p0 : Blk ((w.alloc (.cells #[.string x, .bool h, .string d, .int .i64 l, .int .i64 r] 34)).alloc (.cells #[.string ⟨#[]⟩, .bool false, .string ⟨#[]⟩, .int .i64 0, .int .i64 0] 34)) w.heap.size [.string x, .bool h, .string d, .int .i64 l, .int .i64 r] 34 := (Blk.new w [.string x, .bool h, .string d, .int .i64 l, .int .i64 r] 34).below ((Below.refl _ _).alloc (Nat.le_refl _) _)
  have q0 : Blk ((w.alloc (.cells #[.string x, .bool h, .string d, .int .i64 l, .int .i64 r] 34)).alloc (.cells #[.string ⟨#[]⟩, .bool false, .string ⟨#[]⟩, .int .i64 0, .int .i64 0] 34)) (w.heap.size + 1) [.string ⟨#[]⟩, .bool false, .string ⟨#[]⟩, .int .i64 0, .int .i64 0] 34 := by
    have := Blk.new (w.alloc (.cells #[.string x, .bool h, .string d, .int .i64 l, .int .i64 r] 34)) [.string ⟨#[]⟩, .bool false, .string ⟨#[]⟩, .int .i64 0, .int .i64 0] 34
    simpa using this
  have b0 : Below w.heap.size w ((w.alloc (.cells #[.string x, .bool h, .string d, .int .i64 l, .int .i64 r] 34)).alloc (.cells #[.string ⟨#[]⟩, .bool false, .string ⟨#[]⟩, .int .i64 0, .int .i64 0] 34)) := ((Below.refl _ _).alloc (Nat.le_refl _) _).alloc (by simp) _
  go_enter Tryd.func48, Tryd.ntmps48
  go_upto_region 1 with (fail)
  generalize (w.alloc (.cells #[.string x, .bool h, .string d, .int .i64 l, .int .i64 r] 34)).alloc (.cells #[.string ⟨#[]⟩, .bool false, .string ⟨#[]⟩, .int .i64 0, .int .i64 0] 34) = W0 at *
  have d1 := p0.cell 0
  have d2 := p0.cell 2
  simp only [List.getElem?_cons_zero, List.getElem?_cons_succ] at d1 d2
  refine wp_region_held_drew (S := fun w' => w'.cell? ⟨w.heap.size, 0, none⟩ = some (.string x) ∧ w'.cell? ⟨w.heap.size, 2, none⟩ = some (.string d)) (by kernel_rfl) ⟨d1, d2⟩ (fun hHeld => ?_)
  refine wpAnyH_take (i := 0) (oi := ⟨_, _, _, _, _, _⟩) (v := ?_) rfl (by kernel_rfl) (by kernel_rfl) (by kernel_rfl) (fun _ _ _ h => h) (Or.inl ⟨by rfl, ?_⟩) (by assumption) ?_
  rotate_left
  · intro w hSw; (try dsimp only at hSw); go_simp; (try (with_reducible rfl))
  try simp only [Act.put, List.setIfInBounds_toArray, List.set_cons_zero, List.set_cons_succ]
  refine wpAnyH_take (i := 1) (oi := ⟨_, _, _, _, _, _⟩) (v := ?_) rfl (by kernel_rfl) (by kernel_rfl) (by kernel_rfl) (fun _ _ _ h => h) (Or.inl ⟨by rfl, ?_⟩) (by assumption) ?_
  rotate_left
  · intro w hSw; (try dsimp only at hSw); go_simp; (try (with_reducible rfl))
  try simp only [Act.put, List.setIfInBounds_toArray, List.set_cons_zero, List.set_cons_succ]
  refine wpAnyH_take (i := 3) (oi := ⟨_, _, _, _, _, _⟩) (v := ?_) rfl (by kernel_rfl) (by kernel_rfl) (by kernel_rfl) (fun _ _ _ h => h) (Or.inl ⟨by rfl, ?_⟩) (by assumption) ?_
  rotate_left
  · intro w hSw; (try dsimp only at hSw); go_simp; (try (with_reducible rfl))
  try simp only [Act.put, List.setIfInBounds_toArray, List.set_cons_zero, List.set_cons_succ]
  refine wpAnyH_take (i := 4) (oi := ⟨_, _, _, _, _, _⟩) (v := ?_) rfl (by kernel_rfl) (by kernel_rfl) (by kernel_rfl) (fun _ _ _ h => h) (Or.inl ⟨by rfl, ?_⟩) (by assumption) ?_
  rotate_left
  · intro w hSw; (try dsimp only at hSw); go_simp; (try (with_reducible rfl))
  try simp only [Act.put, List.setIfInBounds_toArray, List.set_cons_zero, List.set_cons_succ]
  refine wpAnyH_ready (rs := [2]) (by kernel_rfl) (by simp) ?_
  refine AllReadyH.cons (o := ⟨_, _, _, _, _, _⟩) rfl (fun K hK => ?_) AllReadyH.nil
  go_simp
  refine (clone_any x _ hx).mono ?_
  rintro e w1 ⟨rfl, hb1⟩
  have p1 := Blk.below (w := W0.drew) p0 hb1
  have q1 := Blk.below (w := W0.drew) q0 hb1
  have b1 := b0.drew.trans (hb1.mono b0.drew.size)
  have d3 := p1.cell 0
  have d4 := p1.cell 2
  simp only [List.getElem?_cons_zero, List.getElem?_cons_succ] at d3 d4
  refine hK.out _ _ ⟨d3, d4⟩ (fun hHeld => ?_)
  clear hK K
  try simp only [Act.put, List.setIfInBounds_toArray, List.set_cons_zero, List.set_cons_succ]
  refine wpAnyH_take (i := 6) (oi := ⟨_, _, _, _, _, _⟩) (v := ?_) rfl (by kernel_rfl) (by kernel_rfl) (by kernel_rfl) (fun _ _ _ h => h) (Or.inl ⟨by rfl, ?_⟩) (by assumption) ?_
  rotate_left
  · intro w hSw; (try dsimp only at hSw); go_simp; (try (with_reducible rfl))
  try simp only [Act.put, List.setIfInBounds_toArray, List.set_cons_zero, List.set_cons_succ]
  refine wpAnyH_ready (rs := [5]) (by kernel_rfl) (by simp) ?_
  refine AllReadyH.cons (o := ⟨_, _, _, _, _, _⟩) rfl (fun K hK => ?_) AllReadyH.nil
  go_simp
  refine (clone_any d _ hd).mono ?_
  rintro e w2 ⟨rfl, hb2⟩
  have p2 := p1.below (hb2)
  have q2 := q1.below (hb2)
  have d5 := p2.cell 0
  have d6 := p2.cell 2
  simp only [List.getElem?_cons_zero, List.getElem?_cons_succ] at d5 d6
  have b2 := b1.trans (hb2.mono b1.size)
  refine hK.out _ _ ⟨d5, d6⟩ (fun hHeld => ?_)
  clear hK K
  try simp only [Act.put, List.setIfInBounds_toArray, List.set_cons_zero, List.set_cons_succ]
  have f0 := p2.frozen 0
  have f1 := p2.frozen 2
  have P3 := p2.set_ 0 (.string x)
  have Q3 := q2.other (show w.heap.size + 1 ≠ w.heap.size by omega) 0 (.string x)
  have e1 := P3.cell 0
  have e2 := P3.cell 2
  simp only [List.set_cons_zero, List.getElem?_cons_zero, List.getElem?_cons_succ] at e1 e2
  have B3 := b2.setCell (p := ⟨w.heap.size, 0, none⟩) (Nat.le_refl _) (.string x)
  refine wpAnyH_ready (rs := [7]) (by kernel_rfl) (by simp) ?_
  refine AllReadyH.cons (o := ⟨_, _, _, _, _, _⟩) rfl (fun K hK => ?_) AllReadyH.nil
  go_simp
  generalize w2.setCell ⟨w.heap.size, 0, none⟩ (.string x) = w3 at *
  refine hK.out _ _ ⟨e1, e2⟩ (fun hHeld => ?_)
  clear hK K
  try simp only [Act.put, List.setIfInBounds_toArray, List.set_cons_zero, List.set_cons_succ]
  refine wpAnyH_take (i := 8) (oi := ⟨_, _, _, _, _, _⟩) (v := ?_) rfl (by kernel_rfl) (by kernel_rfl) (by kernel_rfl) (fun _ _ _ h => h) (Or.inl ⟨by rfl, ?_⟩) (by assumption) ?_
  rotate_left
  · intro w hSw; (try dsimp only at hSw); go_simp; (try (with_reducible rfl))
  try simp only [Act.put, List.setIfInBounds_toArray, List.set_cons_zero, List.set_cons_succ]
  have f2 := P3.frozen 2
  have P4 := P3.set_ 2 (.string d)
  have Q4 := Q3.other (show w.heap.size + 1 ≠ w.heap.size by omega) 2 (.string d)
  simp only [List.set_cons_zero, List.set_cons_succ] at P4
  have B4 := B3.setCell (p := ⟨w.heap.size, 2, none⟩) (Nat.le_refl _) (.string d)
  have g0 := P4.cell 0
  have g1 := P4.cell 1
  have g2 := P4.cell 2
  have g3 := P4.cell 3
  have g4 := P4.cell 4
  have z0 := Q4.cell 0
  have z1 := Q4.cell 1
  have z2 := Q4.cell 2
  have z3 := Q4.cell 3
  have z4 := Q4.cell 4
  have y0 := Q4.frozen 0
  have y1 := Q4.frozen 1
  have y2 := Q4.frozen 2
  have y3 := Q4.frozen 3
  have y4 := Q4.frozen 4
  simp only [List.getElem?_cons_zero, List.getElem?_cons_succ] at g0 g1 g2 g3 g4 z0 z1 z2 z3 z4
  refine wpAnyH_ready (rs := [9]) (by kernel_rfl) (by simp) ?_
  refine AllReadyH.cons (o := ⟨_, _, _, _, _, _⟩) rfl (fun K hK => ?_) AllReadyH.nil
  go_simp
  generalize w3.setCell ⟨w.heap.size, 2, none⟩ (.string d) = w4 at *
  refine hK.out _ _ ⟨g0, g2⟩ (fun hHeld => ?_)
  clear hK K
  try simp only [Act.put, List.setIfInBounds_toArray, List.set_cons_zero, List.set_cons_succ]
  refine wpAnyH_done (by kernel_rfl) ?_ _
  clear hHeld P3 Q3 p2 q2 p1 q1 p0 q0 f0 f1 f2
  have R4 := ((((Q4.set_ 0 (.string x)).set_ 1 (.bool h)).set_ 2 (.string d)).set_ 3 (.int .i64 l)).set_ 4 (.int .i64 r)
  have r0 := R4.cell 0
  have r1 := R4.cell 1
  have r2 := R4.cell 2
  have r3 := R4.cell 3
  have r4 := R4.cell 4
  simp only [List.set_cons_zero, List.set_cons_succ, List.getElem?_cons_zero, List.getElem?_cons_succ] at r0 r1 r2 r3 r4
  have hle : w.heap.size ≤ w.heap.size + 1 := by omega
  have B5 := ((((B4.setCell (p := ⟨w.heap.size + 1, 0, none⟩) hle (.string x)).setCell (p := ⟨w.heap.size + 1, 1, none⟩) hle (.bool h)).setCell (p := ⟨w.heap.size + 1, 2, none⟩) hle (.string d)).setCell (p := ⟨w.heap.size + 1, 3, none⟩) hle (.int .i64 l)).setCell (p := ⟨w.heap.size + 1, 4, none⟩) hle (.int .i64 r)
  go_wp2
  refine bodyPost_ret (v := .agg #[.string x, .bool h, .string d, .int .i64 l, .int .i64 r]) (by simp [results, Tryd.results48, go_sem, r0, r1, r2, r3, r4]) rfl ⟨rfl, B5⟩

set_option maxHeartbeats 1000000 in
theorem copy_any {w : World} {A : Option Addr} {n c : Nat} {es : List Ent} (h : Et w A n c es) :
    Calls Tryd.prog 23 #[.slice A n c] w fun e w' => e = .returned (.slice (some ⟨w.heap.size, 0, none⟩) n n) ∧ Blk w' w.heap.size (entV es) 34 ∧ Below w.heap.size w w' := by
  have hnb := h.big
  have hmk := make_ents n hnb
  have HL := hid h.len
  have HS := hid h.sz
  have hr := h.rd
  clear h
  go_enter Tryd.func23, Tryd.ntmps23
  go_upto_region 3 with (fail)
  go_loopw [11] (fun i wr => ∃ j : Nat, j ≤ n ∧ i = .int .i64 j ∧ Blk wr w.heap.size (entV (es.take j ++ List.replicate (n - j) zE)) 34 ∧ Below w.heap.size w wr) (fun i _ => n - (intOf i).toNat)
  case atStart =>
    refine ⟨0, by omega, rfl, ?_, (Below.refl _ _).alloc (Nat.le_refl _) _⟩
    have := Blk.new w (entV (List.replicate n zE)) 34
    simpa using this
  case round =>
    obtain ⟨j, hj, rfl, hblk, hb⟩ := hrel
    by_cases hjn : j < n
    · have hjl : j < es.length := by rw [HL.out]; exact hjn
      have hr1 := hr.below hb
      obtain ⟨b, off, rfl, h1, h2, h3, h4, h5, -⟩ := hr1.ent hjl
      have hz : (0 : Int) ≤ j := by omega
      have hlt : (j : Int) < n := by omega
      have hsz := HS.out es[j] (List.getElem_mem hjl)
      have hj2 : j < (es.take j ++ List.replicate (n - j) zE).length := by rw [List.length_append, List.length_take, List.length_replicate]; omega
      have HSET := hid (ent_set _ j hj2 es[j])
      have HT : Hid ((es.take j ++ List.replicate (n - j) zE).set j es[j] = es.take (j + 1) ++ List.replicate (n - (j + 1)) zE) := by
        show _ = _
        rw [List.set_append_right _ _ (by rw [List.length_take]; omega), List.length_take, Nat.min_eq_left (by omega), Nat.sub_self, show n - j = (n - (j + 1)) + 1 by omega, List.replicate_succ, List.set_cons_zero, List.take_add_one, List.getElem?_eq_getElem hjl, List.append_assoc]
        rfl
      clear hr1
      go_upto_region 5 with (fail)
      have hblk2 := hblk.below ((Below.refl _ _).alloc (Nat.le_refl _) (.cells #[.string es[j].path, .bool es[j].has, .string es[j].data, .int .i64 es[j].l, .int .i64 es[j].r] 34))
      have hb2 := hb.alloc hb.size (.cells #[.string es[j].path, .bool es[j].has, .string es[j].data, .int .i64 es[j].l, .int .i64 es[j].r] 34)
      have k := Blk.new wr [.string es[j].path, .bool es[j].has, .string es[j].data, .int .i64 es[j].l, .int .i64 es[j].r] 34
      have k1 := k.cell 0
      have k2 := k.cell 1
      have k3 := k.cell 2
      have k4 := k.cell 3
      have k5 := k.cell 4
      simp only [List.getElem?_cons_zero, List.getElem?_cons_succ] at k1 k2 k3 k4 k5
      clear k hblk hb h1 h2 h3 h4 h5
      generalize es[j] = x at *
      generalize wr.alloc (.cells #[.string x.path, .bool x.has, .string x.data, .int .i64 x.l, .int .i64 x.r] 34) = wa at *
      generalize wr.heap.size = g at *
      go_wp2_with fail
      refine (eanew_any x _ (by omega) (by omega)).mono ?_
      rintro e w1 ⟨rfl, hb1⟩
      have hblk3 := hblk2.below hb1
      have hb3 := hb2.trans (hb1.mono hb2.size)
      have c0 := hblk3.ent hj2
      obtain ⟨c0, c1, c2, c3, c4⟩ := c0
      generalize (es.take j ++ List.replicate (n - j) zE)[j] = z at c0 c1 c2 c3 c4
      have f0 := hblk3.frozen (j * 5)
      have f1 := hblk3.frozen (j * 5 + 1)
      have f2 := hblk3.frozen (j * 5 + 2)
      have f3 := hblk3.frozen (j * 5 + 3)
      have f4 := hblk3.frozen (j * 5 + 4)
      have hblk4 := ((((hblk3.set_ (j * 5) (.string x.path)).set_ (j * 5 + 1) (.bool x.has)).set_ (j * 5 + 2) (.string x.data)).set_ (j * 5 + 3) (.int .i64 x.l)).set_ (j * 5 + 4) (.int .i64 x.r)
      rw [HSET.out, HT.out] at hblk4
      have hb4 := ((((hb3.setCell (p := ⟨w.heap.size, j * 5, none⟩) (Nat.le_refl _) (.string x.path)).setCell (p := ⟨w.heap.size, j * 5 + 1, none⟩) (Nat.le_refl _) (.bool x.has)).setCell (p := ⟨w.heap.size, j * 5 + 2, none⟩) (Nat.le_refl _) (.string x.data)).setCell (p := ⟨w.heap.size, j * 5 + 3, none⟩) (Nat.le_refl _) (.int .i64 x.l)).setCell (p := ⟨w.heap.size, j * 5 + 4, none⟩) (Nat.le_refl _) (.int .i64 x.r)
      clear hblk2 hb1 hb2 hblk3 k1 k2 k3 k4 k5 hj2
      go_wp2
      go_roundw
      case rel => exact ⟨j + 1, by omega, by go_num, hblk4, hb4⟩
      case measure => simp [intOf]; omega
    · have HE := hid (show j = n by omega)
      have hnlt : ¬ (j : Int) < n := by omega
      go_wp2
      go_ret
      refine ⟨rfl, ?_, hb⟩
      rw [HE.out, List.take_of_length_le (by rw [HL.out]; omega), Nat.sub_self, List.replicate_zero, List.append_nil] at hblk
      exact hblk

/-! ### Same -/
theorem same_noE {fs gs : List Ent} {j : Nat} (h1 : j < fs.length) (h2 : j < gs.length) (h : fs[j] ≠ gs[j]) : fs ≠ gs := fun e => by subst e; exact h rfl
set_option maxHeartbeats 1000000 in
theorem equalE_any {w : World} {A B : Option Addr} {n c m d : Nat} {fs gs : List Ent} (hl : fs.length = n) (hr : Rd w A (entV fs)) (hl2 : gs.length = m) (hr2 : Rd w B (entV gs)) (hn : n ≤ 1000000) :
    Calls Tryd.prog 24 #[.slice A n c, .slice B m d] w fun e w' => e = .returned (.bool (decide (fs = gs))) ∧ Below w.heap.size w w' := by
  have HL := hid hl
  have HL2 := hid hl2
  clear hl hl2
  by_cases hnm : n = m
  · subst hnm
    go_enter Tryd.func24, Tryd.ntmps24
    go_wp2
    go_loopw [13] (fun i wr => ∃ j : Nat, j ≤ n ∧ i = .int .i64 j ∧ Hid (fs.take j = gs.take j) ∧ ∃ q, wr = w.drewN q) (fun i _ => n - (intOf i).toNat)
    case atStart => exact ⟨0, by omega, rfl, by simp [Hid], 0, rfl⟩
    case round =>
      obtain ⟨j, hj, rfl, HO, q, rfl⟩ := hrel
      by_cases hjn : j < n
      · have hjl : j < fs.length := by rw [HL.out]; exact hjn
        have hjl2 : j < gs.length := by rw [HL2.out]; exact hjn
        obtain ⟨b, off, rfl, h1, h2, h3, h4, h5, -⟩ := hr.ent hjl
        obtain ⟨b', off', rfl, g1, g2, g3, g4, g5, -⟩ := hr2.ent hjl2
        have HN := hid (@same_noE fs gs j hjl hjl2)
        have HT1 := hid (show fs.take (j + 1) = fs.take j ++ [fs[j]] by rw [List.take_add_one, List.getElem?_eq_getElem hjl]; rfl)
        have HT2 := hid (show gs.take (j + 1) = gs.take j ++ [gs[j]] by rw [List.take_add_one, List.getElem?_eq_getElem hjl2]; rfl)
        have hz : (0 : Int) ≤ j := by omega
        have hlt : (j : Int) < n := by omega
        have hneq := neqE fs[j] gs[j]
        generalize fs[j] = f at *
        generalize gs[j] = g at *
        by_cases hfg : f = g
        · rw [decide_eq_true hfg] at hneq
          have HFG := hid hfg
          clear hfg
          go_wp2_with fail
          go_quiet (fail)
          go_wp2
          go_roundw
          case rel => exact ⟨j + 1, by omega, by go_num, hid (by rw [HT1.out, HT2.out, HO.out, HFG.out]), _, rfl⟩
          case measure => simp [intOf]; omega
        · rw [decide_eq_false hfg] at hneq
          have HFG := hid hfg
          clear hfg
          go_wp2_with fail
          go_quiet (fail)
          go_wp2
          go_ret
          exact ⟨ret_bool (decide_eq_false (HN.out HFG.out)).symm, below_drewN (below_drewN (Below.refl _ _) _) _⟩
      · have HE := hid (show j = n by omega)
        have hnlt : ¬ (j : Int) < n := by omega
        go_wp2
        go_ret
        refine ⟨ret_bool ?_, below_drewN (Below.refl _ _) _⟩
        have ho := HO.out
        have e1 := HE.out
        rw [e1, List.take_of_length_le (by rw [HL.out]; omega), List.take_of_length_le (by rw [HL2.out]; omega)] at ho
        exact (decide_eq_true ho).symm
  · have hnz : ¬ (n : Int) = m := by omega
    go_enter Tryd.func24, Tryd.ntmps24
    go_wp2
    go_ret
    refine ⟨ret_bool ?_, Below.refl _ _⟩
    refine (decide_eq_false ?_).symm
    intro e
    subst e
    exact hnm (by rw [← HL.out, HL2.out])
set_option maxHeartbeats 400000 in
theorem sameE_any {w : World} {A B : Option Addr} {n c m d : Nat} {fs gs : List Ent} (hl : fs.length = n) (hr : Rd w A (entV fs)) (hl2 : gs.length = m) (hr2 : Rd w B (entV gs)) (hn : n ≤ 1000000) :
    Calls Tryd.prog 9 #[.slice A n c, .slice B m d] w fun e w' => e = .returned (.bool (decide (fs = gs))) ∧ Below w.heap.size w w' := by
  have c0 := equalE_any (c := c) (d := d) hl hr hl2 hr2 hn
  clear hl hr hl2 hr2
  generalize decide (fs = gs) = b at *
  go_enter Tryd.func9, Tryd.ntmps9
  go_wp2_with fail
  refine c0.mono ?_
  rintro e w1 ⟨rfl, hb⟩
  clear c0
  go_wp2
  go_ret
  exact ⟨rfl, hb⟩

/-! ### Find's closure -/
end Go.Proofs.YtlmccjdpmhancaaDoor
namespace Go.Proofs.YtlmccjdpmhancaaDoor
open Go.RowKit

theorem Blk.row {w : World} {g : Nat} {cs cs' : List Value} {t : TypeId} (h : Blk w g cs t) : Blk (w.setRow g cs'.toArray) g cs' t := setRow_heap w g cs.toArray cs'.toArray t (0, 0) h
theorem Blk.rowOther {w : World} {g k : Nat} {cs : List Value} {t : TypeId} (h : Blk w k cs t) (hne : k ≠ g) (x : Array Value) : Blk (w.setRow g x) k cs t := by
  unfold Blk
  rw [setRow_other w g k x hne]
  exact h
theorem Blk.read {w : World} {g : Nat} {cs : List Value} {t : TypeId} (h : Blk w g cs t) (o : Nat) (xs : List Value) (hx : ∀ j u, xs[j]? = some u → cs[o + j]? = some u) : ∀ j u, xs[j]? = some u → w.cell? ((⟨g, o, none⟩ : Addr).add j) = some u := by
  intro j u hu
  rw [Addr.add_lit, h.cell]
  exact hx j u hu
theorem wp_copy2 {P : Program} (w : World) {o : Oper} {a : Act} {K : Act → World → Prop} {Q : Exit → Act → World → Prop} (d s : Operand) (t t' : TypeId)
    (ho : o.op = .call { callee := .builtin .copy, args := #[d, s], argTypes := #[t, t'] }) (v u : Value) (hd : a.eval d = v) (hs : a.eval s = u) {v' : Value} {w' : World}
    (hr : (Builtin.copy_ #[t, t'] o.type #[v, u]).run P w = .ok v' w') (h : K (a.put o.dst v') w') : o.wp P a w K Q := by
  unfold Oper.wp
  simp [execOp, ho, resolve, invoke, builtin, hd, hs, hr, Result.andThen]
  exact h
theorem wpCopy {P : Program} (w : World) {ops : Array Oper} {rest : List Oper} {o : Oper} {a : Act} {Q : Exit → Act → World → Prop} (hgd : o.guard = none) (d s : Operand) (t t' : TypeId)
    (ho : o.op = .call { callee := .builtin .copy, args := #[d, s], argTypes := #[t, t'] }) (v u : Value) (hd : a.eval d = v) (hs : a.eval s = u) {v' : Value} {w' : World}
    (hr : (Builtin.copy_ #[t, t'] o.type #[v, u]).run P w = .ok v' w') (h : wpList P ops Q rest (a.put o.dst v') w') : wpList P ops Q (o :: rest) a w :=
  wpList_plain hgd fun _ hK => wp_copy2 w d s t t' ho v u hd hs hr (hK _ _ h)
theorem stepCopy {P : Program} {w w' : World} {ops : Array Oper} {o : Oper} {a : Act} {K : Act → World → Prop} {Q : Exit → Act → World → Prop} {E : Prop} (hw : Region.wanted o (yielded ops a.tmps) = true) (d s : Operand) (t t' : TypeId)
    (ho : o.op = .call { callee := .builtin .copy, args := #[d, s], argTypes := #[t, t'] }) (v u v' : Value) (hd : a.eval d = v) (hs : a.eval s = u)
    (hr : (Builtin.copy_ #[t, t'] o.type #[v, u]).run P w = .ok v' w') (h : K (a.put o.dst v') w') : if Region.wanted o (yielded ops a.tmps) = true then Oper.wp P o a w K Q else E := by
  rw [if_pos hw]
  exact wp_copy2 w d s t t' ho v u hd hs hr h
theorem stepApp2 {P : Program} {w w' : World} {ops : Array Oper} {o : Oper} {a : Act} {K : Act → World → Prop} {Q : Exit → Act → World → Prop} {E : Prop} (hw : Region.wanted o (yielded ops a.tmps) = true) (s x : Operand) (t : TypeId)
    (ho : o.op = .call { callee := .builtin .append, args := #[s, x], argTypes := #[t, t] }) (v1 v2 v : Value) (hs : a.eval s = v1) (hx : a.eval x = v2)
    (hrun : (Builtin.append_ #[t, t] o.type #[v1, v2]).run P w = .ok v w') (h : K (a.put o.dst v) w') : if Region.wanted o (yielded ops a.tmps) = true then Oper.wp P o a w K Q else E := by
  rw [if_pos hw]
  exact Lib.wp_append_run w s x t t ho v1 v2 hs hx v w' hrun h
end Go.Proofs.YtlmccjdpmhancaaDoor
namespace Go.Proofs.YtlmccjdpmhancaaDoor
open Go.RowKit

abbrev zS : Value := .string ⟨#[]⟩
theorem Tryd.infoF : (Tryd.prog.info? 50).map (fun i => (i.zero, i.size, i.bytes)) = some (some (.agg #[zS, zS]), 2, 32) := by kernel_rfl
theorem zero_two (n : Nat) : Builtin.zeroCells (Value.agg #[zS, zS]).cells n = (List.replicate (n * 2) zS).toArray := made_two zS (n * 2)
/-- append of one more where there is no room. -/
theorem app_end {w : World} {g n : Nat} {fs : List Fil} (hB : Blk w g (filV fs) 50) (hl : fs.length = n) (hn : n ≤ 1000) (ty : TypeId) (k : Nat) (a b : Value) (hk : Blk w k [a, b] 50) (ha : a.oneCell' = true) (hb : b.oneCell' = true) :
    ∃ c', n + 1 ≤ c' ∧ c' ≤ maxLen ∧ (Builtin.append_ #[38, 38] ty #[.slice (some ⟨g, 0, none⟩) n n, .slice (some ⟨k, 0, none⟩) 1 1]).run Tryd.prog w =
      .ok (.slice (some ⟨w.heap.size, 0, none⟩) (n + 1) c') (w.drew.alloc (.cells (filV fs ++ [a, b] ++ List.replicate ((c' - (n + 1)) * 2) zS).toArray 50)) := by
  obtain ⟨i, hi, hz0, hz1, hz2⟩ := info_parts Tryd.infoF
  have hs : Src Tryd.prog i.size 38 (.slice (some ⟨k, 0, none⟩) 1 1) 1 [a, b] w := Src.ofSlice w Tryd.underlying38 _ 1 1 [a, b] (by rw [hz1]; rfl) (hk.read 0 [a, b] (fun j u hu => by rw [Nat.zero_add]; exact hu)) (by simp [ha, hb])
  have hold : (Builtin.firstCells i.size n (.slice (some ⟨g, 0, none⟩) n n)).run Tryd.prog w.drew = .ok (filV fs).toArray w.drew := run_firstCells_some w.drew i.size n _ n n (filV fs) (by rw [hz1, filV_length, hl]) (hB.drew.read 0 (filV fs) (fun j u hu => by rw [Nat.zero_add]; exact hu))
  have hfit : Builtin.nextslicecap (n + 1) n * i.bytes ≤ 281474976710656 := by
    rw [hz2]
    exact growslice_fits (by omega) (by omega)
  refine ⟨grownCap w (n + 1) n 50, grownCap_ge w _ _ _, grownCap_le_maxLen w _ _ _ (by unfold maxLen; omega), ?_⟩
  rw [run_append_grow_src w _ _ ty 50 i _ Tryd.underlying38 hi hz0 (some ⟨g, 0, none⟩) n n (filV fs) hold _ 1 [a, b] hs (by omega) (by omega) hfit, zero_two]
  have e : (filV fs ++ [a, b] ++ List.replicate ((grownCap w (n + 1) n 50 - (n + 1)) * 2) zS).toArray = (filV fs ++ [a, b]).toArray ++ (List.replicate ((grownCap w (n + 1) n 50 - (n + 1)) * 2) zS).toArray := by
    apply Array.ext'
    simp
  rw [e]

/-- append of zero values where there is no room. -/
theorem app_zeros {w : World} {g n i : Nat} {fs : List Fil} (hB : Blk w g (filV fs) 50) (hl : fs.length = n) (hn : n ≤ 1000) (hi : i < n) (ty : TypeId) (z : Int) (hz : z = (n : Int) + 1 - i) :
    ∃ c', n + 1 ≤ c' ∧ c' ≤ maxLen ∧ (Builtin.append_ #[38, 3] ty #[.slice (some ⟨g, 0, none⟩) i n, .int .i64 z]).run Tryd.prog w =
      .ok (.slice (some ⟨w.heap.size, 0, none⟩) (n + 1) c') (w.drew.alloc (.cells (filV (fs.take i) ++ List.replicate ((c' - i) * 2) zS).toArray 50)) := by
  obtain ⟨inf, hinf, hz0, hz1, hz2⟩ := info_parts Tryd.infoF
  subst hz
  have e : ((n : Int) + 1 - i) = ((n + 1 - i : Nat) : Int) := by omega
  rw [e]
  have hold : (Builtin.firstCells inf.size i (.slice (some ⟨g, 0, none⟩) i n)).run Tryd.prog w.drew = .ok (filV (fs.take i)).toArray w.drew := run_firstCells_some w.drew inf.size i _ i n (filV (fs.take i)) (by rw [hz1, filV_length, List.length_take, hl]; omega) (hB.drew.read 0 (filV (fs.take i)) (fun j u hu => by
    rw [Nat.zero_add]
    rw [filV_take, List.getElem?_take] at hu
    split at hu
    · exact hu
    · cases hu))
  have hfit : Builtin.nextslicecap (n + 1) n * inf.bytes ≤ 281474976710656 := by
    rw [hz2]
    exact growslice_fits (by omega) (by omega)
  refine ⟨grownCap w (n + 1) n 50, grownCap_ge w _ _ _, grownCap_le_maxLen w _ _ _ (by unfold maxLen; omega), ?_⟩
  have hge := grownCap_ge w (n + 1) n 50
  have hw : IntKind.i64.wrap ((n + 1 - i : Nat) : Int) = ((n + 1 - i : Nat) : Int) := by rw [IntKind.wrap_i64]; omega
  have need : i + (n + 1 - i) = n + 1 := by omega
  have hroom : ¬ n + 1 ≤ n := by omega
  have h48' : ¬ (281474976710656 < Builtin.nextslicecap (n + 1) n * inf.bytes) := by omega
  have h48i : ¬ (281474976710656 < ((n + 1 - i : Nat) : Int) * (inf.bytes : Int)) := by rw [hz2]; omega
  have hneg : ¬ (((n + 1 - i : Nat) : Int) < 0) := by omega
  have hns : ¬ ((n + 1 - i) * inf.size = 0) := by rw [hz1]; omega
  have hzc : Builtin.zeroCells (Value.agg #[zS, zS]).cells (n + 1 - i) ++ Builtin.zeroCells (Value.agg #[zS, zS]).cells (grownCap w (n + 1) n 50 - (n + 1)) = (List.replicate ((grownCap w (n + 1) n 50 - i) * 2) zS).toArray := by
    rw [zero_two, zero_two, show (grownCap w (n + 1) n 50 - i) * 2 = (n + 1 - i) * 2 + (grownCap w (n + 1) n 50 - (n + 1)) * 2 by omega]
    apply Array.ext'
    simp
  have e2 : (filV (fs.take i) ++ List.replicate ((grownCap w (n + 1) n 50 - i) * 2) zS).toArray = (filV (fs.take i)).toArray ++ (Builtin.zeroCells (Value.agg #[zS, zS]).cells (n + 1 - i) ++ Builtin.zeroCells (Value.agg #[zS, zS]).cells (grownCap w (n + 1) n 50 - (n + 1))) := by
    rw [hzc]; simp
  rw [e2, ← Array.append_assoc]
  generalize (n + 1 - i : Nat) = m at *
  have h63' : ¬ (9223372036854775807 < (i : Int) + (m : Int)) := by omega
  simp [Builtin.append_, run_underlying Tryd.underlying38, run_underlying Tryd.underlying3, sizeOf, typeInfo, zeroValue, hinf, hz0, asInt, asIntOf, hw, hneg, hns, need, hroom, h63', h48', h48i, Question.forced, hold, newRow, grownCap]

/-- copy of cells onto a block that is known whole. -/
theorem copy_blk {w : World} {g o dLen dCap : Nat} {cs : List Value} (hB : Blk w g cs 50) (ty : TypeId) (a : Addr) (sLen sCap : Nat) (news : List Value) (hl : news.length = Nat.min sLen dLen * 2) (hfit : o + news.length ≤ cs.length)
    (hsrc : ∀ j v, news[j]? = some v → w.cell? (a.add j) = some v) (h1 : ∀ v ∈ news, v.oneCell' = true) :
    (Builtin.copy_ #[38, 38] ty #[.slice (some ⟨g, o, none⟩) dLen dCap, .slice (some a) sLen sCap]).run Tryd.prog w =
      .ok (goInt (Nat.min sLen dLen : Nat)) (w.setRow g (cs.take o ++ news ++ cs.drop (o + news.length)).toArray) := by
  obtain ⟨i, hi, hz0, hz1, hz2⟩ := info_parts Tryd.infoF
  have hst := run_storeCells_at Tryd.prog g o 50 news 0 cs.toArray w hB (by simpa using hfit) h1
  have hld := run_firstCells_some (P := Tryd.prog) w i.size (Nat.min sLen dLen) a sLen sCap news (by rw [hz1]; exact hl) hsrc
  simp only [Nat.add_zero] at hst
  simp [Builtin.copy_, run_underlying Tryd.underlying38, Builtin.lenOf, sizeOf, typeInfo, hi]
  rw [hld]
  simp [Result.andThen, hst]
/-- append where there is room. -/
theorem app_room {w : World} {g : Nat} {cs : List Value} (hB : Blk w g cs 50) (ty : TypeId) (sLen sCap : Nat) (a : Addr) (m d : Nat) (news : List Value) (hl : news.length = m * 2) (hroom : sLen + m ≤ sCap) (hfit : sLen * 2 + news.length ≤ cs.length)
    (hsrc : ∀ j v, news[j]? = some v → w.cell? (a.add j) = some v) (h1 : ∀ v ∈ news, v.oneCell' = true) :
    (Builtin.append_ #[38, 38] ty #[.slice (some ⟨g, 0, none⟩) sLen sCap, .slice (some a) m d]).run Tryd.prog w =
      .ok (.slice (some ⟨g, 0, none⟩) (sLen + m) sCap) (w.setRow g (cs.take (sLen * 2) ++ news ++ cs.drop (sLen * 2 + news.length)).toArray) := by
  obtain ⟨i, hi, hz0, hz1, hz2⟩ := info_parts Tryd.infoF
  have hst := run_storeCells_at Tryd.prog g (sLen * 2) 50 news 0 cs.toArray w hB (by simpa using hfit) h1
  have hld := run_firstCells_some (P := Tryd.prog) w i.size m a m d news (by rw [hz1]; exact hl) hsrc
  rw [hz1] at hld
  simp only [Nat.add_zero] at hst
  simp [Builtin.append_, run_underlying Tryd.underlying38, sizeOf, typeInfo, hi, Builtin.lenOf, hroom, hz1, hld, Addr.add_lit, hst]

/-- clear of one file. -/
theorem clear_one {w : World} {g : Nat} {cs : List Value} (hB : Blk w g cs 50) (ty : TypeId) (o c : Nat) (hfit : o + 2 ≤ cs.length) :
    (Builtin.clear_ #[38] ty #[.slice (some ⟨g, o, none⟩) 1 c]).run Tryd.prog w = .ok (.tuple #[]) (w.setRow g (cs.take o ++ [zS, zS] ++ cs.drop (o + 2)).toArray) := by
  obtain ⟨i, hi, hz0, hz1, hz2⟩ := info_parts Tryd.infoF
  have hst := run_storeCells_at Tryd.prog g o 50 [zS, zS] 0 cs.toArray w hB (by simpa using hfit) (by simp; rfl)
  simp only [Nat.add_zero] at hst
  have hz : Builtin.zeroCells (Value.agg #[zS, zS]).cells 1 = #[zS, zS] := zero_two 1
  simp [Builtin.clear_, run_underlying Tryd.underlying38, zeroValue, typeInfo, hi, hz0]
  rw [hz, show (#[zS, zS] : Array Value).toList = [zS, zS] from rfl, hst]
  simp [Result.andThen]
end Go.Proofs.YtlmccjdpmhancaaDoor
namespace Go.Proofs.YtlmccjdpmhancaaDoor
open Go.RowKit Go.Shelf

attribute [local go_sem] Oper.semAt_some

/-- Sizes that are asked. -/
def SzE (e : Ent) : Prop := e.path.size < 4294967281 ∧ e.data.size ≤ 140737488355328
def SzF (f : Fil) : Prop := f.1.size < 4294967281 ∧ f.2.size ≤ 140737488355328
instance (f : Fil) : Decidable (SzF f) := by unfold SzF; exact inferInstance
abbrev SF := { f : Fil // SzF f }
def toF (e : Ent) : Option SF := if h : e.has = true ∧ SzF (e.path, e.data) then some ⟨(e.path, e.data), h.2⟩ else none
def filT (es : List Ent) : List SF := es.filterMap toF
theorem filT_val {es : List Ent} (h : ∀ e ∈ es, SzE e) : (filT es).map (·.1) = filesOf es := by
  induction es with
  | nil => rfl
  | cons e es ih =>
    have ih := ih fun x hx => h x (List.mem_cons_of_mem _ hx)
    have he : SzF (e.path, e.data) := h e (by simp)
    rw [filesOf_cons, filT, List.filterMap_cons]
    cases hh : e.has with
    | true => rw [toF, dif_pos ⟨hh, he⟩]; simp only [List.map_cons, if_true]; rw [← ih]; rfl
    | false => rw [toF, dif_neg (by simp [hh]), if_neg (by simp)]; exact ih
theorem filT_more (es : List Ent) (j : Nat) (h : j < es.length) : filT (es.take (j + 1)) = filT (es.take j) ++ (toF es[j]).toList := by
  rw [filT, List.take_add_one, List.getElem?_eq_getElem h, List.filterMap_append]
  simp only [Option.toList, List.filterMap_cons, List.filterMap_nil]
  cases toF es[j] <;> rfl
theorem filT_len (es : List Ent) : (filT es).length ≤ es.length := List.length_filterMap_le ..

theorem files_any (A : Option Addr) (n c : Nat) (w : World) :
    Calls Tryd.prog 18 #[.slice A n c] w fun e w' => e = .returned (.func (.func 38) #[] #[.pointer (some ⟨w.heap.size, 0, none⟩)]) ∧ w' = w.alloc (.cells #[.slice A n c] 22) := by
  have hmf : ∀ (fn : Fn) (first cap : Array Value) (w : World), (Instr.makeFunc fn first cap).run Tryd.prog w = .ok (.func fn first cap) w := fun _ _ _ _ => rfl
  go_enter Tryd.func18, Tryd.ntmps18
  go_wp2
  go_ret
  exact ⟨rfl, rfl⟩

set_option maxRecDepth 100000 in
set_option maxHeartbeats 1000000 in
theorem files1_in (k : Nat) (hk : 1 ≤ k) (l Bn : Nat) (w0 : World) (A : Option Addr) (n c : Nat) (es : List Ent) (hl : es.length = n) (hr : Rd w0 A (entV es)) (hn : n ≤ 1000000) (hsz : ∀ e ∈ es, SzE e) (J Jx : List SF → World → Prop)
    (W : World) (hJ : AbidesFrom W.heap.size J)
    (hY : ∀ pre (x : SF) W, J pre W → pre.length < n → YieldAt Fence.wide (k - 1) Tryd.prog l #[.agg #[.string x.1.1, .string x.1.2]] W fun e W' =>
      (e = .returned (.bool true) ∧ J (pre ++ [x]) W' ∧ Below w0.heap.size W W') ∨ (e = .returned (.bool false) ∧ Jx (pre ++ [x]) W'))
    (hB : W.cell? ⟨Bn, 0, none⟩ = some (.slice A n c)) (hW : Below w0.heap.size w0 W) (h0 : J [] W) :
    CallsIn Fence.wide k Tryd.prog 38 #[.func (.yield l) #[] #[], .pointer (some ⟨Bn, 0, none⟩)] W fun e W' => (∃ v, e = .returned v) ∧
      ((∃ ys, ys = filT es ∧ J ys W') ∨ (∃ pre, pre <+: filT es ∧ Jx pre W')) := by
  refine callsIn_of_wp Tryd.func38 rfl trivial ?_ rfl
  simp only [Tryd.ntmps38, List.size_toArray, List.length_cons, List.length_nil, Nat.reduceAdd, Nat.reduceSub, Array.replicate_succ, Array.replicate_zero, List.push_toArray, List.append_toArray, List.nil_append, List.cons_append]
  have HL := hid hl
  have HS := hid hsz
  clear hl hsz
  gi_wp2
  gi_loopw [7] (fun p wr => ∃ j : Nat, j ≤ n ∧ p = .int .i64 j ∧ Below w0.heap.size w0 wr ∧ J (filT (es.take j)) wr) (fun p _ => n - (intOf p).toNat)
  case atStart => exact ⟨0, by omega, rfl, hW, h0⟩
  case round =>
    obtain ⟨j, hj, rfl, hw, hJj⟩ := hrel
    by_cases hjn : j < n
    · have hjl : j < es.length := by rw [HL.out]; exact hjn
      have hr1 := hr.below hw
      obtain ⟨b, off, rfl, h1, h2, h3, h4, h5, -⟩ := hr1.ent hjl
      have hz : (0 : Int) ≤ j := by omega
      have hlt : (j : Int) < n := by omega
      have HM := hid (filT_more es j hjl)
      have HZ := hid (HS.out es[j] (List.getElem_mem hjl))
      have HPre : Hid (filT (es.take (j + 1)) <+: filT es) := List.IsPrefix.filterMap _ (List.take_prefix _ _)
      have hlen : (filT (es.take j)).length < n := by have := filT_len (es.take j); rw [List.length_take] at this; omega
      have hJ1 := hJ _ _ _ none hJj (World.grownBy_alloc wr (.cells #[.string es[j].path, .bool es[j].has, .string es[j].data, .int .i64 es[j].l, .int .i64 es[j].r] 34) none) (by simp)
      have hw1 := hw.alloc hw.size (.cells #[.string es[j].path, .bool es[j].has, .string es[j].data, .int .i64 es[j].l, .int .i64 es[j].r] 34)
      clear hr1
      generalize es[j] = x at *
      obtain ⟨p, h, d, cl, cr⟩ := x
      simp only at h1 h2 h3 h4 h5 hJ1 hw1
      cases h with
      | false =>
        have HF : Hid (toF ⟨p, false, d, cl, cr⟩ = none) := by show _ = _; rw [toF, dif_neg (by simp)]
        rw [HF.out] at HM
        have HJ2 : Hid (J (filT (es.take (j + 1))) (wr.alloc (.cells #[.string p, .bool false, .string d, .int .i64 cl, .int .i64 cr] 34))) := by rw [HM.out, Option.toList, List.append_nil]; exact hJ1
        clear HM HF HZ hJ1
        gi_wp2
        refine ⟨fun _ h => (by cases h), ?_⟩
        gi_wp2
        go_roundw
        case rel => exact ⟨j + 1, by omega, by go_num, hw1, HJ2.out⟩
        case measure => simp [intOf]; omega
      | true =>
        have HF : Hid (toF ⟨p, true, d, cl, cr⟩ = some ⟨(p, d), HZ.out⟩) := by show _ = _; rw [toF, dif_pos ⟨rfl, HZ.out⟩]
        rw [HF.out] at HM
        obtain ⟨fn, tmps, assign, body, hy, hR⟩ := hY _ ⟨(p, d), HZ.out⟩ _ hJ1 hlen
        dsimp only at hy
        gi_wp2
        refine hR.mono ?_
        rintro e W3 (⟨rfl, hJ3, hk3⟩ | ⟨rfl, hJx3⟩)
        · have HJ3 : Hid (J (filT (es.take (j + 1))) W3) := by rw [HM.out]; exact hJ3
          have hw3 := hw1.trans hk3
          clear hJ3 hk3 HM HF hy hR
          gi_wp2
          go_roundw
          case rel => exact ⟨j + 1, by omega, by go_num, hw3, HJ3.out⟩
          case measure => simp [intOf]; omega
        · have HJ3 : Hid (Jx (filT (es.take (j + 1))) W3) := by rw [HM.out]; exact hJx3
          gi_wp2
          refine bodyPost_ret (results_none rfl _ _ _) rfl ?_
          exact ⟨⟨_, rfl⟩, .inr ⟨_, HPre.out, HJ3.out⟩⟩
    · have HE := hid (show j = n by omega)
      have hnlt : ¬ (j : Int) < n := by omega
      gi_wp2
      go_end0
      refine ⟨⟨_, rfl⟩, .inl ?_⟩
      rw [HE.out, List.take_of_length_le (by rw [HL.out]; omega)] at hJj
      exact hJj
theorem files_stops (k : Nat) (hk : 1 ≤ k) (Bn : Nat) (w0 w : World) (A : Option Addr) (n c : Nat) (es : List Ent) (hl : es.length = n) (hr : Rd w0 A (entV es)) (hn : n ≤ 1000000) (hsz : ∀ e ∈ es, SzE e) (hBn : Bn < w.heap.size) (hc : w.cell? ⟨Bn, 0, none⟩ = some (.slice A n c)) (hw : Below w0.heap.size w0 w) :
    SeqStopsK Fence.wide k Tryd.prog 38 #[.pointer (some ⟨Bn, 0, none⟩)] (fun x : SF => #[Value.agg #[.string x.1.1, .string x.1.2]]) (Below w0.heap.size) (fun ys => ys = filT es) (fun pre => pre <+: filT es) n w := fun l J Jx W hW hJ _ hY h0 =>
  files1_in k hk l Bn w0 A n c es hl hr hn hsz J Jx W hJ hY ((hW.cell (p := ⟨Bn, 0, none⟩) hBn).trans hc) (hw.trans (hW.mono hw.size)) h0

/-! ### slices.Collect of it -/
theorem blk_kept {W W' : World} {row : Option Nat} {g : Nat} {cs : List Value} {t : TypeId} (h : Blk W g cs t) (hg : W.grownBy W' row) (hr : ∀ r, row = some r → ∃ o : Obj, W.heap[r]? = some o ∧ o.isCells = false) : Blk W' g cs t := by
  unfold Blk at h ⊢
  rw [hg.block g (Array.getElem?_eq_some_iff.1 h).1 (fun e => by
    obtain ⟨o, ho, hc⟩ := hr g e.symm
    rw [h] at ho; injection ho with ho; subst ho; cases hc)]
  exact h
/-- append whose run is known. -/
theorem wpAppIn {F : Fence} {n : Nat} {P : Program} {w w' : World} {ops : Array Oper} {rest : List Oper} {o : Oper} {a : Act} {Q : Exit → Act → World → Prop} (hgd : o.guard = none) (s x : Operand) (t : TypeId)
    (ho : o.op = .call { callee := .builtin .append, args := #[s, x], argTypes := #[t, t] }) (v1 v2 v : Value) (hs : a.eval s = v1) (hx : a.eval x = v2)
    (hrun : (Builtin.append_ #[t, t] o.type #[v1, v2]).run P w = .ok v w') (h : wpListIn F n P ops Q rest (a.put o.dst v) w') : wpListIn F n P ops Q (o :: rest) a w := by
  refine wpListIn_plain hgd fun K hK => ?_
  unfold Oper.wpIn
  refine ⟨?_, ?_⟩
  · simp [Oper.about, ho, resolve, Target.leads, Sem.run_pure]
  · rw [Oper.semAt_plain F _ _ (by rw [ho]; intro c hc'; cases hc')]
    simp [execOp, ho, resolve, invoke, builtin, hs, hx, hrun, Result.andThen]
    exact hK _ _ h
/-- A file as one behind what is there already, in a round. -/
theorem app_round {W : World} {n₀ B : Nat} {v : Value} {k : Nat} {xs : List Value} (hv : Boxed W B 38 v) (hrow : W.ownsRow n₀ 50 2 v k xs) (hn : n₀ ≤ W.heap.size) (hB : n₀ ≤ B) (hk : k ≤ 1000000) (f : Fil) :
    ∃ A' c' w1, Hid ((Builtin.append_ #[38, 38] 38 #[v, .slice (some ⟨W.heap.size, 0, none⟩) 1 1]).run Tryd.prog (W.alloc (.cells #[.string f.1, .string f.2] 50)) = .ok (.slice A' (k + 1) c') w1) ∧
      w1.cell? ⟨B, 0, none⟩ = some v ∧ w1.frozen? ⟨B, 0, none⟩ = false ∧ Boxed (w1.setCell ⟨B, 0, none⟩ (.slice A' (k + 1) c')) B 38 (.slice A' (k + 1) c') ∧
      (w1.setCell ⟨B, 0, none⟩ (.slice A' (k + 1) c')).ownsRow n₀ 50 2 (.slice A' (k + 1) c') (k + 1) (xs ++ [.string f.1, .string f.2]) ∧ KeepsOthers W (w1.setCell ⟨B, 0, none⟩ (.slice A' (k + 1) c')) ∧ Below n₀ W (w1.setCell ⟨B, 0, none⟩ (.slice A' (k + 1) c')) ∧ (W.alloc (.cells #[.string f.1, .string f.2] 50)).grownBy w1 v.ownBlock := by
  obtain ⟨i, hi, hz0, hz1, hz2⟩ := info_parts Tryd.infoF
  obtain ⟨v', w1, h2, h3, h4, -⟩ := run_append_own (P := Tryd.prog) (W.alloc (.cells #[.string f.1, .string f.2] 50)) n₀ 38 38 50 i _ 2 32 Tryd.underlying38 hi hz0 hz1 hz2 rfl (by decide) v k xs (hrow.alloc _) ⟨W.heap.size, 0, none⟩ 1 1 [.string f.1, .string f.2] rfl
    (new_cells W 50 [.string f.1, .string f.2]) (by simp [Value.oneCell']) (by unfold maxLen; omega) (by omega) (by simp; omega)
  obtain ⟨g', cap', rfl⟩ := ownsRow_succ h3
  obtain ⟨a1, a2, a3, a4, a5⟩ := hv.appended (by decide) hrow hn hB h3 h4
  exact ⟨_, _, w1, h2, a1.cell, a1.frozen, a2, a3, a4, a5, h4⟩

set_option maxRecDepth 100000 in
set_option maxHeartbeats 2000000 in
theorem appendSeq_any (Bn : Nat) (A : Option Addr) (n c : Nat) (es : List Ent) (w : World) (hl : es.length = n) (hr : Rd w A (entV es)) (hn : n ≤ 1000000) (hsz : ∀ e ∈ es, SzE e) (hc : w.cell? ⟨Bn, 0, none⟩ = some (.slice A n c)) :
    Calls Tryd.prog 37 #[.slice none 0 0, .func (.func 38) #[] #[.pointer (some ⟨Bn, 0, none⟩)]] w fun e w' =>
      ∃ v, e = .returned v ∧ w'.ownsRow w.heap.size 50 2 v (filesOf es).length (filV (filesOf es)) ∧ Below w.heap.size w w' := by
  have hBn := World.block_lt_of_cell? _ _ hc
  refine (callsIn_wide (n := 3)).1 ?_
  refine callsIn_of_wp_marks Tryd.func37 rfl trivial ?_ rfl
  simp only [Tryd.ntmps37, List.size_toArray, List.length_cons, List.length_nil, Nat.reduceAdd, Nat.reduceSub, Array.replicate_succ, Array.replicate_zero, List.push_toArray, List.append_toArray, List.nil_append, List.cons_append]
  gi_wp2
  have bO := Boxed.new w 38 (.slice none 0 0)
  have hB0 : Below w.heap.size w (w.alloc (.cells #[.slice none 0 0] 38)) := (Below.refl _ _).alloc (Nat.le_refl _) _
  have hs0 : (w.alloc (.cells #[.slice none 0 0] 38)).heap.size = w.heap.size + 1 := by simp
  have hc0 := (hB0.cell (p := ⟨Bn, 0, none⟩) hBn).trans hc
  obtain ⟨W0, hW0⟩ : ∃ W0, w.alloc (.cells #[.slice none 0 0] 38) = W0 := ⟨_, rfl⟩
  rw [hW0] at bO hB0 hs0 hc0 ⊢
  clear hW0
  refine wpIn_rangeFunc_ownH rfl (by omega) (gf := 38) (lb := #[.pointer (some ⟨Bn, 0, none⟩)]) rfl trivial (enters_of Tryd.func38 (by kernel_rfl) rfl)
    (files_stops _ (by omega) Bn w W0 A n c es hl hr hn hsz (by omega) hc0 hB0) belowK_t (belowK_b (by omega)) (Below.refl _ _) (fun _ => rfl)
    (fun (pre : List SF) W => (∃ v, Boxed W w.heap.size 38 v ∧ W.ownsRow w.heap.size 50 2 v pre.length (filV (pre.map (·.1))) ∧ True) ∧ Below w.heap.size w W)
    (fun _ _ _ => False)
    (OwnFrom.and (Own.from (holdsRow_own w.heap.size w.heap.size 38 50 2 (fun (pre : List SF) => pre.length) (fun pre => filV (pre.map (·.1))) (fun _ _ => True)) _) (ownFrom_below (Nat.le_refl _) (by omega)))
    (fun _ _ _ _ _ hs _ _ => hs)
    ⟨⟨_, bO, World.ownsRow_nil _ _ _ _, trivial⟩, hB0⟩
    (fun x a' W => ∃ Bx, w.heap.size < Bx ∧ Blk W Bx [.string x.1.1, .string x.1.2] 50 ∧ a' = { tmps := #[.slice none 0 0, .func (.func 38) #[] #[.pointer (some ⟨Bn, 0, none⟩)], .pointer (some ⟨w.heap.size, 0, none⟩), undef, .slice none 0 0, .pointer (some ⟨Bx, 0, none⟩), .func (.func 38) #[] #[.pointer (some ⟨Bn, 0, none⟩)], .agg #[.string x.1.1, .string x.1.2], undef, undef, undef, undef, undef], defers := [] })
    (fun x a' _ X Y row hs hg hr => by obtain ⟨Bx, h1, h2, h3⟩ := hs; exact ⟨Bx, h1, blk_kept h2 hg (fun r e => (hr r e).2), h3⟩)
    ?assign ?body ?done ?stop
  case assign =>
    rintro l pre x W K ⟨⟨v, hv, hrow, -⟩, hB⟩ hK
    gi_wp2
    exact hK _ _ ((KeepsOthers.alloc _ _).from _) ((Below.refl _ W).alloc hB.size _) ⟨⟨v, hv.alloc _, hrow.alloc _, trivial⟩, hB.alloc hB.size _⟩ ⟨W.heap.size, hv.lt, Blk.new W _ _, rfl⟩
  case body =>
    rintro l pre x a' W hl ⟨r, hr⟩ ⟨⟨v, hv, hrow, -⟩, hB⟩ ⟨Bx, hBx, bX, rfl⟩ hlt
    have hcv := hv.cell
    have x0 := bX.cell 0
    have x1 := bX.cell 1
    simp only [List.getElem?_cons_zero, List.getElem?_cons_succ] at x0 x1
    obtain ⟨A', c', w1, HRUN, c1, c2, c3, c4, c5, c6, -⟩ := app_round hv hrow hB.size (Nat.le_refl _) (by omega) x.1
    gi_wp2_with (gi_at_builtin; refine wpAppIn rfl (.tmp 8) (.tmp 10) 38 rfl _ _ _ rfl rfl HRUN.out ?_)
    exact ⟨c5.from _, c6, ⟨_, c3, by simpa [filV_append, filV] using c4, trivial⟩, hB.trans c6⟩
  case done =>
    rintro D ys W hD rfl ⟨⟨v, hv, hrow, -⟩, hB⟩ hK
    rw [show (filT es).length = (filesOf es).length by rw [← filT_val hsz, List.length_map], filT_val hsz] at hrow
    have hcv := hv.cell
    gi_wp2
    refine ⟨by simp, .inl ⟨_, _, rfl, run_takeDeferred hK, ?_⟩⟩
    exact ⟨_, results_tmp rfl _ _ _, v, rfl, ownsRow_putObj hrow _ hK rfl, hB.trans (belowK_b (w := w) (Nat.le_refl _) W D _ _ (by omega) hK rfl rfl)⟩
  case stop =>
    rintro D c pre W _ _ h _
    exact h.elim
end Go.Proofs.YtlmccjdpmhancaaDoor
namespace Go.Proofs.YtlmccjdpmhancaaDoor
open Go.RowKit

/-- Files in memory of the call's own. -/
theorem own2_ft {w : World} {base : Nat} {v : Value} {fs : List Fil} (h : w.ownsRow base 50 2 v fs.length (filV fs)) (hn : fs.length ≤ 1000000) (hs : ∀ f ∈ fs, SzF f) : ∃ A c, v = .slice A fs.length c ∧ Ft w A fs.length c fs := by
  rcases h.2 with ⟨rfl, h0⟩ | ⟨g, cap, cur, rfl, _, _, h1, h2, _⟩
  · exact ⟨none, 0, by rw [h0], rfl, .inl (List.eq_nil_of_length_eq_zero (by rw [filV_length, h0])), by omega, by omega, by omega, hs⟩
  · exact ⟨_, cap, rfl, rfl, .inr ⟨_, rfl, h.cells (g := g) rfl⟩, h1, by omega, h2, hs⟩
theorem files_sz {es : List Ent} (h : ∀ e ∈ es, SzE e) : ∀ f ∈ filesOf es, SzF f := by
  intro f hf
  obtain ⟨e, he, -, rfl⟩ := mem_files.1 hf
  exact h e he
set_option maxHeartbeats 400000 in
theorem collect_any (Bn : Nat) (A : Option Addr) (n c : Nat) (es : List Ent) (w : World) (hl : es.length = n) (hr : Rd w A (entV es)) (hn : n ≤ 1000000) (hsz : ∀ e ∈ es, SzE e) (hc : w.cell? ⟨Bn, 0, none⟩ = some (.slice A n c)) :
    Calls Tryd.prog 17 #[.func (.func 38) #[] #[.pointer (some ⟨Bn, 0, none⟩)]] w fun e w' =>
      ∃ B d, e = .returned (.slice B (filesOf es).length d) ∧ Ft w' B (filesOf es).length d (filesOf es) ∧ Below w.heap.size w w' := by
  have c0 := appendSeq_any Bn A n c es w hl hr hn hsz hc
  have HS := hid (files_sz hsz)
  have HN := hid (filesOf_len es)
  clear hc hr hsz
  go_enter Tryd.func17, Tryd.ntmps17
  go_wp2_with fail
  refine c0.mono ?_
  clear c0
  rintro e w1 ⟨v, rfl, hrow, hb⟩
  obtain ⟨B, d, rfl, hft⟩ := own2_ft hrow (by have := HN.out; omega) HS.out
  go_wp2
  go_ret
  exact ⟨B, d, rfl, hft, hb⟩

theorem all_take_moreE (q : Ent → Bool) (l : List Ent) (j : Nat) (h : j < l.length) : (l.take (j + 1)).all q = ((l.take j).all q && q l[j]) := all_take_more q l j h
set_option maxHeartbeats 2000000 in
theorem archR_any {w : World} {A : Option Addr} {n c : Nat} {es : List Ent} (h : Et w A n c es) :
    Calls Tryd.prog 7 #[.slice A n c] w fun e w' => e = .returned (.bool (archR es)) ∧ Below w.heap.size w w' := by
  have hr := h.rd
  have hnb := h.big
  have HF : Hid (∀ e ∈ es, SzE e) := h.sz
  have HL := hid h.len
  clear h
  by_cases h32 : (32 : Int) < n
  · go_enter Tryd.func7, Tryd.ntmps7
    go_wp2
    go_ret
    refine ⟨ret_bool ?_, Below.refl _ _⟩
    symm
    refine archR_no fun h => ?_
    have := h.few
    have := HL.out
    omega
  · have hmk := make_strs n (by omega)
    go_enter Tryd.func7, Tryd.ntmps7
    go_upto_region 5 with (fail)
    go_loopw [14] (fun i wr => ∃ j : Nat, j ≤ n ∧ i = .int .i64 j ∧ Blk wr w.heap.size (fill (strV (es.map (·.path))) (.string ⟨#[]⟩) j) 9 ∧ Below w.heap.size w wr ∧ Hid ((es.take j).all fineE = true)) (fun i _ => n - (intOf i).toNat)
    case atStart =>
      refine ⟨0, by omega, rfl, ?_, (Below.refl _ _).alloc (Nat.le_refl _) _, by simp [Hid]⟩
      have := Blk.new w (List.replicate n (Value.string ⟨#[]⟩)) 9
      rw [fill_zero, strV_length, List.length_map, HL.out]
      simpa using this
    case round =>
      obtain ⟨j, hj, rfl, hblk, hb, HO⟩ := hrel
      by_cases hjn : j < n
      · have hjl : j < es.length := by rw [HL.out]; exact hjn
        have hr1 := hr.below hb
        obtain ⟨b, off, rfl, h1, h2, h3, h4, h5, -⟩ := hr1.ent hjl
        have hz : (0 : Int) ≤ j := by omega
        have hlt : (j : Int) < n := by omega
        clear hr1
        go_upto_region 7 with (fail)
        have HK := hid (all_take_more fineE es j hjl)
        have HX := hid (show (strV (es.map (·.path)))[j]? = some (.string es[j].path) by simp [strV, hjl])
        have hblk2 := hblk.below ((Below.refl _ _).alloc (Nat.le_refl _) (.cells #[.string es[j].path, .bool es[j].has, .string es[j].data, .int .i64 es[j].l, .int .i64 es[j].r] 34))
        have hb2 := hb.alloc hb.size (.cells #[.string es[j].path, .bool es[j].has, .string es[j].data, .int .i64 es[j].l, .int .i64 es[j].r] 34)
        have k := Blk.new wr [.string es[j].path, .bool es[j].has, .string es[j].data, .int .i64 es[j].l, .int .i64 es[j].r] 34
        have HM := hid (List.getElem_mem hjl)
        clear hblk hb h1 h2 h3 h4 h5
        generalize es[j] = f at *
        generalize wr.alloc (.cells #[.string f.path, .bool f.has, .string f.data, .int .i64 f.l, .int .i64 f.r] 34) = wa at *
        generalize wr.heap.size = g at *
        have k1 := k.cell 0
        have k2 := k.cell 1
        have k3 := k.cell 2
        have k4 := k.cell 3
        have k5 := k.cell 4
        simp only [List.getElem?_cons_zero, List.getElem?_cons_succ] at k1 k2 k3 k4 k5
        go_wp2_with fail
        refine (efine_any f _).mono ?_
        rintro e w1 ⟨rfl, hb1⟩
        have hblk3 := hblk2.below hb1
        have hb3 := hb2.trans (hb1.mono hb2.size)
        have k6 := (k.below hb1).cell 0
        simp only [List.getElem?_cons_zero] at k6
        clear hblk2 hb2 k k1 k2 k3 k4 k5 hb1
        cases hq : fineE f with
        | false =>
          have HQ := hid hq
          clear hq
          go_wp2
          go_ret
          refine ⟨ret_bool ?_, hb3⟩
          symm
          refine archR_no fun h => ?_
          have := h.fine f HM.out
          rw [HQ.out] at this
          cases this
        | true =>
          have c1 := hblk3.cell j
          rw [fill_at _ _ _ (by rw [strV_length, List.length_map]; exact hjl)] at c1
          have c2 := hblk3.frozen j
          have hblk4 := hblk3.set_ j (.string f.path)
          rw [fill_set _ _ _ _ HX.out] at hblk4
          have hb4 : Below w.heap.size w (w1.setCell ⟨w.heap.size, j, none⟩ (.string f.path)) := hb3.grown (grown_set j _) hb3.size (by intro k hk; injection hk with hk; omega)
          clear hblk3
          go_wp2
          go_roundw
          case rel => exact ⟨j + 1, by omega, by go_num, hblk4, hb4, hid (by rw [HK.out, HO.out, hq]; rfl)⟩
          case measure => simp [intOf]; omega
      · have HE := hid (show j = n by omega)
        have hnlt : ¬ (j : Int) < n := by omega
        have ho := HO.out
        have e1 : j = es.length := by rw [HL.out]; omega
        rw [e1, List.take_length] at ho
        have HD := hid ho
        have e2 : (strV (es.map (·.path))).length = es.length := by rw [strV_length, List.length_map]
        rw [show j = (strV (es.map (·.path))).length by rw [e2]; exact e1, fill_all] at hblk
        have hrd : Rd wr (some ⟨w.heap.size, 0, none⟩) (strV (es.map (·.path))) := hblk.rd
        have HLL := hid (show lst (es.map (·.path)) = es.map epth by simp [lst, epth])
        have HFN := hid (show (es.map (·.path)).length = n by rw [List.length_map, HL.out])
        have HSS : Hid (∀ s ∈ es.map (·.path), s.size < 4294967281) := by
          intro s hs
          obtain ⟨f, hf, rfl⟩ := List.mem_map.1 hs
          exact (HF.out f hf).1
        clear ho e1 e2 hblk HO
        have hn32 : es.length ≤ 32 := by rw [HL.out]; omega
        have HT := hid (show archR es = (sortedL (es.map epth) && treeR (filesOf es)) by rw [archR, HD.out, decide_eq_true hn32]; rfl)
        clear hn32
        go_wp2_with fail
        refine (sorted_any _ n n (es.map (·.path)) _ HFN.out hrd (by omega) HSS.out).mono ?_
        rintro e w1 ⟨rfl, hb1⟩
        rw [HLL.out]
        have hb1' := below2 hb hb1
        clear hrd hb hb1
        cases hq : sortedL (es.map epth)
        · rw [hq] at HT
          go_wp2
          go_ret
          exact ⟨ret_bool HT.out.symm, hb1'⟩
        · rw [hq, Bool.true_and] at HT
          have hr1 := hr.below hb1'
          go_wp2_with fail
          refine (files_any A n c _).mono ?_
          rintro e w2 ⟨rfl, rfl⟩
          go_wp2_with fail
          refine (collect_any w1.heap.size A n c es _ HL.out (hr1.alloc _) hnb HF.out (Boxed.new w1 _ _).cell).mono ?_
          rintro e w3 ⟨B, d, rfl, hft, hb3⟩
          have hb3' := below2 hb1' (below_new _ hb3)
          clear hb1' hb3 hr1
          go_wp2_with fail
          refine (tree_any hft).mono ?_
          rintro e w4 ⟨rfl, hb4⟩
          go_wp2
          go_ret
          exact ⟨ret_bool HT.out.symm, below2 hb3' hb4⟩

def findE (es : List Ent) (p : ByteArray) : Int := if archR es then idxE es p else -1
end Go.Proofs.YtlmccjdpmhancaaDoor
namespace Go.Proofs.YtlmccjdpmhancaaDoor
open Go.RowKit

def noDefer (ops : Array Oper) : Bool := ops.all fun o => match o.op with
  | .defer _ => false
  | _ => true
theorem noDefer_at {ops : Array Oper} (h : noDefer ops = true) {i : Nat} {o : Oper} (ho : ops[i]? = some o) : ∀ c, o.op ≠ .defer c := by
  intro c hc
  have := (Array.all_eq_true.1 h) i (Array.getElem?_eq_some_iff.1 ho).1
  rw [(Array.getElem?_eq_some_iff.1 ho).2, hc] at this
  cases this
theorem op_round {l n : Nat} {P : Program} {o : Oper} {a : Act} {w : World} {K : Act → World → Prop} {Q : Exit → Act → World → Prop} (hd : ∀ c, o.op ≠ .defer c) (h : o.wp P a w K Q) : o.wpIn (Fence.wide.inRound l) n P a w K Q := by
  unfold Oper.wpIn
  refine ⟨fun _ _ => trivial, ?_⟩
  rw [Oper.semAt_eq _ _ _ hd]
  unfold Oper.wp at h
  generalize (execOp a.eval o).run P w = r at *
  cases r with
  | ok x w' =>
    cases x with
    | enter f args => exact ⟨fun h => (by cases h), CallsIn.inRound l (callsIn_wide.2 h)⟩
    | row rw_ args => exact ⟨fun h => (by cases h), fun c cs _ => by obtain ⟨v, w2, r, s⟩ := h c cs; exact ⟨v, w2, r, stepsIn_wide.2 s⟩⟩
    | round => exact h.elim
    | _ => exact h
  | halt x w' => cases x <;> exact h
theorem any_round {l n : Nat} {P : Program} {md : Region.Mode} {ops : Array Oper} {Q : Exit → Act → World → Prop} (hd : noDefer ops = true) (hno : ¬ LetsOut Q) :
    ∀ (fuel : Nat) (listed : Array Bool) (a : Act) (w : World), wpAny P md ops Q fuel listed a w → wpAnyIn (Fence.wide.inRound l) n P md ops Q fuel listed a w
  | 0, _, _, _, h => h
  | fuel + 1, listed, a, w, h => by
    refine ⟨h.1, fun i hi => ?_⟩
    have h1 := wpOp_mono (K' := wpAnyIn (Fence.wide.inRound l) n P md ops Q fuel (listed.setIfInBounds i true)) (fun a' w' h' => any_round (l := l) (n := n) hd hno fuel _ a' w' h') (h.2 i hi)
    unfold wpOp at h1
    unfold wpOpIn
    cases ho : ops[i]? with
    | none => rw [ho] at h1; exact h1
    | some o =>
      rw [ho] at h1
      simp only at h1 ⊢
      split
      · rename_i hw
        rw [if_pos hw] at h1
        rcases h1 with h1 | ⟨-, h1⟩
        · exact op_round (noDefer_at hd ho) h1
        · exact absurd h1 hno
      · rename_i hw
        rw [if_neg hw] at h1
        exact ⟨fun _ _ => trivial, h1⟩
/-- The beginning: as 'wp_region_held_drew', in a round. -/
theorem in_round {id l n : Nat} {P : Program} {ops : Array Oper} {Q : Exit → Act → World → Prop} {S : World → Prop} {a : Act} {w : World} (hm : P.follows .mixedOrders = true) (hd : noDefer ops = true) (hno : ¬ LetsOut Q) (hS : S w.drew)
    (h : S w.drew → wpAnyH P .any ops Q S ops.size (Array.replicate ops.size false) a w.drew) : (Code.region id ops true).wpIn (Fence.wide.inRound l) n P Q a w :=
  wpIn_region_any hm (any_round hd hno _ _ _ _ (wpAny_of_held _ _ _ _ (h hS)))
end Go.Proofs.YtlmccjdpmhancaaDoor
