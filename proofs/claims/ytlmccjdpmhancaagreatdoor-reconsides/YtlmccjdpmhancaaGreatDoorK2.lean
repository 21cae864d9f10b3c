/- The texts Tc, Td, Te, Tf, Sb, Sc, Cp, Tg, in one. -/
import Derived.Test.YtlmccjdpmhancaaGreatDoorK1
import Derived.Deep.DeepCutAuto
import Derived.Deep.OwnRows
import Derived.Laws.StructEq
import Derived.Handy
import Derived.BigQuiet
import Derived.Deep.RegionHeld3
import Derived.Deep.AppendSrc
import Derived.Lib.AppendZeros
import Derived.Laws.CopyRow
import Derived.Laws.CopyOwn
namespace Go.Proofs.YtlmccjdpmhancaaGreatDoor
open Go.RowKit

theorem Rd.fil {w : World} {A : Option Addr} {fs : List Fil} (h : Rd w A (filV fs)) {j : Nat} (hj : j < fs.length) :
    ∃ b off, A = some ⟨b, off, none⟩ ∧ w.cell? ⟨b, off + j * 2, none⟩ = some (.string fs[j].1) ∧ w.cell? ⟨b, off + j * 2 + 1, none⟩ = some (.string fs[j].2) ∧ b < w.heap.size := by
  have hl := filV_length fs
  obtain ⟨b, off, rfl, h1, hb⟩ := h.at_ (k := j * 2) (by omega)
  have e1 := filV_at0 fs j hj
  have e2 := filV_at1 fs j hj
  rw [List.getElem?_eq_getElem (by omega)] at e1
  refine ⟨b, off, rfl, by rw [h1]; exact e1, ?_, hb⟩
  rw [Nat.add_assoc]
  rcases h with h | ⟨ad, he, hc⟩
  · rw [h] at hl
    simp at hl
    omega
  · injection he with he
    subst he
    have := hc _ _ e2
    rwa [Addr.add_lit] at this
theorem below_drewN {B : Nat} {a b : World} (h : Below B a b) (n : Nat) : Below B a (b.drewN n) := ⟨h.os, h.tape, h.output, h.size, h.block⟩

set_option maxHeartbeats 400000 in
theorem geq_any (ba bx : Nat) (A : Option Addr) (n c : Nat) (fs : List Fil) (p : ByteArray) (i : Nat) (W : World) (hl : fs.length = n) (hi : i < n)
    (ha : W.cell? ⟨ba, 0, none⟩ = some (.slice A n c)) (hx : W.cell? ⟨bx, 0, none⟩ = some (.string p)) (hr : Rd W A (filV fs)) :
    Calls Tryz.prog 100 (#[.int .i64 i] ++ #[.pointer (some ⟨ba, 0, none⟩), .pointer (some ⟨bx, 0, none⟩)]) W fun e w' => e = .returned (.bool (!Op.bytesLess (pth (fs[i]'(by omega))) p.data.toList)) ∧ Below W.heap.size W w' := by
  have hif : i < fs.length := by omega
  obtain ⟨b, off, rfl, h1, -, -⟩ := hr.fil hif
  unfold pth
  generalize fs[i].1 = x at h1 ⊢
  clear hr hl hif
  have hz : (0 : Int) ≤ i := by omega
  have hlt : (i : Int) < n := by omega
  go_enter Tryz.func100, Tryz.ntmps100
  go_wp2
  go_quiet (fail)
  go_wp2
  go_ret
  exact ⟨ret_bool (by rw [Lib.toList_data, Lib.toList_data]), below_drewN (Below.refl _ _) _⟩

theorem box2 (w : World) (v u : Value) (s t : TypeId) : ((w.alloc (.cells #[v] s)).alloc (.cells #[u] t)).cell? ⟨w.heap.size, 0, none⟩ = some v ∧ ((w.alloc (.cells #[v] s)).alloc (.cells #[u] t)).cell? ⟨w.heap.size + 1, 0, none⟩ = some u := by
  constructor
  · rw [World.cell?_alloc_past _ _ _ (by simp), World.cell?_alloc_at _ _ _ _ (by simp)]; rfl
  · rw [World.cell?_alloc_at _ _ _ _ (by simp)]; rfl

set_option maxHeartbeats 1000000 in
theorem place_any (A : Option Addr) (n c : Nat) (fs : List Fil) (p : ByteArray) (w : World) (hl : fs.length = n) (hs : Srt fs) (hr : Rd w A (filV fs)) (hn : n ≤ 140737488355328) :
    Calls Tryz.prog 65 #[.slice A n c, .string p] w fun e w' => e = .returned (.tuple #[.int .i64 ((lowT fs p.data.toList).length : Nat), .bool (thereT fs p.data.toList)]) ∧ Below w.heap.size w w' := by
  have hmf : ∀ (fn : Fn) (first cap : Array Value) (w : World), (Instr.makeFunc fn first cap).run Tryz.prog w = .ok (.func fn first cap) w := fun _ _ _ _ => rfl
  have HA := hid (@there_at fs p.data.toList hs)
  have hk : (lowT fs p.data.toList).length ≤ n := by rw [← hl]; exact low_len _
  have HS := hid (fun i (hi : i < fs.length) => @low_at fs p.data.toList hs i hi)
  generalize (lowT fs p.data.toList).length = k at *
  generalize thereT fs p.data.toList = th at *
  go_enter Tryz.func65, Tryz.ntmps65
  go_wp2_with fail
  obtain ⟨c1, c2⟩ := box2 w (.slice A n c) (.string p) 36 9
  have hr2 : Rd ((w.alloc (.cells #[.slice A n c] 36)).alloc (.cells #[.string p] 9)) A (filV fs) := (hr.alloc _).alloc _
  have hbb : Below w.heap.size w ((w.alloc (.cells #[.slice A n c] 36)).alloc (.cells #[.string p] 9)) := ((Below.refl _ _).alloc (Nat.le_refl _) _).alloc (by simp) _
  have hsz : w.heap.size + 1 < ((w.alloc (.cells #[.slice A n c] 36)).alloc (.cells #[.string p] 9)).heap.size := by simp
  generalize ((w.alloc (.cells #[.slice A n c] 36)).alloc (.cells #[.string p] 9)) = w2 at c1 c2 hr2 hbb hsz ⊢
  refine (search_any 100 _ n k w2 (enters_of Tryz.func100 (by kernel_rfl) rfl) (by omega) hk ?_).mono ?_
  · intro W i hi hbW
    refine (geq_any w.heap.size (w.heap.size + 1) A n c fs p i W hl hi ((hbW.cell (by show w.heap.size < _; omega)).trans c1) ((hbW.cell (by show w.heap.size + 1 < _; omega)).trans c2) (hr2.below hbW)).mono ?_
    rintro e w' ⟨rfl, hb'⟩
    refine ⟨ret_bool ?_, below2 hbW hb'⟩
    rw [HS.out i (by omega)]
    by_cases h : i < k
    · simp [h]
    · simp [h]; omega
  rintro e w3 ⟨rfl, hb3⟩
  have d1 := (hb3.cell (p := ⟨w.heap.size, 0, none⟩) (by show w.heap.size < _; omega)).trans c1
  have d2 := (hb3.cell (p := ⟨w.heap.size + 1, 0, none⟩) (by show w.heap.size + 1 < _; omega)).trans c2
  have hr3 := hr2.below hb3
  have hb3' := hbb.trans (hb3.mono hbb.size)
  clear c1 c2 hr2 hbb hb3 hr hsz
  by_cases hkn : k < n
  · obtain ⟨b, off, rfl, h1, -, -⟩ := hr3.fil (j := k) (by omega)
    have HT := hid (show th = true ↔ fs[k].1.data.toList = p.data.toList from ⟨fun h => (HA.out.1 h).2, fun h => HA.out.2 ⟨by omega, h⟩⟩)
    generalize fs[k].1 = x at h1 HT
    have hz : (0 : Int) ≤ k := by omega
    have hlt : (k : Int) < n := by omega
    clear hr3
    go_wp2_with fail
    go_quiet (fail)
    go_wp2
    go_ret2
    have et : (x.toList == p.toList) = th := by
      rw [Lib.toList_data, Lib.toList_data, Bool.eq_iff_iff, beq_iff_eq]
      exact HT.out.symm
    exact ⟨by rw [← et]; rfl, below_drewN hb3' _⟩
  · have hnlt : ¬ (k : Int) < n := by omega
    go_wp2_with fail
    go_quiet (fail)
    go_wp2
    go_ret2
    have et : th = false := not_true fun h => absurd (HA.out.1 h).1 (by omega)
    exact ⟨by rw [et]; rfl, below_drewN hb3' _⟩
end Go.Proofs.YtlmccjdpmhancaaGreatDoor
namespace Go.Proofs.YtlmccjdpmhancaaGreatDoor
open Go.RowKit


/-- Which file is the first that clashes. -/
def IdxPost (w : World) (b : Bool) (e : Ending) (w' : World) : Prop := ∃ k : Int, e = .returned (.int .i64 k) ∧ decide (0 ≤ k) = b ∧ Below w.heap.size w w'
theorem any_take_step {α : Type} (q : α → Bool) (l : List α) (j : Nat) (h : j < l.length) : (l.take (j + 1)).any q = ((l.take j).any q || q l[j]) := by
  rw [List.take_add_one, List.getElem?_eq_getElem h, List.any_append]
  simp

/-! ### None is under another one -/
theorem prefix_mid : ∀ (d s r : List UInt8), d < s → s ≤ d ++ r → Lib.hasPrefix s d = true
  | [], s, r, _, _ => by simp [Lib.hasPrefix]
  | c :: d, [], r, h, _ => by simp at h
  | c :: d, x :: s, r, h, h2 => by
    have h2' : x :: s < c :: (d ++ r) ∨ x :: s = c :: (d ++ r) := List.le_iff_lt_or_eq.1 h2
    rw [List.cons_lt_cons_iff] at h h2'
    have key : c = x ∧ d < s ∧ s ≤ d ++ r := by
      rcases h with h | ⟨e, h⟩
      · rcases h2' with (h3 | ⟨e3, _⟩) | h3
        · exact absurd h (UInt8.lt_asymm h3)
        · rw [e3] at h; exact absurd h (UInt8.lt_irrefl _)
        · injection h3 with e3 _; rw [e3] at h; exact absurd h (UInt8.lt_irrefl _)
      · rcases h2' with (h3 | ⟨_, h3⟩) | h3
        · rw [e] at h3; exact absurd h3 (UInt8.lt_irrefl _)
        · exact ⟨e, h, List.le_of_lt h3⟩
        · injection h3 with _ e3; exact ⟨e, h, by rw [e3]; exact List.le_refl _⟩
    have := prefix_mid d s r key.2.1 key.2.2
    rw [Lib.hasPrefix] at this ⊢
    simp [key.1, this]
theorem under_mid {d s t : List UInt8} (h1 : d < s) (h2 : s ≤ t) (h3 : Lib.hasPrefix s d = false) : underL t d = false := by
  refine not_true fun h => ?_
  unfold underL at h
  rw [Bool.and_eq_true, pre_iff] at h
  obtain ⟨_, r, rfl⟩ := h
  rw [prefix_mid d s (47 :: r) h1 h2] at h3
  cases h3
theorem apart_idx (L : List (List UInt8)) : apartL L = true ↔ ∀ i k (_ : i < k) (hk : k < L.length), underL L[k] (L[i]'(by omega)) = false := by
  rw [apart_iff, List.pairwise_iff_getElem]
  exact ⟨fun h i k hik hk => h i k (by omega) hk hik, fun h i k _ hk hik => h i k hik hk⟩

set_option maxHeartbeats 2000000 in
theorem apart_any (A : Option Addr) (n c : Nat) (ls : List ByteArray) (w : World) (hl : ls.length = n) (hnc : n ≤ c) (hcm : c ≤ 140737488355328) (hr : Rd w A (strV ls)) (hs : (lst ls).Pairwise (· < ·)) (hss : ∀ s ∈ ls, s.size < 4294967281) :
    Calls Tryz.prog 81 #[.slice A n c] w fun e w' => e = .returned (.bool (apartL (lst ls))) ∧ Below w.heap.size w w' := by
  have HI := hid (apart_idx (lst ls))
  have HP := hid (List.pairwise_iff_getElem.1 hs)
  have HL := hid (show (lst ls).length = n by rw [lst_length]; exact hl)
  have HL2 := hid hl
  have HS := hid hss
  have HA := hid (fun j (h : j < ls.length) (h' : j < (lst ls).length) => (show (lst ls)[j] = ls[j].data.toList by simp [lst]))
  clear hl hs hss
  generalize lst ls = L at *
  go_enter Tryz.func81, Tryz.ntmps81
  go_wp2_with fail
  go_loopw [9] (fun i wr => ∃ j : Nat, j ≤ n ∧ i = .int .i64 j ∧ Hid (∀ i k (hi : i < j) (hik : i < k) (hk : k < L.length), underL L[k] (L[i]'(by omega)) = false) ∧ Below w.heap.size w wr) (fun i _ => n - (intOf i).toNat)
  case atStart => exact ⟨0, by omega, rfl, hid (fun i k hi => absurd hi (by omega)), Below.refl _ _⟩
  case round =>
    obtain ⟨i, hi, rfl, HO, hb⟩ := hrel
    by_cases hin : i < n
    · have hil : i < ls.length := by rw [HL2.out]; exact hin
      have hr1 := hr.below hb
      obtain ⟨b, off, rfl, h1, -⟩ := hr1.at_ (k := i) (by rw [strV_length]; exact hil)
      have h2 : wr.cell? ⟨b, off + i, none⟩ = some (.string ls[i]) := by rw [h1]; simp [strV]
      have hz : (0 : Int) ≤ i := by omega
      have hlt : (i : Int) < n := by omega
      clear h1 hr1
      by_cases hci : c = i + 1
      · have hnn : n - (i + 1) = 0 := by omega
        have hn1 : n = i + 1 := by omega
        have HN := hid hn1
        clear hn1
        go_upto_region 5 with (fail)
        go_loopw [19] (fun v wx => v = .int .i64 0 ∧ wr = wx) (fun _ _ => 0)
        case atStart => exact ⟨rfl, rfl⟩
        case round =>
          obtain ⟨rfl, rfl⟩ := hrel
          go_wp2
          go_roundw
          case rel =>
            refine ⟨i + 1, by omega, by go_num, hid (fun i' k hi' hik hk => ?_), hb⟩
            have := HN.out
            have := HL.out
            exact HO.out i' k (by omega) hik hk
          case measure => simp [intOf]; omega
      · have HW := hid hb
        go_upto_region 5 with (fail)
        go_loopw [19] (fun v wx => ∃ j : Nat, j ≤ n - (i + 1) ∧ v = .int .i64 j ∧ Hid (∀ k (hk : k < L.length) (hik : i < k), k < i + 1 + j → underL L[k] (L[i]'(by omega)) = false) ∧ Below w.heap.size w wx) (fun v _ => n - (i + 1) - (intOf v).toNat)
        case atStart => exact ⟨0, by omega, rfl, hid (fun k hk hik h => absurd h (by omega)), hb⟩
        case round =>
          clear hb h2
          obtain ⟨j, hj, rfl, HJ, hb⟩ := hrel
          have hLi : i < L.length := by have := HL.out; omega
          have HAi := hid (HA.out i hil hLi)
          by_cases hjn : j < n - (i + 1)
          · have hkl : i + 1 + j < ls.length := by have := HL2.out; omega
            have hLk : i + 1 + j < L.length := by have := HL.out; omega
            have HAk := hid (HA.out (i + 1 + j) hkl hLk)
            have hr1 := hr.below hb
            obtain ⟨b', off', he, h1, -⟩ := hr1.at_ (k := i + 1 + j) (by rw [strV_length]; exact hkl)
            injection he with he
            injection he with he1 he2
            subst he1 he2
            have h3 : wr.cell? ⟨b, off + (i + 1) + j, none⟩ = some (.string ls[i + 1 + j]) := by
              rw [Nat.add_assoc off, h1]
              simp [strV]
            have hsi := HS.out ls[i] (List.getElem_mem hil)
            have hsk := HS.out ls[i + 1 + j] (List.getElem_mem hkl)
            have HPk := hid (HP.out i (i + 1 + j) hLi hLk (by omega))
            clear h1 hr1
            generalize ls[i + 1 + j] = x at *
            generalize ls[i] = y at *
            have hz2 : (0 : Int) ≤ j := by omega
            have hlt2 : (j : Int) < ((n - (i + 1) : Nat) : Int) := by omega
            go_wp2_with fail
            refine (Tryz.strings_HasPrefix _ _ _).mono ?_
            rintro e w1 ⟨rfl, rfl⟩
            cases hp : Lib.hasPrefix x.data.toList y.data.toList
            · have HPP := hid hp
              clear hp
              go_wp2
              go_roundw
              case rel =>
                refine ⟨i + 1, by omega, by go_num, hid (fun i' k hi' hik hk => ?_), hb⟩
                by_cases hii : i' < i
                · exact HO.out i' k hii hik hk
                · obtain rfl : i' = i := by omega
                  by_cases hkj : k < i' + 1 + j
                  · exact HJ.out k hk hik hkj
                  · refine under_mid HPk.out ?_ ?_
                    · by_cases hke : k = i' + 1 + j
                      · subst hke; exact List.le_refl _
                      · exact List.le_of_lt (HP.out (i' + 1 + j) k hLk hk (by omega))
                    · rw [HAi.out, HAk.out]; exact HPP.out
              case measure => simp [intOf]; omega
            · go_wp2_with fail
              refine (under_any _ _ _ hsk hsi).mono ?_
              rintro e w2 ⟨rfl, hb2⟩
              have hb2' := below2 hb hb2
              clear hb hb2
              cases hu : underL x.data.toList y.data.toList
              · have HU := hid hu
                clear hu
                go_wp2
                go_roundw
                case rel =>
                  refine ⟨j + 1, by omega, by go_num, hid (fun k hk hik hkj => ?_), hb2'⟩
                  by_cases hke : k = i + 1 + j
                  · subst hke
                    rw [HAi.out, HAk.out]; exact HU.out
                  · exact HJ.out k hk hik (by omega)
                case measure => simp [intOf]; omega
              · have HU := hid hu
                clear hu
                go_wp2
                go_ret
                refine ⟨ret_bool ?_, hb2'⟩
                symm
                refine not_true fun hap => ?_
                have := HI.out.1 hap i (i + 1 + j) (by omega) hLk
                rw [HAi.out, HAk.out, HU.out] at this
                cases this
          · have hnlt2 : ¬ (j : Int) < ((n - (i + 1) : Nat) : Int) := by omega
            have HJE := hid (show j = n - (i + 1) by omega)
            go_wp2
            go_roundw
            case rel =>
              refine ⟨i + 1, by omega, by go_num, hid (fun i' k hi' hik hk => ?_), hb⟩
              by_cases hii : i' < i
              · exact HO.out i' k hii hik hk
              · obtain rfl : i' = i := by omega
                have := HL.out
                have := HJE.out
                exact HJ.out k hk hik (by omega)
            case measure => simp [intOf]; omega
    · have HE := hid (show i = n by omega)
      have hnlt : ¬ (i : Int) < n := by omega
      go_wp2
      go_ret
      refine ⟨ret_bool ?_, hb⟩
      symm
      refine HI.out.2 fun i' k hik hk => ?_
      have := HE.out
      have := HL.out
      exact HO.out i' k (by omega) hik hk
end Go.Proofs.YtlmccjdpmhancaaGreatDoor
namespace Go.Proofs.YtlmccjdpmhancaaGreatDoor
open Go.RowKit

theorem made_one (z : Value) (n : Nat) : madeCells #[z] n = (List.replicate n z).toArray := by
  apply Array.toList_inj.1
  rw [toList_madeCells_one]
theorem made_two (a : Value) (n : Nat) : madeCells #[a, a] n = (List.replicate n a).toArray := by
  apply Array.ext
  · simp [madeCells]
  · intro i h1 h2
    simp only [madeCells, Array.getElem_map, Array.getElem_range, List.getElem_toArray, List.getElem_replicate]
    have h : i % (#[a, a] : Array Value).size = 0 ∨ i % (#[a, a] : Array Value).size = 1 := by
      have : (#[a, a] : Array Value).size = 2 := rfl
      rw [this]; omega
    rcases h with h | h <;> rw [h] <;> rfl
theorem make_strs (n : Nat) (hn : n ≤ 1000000) (w : World) : (Instr.makeSlice 25 (.int .i64 (n : Int)) (.int .i64 (n : Int))).run Tryz.prog w = .ok (.slice (some ⟨w.heap.size, 0, none⟩) n n) (w.alloc (.cells (List.replicate n (Value.string ⟨#[]⟩)).toArray 9)) := by
  rw [← made_one]
  exact run_make_row' 25 9 (.string ⟨#[]⟩) 16 Tryz.underlying25 Tryz.infoS rfl .i64 .i64 n (by omega) (by omega) w

/-- What was laid, and room for the rest. -/
def fill (xs : List Value) (z : Value) (j : Nat) : List Value := xs.take j ++ List.replicate (xs.length - j) z
theorem fill_zero (xs : List Value) (z : Value) : fill xs z 0 = List.replicate xs.length z := by simp [fill]
theorem fill_all (xs : List Value) (z : Value) : fill xs z xs.length = xs := by simp [fill]
theorem fill_at (xs : List Value) (z : Value) (j : Nat) (h : j < xs.length) : (fill xs z j)[j]? = some z := by
  rw [fill, List.getElem?_append_right (by rw [List.length_take]; omega), List.length_take, Nat.min_eq_left (by omega), Nat.sub_self, List.getElem?_replicate, if_pos (by omega)]
theorem fill_set (xs : List Value) (z : Value) (j : Nat) (x : Value) (h : xs[j]? = some x) : (fill xs z j).set j x = fill xs z (j + 1) := by
  have hj := (List.getElem?_eq_some_iff.1 h).1
  rw [fill, fill, List.set_append_right _ _ (by rw [List.length_take]; omega), List.length_take, Nat.min_eq_left (by omega), Nat.sub_self, show xs.length - j = (xs.length - (j + 1)) + 1 by omega, List.replicate_succ, List.set_cons_zero, List.take_add_one, h, List.append_assoc]
  rfl
theorem all_take_more {α : Type} (q : α → Bool) (l : List α) (j : Nat) (h : j < l.length) : (l.take (j + 1)).all q = ((l.take j).all q && q l[j]) := by
  rw [List.take_add_one, List.getElem?_eq_getElem h, List.all_append]
  simp

set_option maxHeartbeats 1000000 in
theorem tright_any (A : Option Addr) (n c : Nat) (fs : List Fil) (w : World) (hl : fs.length = n) (hr : Rd w A (filV fs)) (hn : n ≤ 140737488355328) (hf : ∀ f ∈ fs, f.1.size < 4294967281 ∧ f.2.size ≤ maxLen) :
    Calls Tryz.prog 42 #[.slice A n c] w fun e w' => e = .returned (.bool (treeR fs)) ∧ Below w.heap.size w w' := by
  have HF := hid hf
  have HL := hid hl
  clear hf hl
  by_cases h16 : (16 : Int) < n
  · go_enter Tryz.func42, Tryz.ntmps42
    go_wp2
    go_ret
    refine ⟨ret_bool ?_, Below.refl _ _⟩
    symm
    refine treeR_no fun h => ?_
    have := h.few
    have := HL.out
    omega
  · have hmk := make_strs n (by omega)
    go_enter Tryz.func42, Tryz.ntmps42
    go_upto_region 5 with (fail)
    go_loopw [14] (fun i wr => ∃ j : Nat, j ≤ n ∧ i = .int .i64 j ∧ Blk wr w.heap.size (fill (strV (fs.map (·.1))) (.string ⟨#[]⟩) j) 9 ∧ Below w.heap.size w wr ∧ Hid ((fs.take j).all (fun f => decide (f.2.size ≤ 600)) = true)) (fun i _ => n - (intOf i).toNat)
    case atStart =>
      refine ⟨0, by omega, rfl, ?_, (Below.refl _ _).alloc (Nat.le_refl _) _, by simp [Hid]⟩
      have := Blk.new w (List.replicate n (Value.string ⟨#[]⟩)) 9
      rw [fill_zero, strV_length, List.length_map, HL.out]
      simpa using this
    case round =>
      obtain ⟨j, hj, rfl, hblk, hb, HO⟩ := hrel
      by_cases hjn : j < n
      · have hjl : j < fs.length := by rw [HL.out]; exact hjn
        have hr1 := hr.below hb
        obtain ⟨b, off, rfl, h1, h2, -⟩ := hr1.fil hjl
        have hz : (0 : Int) ≤ j := by omega
        have hlt : (j : Int) < n := by omega
        clear hr1
        go_upto_region 7 with (fail)
        have HK := hid (all_take_more (fun f : Fil => decide (f.2.size ≤ 600)) fs j hjl)
        have HX := hid (show (strV (fs.map (·.1)))[j]? = some (.string fs[j].1) by simp [strV, hjl])
        have hblk2 := hblk.below ((Below.refl _ _).alloc (Nat.le_refl _) (.cells #[.string fs[j].1, .string fs[j].2] 57))
        have hb2 := hb.alloc hb.size (.cells #[.string fs[j].1, .string fs[j].2] 57)
        have k := Blk.new wr [.string fs[j].1, .string fs[j].2] 57
        have k1 := k.cell 0
        have k2 := k.cell 1
        simp only [List.getElem?_cons_zero, List.getElem?_cons_succ] at k1 k2
        have hd := (HF.out fs[j] (List.getElem_mem hjl)).2
        unfold maxLen at hd
        have HM := hid (List.getElem_mem hjl)
        clear k hblk hb h1 h2
        generalize fs[j] = f at *
        generalize wr.alloc (.cells #[.string f.1, .string f.2] 57) = wa at *
        generalize wr.heap.size = g at *
        have c1 := hblk2.cell j
        rw [fill_at _ _ _ (by rw [strV_length, List.length_map]; exact hjl)] at c1
        have c2 := hblk2.frozen j
        have hblk3 := hblk2.set_ j (.string f.1)
        rw [fill_set _ _ _ _ HX.out] at hblk3
        have hb3 : Below w.heap.size w (wa.setCell ⟨w.heap.size, j, none⟩ (.string f.1)) := hb2.grown (grown_set j _) hb2.size (by intro k hk; injection hk with hk; omega)
        clear hblk2
        by_cases h600 : (600 : Int) < f.2.size
        · go_wp2
          go_ret
          refine ⟨ret_bool ?_, hb2⟩
          symm
          refine treeR_no fun h => ?_
          have := h.datas f HM.out
          omega
        · go_wp2
          go_roundw
          case rel => exact ⟨j + 1, by omega, by go_num, hblk3, hb3, hid (by rw [HK.out, HO.out]; simp; omega)⟩
          case measure => simp [intOf]; omega
      · have HE := hid (show j = n by omega)
        have hnlt : ¬ (j : Int) < n := by omega
        have ho := HO.out
        have e1 : j = fs.length := by rw [HL.out]; omega
        rw [e1, List.take_length] at ho
        have HD := hid ho
        have e2 : (strV (fs.map (·.1))).length = fs.length := by rw [strV_length, List.length_map]
        rw [show j = (strV (fs.map (·.1))).length by rw [e2]; exact e1, fill_all] at hblk
        have hrd : Rd wr (some ⟨w.heap.size, 0, none⟩) (strV (fs.map (·.1))) := .inr ⟨_, rfl, fun k u hu => by rw [Addr.add_lit, Nat.zero_add, hblk.cell, hu]⟩
        have HLL := hid (show lst (fs.map (·.1)) = fs.map pth by simp [lst, pth])
        have hfn : (fs.map (·.1)).length = n := by rw [List.length_map, HL.out]
        have hss : ∀ s ∈ fs.map (·.1), s.size < 4294967281 := by
          intro s hs
          obtain ⟨f, hf, rfl⟩ := List.mem_map.1 hs
          exact (HF.out f hf).1
        have HFN := hid hfn
        have HSS := hid hss
        clear ho e1 e2 hblk hfn hss HO
        have hn16 : fs.length ≤ 16 := by rw [HL.out]; omega
        have HT := hid (show treeR fs = (sortedL (fs.map pth) && apartL (fs.map pth)) by rw [treeR, HD.out, decide_eq_true hn16]; rfl)
        clear hn16
        go_wp2_with fail
        refine (sorted_any _ n n (fs.map (·.1)) _ HFN.out hrd hn HSS.out).mono ?_
        rintro e w1 ⟨rfl, hb1⟩
        rw [HLL.out]
        have hrd1 := hrd.below hb1
        have hb1' := below2 hb hb1
        clear hrd hb hb1
        cases hq : sortedL (fs.map pth)
        · rw [hq] at HT
          go_wp2
          go_ret
          exact ⟨ret_bool HT.out.symm, hb1'⟩
        · rw [hq, Bool.true_and] at HT
          have HS := hid (srt_pair hq)
          go_wp2_with fail
          refine (apart_any _ n n (fs.map (·.1)) _ HFN.out (Nat.le_refl _) hn hrd1 (by rw [HLL.out]; exact HS.out) HSS.out).mono ?_
          rintro e w2 ⟨rfl, hb2⟩
          rw [HLL.out]
          go_wp2
          go_ret
          exact ⟨ret_bool HT.out.symm, below2 hb1' hb2⟩
end Go.Proofs.YtlmccjdpmhancaaGreatDoor
namespace Go.Proofs.YtlmccjdpmhancaaGreatDoor
open Go.RowKit

/-- A slice of n files: what is read, and the bounds. -/
structure Ft (w : World) (A : Option Addr) (n c : Nat) (fs : List Fil) : Prop where
  len : fs.length = n
  rd : Rd w A (filV fs)
  cap : n ≤ c
  big : n ≤ 140737488355328
  capm : c ≤ 9223372036854775807
  sz : ∀ f ∈ fs, f.1.size < 4294967281 ∧ f.2.size ≤ 140737488355328
theorem Ft.below {w w' : World} {A : Option Addr} {n c : Nat} {fs : List Fil} (h : Ft w A n c fs) (hb : Below w.heap.size w w') : Ft w' A n c fs := ⟨h.len, h.rd.below hb, h.cap, h.big, h.capm, h.sz⟩
theorem Ft.sz1 {w : World} {A : Option Addr} {n c : Nat} {fs : List Fil} (h : Ft w A n c fs) : ∀ f ∈ fs, f.1.size < 4294967281 := fun f hf => (h.sz f hf).1
theorem tree_any {w : World} {A : Option Addr} {n c : Nat} {fs : List Fil} (h : Ft w A n c fs) : Calls Tryz.prog 42 #[.slice A n c] w fun e w' => e = .returned (.bool (treeR fs)) ∧ Below w.heap.size w w' :=
  tright_any A n c fs w h.len h.rd h.big (fun f hf => ⟨(h.sz f hf).1, by have := (h.sz f hf).2; unfold maxLen; omega⟩)

set_option maxHeartbeats 400000 in
theorem find_any {w : World} {A : Option Addr} {n c : Nat} {fs : List Fil} (h : Ft w A n c fs) (p : ByteArray) :
    Calls Tryz.prog 31 #[.slice A n c, .string p] w fun e w' => e = .returned (.int .i64 (findT fs p.data.toList)) ∧ Below w.heap.size w w' := by
  have hn := h.big
  go_enter Tryz.func31, Tryz.ntmps31
  go_wp2_with fail
  refine (tree_any h).mono ?_
  rintro e w1 ⟨rfl, hb1⟩
  cases hR : treeR fs
  · go_wp2
    go_ret
    exact ⟨ret_int (by rw [findT, hR]; rfl), hb1⟩
  · have HR := hid hR
    have hT := (treeR_iff fs).1 hR
    have h1 := h.below hb1
    clear hR h
    go_wp2_with fail
    refine (place_any A n c fs p _ h1.len hT.srt h1.rd hn).mono ?_
    rintro e w2 ⟨rfl, hb2⟩
    have hb2' := below2 hb1 hb2
    clear hb1 hb2
    cases ht : thereT fs p.data.toList
    · have HH := hid ht
      clear ht
      go_wp2
      go_ret
      exact ⟨ret_int (by rw [findT, HR.out, HH.out]; rfl), hb2'⟩
    · have HH := hid ht
      clear ht
      go_wp2
      go_ret
      exact ⟨ret_int (by rw [findT, HR.out, HH.out]; rfl), hb2'⟩

def getV : Option ByteArray → Value
  | some d => .tuple #[.string d, .bool true]
  | none => .tuple #[.string ⟨#[]⟩, .bool false]
theorem get_of {fs : List Fil} {p : ByteArray} (hR : treeR fs = true) (ht : thereT fs p.data.toList = true) : ∃ hl : (lowT fs p.data.toList).length < fs.length, getT fs p.data.toList = some fs[(lowT fs p.data.toList).length].2 := by
  have hs := ((treeR_iff fs).1 hR).srt
  obtain ⟨hl, he⟩ := (there_at hs).1 ht
  refine ⟨hl, ?_⟩
  rw [getT, if_pos hR, data_iff hs]
  have : (p, fs[(lowT fs p.data.toList).length].2) = fs[(lowT fs p.data.toList).length] := pth_inj (by rw [he]; rfl) rfl
  rw [this]
  exact List.getElem_mem _
theorem get_none {fs : List Fil} {p : ByteArray} (h : (treeR fs && thereT fs p.data.toList) = false) : getT fs p.data.toList = none := by
  rw [getT]
  cases hR : treeR fs
  · rfl
  · rw [hR, Bool.true_and, ← data_some] at h
    simpa using h

set_option maxHeartbeats 400000 in
theorem get_any {w : World} {A : Option Addr} {n c : Nat} {fs : List Fil} (h : Ft w A n c fs) (p : ByteArray) :
    Calls Tryz.prog 26 #[.slice A n c, .string p] w fun e w' => e = .returned (getV (getT fs p.data.toList)) ∧ Below w.heap.size w w' := by
  have c0 := find_any h p
  have HG := hid (@get_of fs p)
  have HN := hid (@get_none fs p)
  unfold findT at c0
  go_enter Tryz.func26, Tryz.ntmps26
  go_wp2_with fail
  refine c0.mono ?_
  clear c0
  rintro e w1 ⟨rfl, hb1⟩
  have h1 := h.below hb1
  clear h
  cases hc : (treeR fs && thereT fs p.data.toList)
  · rw [if_neg (by simp)]
    have HC := hid hc
    clear hc
    go_wp2
    go_ret2
    rw [HN.out HC.out]
    exact ⟨rfl, hb1⟩
  · rw [if_pos rfl]
    rw [Bool.and_eq_true] at hc
    obtain ⟨hl, he⟩ := HG.out hc.1 hc.2
    obtain ⟨b, off, rfl, -, k2, -⟩ := h1.rd.fil hl
    have HE := hid he
    have hsz := (h1.sz fs[(lowT fs p.data.toList).length] (List.getElem_mem _)).2
    have hln := h1.len
    clear hc he h1 HN HG
    generalize fs[(lowT fs p.data.toList).length].2 = x at *
    generalize (lowT fs p.data.toList).length = k at *
    have hz : ¬ (k : Int) < 0 := by omega
    have hz0 : (0 : Int) ≤ k := by omega
    have hlt : (k : Int) < n := by omega
    go_wp2_with fail
    refine (clone_any _ _ (by omega)).mono ?_
    rintro e w2 ⟨rfl, hb2⟩
    have hb2' := below2 hb1 hb2
    clear hb1 hb2
    go_wp2
    go_ret2
    rw [HE.out]
    exact ⟨rfl, hb2'⟩

theorem size_more (fs : List Fil) (j : Nat) (h : j < fs.length) : sizeT (fs.take (j + 1)) = sizeT (fs.take j) + fs[j].2.size := by
  rw [sizeT, List.take_add_one, List.getElem?_eq_getElem h, List.map_append, List.sum_append]
  simp [sizeT]
theorem size_part (fs : List Fil) (j : Nat) : sizeT (fs.take j) ≤ sizeT fs := by
  have e : sizeT fs = sizeT (fs.take j) + sizeT (fs.drop j) := by
    conv => lhs; rw [← List.take_append_drop j fs]
    rw [sizeT, List.map_append, List.sum_append]
    rfl
  omega

/-! ### Same -/
theorem neqF (f g : Fil) (w : World) : (binOp .neq 57 (.agg #[.string f.1, .string f.2]) (.agg #[.string g.1, .string g.2])).run Tryz.prog w = .ok (.bool (!decide (f = g))) w := by
  have u9 := Tryz.underlying9
  have a9 := Tryz.isAgg9
  have z9 := Tryz.sizeOf9
  have hS : Tryz.prog.underlying 57 = some (.struct (Tryz.prog.fieldsOf 57)) := by kernel_rfl
  have hp : Tryz.prog.stoodInHeld 57 = false := by kernel_rfl
  rw [run_neq_struct, show (10000 : Nat) = 9999 + 1 from rfl, run_equalIn_agg w 9999 57 _ _ hS hp]
  simp only [Program.fieldsOf, Tryz.underlying57]
  go_simp
  have inj : ∀ {a b : ByteArray}, a.toList = b.toList → a = b := fun h => data_inj (by rw [← Lib.toList_data, ← Lib.toList_data]; exact h)
  by_cases h1 : f.1.toList = g.1.toList
  · by_cases h2 : f.2.toList = g.2.toList
    · have e : f = g := Prod.ext (inj h1) (inj h2)
      rw [if_pos h1, if_pos h2, decide_eq_true e]; rfl
    · have e : f ≠ g := fun e => h2 (by rw [e])
      rw [if_pos h1, if_neg h2, decide_eq_false e]; rfl
  · have e : f ≠ g := fun e => h1 (by rw [e])
    rw [if_neg h1, decide_eq_false e]; rfl

theorem same_no {fs gs : List Fil} {j : Nat} (h1 : j < fs.length) (h2 : j < gs.length) (h : fs[j] ≠ gs[j]) : fs ≠ gs := fun e => by subst e; exact h rfl

/-! ### In -/
/-- A new slice of strings was answered. -/
def StrsPost (w : World) (ls : List ByteArray) (e : Ending) (w' : World) : Prop :=
  ∃ A c, e = .returned (.slice A ls.length c) ∧ Rd w' A (strV ls) ∧ ls.length ≤ c ∧ c ≤ maxLen ∧ Below w.heap.size w w'
def inTo (fs : List Fil) (d : List UInt8) : List ByteArray := (fs.filter fun f => underL (pth f) d).map (·.1)
theorem inTo_more (fs : List Fil) (d : List UInt8) (j : Nat) (h : j < fs.length) : inTo (fs.take (j + 1)) d = inTo (fs.take j) d ++ (if underL (pth fs[j]) d then [fs[j].1] else []) := by
  rw [inTo, List.take_add_one, List.getElem?_eq_getElem h, List.filter_append, List.map_append]
  simp only [Option.toList, List.filter_cons, List.filter_nil]
  split <;> rfl
theorem inTo_len (fs : List Fil) (d : List UInt8) : (inTo fs d).length ≤ fs.length := by rw [inTo, List.length_map]; exact List.length_filter_le _ _

end Go.Proofs.YtlmccjdpmhancaaGreatDoor
namespace Go.Proofs.YtlmccjdpmhancaaGreatDoor
open Go.RowKit

/-- An entry's value. -/
abbrev eA (e : Ent) : Value := .agg #[.string e.path, .bool e.has, .string e.data, .int .i64 e.l, .int .i64 e.r]
/-- A slice of n entries: what is read, and the bounds. -/
structure Et (w : World) (A : Option Addr) (n c : Nat) (es : List Ent) : Prop where
  len : es.length = n
  rd : Rd w A (entV es)
  cap : n ≤ c
  big : n ≤ 1000000
  capm : c ≤ 9223372036854775807
  sz : ∀ e ∈ es, e.path.size < 4294967281 ∧ e.data.size ≤ 140737488355328
theorem Et.below {w w' : World} {A : Option Addr} {n c : Nat} {es : List Ent} (h : Et w A n c es) (hb : Below w.heap.size w w') : Et w' A n c es := ⟨h.len, h.rd.below hb, h.cap, h.big, h.capm, h.sz⟩

theorem str_inj {a b : ByteArray} (h : a.toList = b.toList) : a = b := data_inj (by rw [← Lib.toList_data, ← Lib.toList_data]; exact h)
theorem eqInP (d : Nat) (a b c e : Int) (w : World) : (Op.equalIn (d + 1 + 1) 32 (.agg #[.int .i64 a, .int .i64 b]) (.agg #[.int .i64 c, .int .i64 e])).run Tryz.prog w = .ok (decide (a = c) && decide (b = e)) w := by
  have u9 := Tryz.underlying3
  have a9 := Tryz.isAgg3
  have z9 := Tryz.sizeOf3
  have hS : Tryz.prog.underlying 32 = some (.struct (Tryz.prog.fieldsOf 32)) := by kernel_rfl
  have hp : Tryz.prog.stoodInHeld 32 = false := by kernel_rfl
  rw [run_equalIn_agg w (d + 1) 32 _ _ hS hp]
  simp only [Program.fieldsOf, Tryz.underlying32]
  go_simp
  by_cases h1 : a = c <;> by_cases h2 : b = e <;> simp [h1, h2]
theorem eqP (a b c d : Int) (w : World) : (binOp .eql 32 (.agg #[.int .i64 a, .int .i64 b]) (.agg #[.int .i64 c, .int .i64 d])).run Tryz.prog w = .ok (.bool (decide (a = c) && decide (b = d))) w := by
  rw [run_eql_struct, show (10000 : Nat) = 9998 + 1 + 1 from rfl, eqInP]; rfl
theorem neqP (a b c d : Int) (w : World) : (binOp .neq 32 (.agg #[.int .i64 a, .int .i64 b]) (.agg #[.int .i64 c, .int .i64 d])).run Tryz.prog w = .ok (.bool (!(decide (a = c) && decide (b = d)))) w := by
  rw [run_neq_struct, show (10000 : Nat) = 9998 + 1 + 1 from rfl, eqInP]; rfl
theorem eqInE (e f : Ent) (w : World) : (Op.equalIn (9997 + 1 + 1 + 1) 34 (eA e) (eA f)).run Tryz.prog w = .ok (decide (e = f)) w := by
  have u9 := Tryz.underlying9
  have a9 := Tryz.isAgg9
  have z9 := Tryz.sizeOf9
  have u8 := Tryz.underlying4
  have a8 := Tryz.isAgg4
  have z8 := Tryz.sizeOf4
  have a6 := Tryz.isAgg32
  have z6 := Tryz.sizeOf32
  have hS : Tryz.prog.underlying 34 = some (.struct (Tryz.prog.fieldsOf 34)) := by kernel_rfl
  have hp : Tryz.prog.stoodInHeld 34 = false := by kernel_rfl
  have hpair := eqInP 9997 e.l e.r f.l f.r
  rw [run_equalIn_agg w (9997 + 1 + 1) 34 _ _ hS hp]
  simp only [Program.fieldsOf, Tryz.underlying34]
  go_simp
  by_cases h : e = f
  · subst h
    rw [if_pos rfl, if_pos rfl, if_pos rfl, if_neg (by simp), decide_eq_true rfl]
  · rw [decide_eq_false h]
    by_cases h1 : e.path.toList = f.path.toList
    · rw [if_pos h1]
      by_cases h2 : e.has = f.has
      · rw [if_pos h2]
        by_cases h3 : e.data.toList = f.data.toList
        · rw [if_pos h3, if_pos fun h4 h5 => h (Ent.same (str_inj h1) h2 (str_inj h3) h4 h5)]
        · rw [if_neg h3]
      · rw [if_neg h2]
    · rw [if_neg h1]
theorem eqE (e f : Ent) (w : World) : (binOp .eql 34 (eA e) (eA f)).run Tryz.prog w = .ok (.bool (decide (e = f))) w := by
  rw [run_eql_struct, show (10000 : Nat) = 9997 + 1 + 1 + 1 from rfl, eqInE]; rfl
theorem neqE (e f : Ent) (w : World) : (binOp .neq 34 (eA e) (eA f)).run Tryz.prog w = .ok (.bool (!decide (e = f))) w := by
  rw [run_neq_struct, show (10000 : Nat) = 9997 + 1 + 1 + 1 from rfl, eqInE]; rfl

theorem str_eqb (a b : ByteArray) : (a.toList == b.toList) = decide (a = b) := by
  by_cases h : a = b
  · subst h; simp
  · rw [decide_eq_false h, beq_eq_false_iff_ne]; exact fun e => h (str_inj e)

theorem isEmpty_no (d : ByteArray) : d.toList.isEmpty = decide (d = noS) := by
  by_cases h : d = noS
  · subst h; simp
  · rw [decide_eq_false h]
    cases hl : d.toList with
    | nil => exact absurd (str_inj (a := d) (b := noS) (by rw [hl]; simp)) h
    | cons _ _ => rfl
set_option maxHeartbeats 1000000 in
theorem efine_any (e : Ent) (w : World) :
    Calls Tryz.prog 58 #[eA e] w fun x w' => x = .returned (.bool (fineE e)) ∧ Below w.heap.size w w' := by
  obtain ⟨p, h, d, l, r⟩ := e
  have hn := neqP l r 0 0
  have HF := hid (show fineE ⟨p, h, d, l, r⟩ = (rt l r && !(decide (l = 0) && decide (r = 0)) && (h || decide (d = noS))) from rfl)
  have HD := hid (isEmpty_no d)
  have k := Blk.new w [.string p, .bool h, .string d, .int .i64 l, .int .i64 r] 34
  go_enter Tryz.func58, Tryz.ntmps58
  go_wp2_with fail
  refine (cright_any l r _).mono ?_
  rintro x w1 ⟨rfl, hb1⟩
  have k1 := k.below hb1
  have c1 := k1.cell 1
  have c2 := k1.cell 2
  have c3 := k1.cell 3
  have c4 := k1.cell 4
  simp only [List.getElem?_cons_zero, List.getElem?_cons_succ] at c1 c2 c3 c4
  have b1 := below_new _ hb1
  clear k k1 hb1
  generalize rt l r = q at *
  generalize (decide (l = 0) && decide (r = 0)) = z at *
  cases q <;> cases z <;> cases h
  all_goals
    go_wp2
    go_ret
    exact ⟨ret_bool (by rw [HF.out]; first | rfl | exact HD.out), b1⟩

/-! ### lesser -/
theorem run_minS (ts : Array TypeId) (t : TypeId) (a b : ByteArray) (w : World) : (Builtin.min_ ts t #[.string a, .string b]).run Tryz.prog w = .ok (.string (if Op.bytesLess b.toList a.toList then b else a)) w := by
  have h := less_flip b.toList a.toList
  simp [Builtin.min_, Builtin.min2, Op.stringOp, asBool]
  cases hq : Op.bytesLess b.toList a.toList
  · rw [hq] at h; simp at h; rcases h with h | h <;> simp [h]
  · rw [hq] at h; simp at h; simp [h.1, h.2]
def lesP : List Ent → List Fil → ByteArray
  | [], f :: _ => f.1
  | e :: _, [] => e.path
  | e :: _, f :: _ => if Op.bytesLess (pth f) (epth e) then f.1 else e.path
  | [], [] => noS
set_option maxHeartbeats 1000000 in
theorem lesser_any {w : World} {A B : Option Addr} {n c m d : Nat} {es : List Ent} {fs : List Fil} (hl : es.length = n) (hr : Rd w A (entV es)) (hl2 : fs.length = m) (hr2 : Rd w B (filV fs)) (hne : 0 < n ∨ 0 < m) :
    Calls Tryz.prog 93 #[.slice A n c, .slice B m d] w fun x w' => x = .returned (.string (lesP es fs)) ∧ Below w.heap.size w w' := by
  match es, fs with
  | [], [] => simp at hl hl2; omega
  | [], f :: fs =>
    obtain ⟨b, off, rfl, h1, -⟩ := hr2.fil (j := 0) (by simp)
    simp only [List.getElem_cons_zero, Nat.zero_mul, Nat.add_zero] at h1
    obtain rfl : n = 0 := by rw [← hl]; rfl
    have hm : 0 < m := by rw [← hl2]; simp
    unfold lesP
    go_enter Tryz.func93, Tryz.ntmps93
    go_wp2
    go_ret
    exact ⟨rfl, Below.refl _ _⟩
  | e :: es, [] =>
    obtain ⟨b, off, rfl, h1, -⟩ := hr.ent (j := 0) (by simp)
    simp only [List.getElem_cons_zero, Nat.zero_mul, Nat.add_zero] at h1
    obtain rfl : m = 0 := by rw [← hl2]; rfl
    have hn : 0 < n := by rw [← hl]; simp
    have hn' : ¬ n = 0 := by omega
    unfold lesP
    go_enter Tryz.func93, Tryz.ntmps93
    go_wp2
    go_ret
    exact ⟨rfl, Below.refl _ _⟩
  | e :: es, f :: fs =>
    obtain ⟨b, off, rfl, h1, -⟩ := hr.ent (j := 0) (by simp)
    obtain ⟨b', off', rfl, h1', -⟩ := hr2.fil (j := 0) (by simp)
    simp only [List.getElem_cons_zero, Nat.zero_mul, Nat.add_zero] at h1 h1'
    have hn : 0 < n := by rw [← hl]; simp
    have hm : 0 < m := by rw [← hl2]; simp
    have hn' : ¬ n = 0 := by omega
    have hm' : ¬ m = 0 := by omega
    have hmin := fun ts t w => run_minS ts t e.path f.1 w
    have HE : Hid (lesP (e :: es) (f :: fs) = if Op.bytesLess f.1.toList e.path.toList then f.1 else e.path) := by rw [Lib.toList_data, Lib.toList_data]; rfl
    generalize (if Op.bytesLess f.1.toList e.path.toList then f.1 else e.path) = q at *
    go_enter Tryz.func93, Tryz.ntmps93
    go_wp2_with fail
    go_quiet (fail)
    go_wp2
    go_ret
    exact ⟨ret_str HE.out.symm, below_drewN (Below.refl _ _) _⟩
end Go.Proofs.YtlmccjdpmhancaaGreatDoor
namespace Go.Proofs.YtlmccjdpmhancaaGreatDoor
open Go.RowKit

/-! ### Cells of one entry, stored -/
theorem set_zero (x e : Ent) (es : List Ent) : (((((entV (x :: es)).set 0 (.string e.path)).set 1 (.bool e.has)).set 2 (.string e.data)).set 3 (.int .i64 e.l)).set 4 (.int .i64 e.r) = entV (e :: es) := rfl
theorem ent_set : ∀ (es : List Ent) (j : Nat) (_ : j < es.length) (e : Ent), (((((entV es).set (j * 5) (.string e.path)).set (j * 5 + 1) (.bool e.has)).set (j * 5 + 2) (.string e.data)).set (j * 5 + 3) (.int .i64 e.l)).set (j * 5 + 4) (.int .i64 e.r) = entV (es.set j e)
  | x :: es, 0, _, e => by
    rw [List.set_cons_zero, Nat.zero_mul]
    exact set_zero x e es
  | x :: es, j + 1, h, e => by
    have ih := ent_set es j (by simpa using h) e
    rw [List.set_cons_succ, entV_cons, entV_cons, ← ih]
    have e0 : (j + 1) * 5 = (j * 5) + 1 + 1 + 1 + 1 + 1 := by omega
    have e1 : (j + 1) * 5 + 1 = (j * 5 + 1) + 1 + 1 + 1 + 1 + 1 := by omega
    have e2 : (j + 1) * 5 + 2 = (j * 5 + 2) + 1 + 1 + 1 + 1 + 1 := by omega
    have e3 : (j + 1) * 5 + 3 = (j * 5 + 3) + 1 + 1 + 1 + 1 + 1 := by omega
    have e4 : (j + 1) * 5 + 4 = (j * 5 + 4) + 1 + 1 + 1 + 1 + 1 := by omega
    rw [e1, e2, e3, e4, e0]
    simp only [eV, List.cons_append, List.nil_append, List.set_cons_succ]
theorem path_set : ∀ (es : List Ent) (j : Nat) (h : j < es.length) (p : ByteArray), (entV es).set (j * 5) (.string p) = entV (es.set j ⟨p, es[j].has, es[j].data, es[j].l, es[j].r⟩)
  | x :: es, 0, _, p => rfl
  | x :: es, j + 1, h, p => by
    have ih := path_set es j (by simpa using h) p
    have e0 : (j + 1) * 5 = (j * 5) + 1 + 1 + 1 + 1 + 1 := by omega
    rw [List.set_cons_succ, entV_cons, entV_cons, e0]
    simp only [eV, List.cons_append, List.nil_append, List.set_cons_succ, List.getElem_cons_succ, ih]
theorem Blk.ent {w : World} {g : Nat} {es : List Ent} {t : TypeId} (h : Blk w g (entV es) t) {j : Nat} (hj : j < es.length) :
    w.cell? ⟨g, j * 5, none⟩ = some (.string es[j].path) ∧ w.cell? ⟨g, j * 5 + 1, none⟩ = some (.bool es[j].has) ∧ w.cell? ⟨g, j * 5 + 2, none⟩ = some (.string es[j].data) ∧ w.cell? ⟨g, j * 5 + 3, none⟩ = some (.int .i64 es[j].l) ∧ w.cell? ⟨g, j * 5 + 4, none⟩ = some (.int .i64 es[j].r) := by
  have g : ∀ q, q < 5 → w.cell? ⟨g, j * 5 + q, none⟩ = (eV es[j])[q]? := fun q hq => by rw [h.cell, entV_at es j hj q hq]
  exact ⟨g 0 (by omega), g 1 (by omega), g 2 (by omega), g 3 (by omega), g 4 (by omega)⟩
theorem Blk.rd {w : World} {g : Nat} {cs : List Value} {t : TypeId} (h : Blk w g cs t) : Rd w (some ⟨g, 0, none⟩) cs :=
  .inr ⟨_, rfl, fun k u hu => by rw [Addr.add_lit, Nat.zero_add, h.cell, hu]⟩

abbrev zE : Ent := ⟨noS, false, noS, 0, 0⟩
theorem Tryz.infoE : (Tryz.prog.info? 34).map (fun i => (i.zero, i.size, i.bytes)) = some (some (eA zE), 5, 56) := by kernel_rfl
theorem made_ents (n : Nat) : madeCells (eV zE).toArray (n * 5) = (entV (List.replicate n zE)).toArray := by
  apply Array.ext
  · simp [madeCells, entV_length]
  · intro i h1 h2
    have hi : i < n * 5 := by simpa [entV_length] using h2
    have e := entV_at (List.replicate n zE) (i / 5) (by simp; omega) (i % 5) (by omega)
    rw [show i / 5 * 5 + i % 5 = i by omega] at e
    simp only [madeCells, Array.getElem_map, Array.getElem_range, List.getElem_toArray]
    have e2 : (entV (List.replicate n zE))[i]? = some ((entV (List.replicate n zE))[i]'(by simpa using h2)) := List.getElem?_eq_getElem _
    rw [e2, List.getElem_replicate] at e
    have h5 : (eV zE).toArray.size = 5 := rfl
    rw [h5]
    have h6 : (eV zE)[i % 5]? = some ((eV zE).toArray[i % 5]!) := by
      have : i % 5 < 5 := by omega
      match i % 5, this with
      | 0, _ => rfl
      | 1, _ => rfl
      | 2, _ => rfl
      | 3, _ => rfl
      | 4, _ => rfl
    rw [h6] at e
    injection e with e
    rw [e]
theorem make_ents (n : Nat) (hn : n ≤ 1000000) (w : World) : (Instr.makeSlice 22 (.int .i64 (n : Int)) (.int .i64 (n : Int))).run Tryz.prog w = .ok (.slice (some ⟨w.heap.size, 0, none⟩) n n) (w.alloc (.cells (entV (List.replicate n zE)).toArray 34)) := by
  obtain ⟨i, hi, hz0, hz1, hz2⟩ := info_parts Tryz.infoE
  have h := run_make (P := Tryz.prog) w 22 34 i _ Tryz.underlying22 hi hz0 .i64 .i64 n n (by omega) (Int.le_refl _) (by rw [hz2]; omega) (by omega)
  rw [h, hz1, Int.toNat_natCast, ← made_ents]
  rfl

set_option maxHeartbeats 1000000 in
theorem eanew_any (x : Ent) (w : World) (hx : x.path.size ≤ 281474976710656) (hd : x.data.size ≤ 281474976710656) :
    Calls Tryz.prog 57 #[eA x] w fun e w' => e = .returned (eA x) ∧ Below w.heap.size w w' := by
  obtain ⟨x, h, d, l, r⟩ := x
  simp only at hx hd
  have p0 : Blk ((w.alloc (.cells #[.string x, .bool h, .string d, .int .i64 l, .int .i64 r] 34)).alloc (.cells #[.string ⟨#[]⟩, .bool false, .string ⟨#[]⟩, .int .i64 0, .int .i64 0] 34)) w.heap.size [.string x, .bool h, .string d, .int .i64 l, .int .i64 r] 34 := (Blk.new w [.string x, .bool h, .string d, .int .i64 l, .int .i64 r] 34).below ((Below.refl _ _).alloc (Nat.le_refl _) _)
  have q0 : Blk ((w.alloc (.cells #[.string x, .bool h, .string d, .int .i64 l, .int .i64 r] 34)).alloc (.cells #[.string ⟨#[]⟩, .bool false, .string ⟨#[]⟩, .int .i64 0, .int .i64 0] 34)) (w.heap.size + 1) [.string ⟨#[]⟩, .bool false, .string ⟨#[]⟩, .int .i64 0, .int .i64 0] 34 := by
    have := Blk.new (w.alloc (.cells #[.string x, .bool h, .string d, .int .i64 l, .int .i64 r] 34)) [.string ⟨#[]⟩, .bool false, .string ⟨#[]⟩, .int .i64 0, .int .i64 0] 34
    simpa using this
  have b0 : Below w.heap.size w ((w.alloc (.cells #[.string x, .bool h, .string d, .int .i64 l, .int .i64 r] 34)).alloc (.cells #[.string ⟨#[]⟩, .bool false, .string ⟨#[]⟩, .int .i64 0, .int .i64 0] 34)) := ((Below.refl _ _).alloc (Nat.le_refl _) _).alloc (by simp) _
  go_enter Tryz.func57, Tryz.ntmps57
  go_upto_region 1 with (fail)
  generalize (w.alloc (.cells #[.string x, .bool h, .string d, .int .i64 l, .int .i64 r] 34)).alloc (.cells #[.string ⟨#[]⟩, .bool false, .string ⟨#[]⟩, .int .i64 0, .int .i64 0] 34) = W0 at *
  have d1 := p0.cell 0
  have d2 := p0.cell 2
  simp only [List.getElem?_cons_zero, List.getElem?_cons_succ] at d1 d2
  refine wp_region_held_drew (S := fun w' => w'.cell? ⟨w.heap.size, 0, none⟩ = some (.string x) ∧ w'.cell? ⟨w.heap.size, 2, none⟩ = some (.string d)) (by kernel_rfl) ⟨d1, d2⟩ (fun hHeld => ?_)
  refine wpAnyH_take (i := 0) (oi := ⟨_, _, _, _, _, _⟩) (v := ?_) rfl (by kernel_rfl) (by kernel_rfl) (by kernel_rfl) (fun _ _ _ h => h) (Or.inl ⟨by rfl, ?_⟩) (by assumption) ?_
  rotate_left
  · intro w hSw; (try dsimp only at hSw); go_simp; (try (with_reducible rfl))
  try simp only [Act.put, List.setIfInBounds_toArray, List.set_cons_zero, List.set_cons_succ]
  refine wpAnyH_take (i := 1) (oi := ⟨_, _, _, _, _, _⟩) (v := ?_) rfl (by kernel_rfl) (by kernel_rfl) (by kernel_rfl) (fun _ _ _ h => h) (Or.inl ⟨by rfl, ?_⟩) (by assumption) ?_
  rotate_left
  · intro w hSw; (try dsimp only at hSw); go_simp; (try (with_reducible rfl))
  try simp only [Act.put, List.setIfInBounds_toArray, List.set_cons_zero, List.set_cons_succ]
  refine wpAnyH_take (i := 3) (oi := ⟨_, _, _, _, _, _⟩) (v := ?_) rfl (by kernel_rfl) (by kernel_rfl) (by kernel_rfl) (fun _ _ _ h => h) (Or.inl ⟨by rfl, ?_⟩) (by assumption) ?_
  rotate_left
  · intro w hSw; (try dsimp only at hSw); go_simp; (try (with_reducible rfl))
  try simp only [Act.put, List.setIfInBounds_toArray, List.set_cons_zero, List.set_cons_succ]
  refine wpAnyH_take (i := 4) (oi := ⟨_, _, _, _, _, _⟩) (v := ?_) rfl (by kernel_rfl) (by kernel_rfl) (by kernel_rfl) (fun _ _ _ h => h) (Or.inl ⟨by rfl, ?_⟩) (by assumption) ?_
  rotate_left
  · intro w hSw; (try dsimp only at hSw); go_simp; (try (with_reducible rfl))
  try simp only [Act.put, List.setIfInBounds_toArray, List.set_cons_zero, List.set_cons_succ]
  refine wpAnyH_ready (rs := [2]) (by kernel_rfl) (by simp) ?_
  refine AllReadyH.cons (o := ⟨_, _, _, _, _, _⟩) rfl (fun K hK => ?_) AllReadyH.nil
  go_simp
  refine (clone_any x _ hx).mono ?_
  rintro e w1 ⟨rfl, hb1⟩
  have p1 := Blk.below (w := W0.drew) p0 hb1
  have q1 := Blk.below (w := W0.drew) q0 hb1
  have b1 := b0.drew.trans (hb1.mono b0.drew.size)
  have d3 := p1.cell 0
  have d4 := p1.cell 2
  simp only [List.getElem?_cons_zero, List.getElem?_cons_succ] at d3 d4
  refine hK.out _ _ ⟨d3, d4⟩ (fun hHeld => ?_)
  clear hK K
  try simp only [Act.put, List.setIfInBounds_toArray, List.set_cons_zero, List.set_cons_succ]
  refine wpAnyH_take (i := 6) (oi := ⟨_, _, _, _, _, _⟩) (v := ?_) rfl (by kernel_rfl) (by kernel_rfl) (by kernel_rfl) (fun _ _ _ h => h) (Or.inl ⟨by rfl, ?_⟩) (by assumption) ?_
  rotate_left
  · intro w hSw; (try dsimp only at hSw); go_simp; (try (with_reducible rfl))
  try simp only [Act.put, List.setIfInBounds_toArray, List.set_cons_zero, List.set_cons_succ]
  refine wpAnyH_ready (rs := [5]) (by kernel_rfl) (by simp) ?_
  refine AllReadyH.cons (o := ⟨_, _, _, _, _, _⟩) rfl (fun K hK => ?_) AllReadyH.nil
  go_simp
  refine (clone_any d _ hd).mono ?_
  rintro e w2 ⟨rfl, hb2⟩
  have p2 := p1.below (hb2)
  have q2 := q1.below (hb2)
  have d5 := p2.cell 0
  have d6 := p2.cell 2
  simp only [List.getElem?_cons_zero, List.getElem?_cons_succ] at d5 d6
  have b2 := b1.trans (hb2.mono b1.size)
  refine hK.out _ _ ⟨d5, d6⟩ (fun hHeld => ?_)
  clear hK K
  try simp only [Act.put, List.setIfInBounds_toArray, List.set_cons_zero, List.set_cons_succ]
  have f0 := p2.frozen 0
  have f1 := p2.frozen 2
  have P3 := p2.set_ 0 (.string x)
  have Q3 := q2.other (show w.heap.size + 1 ≠ w.heap.size by omega) 0 (.string x)
  have e1 := P3.cell 0
  have e2 := P3.cell 2
  simp only [List.set_cons_zero, List.getElem?_cons_zero, List.getElem?_cons_succ] at e1 e2
  have B3 := b2.setCell (p := ⟨w.heap.size, 0, none⟩) (Nat.le_refl _) (.string x)
  refine wpAnyH_ready (rs := [7]) (by kernel_rfl) (by simp) ?_
  refine AllReadyH.cons (o := ⟨_, _, _, _, _, _⟩) rfl (fun K hK => ?_) AllReadyH.nil
  go_simp
  generalize w2.setCell ⟨w.heap.size, 0, none⟩ (.string x) = w3 at *
  refine hK.out _ _ ⟨e1, e2⟩ (fun hHeld => ?_)
  clear hK K
  try simp only [Act.put, List.setIfInBounds_toArray, List.set_cons_zero, List.set_cons_succ]
  refine wpAnyH_take (i := 8) (oi := ⟨_, _, _, _, _, _⟩) (v := ?_) rfl (by kernel_rfl) (by kernel_rfl) (by kernel_rfl) (fun _ _ _ h => h) (Or.inl ⟨by rfl, ?_⟩) (by assumption) ?_
  rotate_left
  · intro w hSw; (try dsimp only at hSw); go_simp; (try (with_reducible rfl))
  try simp only [Act.put, List.setIfInBounds_toArray, List.set_cons_zero, List.set_cons_succ]
  have f2 := P3.frozen 2
  have P4 := P3.set_ 2 (.string d)
  have Q4 := Q3.other (show w.heap.size + 1 ≠ w.heap.size by omega) 2 (.string d)
  simp only [List.set_cons_zero, List.set_cons_succ] at P4
  have B4 := B3.setCell (p := ⟨w.heap.size, 2, none⟩) (Nat.le_refl _) (.string d)
  have g0 := P4.cell 0
  have g1 := P4.cell 1
  have g2 := P4.cell 2
  have g3 := P4.cell 3
  have g4 := P4.cell 4
  have z0 := Q4.cell 0
  have z1 := Q4.cell 1
  have z2 := Q4.cell 2
  have z3 := Q4.cell 3
  have z4 := Q4.cell 4
  have y0 := Q4.frozen 0
  have y1 := Q4.frozen 1
  have y2 := Q4.frozen 2
  have y3 := Q4.frozen 3
  have y4 := Q4.frozen 4
  simp only [List.getElem?_cons_zero, List.getElem?_cons_succ] at g0 g1 g2 g3 g4 z0 z1 z2 z3 z4
  refine wpAnyH_ready (rs := [9]) (by kernel_rfl) (by simp) ?_
  refine AllReadyH.cons (o := ⟨_, _, _, _, _, _⟩) rfl (fun K hK => ?_) AllReadyH.nil
  go_simp
  generalize w3.setCell ⟨w.heap.size, 2, none⟩ (.string d) = w4 at *
  refine hK.out _ _ ⟨g0, g2⟩ (fun hHeld => ?_)
  clear hK K
  try simp only [Act.put, List.setIfInBounds_toArray, List.set_cons_zero, List.set_cons_succ]
  refine wpAnyH_done (by kernel_rfl) ?_ _
  clear hHeld P3 Q3 p2 q2 p1 q1 p0 q0 f0 f1 f2
  have R4 := ((((Q4.set_ 0 (.string x)).set_ 1 (.bool h)).set_ 2 (.string d)).set_ 3 (.int .i64 l)).set_ 4 (.int .i64 r)
  have r0 := R4.cell 0
  have r1 := R4.cell 1
  have r2 := R4.cell 2
  have r3 := R4.cell 3
  have r4 := R4.cell 4
  simp only [List.set_cons_zero, List.set_cons_succ, List.getElem?_cons_zero, List.getElem?_cons_succ] at r0 r1 r2 r3 r4
  have hle : w.heap.size ≤ w.heap.size + 1 := by omega
  have B5 := ((((B4.setCell (p := ⟨w.heap.size + 1, 0, none⟩) hle (.string x)).setCell (p := ⟨w.heap.size + 1, 1, none⟩) hle (.bool h)).setCell (p := ⟨w.heap.size + 1, 2, none⟩) hle (.string d)).setCell (p := ⟨w.heap.size + 1, 3, none⟩) hle (.int .i64 l)).setCell (p := ⟨w.heap.size + 1, 4, none⟩) hle (.int .i64 r)
  go_wp2
  refine bodyPost_ret (v := .agg #[.string x, .bool h, .string d, .int .i64 l, .int .i64 r]) (by simp [results, Tryz.results57, go_sem, r0, r1, r2, r3, r4]) rfl ⟨rfl, B5⟩

set_option maxHeartbeats 1000000 in
theorem copy_any {w : World} {A : Option Addr} {n c : Nat} {es : List Ent} (h : Et w A n c es) :
    Calls Tryz.prog 36 #[.slice A n c] w fun e w' => e = .returned (.slice (some ⟨w.heap.size, 0, none⟩) n n) ∧ Blk w' w.heap.size (entV es) 34 ∧ Below w.heap.size w w' := by
  have hnb := h.big
  have hmk := make_ents n hnb
  have HL := hid h.len
  have HS := hid h.sz
  have hr := h.rd
  clear h
  go_enter Tryz.func36, Tryz.ntmps36
  go_upto_region 3 with (fail)
  go_loopw [11] (fun i wr => ∃ j : Nat, j ≤ n ∧ i = .int .i64 j ∧ Blk wr w.heap.size (entV (es.take j ++ List.replicate (n - j) zE)) 34 ∧ Below w.heap.size w wr) (fun i _ => n - (intOf i).toNat)
  case atStart =>
    refine ⟨0, by omega, rfl, ?_, (Below.refl _ _).alloc (Nat.le_refl _) _⟩
    have := Blk.new w (entV (List.replicate n zE)) 34
    simpa using this
  case round =>
    obtain ⟨j, hj, rfl, hblk, hb⟩ := hrel
    by_cases hjn : j < n
    · have hjl : j < es.length := by rw [HL.out]; exact hjn
      have hr1 := hr.below hb
      obtain ⟨b, off, rfl, h1, h2, h3, h4, h5, -⟩ := hr1.ent hjl
      have hz : (0 : Int) ≤ j := by omega
      have hlt : (j : Int) < n := by omega
      have hsz := HS.out es[j] (List.getElem_mem hjl)
      have hj2 : j < (es.take j ++ List.replicate (n - j) zE).length := by rw [List.length_append, List.length_take, List.length_replicate]; omega
      have HSET := hid (ent_set _ j hj2 es[j])
      have HT : Hid ((es.take j ++ List.replicate (n - j) zE).set j es[j] = es.take (j + 1) ++ List.replicate (n - (j + 1)) zE) := by
        show _ = _
        rw [List.set_append_right _ _ (by rw [List.length_take]; omega), List.length_take, Nat.min_eq_left (by omega), Nat.sub_self, show n - j = (n - (j + 1)) + 1 by omega, List.replicate_succ, List.set_cons_zero, List.take_add_one, List.getElem?_eq_getElem hjl, List.append_assoc]
        rfl
      clear hr1
      go_upto_region 5 with (fail)
      have hblk2 := hblk.below ((Below.refl _ _).alloc (Nat.le_refl _) (.cells #[.string es[j].path, .bool es[j].has, .string es[j].data, .int .i64 es[j].l, .int .i64 es[j].r] 34))
      have hb2 := hb.alloc hb.size (.cells #[.string es[j].path, .bool es[j].has, .string es[j].data, .int .i64 es[j].l, .int .i64 es[j].r] 34)
      have k := Blk.new wr [.string es[j].path, .bool es[j].has, .string es[j].data, .int .i64 es[j].l, .int .i64 es[j].r] 34
      have k1 := k.cell 0
      have k2 := k.cell 1
      have k3 := k.cell 2
      have k4 := k.cell 3
      have k5 := k.cell 4
      simp only [List.getElem?_cons_zero, List.getElem?_cons_succ] at k1 k2 k3 k4 k5
      clear k hblk hb h1 h2 h3 h4 h5
      generalize es[j] = x at *
      generalize wr.alloc (.cells #[.string x.path, .bool x.has, .string x.data, .int .i64 x.l, .int .i64 x.r] 34) = wa at *
      generalize wr.heap.size = g at *
      go_wp2_with fail
      refine (eanew_any x _ (by omega) (by omega)).mono ?_
      rintro e w1 ⟨rfl, hb1⟩
      have hblk3 := hblk2.below hb1
      have hb3 := hb2.trans (hb1.mono hb2.size)
      have c0 := hblk3.ent hj2
      obtain ⟨c0, c1, c2, c3, c4⟩ := c0
      generalize (es.take j ++ List.replicate (n - j) zE)[j] = z at c0 c1 c2 c3 c4
      have f0 := hblk3.frozen (j * 5)
      have f1 := hblk3.frozen (j * 5 + 1)
      have f2 := hblk3.frozen (j * 5 + 2)
      have f3 := hblk3.frozen (j * 5 + 3)
      have f4 := hblk3.frozen (j * 5 + 4)
      have hblk4 := ((((hblk3.set_ (j * 5) (.string x.path)).set_ (j * 5 + 1) (.bool x.has)).set_ (j * 5 + 2) (.string x.data)).set_ (j * 5 + 3) (.int .i64 x.l)).set_ (j * 5 + 4) (.int .i64 x.r)
      rw [HSET.out, HT.out] at hblk4
      have hb4 := ((((hb3.setCell (p := ⟨w.heap.size, j * 5, none⟩) (Nat.le_refl _) (.string x.path)).setCell (p := ⟨w.heap.size, j * 5 + 1, none⟩) (Nat.le_refl _) (.bool x.has)).setCell (p := ⟨w.heap.size, j * 5 + 2, none⟩) (Nat.le_refl _) (.string x.data)).setCell (p := ⟨w.heap.size, j * 5 + 3, none⟩) (Nat.le_refl _) (.int .i64 x.l)).setCell (p := ⟨w.heap.size, j * 5 + 4, none⟩) (Nat.le_refl _) (.int .i64 x.r)
      clear hblk2 hb1 hb2 hblk3 k1 k2 k3 k4 k5 hj2
      go_wp2
      go_roundw
      case rel => exact ⟨j + 1, by omega, by go_num, hblk4, hb4⟩
      case measure => simp [intOf]; omega
    · have HE := hid (show j = n by omega)
      have hnlt : ¬ (j : Int) < n := by omega
      go_wp2
      go_ret
      refine ⟨rfl, ?_, hb⟩
      rw [HE.out, List.take_of_length_le (by rw [HL.out]; omega), Nat.sub_self, List.replicate_zero, List.append_nil] at hblk
      exact hblk

/-! ### Same -/
theorem same_noE {fs gs : List Ent} {j : Nat} (h1 : j < fs.length) (h2 : j < gs.length) (h : fs[j] ≠ gs[j]) : fs ≠ gs := fun e => by subst e; exact h rfl
set_option maxHeartbeats 1000000 in
theorem equalE_any {w : World} {A B : Option Addr} {n c m d : Nat} {fs gs : List Ent} (hl : fs.length = n) (hr : Rd w A (entV fs)) (hl2 : gs.length = m) (hr2 : Rd w B (entV gs)) (hn : n ≤ 1000000) :
    Calls Tryz.prog 62 #[.slice A n c, .slice B m d] w fun e w' => e = .returned (.bool (decide (fs = gs))) ∧ Below w.heap.size w w' := by
  have HL := hid hl
  have HL2 := hid hl2
  clear hl hl2
  by_cases hnm : n = m
  · subst hnm
    go_enter Tryz.func62, Tryz.ntmps62
    go_wp2
    go_loopw [13] (fun i wr => ∃ j : Nat, j ≤ n ∧ i = .int .i64 j ∧ Hid (fs.take j = gs.take j) ∧ ∃ q, wr = w.drewN q) (fun i _ => n - (intOf i).toNat)
    case atStart => exact ⟨0, by omega, rfl, by simp [Hid], 0, rfl⟩
    case round =>
      obtain ⟨j, hj, rfl, HO, q, rfl⟩ := hrel
      by_cases hjn : j < n
      · have hjl : j < fs.length := by rw [HL.out]; exact hjn
        have hjl2 : j < gs.length := by rw [HL2.out]; exact hjn
        obtain ⟨b, off, rfl, h1, h2, h3, h4, h5, -⟩ := hr.ent hjl
        obtain ⟨b', off', rfl, g1, g2, g3, g4, g5, -⟩ := hr2.ent hjl2
        have HN := hid (@same_noE fs gs j hjl hjl2)
        have HT1 := hid (show fs.take (j + 1) = fs.take j ++ [fs[j]] by rw [List.take_add_one, List.getElem?_eq_getElem hjl]; rfl)
        have HT2 := hid (show gs.take (j + 1) = gs.take j ++ [gs[j]] by rw [List.take_add_one, List.getElem?_eq_getElem hjl2]; rfl)
        have hz : (0 : Int) ≤ j := by omega
        have hlt : (j : Int) < n := by omega
        have hneq := neqE fs[j] gs[j]
        generalize fs[j] = f at *
        generalize gs[j] = g at *
        by_cases hfg : f = g
        · rw [decide_eq_true hfg] at hneq
          have HFG := hid hfg
          clear hfg
          go_wp2_with fail
          go_quiet (fail)
          go_wp2
          go_roundw
          case rel => exact ⟨j + 1, by omega, by go_num, hid (by rw [HT1.out, HT2.out, HO.out, HFG.out]), _, rfl⟩
          case measure => simp [intOf]; omega
        · rw [decide_eq_false hfg] at hneq
          have HFG := hid hfg
          clear hfg
          go_wp2_with fail
          go_quiet (fail)
          go_wp2
          go_ret
          exact ⟨ret_bool (decide_eq_false (HN.out HFG.out)).symm, below_drewN (below_drewN (Below.refl _ _) _) _⟩
      · have HE := hid (show j = n by omega)
        have hnlt : ¬ (j : Int) < n := by omega
        go_wp2
        go_ret
        refine ⟨ret_bool ?_, below_drewN (Below.refl _ _) _⟩
        have ho := HO.out
        have e1 := HE.out
        rw [e1, List.take_of_length_le (by rw [HL.out]; omega), List.take_of_length_le (by rw [HL2.out]; omega)] at ho
        exact (decide_eq_true ho).symm
  · have hnz : ¬ (n : Int) = m := by omega
    go_enter Tryz.func62, Tryz.ntmps62
    go_wp2
    go_ret
    refine ⟨ret_bool ?_, Below.refl _ _⟩
    refine (decide_eq_false ?_).symm
    intro e
    subst e
    exact hnm (by rw [← HL.out, HL2.out])
set_option maxHeartbeats 400000 in
theorem sameE_any {w : World} {A B : Option Addr} {n c m d : Nat} {fs gs : List Ent} (hl : fs.length = n) (hr : Rd w A (entV fs)) (hl2 : gs.length = m) (hr2 : Rd w B (entV gs)) (hn : n ≤ 1000000) :
    Calls Tryz.prog 28 #[.slice A n c, .slice B m d] w fun e w' => e = .returned (.bool (decide (fs = gs))) ∧ Below w.heap.size w w' := by
  have c0 := equalE_any (c := c) (d := d) hl hr hl2 hr2 hn
  clear hl hr hl2 hr2
  generalize decide (fs = gs) = b at *
  go_enter Tryz.func28, Tryz.ntmps28
  go_wp2_with fail
  refine c0.mono ?_
  rintro e w1 ⟨rfl, hb⟩
  clear c0
  go_wp2
  go_ret
  exact ⟨rfl, hb⟩

/-! ### Find's closure -/
set_option maxHeartbeats 400000 in
theorem find1_any (bx : Nat) (e : Ent) (p : ByteArray) (W : World) (hx : W.cell? ⟨bx, 0, none⟩ = some (.string p)) :
    Calls Tryz.prog 64 (#[eA e] ++ #[.pointer (some ⟨bx, 0, none⟩)]) W fun x w' => x = .returned (.bool (decide (e.path = p))) ∧ Below W.heap.size W w' := by
  obtain ⟨x, h, d, l, r⟩ := e
  have hb := World.block_lt_of_cell? _ _ hx
  have HE := hid (str_eqb x p)
  go_enter Tryz.func64, Tryz.ntmps64
  go_wp2
  go_ret
  exact ⟨ret_bool HE.out, by go_grown⟩

set_option maxHeartbeats 1000000 in
theorem idxE_any (bx : Nat) (A : Option Addr) (n c : Nat) (es : List Ent) (p : ByteArray) (w : World) (hl : es.length = n) (hx : w.cell? ⟨bx, 0, none⟩ = some (.string p)) (hr : Rd w A (entV es)) (hn : n ≤ 1000000) :
    Calls Tryz.prog 63 #[.slice A n c, .func (.func 64) #[] #[.pointer (some ⟨bx, 0, none⟩)]] w fun x w' => x = .returned (.int .i64 (idxE es p)) ∧ Below w.heap.size w w' := by
  have eg := enters_of Tryz.func64 (by kernel_rfl) rfl
  have hbx := World.block_lt_of_cell? _ _ hx
  have HL := hid hl
  clear hl
  go_enter Tryz.func63, Tryz.ntmps63
  go_wp2_with fail
  go_loopw [8] (fun i wr => ∃ j : Nat, j ≤ n ∧ i = .int .i64 j ∧ Hid (∀ k (hk : k < es.length), k < j → es[k].path ≠ p) ∧ Below w.heap.size w wr) (fun i _ => n - (intOf i).toNat)
  case atStart => exact ⟨0, by omega, rfl, hid (fun k _ hk => absurd hk (by omega)), Below.refl _ _⟩
  case round =>
    obtain ⟨j, hj, rfl, HO, hb⟩ := hrel
    by_cases hjn : j < n
    · have hjl : j < es.length := by rw [HL.out]; exact hjn
      have hr1 := hr.below hb
      obtain ⟨b, off, rfl, h1, h2, h3, h4, h5, -⟩ := hr1.ent hjl
      have hx1 := (hb.cell (p := ⟨bx, 0, none⟩) hbx).trans hx
      have cc := find1_any bx es[j] p wr hx1
      have HY := hid (fun h => @idxE_at es p j hjl h HO.out)
      have HN : Hid (es[j].path ≠ p → ∀ k (hk : k < es.length), k < j + 1 → es[k].path ≠ p) := fun h k hk hkj => by
        by_cases e : k = j
        · subst e; exact h
        · exact HO.out k hk (by omega)
      generalize es[j] = f at *
      clear hr1
      have hz : (0 : Int) ≤ j := by omega
      have hlt : (j : Int) < n := by omega
      go_wp2_with fail
      refine cc.mono ?_
      rintro e w1 ⟨rfl, hb1⟩
      have hb1' := below2 hb hb1
      clear cc hb hb1 hx1
      by_cases hq : f.path = p
      · rw [decide_eq_true hq]
        have HQ := hid hq
        clear hq
        go_wp2
        go_ret
        exact ⟨ret_int (HY.out HQ.out).symm, hb1'⟩
      · rw [decide_eq_false hq]
        have HQ := hid hq
        clear hq
        go_wp2
        go_roundw
        case rel => exact ⟨j + 1, by omega, by go_num, hid (HN.out HQ.out), hb1'⟩
        case measure => simp [intOf]; omega
    · have HE := hid (show j = n by omega)
      have hnlt : ¬ (j : Int) < n := by omega
      go_wp2
      go_ret
      refine ⟨ret_int ?_, hb⟩
      symm
      refine idxE_no fun e he => ?_
      obtain ⟨k, hk, rfl⟩ := List.mem_iff_getElem.1 he
      exact HO.out k hk (by rw [HE.out, ← HL.out]; exact hk)
end Go.Proofs.YtlmccjdpmhancaaGreatDoor
namespace Go.Proofs.YtlmccjdpmhancaaGreatDoor
open Go.RowKit

theorem Blk.row {w : World} {g : Nat} {cs cs' : List Value} {t : TypeId} (h : Blk w g cs t) : Blk (w.setRow g cs'.toArray) g cs' t := setRow_heap w g cs.toArray cs'.toArray t (0, 0) h
theorem Blk.rowOther {w : World} {g k : Nat} {cs : List Value} {t : TypeId} (h : Blk w k cs t) (hne : k ≠ g) (x : Array Value) : Blk (w.setRow g x) k cs t := by
  unfold Blk
  rw [setRow_other w g k x hne]
  exact h
theorem Blk.read {w : World} {g : Nat} {cs : List Value} {t : TypeId} (h : Blk w g cs t) (o : Nat) (xs : List Value) (hx : ∀ j u, xs[j]? = some u → cs[o + j]? = some u) : ∀ j u, xs[j]? = some u → w.cell? ((⟨g, o, none⟩ : Addr).add j) = some u := by
  intro j u hu
  rw [Addr.add_lit, h.cell]
  exact hx j u hu
theorem wp_copy2 {P : Program} (w : World) {o : Oper} {a : Act} {K : Act → World → Prop} {Q : Exit → Act → World → Prop} (d s : Operand) (t t' : TypeId)
    (ho : o.op = .call { callee := .builtin .copy, args := #[d, s], argTypes := #[t, t'] }) (v u : Value) (hd : a.eval d = v) (hs : a.eval s = u) {v' : Value} {w' : World}
    (hr : (Builtin.copy_ #[t, t'] o.type #[v, u]).run P w = .ok v' w') (h : K (a.put o.dst v') w') : o.wp P a w K Q := by
  unfold Oper.wp
  simp [execOp, ho, resolve, invoke, builtin, hd, hs, hr, Result.andThen]
  exact h
theorem wpCopy {P : Program} (w : World) {ops : Array Oper} {rest : List Oper} {o : Oper} {a : Act} {Q : Exit → Act → World → Prop} (hgd : o.guard = none) (d s : Operand) (t t' : TypeId)
    (ho : o.op = .call { callee := .builtin .copy, args := #[d, s], argTypes := #[t, t'] }) (v u : Value) (hd : a.eval d = v) (hs : a.eval s = u) {v' : Value} {w' : World}
    (hr : (Builtin.copy_ #[t, t'] o.type #[v, u]).run P w = .ok v' w') (h : wpList P ops Q rest (a.put o.dst v') w') : wpList P ops Q (o :: rest) a w :=
  wpList_plain hgd fun _ hK => wp_copy2 w d s t t' ho v u hd hs hr (hK _ _ h)
theorem stepCopy {P : Program} {w w' : World} {ops : Array Oper} {o : Oper} {a : Act} {K : Act → World → Prop} {Q : Exit → Act → World → Prop} {E : Prop} (hw : Region.wanted o (yielded ops a.tmps) = true) (d s : Operand) (t t' : TypeId)
    (ho : o.op = .call { callee := .builtin .copy, args := #[d, s], argTypes := #[t, t'] }) (v u v' : Value) (hd : a.eval d = v) (hs : a.eval s = u)
    (hr : (Builtin.copy_ #[t, t'] o.type #[v, u]).run P w = .ok v' w') (h : K (a.put o.dst v') w') : if Region.wanted o (yielded ops a.tmps) = true then Oper.wp P o a w K Q else E := by
  rw [if_pos hw]
  exact wp_copy2 w d s t t' ho v u hd hs hr h
theorem stepApp2 {P : Program} {w w' : World} {ops : Array Oper} {o : Oper} {a : Act} {K : Act → World → Prop} {Q : Exit → Act → World → Prop} {E : Prop} (hw : Region.wanted o (yielded ops a.tmps) = true) (s x : Operand) (t : TypeId)
    (ho : o.op = .call { callee := .builtin .append, args := #[s, x], argTypes := #[t, t] }) (v1 v2 v : Value) (hs : a.eval s = v1) (hx : a.eval x = v2)
    (hrun : (Builtin.append_ #[t, t] o.type #[v1, v2]).run P w = .ok v w') (h : K (a.put o.dst v) w') : if Region.wanted o (yielded ops a.tmps) = true then Oper.wp P o a w K Q else E := by
  rw [if_pos hw]
  exact Lib.wp_append_run w s x t t ho v1 v2 hs hx v w' hrun h
end Go.Proofs.YtlmccjdpmhancaaGreatDoor
namespace Go.Proofs.YtlmccjdpmhancaaGreatDoor
open Go.RowKit

abbrev zS : Value := .string ⟨#[]⟩
theorem Tryz.infoF : (Tryz.prog.info? 57).map (fun i => (i.zero, i.size, i.bytes)) = some (some (.agg #[zS, zS]), 2, 32) := by kernel_rfl
theorem zero_two (n : Nat) : Builtin.zeroCells (Value.agg #[zS, zS]).cells n = (List.replicate (n * 2) zS).toArray := made_two zS (n * 2)
/-- append of one more where there is no room. -/
theorem app_end {w : World} {g n : Nat} {fs : List Fil} (hB : Blk w g (filV fs) 57) (hl : fs.length = n) (hn : n ≤ 1000) (ty : TypeId) (k : Nat) (a b : Value) (hk : Blk w k [a, b] 57) (ha : a.oneCell' = true) (hb : b.oneCell' = true) :
    ∃ c', n + 1 ≤ c' ∧ c' ≤ maxLen ∧ (Builtin.append_ #[36, 36] ty #[.slice (some ⟨g, 0, none⟩) n n, .slice (some ⟨k, 0, none⟩) 1 1]).run Tryz.prog w =
      .ok (.slice (some ⟨w.heap.size, 0, none⟩) (n + 1) c') (w.drew.alloc (.cells (filV fs ++ [a, b] ++ List.replicate ((c' - (n + 1)) * 2) zS).toArray 57)) := by
  obtain ⟨i, hi, hz0, hz1, hz2⟩ := info_parts Tryz.infoF
  have hs : Src Tryz.prog i.size 36 (.slice (some ⟨k, 0, none⟩) 1 1) 1 [a, b] w := Src.ofSlice w Tryz.underlying36 _ 1 1 [a, b] (by rw [hz1]; rfl) (hk.read 0 [a, b] (fun j u hu => by rw [Nat.zero_add]; exact hu)) (by simp [ha, hb])
  have hold : (Builtin.firstCells i.size n (.slice (some ⟨g, 0, none⟩) n n)).run Tryz.prog w.drew = .ok (filV fs).toArray w.drew := run_firstCells_some w.drew i.size n _ n n (filV fs) (by rw [hz1, filV_length, hl]) (hB.drew.read 0 (filV fs) (fun j u hu => by rw [Nat.zero_add]; exact hu))
  have hfit : Builtin.nextslicecap (n + 1) n * i.bytes ≤ 281474976710656 := by
    rw [hz2]
    exact growslice_fits (by omega) (by omega)
  refine ⟨grownCap w (n + 1) n 57, grownCap_ge w _ _ _, grownCap_le_maxLen w _ _ _ (by unfold maxLen; omega), ?_⟩
  rw [run_append_grow_src w _ _ ty 57 i _ Tryz.underlying36 hi hz0 (some ⟨g, 0, none⟩) n n (filV fs) hold _ 1 [a, b] hs (by omega) (by omega) hfit, zero_two]
  have e : (filV fs ++ [a, b] ++ List.replicate ((grownCap w (n + 1) n 57 - (n + 1)) * 2) zS).toArray = (filV fs ++ [a, b]).toArray ++ (List.replicate ((grownCap w (n + 1) n 57 - (n + 1)) * 2) zS).toArray := by
    apply Array.ext'
    simp
  rw [e]

/-- append of zero values where there is no room. -/
theorem app_zeros {w : World} {g n i : Nat} {fs : List Fil} (hB : Blk w g (filV fs) 57) (hl : fs.length = n) (hn : n ≤ 1000) (hi : i < n) (ty : TypeId) (z : Int) (hz : z = (n : Int) + 1 - i) :
    ∃ c', n + 1 ≤ c' ∧ c' ≤ maxLen ∧ (Builtin.append_ #[36, 3] ty #[.slice (some ⟨g, 0, none⟩) i n, .int .i64 z]).run Tryz.prog w =
      .ok (.slice (some ⟨w.heap.size, 0, none⟩) (n + 1) c') (w.drew.alloc (.cells (filV (fs.take i) ++ List.replicate ((c' - i) * 2) zS).toArray 57)) := by
  obtain ⟨inf, hinf, hz0, hz1, hz2⟩ := info_parts Tryz.infoF
  subst hz
  have e : ((n : Int) + 1 - i) = ((n + 1 - i : Nat) : Int) := by omega
  rw [e]
  have hold : (Builtin.firstCells inf.size i (.slice (some ⟨g, 0, none⟩) i n)).run Tryz.prog w.drew = .ok (filV (fs.take i)).toArray w.drew := run_firstCells_some w.drew inf.size i _ i n (filV (fs.take i)) (by rw [hz1, filV_length, List.length_take, hl]; omega) (hB.drew.read 0 (filV (fs.take i)) (fun j u hu => by
    rw [Nat.zero_add]
    rw [filV_take, List.getElem?_take] at hu
    split at hu
    · exact hu
    · cases hu))
  have hfit : Builtin.nextslicecap (n + 1) n * inf.bytes ≤ 281474976710656 := by
    rw [hz2]
    exact growslice_fits (by omega) (by omega)
  refine ⟨grownCap w (n + 1) n 57, grownCap_ge w _ _ _, grownCap_le_maxLen w _ _ _ (by unfold maxLen; omega), ?_⟩
  have hge := grownCap_ge w (n + 1) n 57
  have hw : IntKind.i64.wrap ((n + 1 - i : Nat) : Int) = ((n + 1 - i : Nat) : Int) := by rw [IntKind.wrap_i64]; omega
  have need : i + (n + 1 - i) = n + 1 := by omega
  have hroom : ¬ n + 1 ≤ n := by omega
  have h48' : ¬ (281474976710656 < Builtin.nextslicecap (n + 1) n * inf.bytes) := by omega
  have h48i : ¬ (281474976710656 < ((n + 1 - i : Nat) : Int) * (inf.bytes : Int)) := by rw [hz2]; omega
  have hneg : ¬ (((n + 1 - i : Nat) : Int) < 0) := by omega
  have hns : ¬ ((n + 1 - i) * inf.size = 0) := by rw [hz1]; omega
  have hzc : Builtin.zeroCells (Value.agg #[zS, zS]).cells (n + 1 - i) ++ Builtin.zeroCells (Value.agg #[zS, zS]).cells (grownCap w (n + 1) n 57 - (n + 1)) = (List.replicate ((grownCap w (n + 1) n 57 - i) * 2) zS).toArray := by
    rw [zero_two, zero_two, show (grownCap w (n + 1) n 57 - i) * 2 = (n + 1 - i) * 2 + (grownCap w (n + 1) n 57 - (n + 1)) * 2 by omega]
    apply Array.ext'
    simp
  have e2 : (filV (fs.take i) ++ List.replicate ((grownCap w (n + 1) n 57 - i) * 2) zS).toArray = (filV (fs.take i)).toArray ++ (Builtin.zeroCells (Value.agg #[zS, zS]).cells (n + 1 - i) ++ Builtin.zeroCells (Value.agg #[zS, zS]).cells (grownCap w (n + 1) n 57 - (n + 1))) := by
    rw [hzc]; simp
  rw [e2, ← Array.append_assoc]
  generalize (n + 1 - i : Nat) = m at *
  have h63' : ¬ (9223372036854775807 < (i : Int) + (m : Int)) := by omega
  simp [Builtin.append_, run_underlying Tryz.underlying36, run_underlying Tryz.underlying3, sizeOf, typeInfo, zeroValue, hinf, hz0, asInt, asIntOf, hw, hneg, hns, need, hroom, h63', h48', h48i, Question.forced, hold, newRow, grownCap]

/-- copy of cells onto a block that is known whole. -/
theorem copy_blk {w : World} {g o dLen dCap : Nat} {cs : List Value} (hB : Blk w g cs 57) (ty : TypeId) (a : Addr) (sLen sCap : Nat) (news : List Value) (hl : news.length = Nat.min sLen dLen * 2) (hfit : o + news.length ≤ cs.length)
    (hsrc : ∀ j v, news[j]? = some v → w.cell? (a.add j) = some v) (h1 : ∀ v ∈ news, v.oneCell' = true) :
    (Builtin.copy_ #[36, 36] ty #[.slice (some ⟨g, o, none⟩) dLen dCap, .slice (some a) sLen sCap]).run Tryz.prog w =
      .ok (goInt (Nat.min sLen dLen : Nat)) (w.setRow g (cs.take o ++ news ++ cs.drop (o + news.length)).toArray) := by
  obtain ⟨i, hi, hz0, hz1, hz2⟩ := info_parts Tryz.infoF
  have hst := run_storeCells_at Tryz.prog g o 57 news 0 cs.toArray w hB (by simpa using hfit) h1
  have hld := run_firstCells_some (P := Tryz.prog) w i.size (Nat.min sLen dLen) a sLen sCap news (by rw [hz1]; exact hl) hsrc
  simp only [Nat.add_zero] at hst
  simp [Builtin.copy_, run_underlying Tryz.underlying36, Builtin.lenOf, sizeOf, typeInfo, hi]
  rw [hld]
  simp [Result.andThen, hst]
/-- append where there is room. -/
theorem app_room {w : World} {g : Nat} {cs : List Value} (hB : Blk w g cs 57) (ty : TypeId) (sLen sCap : Nat) (a : Addr) (m d : Nat) (news : List Value) (hl : news.length = m * 2) (hroom : sLen + m ≤ sCap) (hfit : sLen * 2 + news.length ≤ cs.length)
    (hsrc : ∀ j v, news[j]? = some v → w.cell? (a.add j) = some v) (h1 : ∀ v ∈ news, v.oneCell' = true) :
    (Builtin.append_ #[36, 36] ty #[.slice (some ⟨g, 0, none⟩) sLen sCap, .slice (some a) m d]).run Tryz.prog w =
      .ok (.slice (some ⟨g, 0, none⟩) (sLen + m) sCap) (w.setRow g (cs.take (sLen * 2) ++ news ++ cs.drop (sLen * 2 + news.length)).toArray) := by
  obtain ⟨i, hi, hz0, hz1, hz2⟩ := info_parts Tryz.infoF
  have hst := run_storeCells_at Tryz.prog g (sLen * 2) 57 news 0 cs.toArray w hB (by simpa using hfit) h1
  have hld := run_firstCells_some (P := Tryz.prog) w i.size m a m d news (by rw [hz1]; exact hl) hsrc
  rw [hz1] at hld
  simp only [Nat.add_zero] at hst
  simp [Builtin.append_, run_underlying Tryz.underlying36, sizeOf, typeInfo, hi, Builtin.lenOf, hroom, hz1, hld, Addr.add_lit, hst]

/-- clear of one file. -/
theorem clear_one {w : World} {g : Nat} {cs : List Value} (hB : Blk w g cs 57) (ty : TypeId) (o c : Nat) (hfit : o + 2 ≤ cs.length) :
    (Builtin.clear_ #[36] ty #[.slice (some ⟨g, o, none⟩) 1 c]).run Tryz.prog w = .ok (.tuple #[]) (w.setRow g (cs.take o ++ [zS, zS] ++ cs.drop (o + 2)).toArray) := by
  obtain ⟨i, hi, hz0, hz1, hz2⟩ := info_parts Tryz.infoF
  have hst := run_storeCells_at Tryz.prog g o 57 [zS, zS] 0 cs.toArray w hB (by simpa using hfit) (by simp; rfl)
  simp only [Nat.add_zero] at hst
  have hz : Builtin.zeroCells (Value.agg #[zS, zS]).cells 1 = #[zS, zS] := zero_two 1
  simp [Builtin.clear_, run_underlying Tryz.underlying36, zeroValue, typeInfo, hi, hz0]
  rw [hz, show (#[zS, zS] : Array Value).toList = [zS, zS] from rfl, hst]
  simp [Result.andThen]
end Go.Proofs.YtlmccjdpmhancaaGreatDoor
