/- The document's answers of layer 3: names, what is cut, paths. -/
import Derived.Test.YtnkkjedckehoaaaDoorQd
namespace Go.Proofs.YtnkkjedckehoaaaDoor
open Go.RowKit

theorem okB_no {b : UInt8} (h : okB b = false) : ((b.toNat : Int) < 97 ∨ (122 : Int) < b.toNat) ∧ ((b.toNat : Int) < 48 ∨ (57 : Int) < b.toNat) ∧ (b.toNat : Int) ≠ 46 ∧ (b.toNat : Int) ≠ 45 := by
  simp [okB] at h
  omega
theorem okB_yes {b : UInt8} (h : okB b = true) : ((97 : Int) ≤ b.toNat ∧ (b.toNat : Int) ≤ 122) ∨ ((48 : Int) ≤ b.toNat ∧ (b.toNat : Int) ≤ 57) ∨ (b.toNat : Int) = 46 ∨ (b.toNat : Int) = 45 := by
  simp [okB] at h
  omega

set_option maxHeartbeats 2000000 in
theorem refName (s : ByteArray) (w : World) :
    Calls Tryd.prog 67 #[.string s] w fun e w' => e = .returned (.bool (nameL s.data.toList)) ∧ w = w' := by
  by_cases h1 : (s.size : Int) < 1
  · go_enter Tryd.func67, Tryd.ntmps67
    go_wp2
    go_ret
    exact ⟨ret_bool (nameL_no (by have := size_len s; omega)), rfl⟩
  by_cases h2 : (12 : Int) < s.size
  · go_enter Tryd.func67, Tryd.ntmps67
    go_wp2
    go_ret
    exact ⟨ret_bool (nameL_no (by have := size_len s; omega)), rfl⟩
  cases h3 : (s.toList == [46])
  case true =>
    have H := hid (show s.data.toList = [46] by rw [← Lib.toList_data s]; simpa using h3)
    go_enter Tryd.func67, Tryd.ntmps67
    go_wp2
    go_ret
    exact ⟨ret_bool (nameL_no (fun h => h.2.2.1 H.out)), rfl⟩
  cases h4 : (s.toList == [46, 46])
  case true =>
    have H := hid (show s.data.toList = [46, 46] by rw [← Lib.toList_data s]; simpa using h4)
    go_enter Tryd.func67, Tryd.ntmps67
    go_wp2
    go_ret
    exact ⟨ret_bool (nameL_no (fun h => h.2.2.2 H.out)), rfl⟩
  have HH := hid (show 1 ≤ s.data.toList.length ∧ s.data.toList.length ≤ 12 ∧ s.data.toList ≠ [46] ∧ s.data.toList ≠ [46, 46] by
    have hl := size_len s
    rw [Lib.toList_data s] at h3 h4
    exact ⟨by omega, by omega, by simpa using h3, by simpa using h4⟩)
  go_enter Tryd.func67, Tryd.ntmps67
  go_wp2_with fail
  go_loop [3] (fun i => ∃ j : Nat, j ≤ s.size ∧ i = .int .i64 j ∧ (s.data.toList.take j).all okB = true) (fun i => s.size - (intOf i).toNat)
  case atStart => exact ⟨0, by omega, rfl, by simp⟩
  case round =>
    obtain ⟨j, hj, rfl, hok⟩ := hrel
    by_cases hjn : j < s.size
    · have hlt : (j : Int) < s.size := by omega
      have HK := hid (take_ok s j hjn)
      have HO := hid hok
      clear hok
      obtain ⟨b, hb⟩ : ∃ b, s[j] = b := ⟨_, rfl⟩
      rw [hb] at HK
      have hyes : okB b = true → (s.data.toList.take (j + 1)).all okB = true := fun h => by rw [HK.out, HO.out, h]; rfl
      have hno : okB b = false → false = nameL s.data.toList := fun h => by
        have hk : (s.data.toList.take (j + 1)).all okB = false := by rw [HK.out, HO.out, h]; rfl
        cases hn : nameL s.data.toList with
        | false => rfl
        | true =>
          simp only [nameL, Bool.and_eq_true, List.all_eq_true] at hn
          have : (s.data.toList.take (j + 1)).all okB = true := List.all_eq_true.2 fun b hbm => hn.2 b (List.mem_of_mem_take hbm)
          rw [hk] at this
          cases this
      have HY := hid hyes
      have HN := hid hno
      clear hyes hno HK
      cases hob : okB b
      · have h5 := okB_no hob
        go_wp2
        all_goals first
          | (go_ret; exact ⟨ret_bool (HN.out hob), rfl⟩)
          | (exfalso; rename_i h; simp at h; omega)
      · have HT := HY.out hob
        clear HY HN
        rcases okB_yes hob with ⟨h5, h6⟩ | ⟨h5, h6⟩ | h5 | h5
        all_goals
          go_wp2
          go_roundw
          case rel => exact ⟨j + 1, by omega, by go_num, HT⟩
          case measure => simp [intOf]; omega
    · have e : s.size = j := by omega
      have HE := hid e
      have HO := hid hok
      have hnlt : ¬ (j : Int) < s.size := by omega
      clear e hok
      go_wp2
      go_ret
      refine ⟨ret_bool ?_, rfl⟩
      have hl := size_len s
      have ho := HO.out
      rw [← HE.out, hl, List.take_length] at ho
      have hh := HH.out
      simp only [nameL, ho, Bool.and_true]
      exact (decide_eq_true hh).symm

/-- What is cut so far: the pieces that end, and from where the last one goes on. -/
def CutInv (l : List UInt8) (j f : Nat) (done : List (List UInt8)) : Prop :=
  (j ≤ l.length ∧ f ≤ j ∧ 47 ∉ (l.drop f).take (j - f) ∧ done ++ pieces (l.drop f) = pieces l) ∨ (j = l.length + 1 ∧ done = pieces l)
theorem cut_last {l : List UInt8} {f : Nat} {done : List (List UInt8)} (h : CutInv l l.length f done) : f ≤ l.length ∧ done ++ [(l.drop f).take (l.length - f)] = pieces l := by
  rcases h with ⟨_, h2, h3, h4⟩ | ⟨h1, _⟩
  · have e : (l.drop f).take (l.length - f) = l.drop f := List.take_of_length_le (by simp)
    rw [e] at h3 ⊢
    rw [← h4, pieces_none _ h3]
    exact ⟨h2, rfl⟩
  · omega
theorem drop_at {l : List UInt8} {j f : Nat} (h : j < l.length) (hf : f ≤ j) : l.drop f = (l.drop f).take (j - f) ++ l[j] :: l.drop (j + 1) := by
  have e1 : (l.drop f).drop (j - f) = l.drop j := by rw [List.drop_drop]; congr 1; omega
  have e2 : l.drop j = l[j] :: l.drop (j + 1) := List.drop_eq_getElem_cons h
  rw [← e2, ← e1, List.take_append_drop]
theorem cut_stroke {l : List UInt8} {j f : Nat} {done : List (List UInt8)} (h : CutInv l j f done) (hj : j < l.length) (hb : l[j] = 47) :
    f ≤ j ∧ CutInv l (j + 1) (j + 1) (done ++ [(l.drop f).take (j - f)]) := by
  rcases h with ⟨_, h2, h3, h4⟩ | ⟨h1, _⟩
  · refine ⟨h2, .inl ⟨by omega, Nat.le_refl _, by simp, ?_⟩⟩
    have e := drop_at hj h2
    rw [hb] at e
    have e2 : pieces (l.drop f) = (l.drop f).take (j - f) :: pieces (l.drop (j + 1)) := by
      conv => lhs; rw [e]
      rw [pieces_app, pieces_none _ h3]
      rfl
    rw [← h4, e2]
    simp
  · omega
theorem cut_on {l : List UInt8} {j f : Nat} {done : List (List UInt8)} (h : CutInv l j f done) (hj : j < l.length) (hb : l[j] ≠ 47) : CutInv l (j + 1) f done := by
  rcases h with ⟨_, h2, h3, h4⟩ | ⟨h1, _⟩
  · refine .inl ⟨by omega, by omega, ?_, h4⟩
    have e : j + 1 - f = (j - f) + 1 := by omega
    have e2 : (l.drop f)[j - f]? = some l[j] := by rw [List.getElem?_drop, show f + (j - f) = j by omega, List.getElem?_eq_getElem hj]
    rw [e, List.take_add_one, e2]
    intro hm
    rcases List.mem_append.1 hm with hm | hm
    · exact h3 hm
    · simp at hm
      exact hb hm.symm
  · omega
theorem ba_at (s : ByteArray) (j : Nat) (h : j < s.size) : s[j] = s.data.toList[j]'(by have := size_len s; omega) := rfl

/-- A slice of pieces that the call made. -/
def CutPost (w : World) (L : List (List UInt8)) (e : Ending) (w' : World) : Prop :=
  ∃ A c, e = .returned (.slice A L.length c) ∧ Rd w' A (strV (L.map mkS)) ∧ L.length ≤ c ∧ Below w.heap.size w w'

set_option maxHeartbeats 2000000 in
theorem refCut (s : ByteArray) (w : World) (hs : s.size < 4294967281) :
    Calls Tryd.prog 66 #[.string s] w (CutPost w (pieces s.data.toList)) := by
  go_enter Tryd.func66, Tryd.ntmps66
  go_wp2_with fail
  go_loopw [3, 4, 5] (fun v f i wr => ∃ j k : Nat, ∃ done : List ByteArray, ∃ A c, i = .int .i64 j ∧ f = .int .i64 k ∧ v = .slice A done.length c ∧ done.length ≤ j ∧ j ≤ s.size + 1 ∧ wr.ownsRow w.heap.size 9 1 (.slice A done.length c) done.length (strV done) ∧ CutInv s.data.toList j k (lst done) ∧ Below w.heap.size w wr) (fun _ _ i _ => s.size + 1 - (intOf i).toNat)
  case atStart => exact ⟨0, 0, [], none, 0, rfl, rfl, rfl, Nat.le_refl _, by omega, World.ownsRow_nil _ _ _ _, .inl ⟨by omega, Nat.le_refl _, by simp, rfl⟩, Below.refl _ _⟩
  case round =>
    obtain ⟨j, k, done, A, c, rfl, rfl, rfl, hdl, hj, hown, hinv, hb⟩ := hrel
    have HI := hid hinv
    clear hinv
    by_cases hjs : j ≤ s.size
    · have hle : (j : Int) ≤ s.size := by omega
      by_cases hje : j = s.size
      · subst hje
        have HI2 := hid (show CutInv s.data.toList (s.size + 1) (s.size + 1) (lst done ++ [(s.data.toList.drop k).take (s.size - k)]) by
          have h := HI.out
          rw [size_len] at h ⊢
          exact .inr ⟨rfl, (cut_last h).2⟩)
        have hk : (k : Int) ≤ s.size := by
          have h := HI.out
          rw [size_len] at h ⊢
          have := (cut_last h).1
          omega
        clear HI
        go_wp2_with (at_builtin; refine wpApp _ rfl _ _ 27 rfl w.heap.size 9 (.string ⟨#[]⟩) 16 Tryd.underlying27 Tryd.infoS rfl A done.length c _ rfl (hown.alloc _) _ _ _ (strV [s.extract k s.size]) rfl rfl (.inr ⟨_, rfl, new_cells wr 9 _⟩) (strV_one _) (by omega) (by have := hb.size; simp; omega) (by omega) ?_)
        intro A2 c2 w2 hown2 hg2
        have hb2 : Below w.heap.size w w2 := (hb.alloc hb.size _).grown hg2 (by have := hb.size; simp; omega) (own_app_block hown)
        have hown3 : w2.ownsRow w.heap.size 9 1 (.slice A2 (done ++ [s.extract k s.size]).length c2) (done ++ [s.extract k s.size]).length (strV (done ++ [s.extract k s.size])) := by
          rw [strV_append, List.length_append]
          exact hown2
        clear hown hown2 hg2 hb
        go_wp2
        go_roundw
        case rel =>
          exact ⟨s.size + 1, s.size + 1, done ++ [s.extract k s.size], A2, c2, by go_num, by go_num, by simp, by simp; omega, by omega, hown3, by rw [lst, List.map_append, List.map_cons, List.map_nil, Lib.extract_data]; exact HI2.out, hb2⟩
        case measure => simp [intOf]
      · have hjn : j < s.size := by omega
        have hlt : (j : Int) < s.size := by omega
        have hne : ((j : Int) == (s.size : Int)) = false := by simp; omega
        have hjl : j < s.data.toList.length := by rw [← size_len]; exact hjn
        have HB := hid (ba_at s j hjn)
        obtain ⟨b, hbe⟩ : ∃ b, s[j] = b := ⟨_, rfl⟩
        rw [hbe] at HB
        by_cases h47 : b = 47
        · subst h47
          have HI2 := hid (show CutInv s.data.toList (j + 1) (j + 1) (lst done ++ [(s.data.toList.drop k).take (j - k)]) from (cut_stroke HI.out hjl HB.out.symm).2)
          have hk : (k : Int) ≤ j := by
            have := (cut_stroke HI.out hjl HB.out.symm).1
            omega
          clear HI HB
          go_wp2_with (at_builtin; refine wpApp _ rfl _ _ 27 rfl w.heap.size 9 (.string ⟨#[]⟩) 16 Tryd.underlying27 Tryd.infoS rfl A done.length c _ rfl (hown.alloc _) _ _ _ (strV [s.extract k j]) rfl rfl (.inr ⟨_, rfl, new_cells wr 9 _⟩) (strV_one _) (by omega) (by have := hb.size; simp; omega) (by omega) ?_)
          intro A2 c2 w2 hown2 hg2
          have hb2 : Below w.heap.size w w2 := (hb.alloc hb.size _).grown hg2 (by have := hb.size; simp; omega) (own_app_block hown)
          have hown3 : w2.ownsRow w.heap.size 9 1 (.slice A2 (done ++ [s.extract k j]).length c2) (done ++ [s.extract k j]).length (strV (done ++ [s.extract k j])) := by
            rw [strV_append, List.length_append]
            exact hown2
          clear hown hown2 hg2 hb
          go_wp2
          go_roundw
          case rel =>
            exact ⟨j + 1, j + 1, done ++ [s.extract k j], A2, c2, by go_num, by go_num, by simp, by simp; omega, by omega, hown3, by rw [lst, List.map_append, List.map_cons, List.map_nil, Lib.extract_data]; exact HI2.out, hb2⟩
          case measure => simp [intOf]; omega
        · have hb47 : ¬ (b.toNat : Int) = 47 := fun h => h47 (by
            have : b.toNat = 47 := by omega
            exact UInt8.toNat_inj.1 this)
          have hq : ((b.toNat : Int) == 47) = false := by simpa using hb47
          have HI2 := hid (cut_on HI.out hjl (by rw [← HB.out]; exact h47))
          clear HI HB
          go_wp2
          go_roundw
          case rel => exact ⟨j + 1, k, done, A, c, by go_num, rfl, rfl, by omega, by omega, hown, HI2.out, hb⟩
          case measure => simp [intOf]; omega
    · have hnle : ¬ (j : Int) ≤ s.size := by omega
      have HJ := hid (show j = s.size + 1 by omega)
      go_wp2
      go_ret
      have e : lst done = pieces s.data.toList := by
        rcases HI.out with ⟨h1, _⟩ | ⟨_, h2⟩
        · have := HJ.out
          rw [size_len] at this
          omega
        · exact h2
      rw [← e]
      obtain ⟨_, A', c', hv, hc, _⟩ := own_form hown
      injection hv with e1 e2 e3
      subst e1 e3
      refine ⟨A, c, by rw [lst_length]; rfl, ?_, by rw [lst_length]; exact hc, hb⟩
      rw [lst, mkS_map]
      exact Rd.of_own hown
end Go.Proofs.YtnkkjedckehoaaaDoor
