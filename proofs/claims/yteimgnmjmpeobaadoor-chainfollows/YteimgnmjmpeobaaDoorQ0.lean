/- The texts Qf, Qr, Cc, Cr, Ck, Cl, Eg, Eh, Es, in one. -/
import Derived.Test.YteimgnmjmpeobaaDoorP4
import Derived.Deep.RegionHeld3
namespace Go.Proofs.YteimgnmjmpeobaaDoor
open Go.RowKit

theorem okB_no {b : UInt8} (h : okB b = false) : ((b.toNat : Int) < 97 ∨ (122 : Int) < b.toNat) ∧ ((b.toNat : Int) < 48 ∨ (57 : Int) < b.toNat) ∧ (b.toNat : Int) ≠ 46 ∧ (b.toNat : Int) ≠ 45 := by
  simp [okB] at h
  omega
theorem okB_yes {b : UInt8} (h : okB b = true) : ((97 : Int) ≤ b.toNat ∧ (b.toNat : Int) ≤ 122) ∨ ((48 : Int) ≤ b.toNat ∧ (b.toNat : Int) ≤ 57) ∨ (b.toNat : Int) = 46 ∨ (b.toNat : Int) = 45 := by
  simp [okB] at h
  omega

set_option maxHeartbeats 2000000 in
theorem refName (s : ByteArray) (w : World) :
    Calls Tryd.prog 53 #[.string s] w fun e w' => e = .returned (.bool (nameL s.data.toList)) ∧ w = w' := by
  by_cases h1 : (s.size : Int) < 1
  · go_enter Tryd.func53, Tryd.ntmps53
    go_wp2
    go_ret
    exact ⟨ret_bool (nameL_no (by have := size_len s; omega)), rfl⟩
  by_cases h2 : (12 : Int) < s.size
  · go_enter Tryd.func53, Tryd.ntmps53
    go_wp2
    go_ret
    exact ⟨ret_bool (nameL_no (by have := size_len s; omega)), rfl⟩
  cases h3 : (s.toList == [46])
  case true =>
    have H := hid (show s.data.toList = [46] by rw [← Lib.toList_data s]; simpa using h3)
    go_enter Tryd.func53, Tryd.ntmps53
    go_wp2
    go_ret
    exact ⟨ret_bool (nameL_no (fun h => h.2.2.1 H.out)), rfl⟩
  cases h4 : (s.toList == [46, 46])
  case true =>
    have H := hid (show s.data.toList = [46, 46] by rw [← Lib.toList_data s]; simpa using h4)
    go_enter Tryd.func53, Tryd.ntmps53
    go_wp2
    go_ret
    exact ⟨ret_bool (nameL_no (fun h => h.2.2.2 H.out)), rfl⟩
  have HH := hid (show 1 ≤ s.data.toList.length ∧ s.data.toList.length ≤ 12 ∧ s.data.toList ≠ [46] ∧ s.data.toList ≠ [46, 46] by
    have hl := size_len s
    rw [Lib.toList_data s] at h3 h4
    exact ⟨by omega, by omega, by simpa using h3, by simpa using h4⟩)
  go_enter Tryd.func53, Tryd.ntmps53
  go_wp2_with fail
  go_loop [3] (fun i => ∃ j : Nat, j ≤ s.size ∧ i = .int .i64 j ∧ (s.data.toList.take j).all okB = true) (fun i => s.size - (intOf i).toNat)
  case atStart => exact ⟨0, by omega, rfl, by simp⟩
  case round =>
    obtain ⟨j, hj, rfl, hok⟩ := hrel
    by_cases hjn : j < s.size
    · have hlt : (j : Int) < s.size := by omega
      have HK := hid (take_ok s j hjn)
      have HO := hid hok
      clear hok
      obtain ⟨b, hb⟩ : ∃ b, s[j] = b := ⟨_, rfl⟩
      rw [hb] at HK
      have hyes : okB b = true → (s.data.toList.take (j + 1)).all okB = true := fun h => by rw [HK.out, HO.out, h]; rfl
      have hno : okB b = false → false = nameL s.data.toList := fun h => by
        have hk : (s.data.toList.take (j + 1)).all okB = false := by rw [HK.out, HO.out, h]; rfl
        cases hn : nameL s.data.toList with
        | false => rfl
        | true =>
          simp only [nameL, Bool.and_eq_true, List.all_eq_true] at hn
          have : (s.data.toList.take (j + 1)).all okB = true := List.all_eq_true.2 fun b hbm => hn.2 b (List.mem_of_mem_take hbm)
          rw [hk] at this
          cases this
      have HY := hid hyes
      have HN := hid hno
      clear hyes hno HK
      cases hob : okB b
      · have h5 := okB_no hob
        go_wp2
        all_goals first
          | (go_ret; exact ⟨ret_bool (HN.out hob), rfl⟩)
          | (exfalso; rename_i h; simp at h; omega)
      · have HT := HY.out hob
        clear HY HN
        rcases okB_yes hob with ⟨h5, h6⟩ | ⟨h5, h6⟩ | h5 | h5
        all_goals
          go_wp2
          go_roundw
          case rel => exact ⟨j + 1, by omega, by go_num, HT⟩
          case measure => simp [intOf]; omega
    · have e : s.size = j := by omega
      have HE := hid e
      have HO := hid hok
      have hnlt : ¬ (j : Int) < s.size := by omega
      clear e hok
      go_wp2
      go_ret
      refine ⟨ret_bool ?_, rfl⟩
      have hl := size_len s
      have ho := HO.out
      rw [← HE.out, hl, List.take_length] at ho
      have hh := HH.out
      simp only [nameL, ho, Bool.and_true]
      exact (decide_eq_true hh).symm

/-- What is cut so far: the pieces that end, and from where the last one goes on. -/
def CutInv (l : List UInt8) (j f : Nat) (done : List (List UInt8)) : Prop :=
  (j ≤ l.length ∧ f ≤ j ∧ 47 ∉ (l.drop f).take (j - f) ∧ done ++ pieces (l.drop f) = pieces l) ∨ (j = l.length + 1 ∧ done = pieces l)
theorem cut_last {l : List UInt8} {f : Nat} {done : List (List UInt8)} (h : CutInv l l.length f done) : f ≤ l.length ∧ done ++ [(l.drop f).take (l.length - f)] = pieces l := by
  rcases h with ⟨_, h2, h3, h4⟩ | ⟨h1, _⟩
  · have e : (l.drop f).take (l.length - f) = l.drop f := List.take_of_length_le (by simp)
    rw [e] at h3 ⊢
    rw [← h4, pieces_none _ h3]
    exact ⟨h2, rfl⟩
  · omega
theorem drop_at {l : List UInt8} {j f : Nat} (h : j < l.length) (hf : f ≤ j) : l.drop f = (l.drop f).take (j - f) ++ l[j] :: l.drop (j + 1) := by
  have e1 : (l.drop f).drop (j - f) = l.drop j := by rw [List.drop_drop]; congr 1; omega
  have e2 : l.drop j = l[j] :: l.drop (j + 1) := List.drop_eq_getElem_cons h
  rw [← e2, ← e1, List.take_append_drop]
theorem cut_stroke {l : List UInt8} {j f : Nat} {done : List (List UInt8)} (h : CutInv l j f done) (hj : j < l.length) (hb : l[j] = 47) :
    f ≤ j ∧ CutInv l (j + 1) (j + 1) (done ++ [(l.drop f).take (j - f)]) := by
  rcases h with ⟨_, h2, h3, h4⟩ | ⟨h1, _⟩
  · refine ⟨h2, .inl ⟨by omega, Nat.le_refl _, by simp, ?_⟩⟩
    have e := drop_at hj h2
    rw [hb] at e
    have e2 : pieces (l.drop f) = (l.drop f).take (j - f) :: pieces (l.drop (j + 1)) := by
      conv => lhs; rw [e]
      rw [pieces_app, pieces_none _ h3]
      rfl
    rw [← h4, e2]
    simp
  · omega
theorem cut_on {l : List UInt8} {j f : Nat} {done : List (List UInt8)} (h : CutInv l j f done) (hj : j < l.length) (hb : l[j] ≠ 47) : CutInv l (j + 1) f done := by
  rcases h with ⟨_, h2, h3, h4⟩ | ⟨h1, _⟩
  · refine .inl ⟨by omega, by omega, ?_, h4⟩
    have e : j + 1 - f = (j - f) + 1 := by omega
    have e2 : (l.drop f)[j - f]? = some l[j] := by rw [List.getElem?_drop, show f + (j - f) = j by omega, List.getElem?_eq_getElem hj]
    rw [e, List.take_add_one, e2]
    intro hm
    rcases List.mem_append.1 hm with hm | hm
    · exact h3 hm
    · simp at hm
      exact hb hm.symm
  · omega
theorem ba_at (s : ByteArray) (j : Nat) (h : j < s.size) : s[j] = s.data.toList[j]'(by have := size_len s; omega) := rfl

/-- A slice of pieces that the call made. -/
def CutPost (w : World) (L : List (List UInt8)) (e : Ending) (w' : World) : Prop :=
  ∃ A c, e = .returned (.slice A L.length c) ∧ Rd w' A (strV (L.map mkS)) ∧ L.length ≤ c ∧ Below w.heap.size w w'

set_option maxHeartbeats 2000000 in
theorem refCut (s : ByteArray) (w : World) (hs : s.size < 4294967281) :
    Calls Tryd.prog 52 #[.string s] w (CutPost w (pieces s.data.toList)) := by
  go_enter Tryd.func52, Tryd.ntmps52
  go_wp2_with fail
  go_loopw [3, 4, 5] (fun v f i wr => ∃ j k : Nat, ∃ done : List ByteArray, ∃ A c, i = .int .i64 j ∧ f = .int .i64 k ∧ v = .slice A done.length c ∧ done.length ≤ j ∧ j ≤ s.size + 1 ∧ wr.ownsRow w.heap.size 9 1 (.slice A done.length c) done.length (strV done) ∧ CutInv s.data.toList j k (lst done) ∧ Below w.heap.size w wr) (fun _ _ i _ => s.size + 1 - (intOf i).toNat)
  case atStart => exact ⟨0, 0, [], none, 0, rfl, rfl, rfl, Nat.le_refl _, by omega, World.ownsRow_nil _ _ _ _, .inl ⟨by omega, Nat.le_refl _, by simp, rfl⟩, Below.refl _ _⟩
  case round =>
    obtain ⟨j, k, done, A, c, rfl, rfl, rfl, hdl, hj, hown, hinv, hb⟩ := hrel
    have HI := hid hinv
    clear hinv
    by_cases hjs : j ≤ s.size
    · have hle : (j : Int) ≤ s.size := by omega
      by_cases hje : j = s.size
      · subst hje
        have HI2 := hid (show CutInv s.data.toList (s.size + 1) (s.size + 1) (lst done ++ [(s.data.toList.drop k).take (s.size - k)]) by
          have h := HI.out
          rw [size_len] at h ⊢
          exact .inr ⟨rfl, (cut_last h).2⟩)
        have hk : (k : Int) ≤ s.size := by
          have h := HI.out
          rw [size_len] at h ⊢
          have := (cut_last h).1
          omega
        clear HI
        go_wp2_with (at_builtin; refine wpApp _ rfl _ _ 59 rfl w.heap.size 9 (.string ⟨#[]⟩) 16 Tryd.underlying59 Tryd.infoS rfl A done.length c _ rfl (hown.alloc _) _ _ _ (strV [s.extract k s.size]) rfl rfl (.inr ⟨_, rfl, new_cells wr 9 _⟩) (strV_one _) (by omega) (by have := hb.size; simp; omega) (by omega) ?_)
        intro A2 c2 w2 hown2 hg2
        have hb2 : Below w.heap.size w w2 := (hb.alloc hb.size _).grown hg2 (by have := hb.size; simp; omega) (own_app_block hown)
        have hown3 : w2.ownsRow w.heap.size 9 1 (.slice A2 (done ++ [s.extract k s.size]).length c2) (done ++ [s.extract k s.size]).length (strV (done ++ [s.extract k s.size])) := by
          rw [strV_append, List.length_append]
          exact hown2
        clear hown hown2 hg2 hb
        go_wp2
        go_roundw
        case rel =>
          exact ⟨s.size + 1, s.size + 1, done ++ [s.extract k s.size], A2, c2, by go_num, by go_num, by simp, by simp; omega, by omega, hown3, by rw [lst, List.map_append, List.map_cons, List.map_nil, Lib.extract_data]; exact HI2.out, hb2⟩
        case measure => simp [intOf]
      · have hjn : j < s.size := by omega
        have hlt : (j : Int) < s.size := by omega
        have hne : ((j : Int) == (s.size : Int)) = false := by simp; omega
        have hjl : j < s.data.toList.length := by rw [← size_len]; exact hjn
        have HB := hid (ba_at s j hjn)
        obtain ⟨b, hbe⟩ : ∃ b, s[j] = b := ⟨_, rfl⟩
        rw [hbe] at HB
        by_cases h47 : b = 47
        · subst h47
          have HI2 := hid (show CutInv s.data.toList (j + 1) (j + 1) (lst done ++ [(s.data.toList.drop k).take (j - k)]) from (cut_stroke HI.out hjl HB.out.symm).2)
          have hk : (k : Int) ≤ j := by
            have := (cut_stroke HI.out hjl HB.out.symm).1
            omega
          clear HI HB
          go_wp2_with (at_builtin; refine wpApp _ rfl _ _ 59 rfl w.heap.size 9 (.string ⟨#[]⟩) 16 Tryd.underlying59 Tryd.infoS rfl A done.length c _ rfl (hown.alloc _) _ _ _ (strV [s.extract k j]) rfl rfl (.inr ⟨_, rfl, new_cells wr 9 _⟩) (strV_one _) (by omega) (by have := hb.size; simp; omega) (by omega) ?_)
          intro A2 c2 w2 hown2 hg2
          have hb2 : Below w.heap.size w w2 := (hb.alloc hb.size _).grown hg2 (by have := hb.size; simp; omega) (own_app_block hown)
          have hown3 : w2.ownsRow w.heap.size 9 1 (.slice A2 (done ++ [s.extract k j]).length c2) (done ++ [s.extract k j]).length (strV (done ++ [s.extract k j])) := by
            rw [strV_append, List.length_append]
            exact hown2
          clear hown hown2 hg2 hb
          go_wp2
          go_roundw
          case rel =>
            exact ⟨j + 1, j + 1, done ++ [s.extract k j], A2, c2, by go_num, by go_num, by simp, by simp; omega, by omega, hown3, by rw [lst, List.map_append, List.map_cons, List.map_nil, Lib.extract_data]; exact HI2.out, hb2⟩
          case measure => simp [intOf]; omega
        · have hb47 : ¬ (b.toNat : Int) = 47 := fun h => h47 (by
            have : b.toNat = 47 := by omega
            exact UInt8.toNat_inj.1 this)
          have hq : ((b.toNat : Int) == 47) = false := by simpa using hb47
          have HI2 := hid (cut_on HI.out hjl (by rw [← HB.out]; exact h47))
          clear HI HB
          go_wp2
          go_roundw
          case rel => exact ⟨j + 1, k, done, A, c, by go_num, rfl, rfl, by omega, by omega, hown, HI2.out, hb⟩
          case measure => simp [intOf]; omega
    · have hnle : ¬ (j : Int) ≤ s.size := by omega
      have HJ := hid (show j = s.size + 1 by omega)
      go_wp2
      go_ret
      have e : lst done = pieces s.data.toList := by
        rcases HI.out with ⟨h1, _⟩ | ⟨_, h2⟩
        · have := HJ.out
          rw [size_len] at this
          omega
        · exact h2
      rw [← e]
      obtain ⟨_, A', c', hv, hc, _⟩ := own_form hown
      injection hv with e1 e2 e3
      subst e1 e3
      refine ⟨A, c, by rw [lst_length]; rfl, ?_, by rw [lst_length]; exact hc, hb⟩
      rw [lst, mkS_map]
      exact Rd.of_own hown
end Go.Proofs.YteimgnmjmpeobaaDoor
namespace Go.Proofs.YteimgnmjmpeobaaDoor
open Go.RowKit

theorem all_take_step (L : List (List UInt8)) (j : Nat) (h : j < L.length) : (L.take (j + 1)).all nameL = ((L.take j).all nameL && nameL L[j]) := by
  rw [List.take_add_one, List.getElem?_eq_getElem h, List.all_append]
  simp
theorem not_fine_at {L : List (List UInt8)} {j : Nat} (h : j < L.length) (hb : nameL L[j] = false) : fineL L = false := by
  cases hf : fineL L with
  | false => rfl
  | true =>
    have := fine_all hf L[j] (List.getElem_mem h)
    rw [hb] at this
    cases this

set_option maxHeartbeats 1000000 in
theorem refRight (s : ByteArray) (w : World) (hs : s.size < 4294967281) :
    Calls Tryd.prog 45 #[.string s] w fun e w' => e = .returned (.bool (rightL s.data.toList)) ∧ Below w.heap.size w w' := by
  have c0 := refCut s w hs
  have hpl := pieces_len s.data.toList
  rw [← size_len] at hpl
  have hpos := List.length_pos_iff.2 (pieces_ne s.data.toList)
  unfold rightL
  generalize pieces s.data.toList = L at c0 hpl hpos ⊢
  go_enter Tryd.func45, Tryd.ntmps45
  go_wp2_with fail
  refine c0.mono ?_
  clear c0
  rintro e w1 ⟨A, c, rfl, hr1, hc1, hb1⟩
  by_cases h4 : (4 : Int) < L.length
  · go_wp2
    go_ret
    exact ⟨ret_bool (fine_long (by omega)).symm, hb1⟩
  go_wp2_with fail
  go_loop [4] (fun i => ∃ j : Nat, j ≤ L.length ∧ i = .int .i64 j ∧ (L.take j).all nameL = true) (fun i => L.length - (intOf i).toNat)
  case atStart => exact ⟨0, by omega, rfl, by simp⟩
  case round =>
    obtain ⟨j, hj, rfl, hok⟩ := hrel
    by_cases hjn : j < L.length
    · obtain ⟨b, off, rfl, hc, -⟩ := hr1.at_ (k := j) (by rw [strV_length, List.length_map]; exact hjn)
      have h5 : w1.cell? ⟨b, off + j, none⟩ = some (.string (mkS L[j])) := by rw [hc]; simp [strV]
      have HK := hid (all_take_step L j hjn)
      have HO := hid hok
      clear hc hok
      have hz : (0 : Int) ≤ j := by omega
      have hlt : (j : Int) < L.length := by omega
      go_wp2_with fail
      refine (refName _ _).mono ?_
      rintro e w2 ⟨he, rfl⟩
      rw [mkS_data] at he
      subst he
      cases hb : nameL L[j]
      · go_wp2
        go_ret
        exact ⟨ret_bool (not_fine_at hjn hb).symm, hb1⟩
      · go_wp2
        go_roundw
        case rel => exact ⟨j + 1, by omega, by go_num, by rw [HK.out, HO.out, hb]; rfl⟩
        case measure => simp [intOf]; omega
    · have HE := hid (show j = L.length by omega)
      have HO := hid hok
      have hnlt : ¬ (j : Int) < L.length := by omega
      clear hok
      go_wp2
      go_ret
      refine ⟨ret_bool ?_, hb1⟩
      have ho := HO.out
      rw [HE.out, List.take_length] at ho
      exact (fine_mk (by omega) (by omega) (List.all_eq_true.1 ho)).symm

theorem pre_no {s d : List UInt8} (h : s.length ≤ d.length) : Lib.hasPrefix s (d ++ [47]) = false := by
  cases hp : Lib.hasPrefix s (d ++ [47]) with
  | false => rfl
  | true =>
    have := Lib.hasPrefix_of_take s (d ++ [47])
    rw [hp] at this
    simp at this
    omega
theorem pre_at {s d : List UInt8} (h : d.length < s.length) : Lib.hasPrefix s (d ++ [47]) = (s.take d.length == d && s[d.length] == 47) := by
  rw [← Lib.hasPrefix_of_take]
  have e1 : decide ((d ++ [47]).length ≤ s.length) = true := by simp; omega
  have e2 : s.take (d ++ [47]).length = s.take d.length ++ [s[d.length]] := by
    rw [List.length_append, List.length_cons, List.length_nil, List.take_add_one, List.getElem?_eq_getElem h]
    rfl
  rw [e1, e2, Bool.true_and, Bool.eq_iff_iff]
  simp only [beq_iff_eq, Bool.and_eq_true]
  constructor
  · intro e
    have := List.append_inj' e rfl
    exact ⟨this.1, by simpa using this.2⟩
  · rintro ⟨h1, h2⟩
    rw [h1, h2]

end Go.Proofs.YteimgnmjmpeobaaDoor
namespace Go.Proofs.YteimgnmjmpeobaaDoor
open Go.RowKit

theorem cl_of {a : Nat} {x : Int} (h : a ≤ 1073741824) (e : x = a) : cl x = a := by unfold cl; omega

/-- What Mine tells. -/
def mineI (a b : Nat) (author : Int) : Int := if odd author then b else a

/-- What Order tells. -/
def ordI (a b c d : Nat) : Int := if a = c ∧ b = d then 0 else if a ≤ c ∧ b ≤ d then 1 else if c ≤ a ∧ d ≤ b then 2 else 3

end Go.Proofs.YteimgnmjmpeobaaDoor
namespace Go.Proofs.YteimgnmjmpeobaaDoor
open Go.RowKit

/-- A pair lies there. -/
def PairAt (w : World) (g : Nat) (l r : Int) : Prop := w.cell? ⟨g, 0, none⟩ = some (.int .i64 l) ∧ w.cell? ⟨g, 1, none⟩ = some (.int .i64 r)
theorem PairAt.below {w w' : World} {g : Nat} {l r : Int} (h : PairAt w g l r) (hb : Below w.heap.size w w') : PairAt w' g l r :=
  ⟨(hb.cell (World.block_lt_of_cell? w _ h.1)).trans h.1, (hb.cell (World.block_lt_of_cell? w _ h.2)).trans h.2⟩
theorem PairAt.lt {w : World} {g : Nat} {l r : Int} (h : PairAt w g l r) : g < w.heap.size := World.block_lt_of_cell? w _ h.1
theorem PairAt.new (w : World) (l r : Int) (t : TypeId) : PairAt (w.alloc (.cells #[.int .i64 l, .int .i64 r] t)) w.heap.size l r :=
  ⟨new_cells w t [.int .i64 l, .int .i64 r] 0 _ rfl, new_cells w t [.int .i64 l, .int .i64 r] 1 _ rfl⟩
theorem PairAt.alloc {w : World} {g : Nat} {l r : Int} (h : PairAt w g l r) (o : Obj) : PairAt (w.alloc o) g l r := h.below ((Below.refl _ _).alloc (Nat.le_refl _) o)

theorem below_al {w w' : World} (o : Obj) (h : Below (w.alloc o).heap.size (w.alloc o) w') : Below w.heap.size w w' := below2 ((Below.refl _ _).alloc (Nat.le_refl _) o) h
end Go.Proofs.YteimgnmjmpeobaaDoor
namespace Go.Proofs.YteimgnmjmpeobaaDoor
open Go.RowKit

end Go.Proofs.YteimgnmjmpeobaaDoor
namespace Go.Proofs.YteimgnmjmpeobaaDoor
open Go.RowKit

theorem and_bit (n : Int) : bits BinOp.and IntKind.i64 n 1 = n % 2 := by
  show IntKind.i64.wrap ((BitVec.ofInt 64 n &&& BitVec.ofInt 64 1).toNat : Int) = _
  rw [BitVec.toNat_and, show (BitVec.ofInt 64 1).toNat = 1 by decide, Nat.and_one_is_mod, BitVec.toNat_ofInt, IntKind.wrap_i64]
  have e : ((2 ^ 64 : Nat) : Int) = 18446744073709551616 := by decide
  rw [e]
  omega
theorem and_odd (n : Int) : (bits BinOp.and IntKind.i64 n 1 == 1) = odd n := by
  rw [and_bit]
  unfold odd
  rw [Bool.eq_iff_iff]
  simp only [beq_iff_eq, bne_iff_ne]
  omega

set_option maxHeartbeats 1000000 in
theorem rright_any (l r : Int) (w : World) :
    Calls Tryd.prog 46 #[.agg #[.int .i64 l, .int .i64 r]] w fun e w' => e = .returned (.bool (rt l r)) ∧ Below w.heap.size w w' := by
  go_enter Tryd.func46, Tryd.ntmps46
  go_wp2
  all_goals
    go_ret
    refine ⟨?_, ?_⟩
    · refine congrArg (fun b => Ending.returned (.bool b)) ?_
      unfold rt
      rw [Bool.eq_iff_iff]
      simp
      omega
    · go_grown

end Go.Proofs.YteimgnmjmpeobaaDoor
namespace Go.Proofs.YteimgnmjmpeobaaDoor
open Go.RowKit

theorem bdrew {g : Nat} {w w' : World} (h : Below g w w') (n : Nat) : Below g w (w'.drewN n) := ⟨h.1, h.2, h.3, h.4, h.5⟩
theorem rwithin_is {n most : Int} {b : Bool} (h : inN n most = b) (w : World) : Calls Tryd.prog 36 #[.int .i64 n, .int .i64 most] w fun e w' => e = .returned (.bool b) ∧ w' = w := by
  subst h
  exact (rwithin_any n most w).mono fun _ _ k => ⟨k.1, k.2.symm⟩
set_option maxHeartbeats 400000 in
theorem rcnt_is (n : Int) (w : World) (h0 : 0 ≤ n) (hn : n ≤ 9223372036854775807) :
    Calls Tryd.prog 47 #[.int .i64 n] w fun e w' => e = .returned (.int .i64 (cnt n.toNat : Nat)) ∧ w' = w := by
  have HC : Hid ((cnt n.toNat : Int) = countI n) := by
    show _ = _
    rw [← countI_nat]
    congr 1
    omega
  by_cases h : n < 1
  · go_enter Tryd.func47, Tryd.ntmps47
    go_wp2
    go_ret
    exact ⟨ret_int (by rw [HC.out]; unfold countI; rw [if_pos (by omega)]), rfl⟩
  · have h0 : 1 ≤ n := by omega
    go_enter Tryd.func47, Tryd.ntmps47
    go_wp2
    go_ret
    exact ⟨ret_int (by rw [HC.out]; unfold countI; rw [if_neg (by omega)]), rfl⟩

set_option maxHeartbeats 4000000 in
set_option maxRecDepth 20000 in
theorem rpiece_bad {w : World} {C : Option Addr} {c : Nat} {p : Pce} (hr : Rd w C (intV p.chunks)) (hs : p.path.size < 4294967281) (hc : p.chunks.length ≤ c) (hcm : c ≤ maxLen) (hbad : (rightL p.path.data.toList && rt p.l p.r && !(decide (p.l = 0) && decide (p.r = 0))) = false) :
    Calls Tryd.prog 37 #[pcA p C c] w fun e w' => e = .returned (.bool (pceR p)) ∧ Below w.heap.size w w' := by
  obtain ⟨xp, xh, xs, xc, xd, xl, xr⟩ := p
  dsimp only [pcA] at hr hs hc hbad ⊢
  have hal : ∀ (W : World) (o : Obj), Below W.heap.size W (W.alloc o) := fun W o => (Below.refl _ _).alloc (Nat.le_refl _) o
  obtain ⟨n, hn0⟩ : ∃ n, n = xc.length := ⟨_, rfl⟩
  have hnb : n ≤ c ∧ c ≤ 9223372036854775807 := by unfold maxLen at hcm; omega
  have HN := hid hn0
  rw [← hn0]
  have HR : Hid (pceR ⟨xp, xh, xs, xc, xd, xl, xr⟩ = (rightL xp.data.toList && rt xl xr && !(decide (xl = 0) && decide (xr = 0)) && (if xh then inN xs 600 && inN xd 4294967295 && decide (n = cnt xs.toNat) && xc.all (fun c => inN c 4294967295) else decide (xs = 0) && decide (xd = 0) && decide (n = 0)))) := by
    show _ = _
    have he : decide (n = 0) = decide (xc = []) := by rw [hn0]; cases xc <;> rfl
    rw [he, hn0]
    rfl
  clear hn0 hc hcm
  generalize pceR ⟨xp, xh, xs, xc, xd, xl, xr⟩ = Z at *
  have pk := Blk.new w [.string xp, .bool xh, .int .i64 xs, .slice C n c, .int .i64 xd, .int .i64 xl, .int .i64 xr] 57
  have b0 := hal w (.cells #[.string xp, .bool xh, .int .i64 xs, .slice C n c, .int .i64 xd, .int .i64 xl, .int .i64 xr] 57)
  have hr0 := hr.below b0
  go_enter Tryd.func37, Tryd.ntmps37
  go_wp2_with fail
  generalize w.alloc (.cells #[.string xp, .bool xh, .int .i64 xs, .slice C n c, .int .i64 xd, .int .i64 xl, .int .i64 xr] 57) = w0 at *
  refine (refRight xp _ hs).mono ?_
  rintro e w1 ⟨rfl, b1⟩
  simp only
  have pk1 := pk.below b1
  have bw1 := b0.trans (b1.mono b0.size)
  have hr1 := hr0.below b1
  clear pk hr0 hr b0 b1
  have c0 := pk1.cell 0
  have c1 := pk1.cell 1
  have c2 := pk1.cell 2
  have c3 := pk1.cell 3
  have c4 := pk1.cell 4
  have c5 := pk1.cell 5
  have c6 := pk1.cell 6
  simp only [List.getElem?_cons_zero, List.getElem?_cons_succ] at c0 c1 c2 c3 c4 c5 c6
  go_wp2_with fail
  refine (rright_any xl xr _).mono ?_
  rintro e w2 ⟨rfl, b2⟩
  simp only
  have pk2 := pk1.below b2
  have bw := bw1.trans (b2.mono bw1.size)
  have hr2 := hr1.below b2
  clear pk1 hr1 bw1 b2 c0 c1 c2 c3 c4 c5 c6
  have c0 := pk2.cell 0
  have c1 := pk2.cell 1
  have c2 := pk2.cell 2
  have c3 := pk2.cell 3
  have c4 := pk2.cell 4
  have c5 := pk2.cell 5
  have c6 := pk2.cell 6
  simp only [List.getElem?_cons_zero, List.getElem?_cons_succ] at c0 c1 c2 c3 c4 c5 c6
  clear pk2
  cases hA : rightL xp.data.toList
  · have HF : Hid (Z = false) := by show _ = _; rw [HR.out, hA]; rfl
    go_wp2
    go_ret
    exact ⟨ret_bool HF.out.symm, bw⟩
  cases hB : rt xl xr
  · have HF : Hid (Z = false) := by show _ = _; rw [HR.out, hB, Bool.and_false]; rfl
    go_wp2
    go_ret
    exact ⟨ret_bool HF.out.symm, bw⟩
  have h00 : xl = 0 ∧ xr = 0 := by rw [hA, hB] at hbad; simpa using hbad
  obtain ⟨l0, r0⟩ := h00
  clear hbad
  subst l0
  subst r0
  have HF : Hid (Z = false) := by show _ = _; rw [HR.out, hA, hB]; rfl
  go_wp2
  go_ret
  exact ⟨ret_bool HF.out.symm, bw⟩
set_option maxHeartbeats 4000000 in
set_option maxRecDepth 20000 in
theorem rpiece_r {w : World} {C : Option Addr} {c : Nat} {p : Pce} (hr : Rd w C (intV p.chunks)) (hs : p.path.size < 4294967281) (hc : p.chunks.length ≤ c) (hcm : c ≤ maxLen) (hA : rightL p.path.data.toList = true) (hB : rt p.l p.r = true) (L0 : Hid (p.l = 0)) (r0 : p.r ≠ 0) :
    Calls Tryd.prog 37 #[pcA p C c] w fun e w' => e = .returned (.bool (pceR p)) ∧ Below w.heap.size w w' := by
  obtain ⟨xp, xh, xs, xc, xd, xl, xr⟩ := p
  dsimp only [pcA] at hr hs hc hA hB L0 r0 ⊢
  have hal : ∀ (W : World) (o : Obj), Below W.heap.size W (W.alloc o) := fun W o => (Below.refl _ _).alloc (Nat.le_refl _) o
  obtain ⟨n, hn0⟩ : ∃ n, n = xc.length := ⟨_, rfl⟩
  have hnb : n ≤ c ∧ c ≤ 9223372036854775807 := by unfold maxLen at hcm; omega
  have HN := hid hn0
  rw [← hn0]
  have HR : Hid (pceR ⟨xp, xh, xs, xc, xd, xl, xr⟩ = (rightL xp.data.toList && rt xl xr && !(decide (xl = 0) && decide (xr = 0)) && (if xh then inN xs 600 && inN xd 4294967295 && decide (n = cnt xs.toNat) && xc.all (fun c => inN c 4294967295) else decide (xs = 0) && decide (xd = 0) && decide (n = 0)))) := by
    show _ = _
    have he : decide (n = 0) = decide (xc = []) := by rw [hn0]; cases xc <;> rfl
    rw [he, hn0]
    rfl
  clear hn0 hc hcm
  generalize pceR ⟨xp, xh, xs, xc, xd, xl, xr⟩ = Z at *
  have pk := Blk.new w [.string xp, .bool xh, .int .i64 xs, .slice C n c, .int .i64 xd, .int .i64 xl, .int .i64 xr] 57
  have b0 := hal w (.cells #[.string xp, .bool xh, .int .i64 xs, .slice C n c, .int .i64 xd, .int .i64 xl, .int .i64 xr] 57)
  have hr0 := hr.below b0
  go_enter Tryd.func37, Tryd.ntmps37
  go_wp2_with fail
  generalize w.alloc (.cells #[.string xp, .bool xh, .int .i64 xs, .slice C n c, .int .i64 xd, .int .i64 xl, .int .i64 xr] 57) = w0 at *
  refine (refRight xp _ hs).mono ?_
  rintro e w1 ⟨rfl, b1⟩
  simp only
  have pk1 := pk.below b1
  have bw1 := b0.trans (b1.mono b0.size)
  have hr1 := hr0.below b1
  clear pk hr0 hr b0 b1
  have c0 := pk1.cell 0
  have c1 := pk1.cell 1
  have c2 := pk1.cell 2
  have c3 := pk1.cell 3
  have c4 := pk1.cell 4
  have c5 := pk1.cell 5
  have c6 := pk1.cell 6
  simp only [List.getElem?_cons_zero, List.getElem?_cons_succ] at c0 c1 c2 c3 c4 c5 c6
  go_wp2_with fail
  refine (rright_any xl xr _).mono ?_
  rintro e w2 ⟨rfl, b2⟩
  simp only
  have pk2 := pk1.below b2
  have bw := bw1.trans (b2.mono bw1.size)
  have hr2 := hr1.below b2
  clear pk1 hr1 bw1 b2 c0 c1 c2 c3 c4 c5 c6
  have c0 := pk2.cell 0
  have c1 := pk2.cell 1
  have c2 := pk2.cell 2
  have c3 := pk2.cell 3
  have c4 := pk2.cell 4
  have c5 := pk2.cell 5
  have c6 := pk2.cell 6
  simp only [List.getElem?_cons_zero, List.getElem?_cons_succ] at c0 c1 c2 c3 c4 c5 c6
  clear pk2
  have l0 : xl = 0 := L0.out
  subst l0
  have HZ : Hid (Z = (if xh then inN xs 600 && inN xd 4294967295 && decide (n = cnt xs.toNat) && xc.all (fun c => inN c 4294967295) else decide (xs = 0) && decide (xd = 0) && decide (n = 0))) := by show _ = _; rw [HR.out, hA, hB, decide_eq_false r0, Bool.and_false]; rfl
  have hrb : (xr == 0) = false := by simp [r0]
  rw [hA, hB]
  clear hA hB HR
  cases xh
  · have HZ2 : Hid (Z = (decide (xs = 0) && decide (xd = 0) && decide (n = 0))) := HZ.out.trans (if_neg (by simp))
    by_cases s0 : xs = 0
    rotate_left
    · have hsb : (xs == 0) = false := by simp [s0]
      have HF : Hid (Z = false) := by show _ = _; rw [HZ2.out, decide_eq_false s0]; rfl
      go_wp2
      go_ret
      exact ⟨ret_bool HF.out.symm, bw⟩
    subst s0
    by_cases d0 : xd = 0
    rotate_left
    · have hdb : (xd == 0) = false := by simp [d0]
      have HF : Hid (Z = false) := by show _ = _; rw [HZ2.out, decide_eq_false d0]; rfl
      go_wp2
      go_ret
      exact ⟨ret_bool HF.out.symm, bw⟩
    subst d0
    by_cases n0 : n = 0
    rotate_left
    · have hnb2 : ((n : Int) == 0) = false := by simp [n0]
      have HF : Hid (Z = false) := by show _ = _; rw [HZ2.out, decide_eq_false n0]; rfl
      go_wp2
      go_ret
      exact ⟨ret_bool HF.out.symm, bw⟩
    subst n0
    have HF : Hid (Z = true) := by show _ = _; rw [HZ2.out]; rfl
    go_wp2
    go_ret
    exact ⟨ret_bool HF.out.symm, bw⟩
  have HZ2 : Hid (Z = (inN xs 600 && inN xd 4294967295 && decide (n = cnt xs.toNat) && xc.all (fun c => inN c 4294967295))) := HZ.out.trans (if_pos rfl)
  cases hS : inN xs 600
  · have cS := rwithin_is hS
    have HF : Hid (Z = false) := by show _ = _; rw [HZ2.out, hS]; rfl
    go_wp2_with fail
    go_quiet (first | (go_at_call 36; exact Calls.quiet_of_same (rwithin_is (by assumption) _)) | (go_at_call 47; exact Calls.quiet_of_same (cC _)))
    go_wp2
    go_ret
    exact ⟨ret_bool HF.out.symm, bdrew bw _⟩
  have cS := rwithin_is hS
  cases hD : inN xd 4294967295
  · have cD := rwithin_is hD
    have HF : Hid (Z = false) := by show _ = _; rw [HZ2.out, hD, Bool.and_false]; rfl
    go_wp2_with fail
    go_quiet (first | (go_at_call 36; exact Calls.quiet_of_same (rwithin_is (by assumption) _)) | (go_at_call 47; exact Calls.quiet_of_same (cC _)))
    go_wp2
    go_ret
    exact ⟨ret_bool HF.out.symm, bdrew bw _⟩
  have cD := rwithin_is hD
  have hs6 := inN_iff.1 hS
  have cC := fun W => rcnt_is xs W hs6.1 (by omega)
  have HZ3 : Hid (Z = (decide (n = cnt xs.toNat) && xc.all (fun c => inN c 4294967295))) := by show _ = _; rw [HZ2.out, hS, hD]; rfl
  clear HZ2
  generalize cnt xs.toNat = k at *
  by_cases hK : n = k
  rotate_left
  · have hkb : ((n : Int) == (k : Int)) = false := by simp; omega
    have HF : Hid (Z = false) := by show _ = _; rw [HZ3.out, decide_eq_false hK]; rfl
    go_wp2_with fail
    go_quiet (first | (go_at_call 36; exact Calls.quiet_of_same (rwithin_is (by assumption) _)) | (go_at_call 47; exact Calls.quiet_of_same (cC _)))
    go_wp2
    go_ret
    exact ⟨ret_bool HF.out.symm, bdrew bw _⟩
  subst hK
  have HA : Hid (Z = xc.all (fun c => inN c 4294967295)) := by show _ = _; rw [HZ3.out, decide_eq_true rfl]; rfl
  clear HZ3
  go_wp2_with fail
  go_quiet (first | (go_at_call 36; exact Calls.quiet_of_same (rwithin_is (by assumption) _)) | (go_at_call 47; exact Calls.quiet_of_same (cC _)))
  go_wp2_with fail
  clear cS cD cC hS hD
  go_loopw [5] (fun i wr => ∃ j : Nat, j ≤ n ∧ i = .int .i64 j ∧ Hid ((xc.take j).all (fun c => inN c 4294967295) = true) ∧ ∃ q, wr = w2.drewN q) (fun i _ => n - (intOf i).toNat)
  case atStart => exact ⟨0, by omega, rfl, rfl, _, rfl⟩
  case round =>
    obtain ⟨j, hj, rfl, HT, q, rfl⟩ := hrel
    by_cases hjn : j < n
    · have hjl : j < xc.length := by rw [← HN.out]; exact hjn
      obtain ⟨b, off, rfl, x0, -⟩ := int_at hr2 hjl
      have hz : (0 : Int) ≤ j := by omega
      have hlt : (j : Int) < n := by omega
      have HJ := hid hjn
      have HXY : Hid ((xc.take (j + 1)).all (fun c => inN c 4294967295) = inN xc[j] 4294967295) := by
        show _ = _
        rw [List.take_add_one, List.getElem?_eq_getElem hjl, List.all_append, HT.out]
        simp
      have HNE : Hid (inN xc[j] 4294967295 = false → Z = false) := by
        refine hid fun h => ?_
        rw [HA.out]
        refine Bool.eq_false_iff.2 fun ha => ?_
        rw [List.all_eq_true] at ha
        exact Bool.false_ne_true (h.symm.trans (ha _ (List.getElem_mem hjl)))
      generalize xc[j] = x at *
      cases hX : inN x 4294967295
      · have HF := hid (HNE.out hX)
        have cX := rwithin_is hX
        clear HXY HNE HT
        go_wp2_with fail
        refine (cX _).mono ?_
        rintro e w5 ⟨rfl, rfl⟩
        go_wp2
        go_ret
        exact ⟨ret_bool HF.out.symm, bdrew bw _⟩
      · have HT2 := hid (HXY.out.trans hX)
        have cX := rwithin_is hX
        clear HXY HNE HT
        go_wp2_with fail
        refine (cX _).mono ?_
        rintro e w5 ⟨rfl, rfl⟩
        go_wp2
        go_roundw
        case rel => exact ⟨j + 1, HJ.out, by go_num, HT2, _, rfl⟩
        case measure => have := HJ.out; simp [intOf]; omega
    · have hjn2 : j = n := by omega
      have HF : Hid (Z = true) := by
        have ht := HT.out
        rw [hjn2, List.take_of_length_le (by rw [HN.out]; exact Nat.le_refl _)] at ht
        exact HA.out.trans ht
      have hnl : ¬ (j : Int) < n := by omega
      go_wp2
      go_ret
      exact ⟨ret_bool HF.out.symm, bdrew bw _⟩
set_option maxHeartbeats 4000000 in
set_option maxRecDepth 20000 in
theorem rpiece_l {w : World} {C : Option Addr} {c : Nat} {p : Pce} (hr : Rd w C (intV p.chunks)) (hs : p.path.size < 4294967281) (hc : p.chunks.length ≤ c) (hcm : c ≤ maxLen) (hA : rightL p.path.data.toList = true) (hB : rt p.l p.r = true) (l0 : p.l ≠ 0) :
    Calls Tryd.prog 37 #[pcA p C c] w fun e w' => e = .returned (.bool (pceR p)) ∧ Below w.heap.size w w' := by
  obtain ⟨xp, xh, xs, xc, xd, xl, xr⟩ := p
  dsimp only [pcA] at hr hs hc hA hB l0 ⊢
  have hal : ∀ (W : World) (o : Obj), Below W.heap.size W (W.alloc o) := fun W o => (Below.refl _ _).alloc (Nat.le_refl _) o
  obtain ⟨n, hn0⟩ : ∃ n, n = xc.length := ⟨_, rfl⟩
  have hnb : n ≤ c ∧ c ≤ 9223372036854775807 := by unfold maxLen at hcm; omega
  have HN := hid hn0
  rw [← hn0]
  have HR : Hid (pceR ⟨xp, xh, xs, xc, xd, xl, xr⟩ = (rightL xp.data.toList && rt xl xr && !(decide (xl = 0) && decide (xr = 0)) && (if xh then inN xs 600 && inN xd 4294967295 && decide (n = cnt xs.toNat) && xc.all (fun c => inN c 4294967295) else decide (xs = 0) && decide (xd = 0) && decide (n = 0)))) := by
    show _ = _
    have he : decide (n = 0) = decide (xc = []) := by rw [hn0]; cases xc <;> rfl
    rw [he, hn0]
    rfl
  clear hn0 hc hcm
  generalize pceR ⟨xp, xh, xs, xc, xd, xl, xr⟩ = Z at *
  have pk := Blk.new w [.string xp, .bool xh, .int .i64 xs, .slice C n c, .int .i64 xd, .int .i64 xl, .int .i64 xr] 57
  have b0 := hal w (.cells #[.string xp, .bool xh, .int .i64 xs, .slice C n c, .int .i64 xd, .int .i64 xl, .int .i64 xr] 57)
  have hr0 := hr.below b0
  go_enter Tryd.func37, Tryd.ntmps37
  go_wp2_with fail
  generalize w.alloc (.cells #[.string xp, .bool xh, .int .i64 xs, .slice C n c, .int .i64 xd, .int .i64 xl, .int .i64 xr] 57) = w0 at *
  refine (refRight xp _ hs).mono ?_
  rintro e w1 ⟨rfl, b1⟩
  simp only
  have pk1 := pk.below b1
  have bw1 := b0.trans (b1.mono b0.size)
  have hr1 := hr0.below b1
  clear pk hr0 hr b0 b1
  have c0 := pk1.cell 0
  have c1 := pk1.cell 1
  have c2 := pk1.cell 2
  have c3 := pk1.cell 3
  have c4 := pk1.cell 4
  have c5 := pk1.cell 5
  have c6 := pk1.cell 6
  simp only [List.getElem?_cons_zero, List.getElem?_cons_succ] at c0 c1 c2 c3 c4 c5 c6
  go_wp2_with fail
  refine (rright_any xl xr _).mono ?_
  rintro e w2 ⟨rfl, b2⟩
  simp only
  have pk2 := pk1.below b2
  have bw := bw1.trans (b2.mono bw1.size)
  have hr2 := hr1.below b2
  clear pk1 hr1 bw1 b2 c0 c1 c2 c3 c4 c5 c6
  have c0 := pk2.cell 0
  have c1 := pk2.cell 1
  have c2 := pk2.cell 2
  have c3 := pk2.cell 3
  have c4 := pk2.cell 4
  have c5 := pk2.cell 5
  have c6 := pk2.cell 6
  simp only [List.getElem?_cons_zero, List.getElem?_cons_succ] at c0 c1 c2 c3 c4 c5 c6
  clear pk2
  have HZ : Hid (Z = (if xh then inN xs 600 && inN xd 4294967295 && decide (n = cnt xs.toNat) && xc.all (fun c => inN c 4294967295) else decide (xs = 0) && decide (xd = 0) && decide (n = 0))) := by show _ = _; rw [HR.out, hA, hB, decide_eq_false l0]; rfl
  have hlb : (xl == 0) = false := by simp [l0]
  rw [hA, hB]
  clear hA hB HR
  cases xh
  · have HZ2 : Hid (Z = (decide (xs = 0) && decide (xd = 0) && decide (n = 0))) := HZ.out.trans (if_neg (by simp))
    by_cases s0 : xs = 0
    rotate_left
    · have hsb : (xs == 0) = false := by simp [s0]
      have HF : Hid (Z = false) := by show _ = _; rw [HZ2.out, decide_eq_false s0]; rfl
      go_wp2
      go_ret
      exact ⟨ret_bool HF.out.symm, bw⟩
    subst s0
    by_cases d0 : xd = 0
    rotate_left
    · have hdb : (xd == 0) = false := by simp [d0]
      have HF : Hid (Z = false) := by show _ = _; rw [HZ2.out, decide_eq_false d0]; rfl
      go_wp2
      go_ret
      exact ⟨ret_bool HF.out.symm, bw⟩
    subst d0
    by_cases n0 : n = 0
    rotate_left
    · have hnb2 : ((n : Int) == 0) = false := by simp [n0]
      have HF : Hid (Z = false) := by show _ = _; rw [HZ2.out, decide_eq_false n0]; rfl
      go_wp2
      go_ret
      exact ⟨ret_bool HF.out.symm, bw⟩
    subst n0
    have HF : Hid (Z = true) := by show _ = _; rw [HZ2.out]; rfl
    go_wp2
    go_ret
    exact ⟨ret_bool HF.out.symm, bw⟩
  have HZ2 : Hid (Z = (inN xs 600 && inN xd 4294967295 && decide (n = cnt xs.toNat) && xc.all (fun c => inN c 4294967295))) := HZ.out.trans (if_pos rfl)
  cases hS : inN xs 600
  · have cS := rwithin_is hS
    have HF : Hid (Z = false) := by show _ = _; rw [HZ2.out, hS]; rfl
    go_wp2_with fail
    go_quiet (first | (go_at_call 36; exact Calls.quiet_of_same (rwithin_is (by assumption) _)) | (go_at_call 47; exact Calls.quiet_of_same (cC _)))
    go_wp2
    go_ret
    exact ⟨ret_bool HF.out.symm, bdrew bw _⟩
  have cS := rwithin_is hS
  cases hD : inN xd 4294967295
  · have cD := rwithin_is hD
    have HF : Hid (Z = false) := by show _ = _; rw [HZ2.out, hD, Bool.and_false]; rfl
    go_wp2_with fail
    go_quiet (first | (go_at_call 36; exact Calls.quiet_of_same (rwithin_is (by assumption) _)) | (go_at_call 47; exact Calls.quiet_of_same (cC _)))
    go_wp2
    go_ret
    exact ⟨ret_bool HF.out.symm, bdrew bw _⟩
  have cD := rwithin_is hD
  have hs6 := inN_iff.1 hS
  have cC := fun W => rcnt_is xs W hs6.1 (by omega)
  have HZ3 : Hid (Z = (decide (n = cnt xs.toNat) && xc.all (fun c => inN c 4294967295))) := by show _ = _; rw [HZ2.out, hS, hD]; rfl
  clear HZ2
  generalize cnt xs.toNat = k at *
  by_cases hK : n = k
  rotate_left
  · have hkb : ((n : Int) == (k : Int)) = false := by simp; omega
    have HF : Hid (Z = false) := by show _ = _; rw [HZ3.out, decide_eq_false hK]; rfl
    go_wp2_with fail
    go_quiet (first | (go_at_call 36; exact Calls.quiet_of_same (rwithin_is (by assumption) _)) | (go_at_call 47; exact Calls.quiet_of_same (cC _)))
    go_wp2
    go_ret
    exact ⟨ret_bool HF.out.symm, bdrew bw _⟩
  subst hK
  have HA : Hid (Z = xc.all (fun c => inN c 4294967295)) := by show _ = _; rw [HZ3.out, decide_eq_true rfl]; rfl
  clear HZ3
  go_wp2_with fail
  go_quiet (first | (go_at_call 36; exact Calls.quiet_of_same (rwithin_is (by assumption) _)) | (go_at_call 47; exact Calls.quiet_of_same (cC _)))
  go_wp2_with fail
  clear cS cD cC hS hD
  go_loopw [5] (fun i wr => ∃ j : Nat, j ≤ n ∧ i = .int .i64 j ∧ Hid ((xc.take j).all (fun c => inN c 4294967295) = true) ∧ ∃ q, wr = w2.drewN q) (fun i _ => n - (intOf i).toNat)
  case atStart => exact ⟨0, by omega, rfl, rfl, _, rfl⟩
  case round =>
    obtain ⟨j, hj, rfl, HT, q, rfl⟩ := hrel
    by_cases hjn : j < n
    · have hjl : j < xc.length := by rw [← HN.out]; exact hjn
      obtain ⟨b, off, rfl, x0, -⟩ := int_at hr2 hjl
      have hz : (0 : Int) ≤ j := by omega
      have hlt : (j : Int) < n := by omega
      have HJ := hid hjn
      have HXY : Hid ((xc.take (j + 1)).all (fun c => inN c 4294967295) = inN xc[j] 4294967295) := by
        show _ = _
        rw [List.take_add_one, List.getElem?_eq_getElem hjl, List.all_append, HT.out]
        simp
      have HNE : Hid (inN xc[j] 4294967295 = false → Z = false) := by
        refine hid fun h => ?_
        rw [HA.out]
        refine Bool.eq_false_iff.2 fun ha => ?_
        rw [List.all_eq_true] at ha
        exact Bool.false_ne_true (h.symm.trans (ha _ (List.getElem_mem hjl)))
      generalize xc[j] = x at *
      cases hX : inN x 4294967295
      · have HF := hid (HNE.out hX)
        have cX := rwithin_is hX
        clear HXY HNE HT
        go_wp2_with fail
        refine (cX _).mono ?_
        rintro e w5 ⟨rfl, rfl⟩
        go_wp2
        go_ret
        exact ⟨ret_bool HF.out.symm, bdrew bw _⟩
      · have HT2 := hid (HXY.out.trans hX)
        have cX := rwithin_is hX
        clear HXY HNE HT
        go_wp2_with fail
        refine (cX _).mono ?_
        rintro e w5 ⟨rfl, rfl⟩
        go_wp2
        go_roundw
        case rel => exact ⟨j + 1, HJ.out, by go_num, HT2, _, rfl⟩
        case measure => have := HJ.out; simp [intOf]; omega
    · have hjn2 : j = n := by omega
      have HF : Hid (Z = true) := by
        have ht := HT.out
        rw [hjn2, List.take_of_length_le (by rw [HN.out]; exact Nat.le_refl _)] at ht
        exact HA.out.trans ht
      have hnl : ¬ (j : Int) < n := by omega
      go_wp2
      go_ret
      exact ⟨ret_bool HF.out.symm, bdrew bw _⟩
theorem rpiece_any {w : World} {C : Option Addr} {c : Nat} {p : Pce} (hr : Rd w C (intV p.chunks)) (hs : p.path.size < 4294967281) (hc : p.chunks.length ≤ c) (hcm : c ≤ maxLen) :
    Calls Tryd.prog 37 #[pcA p C c] w fun e w' => e = .returned (.bool (pceR p)) ∧ Below w.heap.size w w' := by
  cases hk : (rightL p.path.data.toList && rt p.l p.r && !(decide (p.l = 0) && decide (p.r = 0))) with
  | false => exact rpiece_bad hr hs hc hcm hk
  | true =>
    rw [Bool.and_eq_true, Bool.and_eq_true] at hk
    obtain ⟨⟨hA, hB⟩, h0⟩ := hk
    by_cases l0 : p.l = 0
    · refine rpiece_r hr hs hc hcm hA hB (hid l0) fun r0 => ?_
      rw [l0, r0] at h0
      exact absurd h0 (by decide)
    · exact rpiece_l hr hs hc hcm hA hB l0
end Go.Proofs.YteimgnmjmpeobaaDoor
namespace Go.Proofs.YteimgnmjmpeobaaDoor
open Go.RowKit

set_option maxHeartbeats 4000000 in
set_option maxRecDepth 20000 in
theorem rright12_bad {w : World} {A : Option Addr} {c n : Nat} {a1 a2 a3 a4 a5 a6 a7 : Int} (hn : n ≤ 9223372036854775807)
    (hbad : (inN a1 1 && (decide (1 ≤ a2) && decide (a2 ≤ 200)) && inN a3 4294967295 && inN a6 4294967295 && inN a7 4294967295 && inN a4 100 && inN a5 100 && (decide (a5 = a4) || decide (a5 = a4 + 1)) && decide (n ≤ 32)) = false) :
    Calls Tryd.prog 22 #[.agg #[.int .i64 a1, .int .i64 a2, .int .i64 a3, .int .i64 a4, .int .i64 a5, .int .i64 a6, .int .i64 a7, .slice A n c]] w fun e w' => e = .returned (.bool false) ∧ Below w.heap.size w w' := by
  have hal : ∀ (W : World) (o : Obj), Below W.heap.size W (W.alloc o) := fun W o => (Below.refl _ _).alloc (Nat.le_refl _) o
  have b0 := hal w (.cells #[.int .i64 a1, .int .i64 a2, .int .i64 a3, .int .i64 a4, .int .i64 a5, .int .i64 a6, .int .i64 a7, .slice A n c] 26)
  have HB := hid hbad
  clear hbad
  go_enter Tryd.func22, Tryd.ntmps22
  go_wp2_with fail
  cases q1 : inN a1 1
  · refine (rwithin_is q1 _).mono ?_
    rintro e w5 ⟨rfl, rfl⟩
    simp only
    go_wp2
    all_goals (go_ret; exact ⟨rfl, b0⟩)
  refine (rwithin_is q1 _).mono ?_
  rintro e w5 ⟨rfl, rfl⟩
  simp only
  by_cases v1 : a2 < 1
  · go_wp2
    all_goals (go_ret; exact ⟨rfl, b0⟩)
  by_cases v2 : 200 < a2
  · go_wp2
    all_goals (go_ret; exact ⟨rfl, b0⟩)
  go_wp2_with fail
  cases q3 : inN a3 4294967295
  · refine (rwithin_is q3 _).mono ?_
    rintro e w5 ⟨rfl, rfl⟩
    simp only
    go_wp2
    all_goals (go_ret; exact ⟨rfl, b0⟩)
  refine (rwithin_is q3 _).mono ?_
  rintro e w5 ⟨rfl, rfl⟩
  simp only
  go_wp2_with fail
  cases q4 : inN a6 4294967295
  · refine (rwithin_is q4 _).mono ?_
    rintro e w5 ⟨rfl, rfl⟩
    simp only
    go_wp2
    all_goals (go_ret; exact ⟨rfl, b0⟩)
  refine (rwithin_is q4 _).mono ?_
  rintro e w5 ⟨rfl, rfl⟩
  simp only
  go_wp2_with fail
  cases q5 : inN a7 4294967295
  · refine (rwithin_is q5 _).mono ?_
    rintro e w5 ⟨rfl, rfl⟩
    simp only
    go_wp2
    all_goals (go_ret; exact ⟨rfl, b0⟩)
  refine (rwithin_is q5 _).mono ?_
  rintro e w5 ⟨rfl, rfl⟩
  simp only
  go_wp2_with fail
  cases q6 : inN a4 100
  · refine (rwithin_is q6 _).mono ?_
    rintro e w5 ⟨rfl, rfl⟩
    simp only
    go_wp2
    all_goals (go_ret; exact ⟨rfl, b0⟩)
  refine (rwithin_is q6 _).mono ?_
  rintro e w5 ⟨rfl, rfl⟩
  simp only
  go_wp2_with fail
  cases q7 : inN a5 100
  · refine (rwithin_is q7 _).mono ?_
    rintro e w5 ⟨rfl, rfl⟩
    simp only
    go_wp2
    all_goals (go_ret; exact ⟨rfl, b0⟩)
  refine (rwithin_is q7 _).mono ?_
  rintro e w5 ⟨rfl, rfl⟩
  simp only
  have h4 := inN_iff.1 q6
  have h5 := inN_iff.1 q7
  have hmost : ¬ ((a5 = a4 ∨ a5 = a4 + 1) ∧ n ≤ 32) := fun k => by
    have hb := HB.out
    rw [q1, q3, q4, q5, q6, q7, decide_eq_true (show 1 ≤ a2 by omega), decide_eq_true (show a2 ≤ 200 by omega), decide_eq_true k.2] at hb
    rcases k.1 with k1 | k1 <;> simp [k1] at hb
  have HM := hid hmost
  clear hmost q1 q3 q4 q5 q6 q7
  by_cases e1 : a5 = a4
  · have hnn : (32 : Int) < n := by have := HM.out; omega
    subst e1
    go_wp2
    all_goals (go_ret; exact ⟨rfl, b0⟩)
  have e1b : (a5 == a4) = false := by simp [e1]
  by_cases e2 : a5 = a4 + 1
  · have hnn : (32 : Int) < n := by have := HM.out; omega
    subst e2
    go_wp2
    all_goals (go_ret; exact ⟨rfl, b0⟩)
  have e2b : (a5 == a4 + 1) = false := by simp [e2]
  go_wp2
  all_goals (go_ret; exact ⟨rfl, b0⟩)
end Go.Proofs.YteimgnmjmpeobaaDoor
namespace Go.Proofs.YteimgnmjmpeobaaDoor
open Go.RowKit

set_option maxHeartbeats 8000000 in
set_option maxRecDepth 20000 in
theorem rright12_good {w : World} {A : Option Addr} {c : Nat} {a1 a2 a3 a4 a5 a6 a7 : Int} {ps : List Pce} (h : Mt w A c (⟨a1, a2, a3, a4, a5, a6, a7, ps⟩ : Man)) (hs : ∀ p ∈ ps, p.path.size < 4294967281) (hgood : headR (⟨a1, a2, a3, a4, a5, a6, a7, ps⟩ : Man) = true) :
    Calls Tryd.prog 22 #[.agg #[.int .i64 a1, .int .i64 a2, .int .i64 a3, .int .i64 a4, .int .i64 a5, .int .i64 a6, .int .i64 a7, .slice A ps.length c]] w fun e w' => e = .returned (.bool (manR (⟨a1, a2, a3, a4, a5, a6, a7, ps⟩ : Man))) ∧ Below w.heap.size w w' := by
  have hal : ∀ (W : World) (o : Obj), Below W.heap.size W (W.alloc o) := fun W o => (Below.refl _ _).alloc (Nat.le_refl _) o
  have b0 := hal w (.cells #[.int .i64 a1, .int .i64 a2, .int .i64 a3, .int .i64 a4, .int .i64 a5, .int .i64 a6, .int .i64 a7, .slice A ps.length c] 26)
  have pk := Blk.new w [.int .i64 a1, .int .i64 a2, .int .i64 a3, .int .i64 a4, .int .i64 a5, .int .i64 a6, .int .i64 a7, .slice A ps.length c] 26
  have hps := h.ps
  dsimp only at hps
  have HR : Hid (manR (⟨a1, a2, a3, a4, a5, a6, a7, ps⟩ : Man) = (ps.all pceR && sortedL (ps.map ppth))) := by show _ = _; unfold manR; rw [hgood, Bool.true_and]
  have HSZ := hid hs
  clear hs h
  unfold headR at hgood
  simp only [Bool.and_eq_true, decide_eq_true_eq] at hgood
  obtain ⟨⟨⟨⟨⟨⟨⟨⟨q1, v1, v2⟩, q3⟩, q4⟩, q5⟩, q6⟩, q7⟩, hm⟩, hn⟩ := hgood
  have hm2 : a5 = a4 ∨ a5 = a4 + 1 := by simpa using hm
  clear hm
  generalize manR (⟨a1, a2, a3, a4, a5, a6, a7, ps⟩ : Man) = Z at *
  go_enter Tryd.func22, Tryd.ntmps22
  go_wp2_with fail
  refine (rwithin_is q1 _).mono ?_
  rintro e w5 ⟨rfl, rfl⟩
  simp only
  have v1n : ¬ a2 < 1 := by omega
  have v2n : ¬ 200 < a2 := by omega
  go_wp2_with fail
  refine (rwithin_is q3 _).mono ?_
  rintro e w5 ⟨rfl, rfl⟩
  simp only
  go_wp2_with fail
  refine (rwithin_is q4 _).mono ?_
  rintro e w5 ⟨rfl, rfl⟩
  simp only
  go_wp2_with fail
  refine (rwithin_is q5 _).mono ?_
  rintro e w5 ⟨rfl, rfl⟩
  simp only
  go_wp2_with fail
  refine (rwithin_is q6 _).mono ?_
  rintro e w5 ⟨rfl, rfl⟩
  simp only
  go_wp2_with fail
  refine (rwithin_is q7 _).mono ?_
  rintro e w5 ⟨rfl, rfl⟩
  simp only
  have h4 := inN_iff.1 q6
  have h5 := inN_iff.1 q7
  clear q1 q3 q4 q5 q6 q7
  have hnn : ¬ (32 : Int) < ps.length := by omega
  have hmost : (decide (a5 = a4) || decide (a5 = a4 + 1)) = true := by simpa using hm2
  rcases hm2 with e1 | e1
  · subst e1
    clear hmost
    go_wp2_with fail
    have lgm := pk.lt
    have k7 := pk.cell 7
    simp only [List.getElem?_cons_zero, List.getElem?_cons_succ] at k7
    generalize w.alloc (.cells #[.int .i64 a1, .int .i64 a2, .int .i64 a3, .int .i64 a5, .int .i64 a5, .int .i64 a6, .int .i64 a7, .slice A ps.length c] 26) = w0 at *
    have HK7 := hid (fun W (hb : Below w0.heap.size w0 W) => (hb.cell (p := ⟨w.heap.size, 7, none⟩) lgm).trans k7)
    clear k7 pk
    have HPS := hid (hps.below b0)
    go_loopw [3] (fun i wr => ∃ j : Nat, j ≤ ps.length ∧ i = .int .i64 j ∧ Hid ((ps.take j).all pceR = true) ∧ Hid ((List.range j).all (srtAt (ps.map ppth)) = true) ∧ Below w0.heap.size w0 wr) (fun i _ => ps.length - (intOf i).toNat)
    case atStart => exact ⟨0, by omega, rfl, rfl, rfl, Below.refl _ _⟩
    case round =>
      obtain ⟨j, hj, rfl, HT, HO, b⟩ := hrel
      have k7 := HK7.out wr b
      by_cases hjn : j < ps.length
      · have hz : (0 : Int) ≤ j := by omega
        have hlt : (j : Int) < ps.length := by omega
        obtain ⟨g, og, C, cc, rfl, x0, x1, x2, x3, x4, x5, x6, rx, hcx, hcx2, lg⟩ := (HPS.out.below b).pc hjn
        have HX := hid (⟨x0, x1, x2, x3, x4, x5, x6⟩ : _ ∧ _ ∧ _ ∧ _ ∧ _ ∧ _ ∧ _)
        have HT2 : Hid ((ps.take (j + 1)).all pceR = pceR ps[j]) := by show _ = _; rw [all_more pceR ps j hjn, HT.out, Bool.true_and]
        have HNE : Hid (pceR ps[j] = false → Z = false) := by
          refine hid fun h => ?_
          rw [HR.out]
          have : ps.all pceR = false := by
            refine Bool.eq_false_iff.2 fun ha => ?_
            rw [List.all_eq_true] at ha
            exact Bool.false_ne_true (h.symm.trans (ha _ (List.getElem_mem hjn)))
          rw [this]; rfl
        have hsz := HSZ.out _ (List.getElem_mem hjn)
        have HAT : Hid ((ps.map ppth).getD j [] = ppth ps[j]) := by show _ = _; simp [List.getD, hjn]
        have HRP : Hid (pceR ps[j] = true → rightL (ppth ps[j]) = true) := hid fun h => ((pceR_iff _).1 h).path
        have hlj : j < (ps.map ppth).length := by simpa using hjn
        have HSN := hid (fun h => sorted_no (L := ps.map ppth) hlj h)
        have HZF : Hid (sortedL (ps.map ppth) = false → Z = false) := hid fun h => by rw [HR.out, h, Bool.and_false]
        have HPREV : Hid (∀ k (hk : k < ps.length), (ps.map ppth).getD k [] = ppth ps[k]) := hid fun k hk => by simp [List.getD, hk]
        have cP := rpiece_any (w := wr.drew) (p := ps[j]) rx hsz hcx hcx2
        have hxe : ps[j] = ps[j] := rfl
        have bd : Below wr.heap.size wr wr.drew := (Below.refl _ _).drew
        obtain ⟨x, hx⟩ : ∃ x, ps[j] = x := ⟨_, rfl⟩
        rw [hx] at x0 x1 x2 x3 x4 x5 x6 rx hcx cP HX HT2 HNE HAT HRP
        have HXE := hid hx
        clear hx hxe hsz
        obtain ⟨xp, xh, xs, xc, xd, xl, xr⟩ := x
        dsimp only at x0 x1 x2 x3 x4 x5 x6 rx hcx HX
        unfold pcA at cP
        dsimp only at cP
        cases hq : pceR ⟨xp, xh, xs, xc, xd, xl, xr⟩ with
        | false =>
          have HF := hid (HNE.out hq)
          rw [hq] at cP
          clear hq
          have HS : Hid (∀ W, Below wr.heap.size wr W → (fun W => W.cell? ⟨w.heap.size, 7, none⟩ = some (.slice (some ⟨g, og, none⟩) ps.length c) ∧ W.cell? ⟨g, og + j * 7, none⟩ = some (.string xp) ∧ W.cell? ⟨g, og + j * 7 + 1, none⟩ = some (.bool xh) ∧ W.cell? ⟨g, og + j * 7 + 2, none⟩ = some (.int .i64 xs) ∧ W.cell? ⟨g, og + j * 7 + 3, none⟩ = some (.slice C xc.length cc) ∧ W.cell? ⟨g, og + j * 7 + 4, none⟩ = some (.int .i64 xd) ∧ W.cell? ⟨g, og + j * 7 + 5, none⟩ = some (.int .i64 xl) ∧ W.cell? ⟨g, og + j * 7 + 6, none⟩ = some (.int .i64 xr)) W) := hid fun W hb => ⟨HK7.out W (b.trans (hb.mono b.size)), (hb.cell (p := ⟨g, og + j * 7, none⟩) lg).trans x0, (hb.cell (p := ⟨g, og + j * 7 + 1, none⟩) lg).trans x1, (hb.cell (p := ⟨g, og + j * 7 + 2, none⟩) lg).trans x2, (hb.cell (p := ⟨g, og + j * 7 + 3, none⟩) lg).trans x3, (hb.cell (p := ⟨g, og + j * 7 + 4, none⟩) lg).trans x4, (hb.cell (p := ⟨g, og + j * 7 + 5, none⟩) lg).trans x5, (hb.cell (p := ⟨g, og + j * 7 + 6, none⟩) lg).trans x6⟩
          go_wp2_with fail
          refine wp_region_held_drew (S := fun W => W.cell? ⟨w.heap.size, 7, none⟩ = some (.slice (some ⟨g, og, none⟩) ps.length c) ∧ W.cell? ⟨g, og + j * 7, none⟩ = some (.string xp) ∧ W.cell? ⟨g, og + j * 7 + 1, none⟩ = some (.bool xh) ∧ W.cell? ⟨g, og + j * 7 + 2, none⟩ = some (.int .i64 xs) ∧ W.cell? ⟨g, og + j * 7 + 3, none⟩ = some (.slice C xc.length cc) ∧ W.cell? ⟨g, og + j * 7 + 4, none⟩ = some (.int .i64 xd) ∧ W.cell? ⟨g, og + j * 7 + 5, none⟩ = some (.int .i64 xl) ∧ W.cell? ⟨g, og + j * 7 + 6, none⟩ = some (.int .i64 xr)) (by kernel_rfl) (HS.out _ bd) (fun hHeld => ?_)
          refine wpAnyH_take (i := 0) (oi := ⟨_, _, _, _, _, _⟩) (v := ?_) rfl (by kernel_rfl) (by kernel_rfl) (by kernel_rfl) (fun _ _ _ h => h) (Or.inl ⟨by rfl, ?_⟩) (by assumption) ?_
          rotate_left
          · intro w hSw; (try dsimp only at hSw); go_simp; (try (with_reducible rfl))
          try simp only [Act.put, List.setIfInBounds_toArray, List.set_cons_zero, List.set_cons_succ]
          refine wpAnyH_take (i := 1) (oi := ⟨_, _, _, _, _, _⟩) (v := ?_) rfl (by kernel_rfl) (by kernel_rfl) (by kernel_rfl) (fun _ _ _ h => h) (Or.inl ⟨by rfl, ?_⟩) (by assumption) ?_
          rotate_left
          · intro w hSw; (try dsimp only at hSw); go_simp; (try (with_reducible rfl))
          try simp only [Act.put, List.setIfInBounds_toArray, List.set_cons_zero, List.set_cons_succ]
          refine wpAnyH_take (i := 2) (oi := ⟨_, _, _, _, _, _⟩) (v := ?_) rfl (by kernel_rfl) (by kernel_rfl) (by kernel_rfl) (fun _ _ _ h => h) (Or.inl ⟨by rfl, ?_⟩) (by assumption) ?_
          rotate_left
          · intro w hSw; (try dsimp only at hSw); go_simp; (try (with_reducible rfl))
          try simp only [Act.put, List.setIfInBounds_toArray, List.set_cons_zero, List.set_cons_succ]
          refine wpAnyH_take (i := 3) (oi := ⟨_, _, _, _, _, _⟩) (v := ?_) rfl (by kernel_rfl) (by kernel_rfl) (by kernel_rfl) (fun _ _ _ h => h) (Or.inl ⟨by rfl, ?_⟩) (by assumption) ?_
          rotate_left
          · intro w hSw; (try dsimp only at hSw); go_simp; (try (with_reducible rfl))
          try simp only [Act.put, List.setIfInBounds_toArray, List.set_cons_zero, List.set_cons_succ]
          refine wpAnyH_take (i := 4) (oi := ⟨_, _, _, _, _, _⟩) (v := ?_) rfl (by kernel_rfl) (by kernel_rfl) (by kernel_rfl) (fun _ _ _ h => h) (Or.inl ⟨by rfl, ?_⟩) (by assumption) ?_
          rotate_left
          · intro w hSw; (try dsimp only at hSw); go_simp; (try (with_reducible rfl))
          try simp only [Act.put, List.setIfInBounds_toArray, List.set_cons_zero, List.set_cons_succ]
          refine wpAnyH_ready (rs := [5]) (by kernel_rfl) (by simp) ?_
          refine AllReadyH.cons (o := ⟨_, _, _, _, _, _⟩) rfl (fun K hK => ?_) AllReadyH.nil
          go_simp
          refine cP.mono ?_
          rintro e w5 ⟨rfl, b5⟩
          have d5 := below2 bd b5
          have hS5 := HS.out _ d5
          refine hK.out _ _ hS5 (fun hHeld => ?_)
          clear hK K
          try simp only [Act.put, List.setIfInBounds_toArray, List.set_cons_zero, List.set_cons_succ]
          refine wpAnyH_take (i := 6) (oi := ⟨_, _, _, _, _, _⟩) (v := ?_) rfl (by kernel_rfl) (by kernel_rfl) (by kernel_rfl) (fun _ _ _ h => h) (Or.inl ⟨by rfl, ?_⟩) (by assumption) ?_
          rotate_left
          · intro w hSw; (try dsimp only at hSw); go_simp; (try (with_reducible rfl))
          try simp only [Act.put, List.setIfInBounds_toArray, List.set_cons_zero, List.set_cons_succ]
          refine wpAnyH_take (i := 7) (oi := ⟨_, _, _, _, _, _⟩) (v := ?_) rfl (by kernel_rfl) (by kernel_rfl) (by kernel_rfl) (fun _ _ _ h => h) (Or.inl ⟨by rfl, ?_⟩) (by assumption) ?_
          rotate_left
          · intro w hSw; (try dsimp only at hSw); go_simp; (try (with_reducible rfl))
          try simp only [Act.put, List.setIfInBounds_toArray, List.set_cons_zero, List.set_cons_succ]
          refine wpAnyH_take (i := 8) (oi := ⟨_, _, _, _, _, _⟩) (v := undef) rfl (by kernel_rfl) (by kernel_rfl) (by kernel_rfl) (fun _ _ _ h => h) (Or.inr ⟨by rfl, rfl⟩) (by assumption) ?_
          try simp only [Act.put, List.setIfInBounds_toArray, List.set_cons_zero, List.set_cons_succ]
          refine wpAnyH_take (i := 9) (oi := ⟨_, _, _, _, _, _⟩) (v := undef) rfl (by kernel_rfl) (by kernel_rfl) (by kernel_rfl) (fun _ _ _ h => h) (Or.inr ⟨by rfl, rfl⟩) (by assumption) ?_
          try simp only [Act.put, List.setIfInBounds_toArray, List.set_cons_zero, List.set_cons_succ]
          refine wpAnyH_take (i := 10) (oi := ⟨_, _, _, _, _, _⟩) (v := undef) rfl (by kernel_rfl) (by kernel_rfl) (by kernel_rfl) (fun _ _ _ h => h) (Or.inr ⟨by rfl, rfl⟩) (by assumption) ?_
          try simp only [Act.put, List.setIfInBounds_toArray, List.set_cons_zero, List.set_cons_succ]
          refine wpAnyH_take (i := 11) (oi := ⟨_, _, _, _, _, _⟩) (v := undef) rfl (by kernel_rfl) (by kernel_rfl) (by kernel_rfl) (fun _ _ _ h => h) (Or.inr ⟨by rfl, rfl⟩) (by assumption) ?_
          try simp only [Act.put, List.setIfInBounds_toArray, List.set_cons_zero, List.set_cons_succ]
          refine wpAnyH_take (i := 12) (oi := ⟨_, _, _, _, _, _⟩) (v := undef) rfl (by kernel_rfl) (by kernel_rfl) (by kernel_rfl) (fun _ _ _ h => h) (Or.inr ⟨by rfl, rfl⟩) (by assumption) ?_
          try simp only [Act.put, List.setIfInBounds_toArray, List.set_cons_zero, List.set_cons_succ]
          refine wpAnyH_take (i := 13) (oi := ⟨_, _, _, _, _, _⟩) (v := undef) rfl (by kernel_rfl) (by kernel_rfl) (by kernel_rfl) (fun _ _ _ h => h) (Or.inr ⟨by rfl, rfl⟩) (by assumption) ?_
          try simp only [Act.put, List.setIfInBounds_toArray, List.set_cons_zero, List.set_cons_succ]
          refine wpAnyH_take (i := 14) (oi := ⟨_, _, _, _, _, _⟩) (v := undef) rfl (by kernel_rfl) (by kernel_rfl) (by kernel_rfl) (fun _ _ _ h => h) (Or.inr ⟨by rfl, rfl⟩) (by assumption) ?_
          try simp only [Act.put, List.setIfInBounds_toArray, List.set_cons_zero, List.set_cons_succ]
          refine wpAnyH_take (i := 15) (oi := ⟨_, _, _, _, _, _⟩) (v := undef) rfl (by kernel_rfl) (by kernel_rfl) (by kernel_rfl) (fun _ _ _ h => h) (Or.inr ⟨by rfl, rfl⟩) (by assumption) ?_
          try simp only [Act.put, List.setIfInBounds_toArray, List.set_cons_zero, List.set_cons_succ]
          refine wpAnyH_take (i := 16) (oi := ⟨_, _, _, _, _, _⟩) (v := undef) rfl (by kernel_rfl) (by kernel_rfl) (by kernel_rfl) (fun _ _ _ h => h) (Or.inr ⟨by rfl, rfl⟩) (by assumption) ?_
          try simp only [Act.put, List.setIfInBounds_toArray, List.set_cons_zero, List.set_cons_succ]
          refine wpAnyH_take (i := 17) (oi := ⟨_, _, _, _, _, _⟩) (v := undef) rfl (by kernel_rfl) (by kernel_rfl) (by kernel_rfl) (fun _ _ _ h => h) (Or.inr ⟨by rfl, rfl⟩) (by assumption) ?_
          try simp only [Act.put, List.setIfInBounds_toArray, List.set_cons_zero, List.set_cons_succ]
          refine wpAnyH_take (i := 18) (oi := ⟨_, _, _, _, _, _⟩) (v := undef) rfl (by kernel_rfl) (by kernel_rfl) (by kernel_rfl) (fun _ _ _ h => h) (Or.inr ⟨by rfl, rfl⟩) (by assumption) ?_
          try simp only [Act.put, List.setIfInBounds_toArray, List.set_cons_zero, List.set_cons_succ]
          refine wpAnyH_take (i := 19) (oi := ⟨_, _, _, _, _, _⟩) (v := undef) rfl (by kernel_rfl) (by kernel_rfl) (by kernel_rfl) (fun _ _ _ h => h) (Or.inr ⟨by rfl, rfl⟩) (by assumption) ?_
          try simp only [Act.put, List.setIfInBounds_toArray, List.set_cons_zero, List.set_cons_succ]
          refine wpAnyH_take (i := 20) (oi := ⟨_, _, _, _, _, _⟩) (v := undef) rfl (by kernel_rfl) (by kernel_rfl) (by kernel_rfl) (fun _ _ _ h => h) (Or.inr ⟨by rfl, rfl⟩) (by assumption) ?_
          try simp only [Act.put, List.setIfInBounds_toArray, List.set_cons_zero, List.set_cons_succ]
          refine wpAnyH_take (i := 21) (oi := ⟨_, _, _, _, _, _⟩) (v := undef) rfl (by kernel_rfl) (by kernel_rfl) (by kernel_rfl) (fun _ _ _ h => h) (Or.inr ⟨by rfl, rfl⟩) (by assumption) ?_
          try simp only [Act.put, List.setIfInBounds_toArray, List.set_cons_zero, List.set_cons_succ]
          refine wpAnyH_take (i := 22) (oi := ⟨_, _, _, _, _, _⟩) (v := undef) rfl (by kernel_rfl) (by kernel_rfl) (by kernel_rfl) (fun _ _ _ h => h) (Or.inr ⟨by rfl, rfl⟩) (by assumption) ?_
          try simp only [Act.put, List.setIfInBounds_toArray, List.set_cons_zero, List.set_cons_succ]
          refine wpAnyH_take (i := 23) (oi := ⟨_, _, _, _, _, _⟩) (v := undef) rfl (by kernel_rfl) (by kernel_rfl) (by kernel_rfl) (fun _ _ _ h => h) (Or.inr ⟨by rfl, rfl⟩) (by assumption) ?_
          try simp only [Act.put, List.setIfInBounds_toArray, List.set_cons_zero, List.set_cons_succ]
          refine wpAnyH_take (i := 24) (oi := ⟨_, _, _, _, _, _⟩) (v := undef) rfl (by kernel_rfl) (by kernel_rfl) (by kernel_rfl) (fun _ _ _ h => h) (Or.inr ⟨by rfl, rfl⟩) (by assumption) ?_
          try simp only [Act.put, List.setIfInBounds_toArray, List.set_cons_zero, List.set_cons_succ]
          refine wpAnyH_take (i := 25) (oi := ⟨_, _, _, _, _, _⟩) (v := undef) rfl (by kernel_rfl) (by kernel_rfl) (by kernel_rfl) (fun _ _ _ h => h) (Or.inr ⟨by rfl, rfl⟩) (by assumption) ?_
          try simp only [Act.put, List.setIfInBounds_toArray, List.set_cons_zero, List.set_cons_succ]
          refine wpAnyH_take (i := 26) (oi := ⟨_, _, _, _, _, _⟩) (v := ?_) rfl (by kernel_rfl) (by kernel_rfl) (by kernel_rfl) (fun _ _ _ h => h) (Or.inl ⟨by rfl, ?_⟩) (by assumption) ?_
          rotate_left
          · intro w hSw; (try dsimp only at hSw); go_simp; (try (with_reducible rfl))
          try simp only [Act.put, List.setIfInBounds_toArray, List.set_cons_zero, List.set_cons_succ]
          refine wpAnyH_done (by kernel_rfl) ?_ _
          clear hHeld
          have bz := below2 b0 (b.trans (d5.mono b.size))
          go_wp2
          go_ret
          exact ⟨ret_bool HF.out.symm, bz⟩
        | true =>
          have HT3 := hid (HT2.out.trans hq)
          have hrp := HRP.out hq
          rw [hq] at cP
          clear hq
          by_cases hj0 : j = 0
          · subst hj0
            have HO2 : Hid ((List.range 1).all (srtAt (ps.map ppth)) = true) := by show _ = _; rw [show (1 : Nat) = 0 + 1 from rfl, range_step, HO.out, srtAt, HAT.out, hrp]; rfl
            simp only [Nat.zero_mul, Nat.add_zero] at x0 x1 x2 x3 x4 x5 x6
            have HS : Hid (∀ W, Below wr.heap.size wr W → (fun W => W.cell? ⟨w.heap.size, 7, none⟩ = some (.slice (some ⟨g, og, none⟩) ps.length c) ∧ W.cell? ⟨g, og, none⟩ = some (.string xp) ∧ W.cell? ⟨g, og + 1, none⟩ = some (.bool xh) ∧ W.cell? ⟨g, og + 2, none⟩ = some (.int .i64 xs) ∧ W.cell? ⟨g, og + 3, none⟩ = some (.slice C xc.length cc) ∧ W.cell? ⟨g, og + 4, none⟩ = some (.int .i64 xd) ∧ W.cell? ⟨g, og + 5, none⟩ = some (.int .i64 xl) ∧ W.cell? ⟨g, og + 6, none⟩ = some (.int .i64 xr)) W) := hid fun W hb => ⟨HK7.out W (b.trans (hb.mono b.size)), (hb.cell (p := ⟨g, og, none⟩) lg).trans x0, (hb.cell (p := ⟨g, og + 1, none⟩) lg).trans x1, (hb.cell (p := ⟨g, og + 2, none⟩) lg).trans x2, (hb.cell (p := ⟨g, og + 3, none⟩) lg).trans x3, (hb.cell (p := ⟨g, og + 4, none⟩) lg).trans x4, (hb.cell (p := ⟨g, og + 5, none⟩) lg).trans x5, (hb.cell (p := ⟨g, og + 6, none⟩) lg).trans x6⟩
            clear hz hlt
            go_wp2_with fail
            refine wp_region_held_drew (S := fun W => W.cell? ⟨w.heap.size, 7, none⟩ = some (.slice (some ⟨g, og, none⟩) ps.length c) ∧ W.cell? ⟨g, og, none⟩ = some (.string xp) ∧ W.cell? ⟨g, og + 1, none⟩ = some (.bool xh) ∧ W.cell? ⟨g, og + 2, none⟩ = some (.int .i64 xs) ∧ W.cell? ⟨g, og + 3, none⟩ = some (.slice C xc.length cc) ∧ W.cell? ⟨g, og + 4, none⟩ = some (.int .i64 xd) ∧ W.cell? ⟨g, og + 5, none⟩ = some (.int .i64 xl) ∧ W.cell? ⟨g, og + 6, none⟩ = some (.int .i64 xr)) (by kernel_rfl) (HS.out _ bd) (fun hHeld => ?_)
            refine wpAnyH_take (i := 0) (oi := ⟨_, _, _, _, _, _⟩) (v := ?_) rfl (by kernel_rfl) (by kernel_rfl) (by kernel_rfl) (fun _ _ _ h => h) (Or.inl ⟨by rfl, ?_⟩) (by assumption) ?_
            rotate_left
            · intro w hSw; (try dsimp only at hSw); go_simp; (try (with_reducible rfl))
            try simp only [Act.put, List.setIfInBounds_toArray, List.set_cons_zero, List.set_cons_succ]
            refine wpAnyH_take (i := 1) (oi := ⟨_, _, _, _, _, _⟩) (v := ?_) rfl (by kernel_rfl) (by kernel_rfl) (by kernel_rfl) (fun _ _ _ h => h) (Or.inl ⟨by rfl, ?_⟩) (by assumption) ?_
            rotate_left
            · intro w hSw; (try dsimp only at hSw); go_simp; (try (with_reducible rfl))
            try simp only [Act.put, List.setIfInBounds_toArray, List.set_cons_zero, List.set_cons_succ]
            refine wpAnyH_take (i := 2) (oi := ⟨_, _, _, _, _, _⟩) (v := ?_) rfl (by kernel_rfl) (by kernel_rfl) (by kernel_rfl) (fun _ _ _ h => h) (Or.inl ⟨by rfl, ?_⟩) (by assumption) ?_
            rotate_left
            · intro w hSw; (try dsimp only at hSw); go_simp; (try (with_reducible rfl))
            try simp only [Act.put, List.setIfInBounds_toArray, List.set_cons_zero, List.set_cons_succ]
            refine wpAnyH_take (i := 3) (oi := ⟨_, _, _, _, _, _⟩) (v := ?_) rfl (by kernel_rfl) (by kernel_rfl) (by kernel_rfl) (fun _ _ _ h => h) (Or.inl ⟨by rfl, ?_⟩) (by assumption) ?_
            rotate_left
            · intro w hSw; (try dsimp only at hSw); go_simp; (try (with_reducible rfl))
            try simp only [Act.put, List.setIfInBounds_toArray, List.set_cons_zero, List.set_cons_succ]
            refine wpAnyH_take (i := 4) (oi := ⟨_, _, _, _, _, _⟩) (v := ?_) rfl (by kernel_rfl) (by kernel_rfl) (by kernel_rfl) (fun _ _ _ h => h) (Or.inl ⟨by rfl, ?_⟩) (by assumption) ?_
            rotate_left
            · intro w hSw; (try dsimp only at hSw); go_simp; (try (with_reducible rfl))
            try simp only [Act.put, List.setIfInBounds_toArray, List.set_cons_zero, List.set_cons_succ]
            refine wpAnyH_ready (rs := [5]) (by kernel_rfl) (by simp) ?_
            refine AllReadyH.cons (o := ⟨_, _, _, _, _, _⟩) rfl (fun K hK => ?_) AllReadyH.nil
            go_simp
            refine cP.mono ?_
            rintro e w5 ⟨rfl, b5⟩
            have d5 := below2 bd b5
            have hS5 := HS.out _ d5
            refine hK.out _ _ hS5 (fun hHeld => ?_)
            clear hK K
            try simp only [Act.put, List.setIfInBounds_toArray, List.set_cons_zero, List.set_cons_succ]
            refine wpAnyH_take (i := 6) (oi := ⟨_, _, _, _, _, _⟩) (v := ?_) rfl (by kernel_rfl) (by kernel_rfl) (by kernel_rfl) (fun _ _ _ h => h) (Or.inl ⟨by rfl, ?_⟩) (by assumption) ?_
            rotate_left
            · intro w hSw; (try dsimp only at hSw); go_simp; (try (with_reducible rfl))
            try simp only [Act.put, List.setIfInBounds_toArray, List.set_cons_zero, List.set_cons_succ]
            refine wpAnyH_take (i := 7) (oi := ⟨_, _, _, _, _, _⟩) (v := ?_) rfl (by kernel_rfl) (by kernel_rfl) (by kernel_rfl) (fun _ _ _ h => h) (Or.inl ⟨by rfl, ?_⟩) (by assumption) ?_
            rotate_left
            · intro w hSw; (try dsimp only at hSw); go_simp; (try (with_reducible rfl))
            try simp only [Act.put, List.setIfInBounds_toArray, List.set_cons_zero, List.set_cons_succ]
            refine wpAnyH_take (i := 8) (oi := ⟨_, _, _, _, _, _⟩) (v := ?_) rfl (by kernel_rfl) (by kernel_rfl) (by kernel_rfl) (fun _ _ _ h => h) (Or.inl ⟨by rfl, ?_⟩) (by assumption) ?_
            rotate_left
            · intro w hSw; (try dsimp only at hSw); go_simp; (try (with_reducible rfl))
            try simp only [Act.put, List.setIfInBounds_toArray, List.set_cons_zero, List.set_cons_succ]
            refine wpAnyH_take (i := 9) (oi := ⟨_, _, _, _, _, _⟩) (v := ?_) rfl (by kernel_rfl) (by kernel_rfl) (by kernel_rfl) (fun _ _ _ h => h) (Or.inl ⟨by rfl, ?_⟩) (by assumption) ?_
            rotate_left
            · intro w hSw; (try dsimp only at hSw); go_simp; (try (with_reducible rfl))
            try simp only [Act.put, List.setIfInBounds_toArray, List.set_cons_zero, List.set_cons_succ]
            refine wpAnyH_take (i := 10) (oi := ⟨_, _, _, _, _, _⟩) (v := ?_) rfl (by kernel_rfl) (by kernel_rfl) (by kernel_rfl) (fun _ _ _ h => h) (Or.inl ⟨by rfl, ?_⟩) (by assumption) ?_
            rotate_left
            · intro w hSw; (try dsimp only at hSw); go_simp; (try (with_reducible rfl))
            try simp only [Act.put, List.setIfInBounds_toArray, List.set_cons_zero, List.set_cons_succ]
            refine wpAnyH_take (i := 11) (oi := ⟨_, _, _, _, _, _⟩) (v := undef) rfl (by kernel_rfl) (by kernel_rfl) (by kernel_rfl) (fun _ _ _ h => h) (Or.inr ⟨by rfl, rfl⟩) (by assumption) ?_
            try simp only [Act.put, List.setIfInBounds_toArray, List.set_cons_zero, List.set_cons_succ]
            refine wpAnyH_take (i := 12) (oi := ⟨_, _, _, _, _, _⟩) (v := undef) rfl (by kernel_rfl) (by kernel_rfl) (by kernel_rfl) (fun _ _ _ h => h) (Or.inr ⟨by rfl, rfl⟩) (by assumption) ?_
            try simp only [Act.put, List.setIfInBounds_toArray, List.set_cons_zero, List.set_cons_succ]
            refine wpAnyH_take (i := 13) (oi := ⟨_, _, _, _, _, _⟩) (v := undef) rfl (by kernel_rfl) (by kernel_rfl) (by kernel_rfl) (fun _ _ _ h => h) (Or.inr ⟨by rfl, rfl⟩) (by assumption) ?_
            try simp only [Act.put, List.setIfInBounds_toArray, List.set_cons_zero, List.set_cons_succ]
            refine wpAnyH_take (i := 14) (oi := ⟨_, _, _, _, _, _⟩) (v := undef) rfl (by kernel_rfl) (by kernel_rfl) (by kernel_rfl) (fun _ _ _ h => h) (Or.inr ⟨by rfl, rfl⟩) (by assumption) ?_
            try simp only [Act.put, List.setIfInBounds_toArray, List.set_cons_zero, List.set_cons_succ]
            refine wpAnyH_take (i := 15) (oi := ⟨_, _, _, _, _, _⟩) (v := undef) rfl (by kernel_rfl) (by kernel_rfl) (by kernel_rfl) (fun _ _ _ h => h) (Or.inr ⟨by rfl, rfl⟩) (by assumption) ?_
            try simp only [Act.put, List.setIfInBounds_toArray, List.set_cons_zero, List.set_cons_succ]
            refine wpAnyH_take (i := 16) (oi := ⟨_, _, _, _, _, _⟩) (v := undef) rfl (by kernel_rfl) (by kernel_rfl) (by kernel_rfl) (fun _ _ _ h => h) (Or.inr ⟨by rfl, rfl⟩) (by assumption) ?_
            try simp only [Act.put, List.setIfInBounds_toArray, List.set_cons_zero, List.set_cons_succ]
            refine wpAnyH_take (i := 17) (oi := ⟨_, _, _, _, _, _⟩) (v := undef) rfl (by kernel_rfl) (by kernel_rfl) (by kernel_rfl) (fun _ _ _ h => h) (Or.inr ⟨by rfl, rfl⟩) (by assumption) ?_
            try simp only [Act.put, List.setIfInBounds_toArray, List.set_cons_zero, List.set_cons_succ]
            refine wpAnyH_take (i := 18) (oi := ⟨_, _, _, _, _, _⟩) (v := undef) rfl (by kernel_rfl) (by kernel_rfl) (by kernel_rfl) (fun _ _ _ h => h) (Or.inr ⟨by rfl, rfl⟩) (by assumption) ?_
            try simp only [Act.put, List.setIfInBounds_toArray, List.set_cons_zero, List.set_cons_succ]
            refine wpAnyH_take (i := 19) (oi := ⟨_, _, _, _, _, _⟩) (v := undef) rfl (by kernel_rfl) (by kernel_rfl) (by kernel_rfl) (fun _ _ _ h => h) (Or.inr ⟨by rfl, rfl⟩) (by assumption) ?_
            try simp only [Act.put, List.setIfInBounds_toArray, List.set_cons_zero, List.set_cons_succ]
            refine wpAnyH_take (i := 20) (oi := ⟨_, _, _, _, _, _⟩) (v := undef) rfl (by kernel_rfl) (by kernel_rfl) (by kernel_rfl) (fun _ _ _ h => h) (Or.inr ⟨by rfl, rfl⟩) (by assumption) ?_
            try simp only [Act.put, List.setIfInBounds_toArray, List.set_cons_zero, List.set_cons_succ]
            refine wpAnyH_take (i := 21) (oi := ⟨_, _, _, _, _, _⟩) (v := undef) rfl (by kernel_rfl) (by kernel_rfl) (by kernel_rfl) (fun _ _ _ h => h) (Or.inr ⟨by rfl, rfl⟩) (by assumption) ?_
            try simp only [Act.put, List.setIfInBounds_toArray, List.set_cons_zero, List.set_cons_succ]
            refine wpAnyH_take (i := 22) (oi := ⟨_, _, _, _, _, _⟩) (v := undef) rfl (by kernel_rfl) (by kernel_rfl) (by kernel_rfl) (fun _ _ _ h => h) (Or.inr ⟨by rfl, rfl⟩) (by assumption) ?_
            try simp only [Act.put, List.setIfInBounds_toArray, List.set_cons_zero, List.set_cons_succ]
            refine wpAnyH_take (i := 23) (oi := ⟨_, _, _, _, _, _⟩) (v := undef) rfl (by kernel_rfl) (by kernel_rfl) (by kernel_rfl) (fun _ _ _ h => h) (Or.inr ⟨by rfl, rfl⟩) (by assumption) ?_
            try simp only [Act.put, List.setIfInBounds_toArray, List.set_cons_zero, List.set_cons_succ]
            refine wpAnyH_take (i := 24) (oi := ⟨_, _, _, _, _, _⟩) (v := undef) rfl (by kernel_rfl) (by kernel_rfl) (by kernel_rfl) (fun _ _ _ h => h) (Or.inr ⟨by rfl, rfl⟩) (by assumption) ?_
            try simp only [Act.put, List.setIfInBounds_toArray, List.set_cons_zero, List.set_cons_succ]
            refine wpAnyH_take (i := 25) (oi := ⟨_, _, _, _, _, _⟩) (v := ?_) rfl (by kernel_rfl) (by kernel_rfl) (by kernel_rfl) (fun _ _ _ h => h) (Or.inl ⟨by rfl, ?_⟩) (by assumption) ?_
            rotate_left
            · intro w hSw; (try dsimp only at hSw); go_simp; (try (with_reducible rfl))
            try simp only [Act.put, List.setIfInBounds_toArray, List.set_cons_zero, List.set_cons_succ]
            refine wpAnyH_take (i := 26) (oi := ⟨_, _, _, _, _, _⟩) (v := ?_) rfl (by kernel_rfl) (by kernel_rfl) (by kernel_rfl) (fun _ _ _ h => h) (Or.inl ⟨by rfl, ?_⟩) (by assumption) ?_
            rotate_left
            · intro w hSw; (try dsimp only at hSw); go_simp; (try (with_reducible rfl))
            try simp only [Act.put, List.setIfInBounds_toArray, List.set_cons_zero, List.set_cons_succ]
            refine wpAnyH_done (by kernel_rfl) ?_ _
            clear hHeld
            have bz := b.trans (d5.mono b.size)
            clear x0 x1 x2 x3 x4 x5 x6 HX k7 hS5 d5 b5 b HS cP
            go_wp2
            go_roundw
            case rel => exact ⟨1, by omega, by go_num, HT3, HO2, bz⟩
            case measure => simp [intOf]; omega
          · obtain ⟨k, hk⟩ : ∃ k, k = j - 1 := ⟨_, rfl⟩
            have hkn : k < ps.length := by omega
            obtain ⟨g', og', C', cc', he, y0, -, -, -, -, -, -, -, -, -, -⟩ := (HPS.out.below b).pc hkn
            injection he with he
            injection he with he1 he2
            subst he1 he2
            have hsrt : srtAt (ps.map ppth) j = Op.bytesLess ps[k].path.data.toList xp.data.toList := by rw [srtAt, HAT.out, hrp, Bool.true_and, ← hk, HPREV.out k hkn, show (j == 0) = false by simp [hj0], Bool.false_or]; rfl
            have hle : (Op.bytesLess xp.toList ps[k].path.toList || xp.toList == ps[k].path.toList) = !Op.bytesLess ps[k].path.data.toList xp.data.toList := by rw [less_flip, Lib.toList_data, Lib.toList_data]
            have HSRT := hid hsrt
            clear hsrt
            generalize ps[k].path = yp at *
            have hpos : (0 : Int) < (j : Int) := by omega
            have hposn : 0 < j := by omega
            have hj1 : (j : Int) - 1 = (k : Int) := by omega
            have hwk : IntKind.i64.wrap (k : Int) = (k : Int) := by rw [IntKind.wrap_i64]; omega
            have hkz : (0 : Int) ≤ k := by omega
            have hkl : (k : Int) < ps.length := by omega
            have hj0' := hid hj0
            clear hk hkn hj0
            have HS : Hid (∀ W, Below wr.heap.size wr W → (fun W => W.cell? ⟨w.heap.size, 7, none⟩ = some (.slice (some ⟨g, og, none⟩) ps.length c) ∧ W.cell? ⟨g, og + j * 7, none⟩ = some (.string xp) ∧ W.cell? ⟨g, og + j * 7 + 1, none⟩ = some (.bool xh) ∧ W.cell? ⟨g, og + j * 7 + 2, none⟩ = some (.int .i64 xs) ∧ W.cell? ⟨g, og + j * 7 + 3, none⟩ = some (.slice C xc.length cc) ∧ W.cell? ⟨g, og + j * 7 + 4, none⟩ = some (.int .i64 xd) ∧ W.cell? ⟨g, og + j * 7 + 5, none⟩ = some (.int .i64 xl) ∧ W.cell? ⟨g, og + j * 7 + 6, none⟩ = some (.int .i64 xr) ∧ W.cell? ⟨g, og + k * 7, none⟩ = some (.string yp)) W) := hid fun W hb => ⟨HK7.out W (b.trans (hb.mono b.size)), (hb.cell (p := ⟨g, og + j * 7, none⟩) lg).trans x0, (hb.cell (p := ⟨g, og + j * 7 + 1, none⟩) lg).trans x1, (hb.cell (p := ⟨g, og + j * 7 + 2, none⟩) lg).trans x2, (hb.cell (p := ⟨g, og + j * 7 + 3, none⟩) lg).trans x3, (hb.cell (p := ⟨g, og + j * 7 + 4, none⟩) lg).trans x4, (hb.cell (p := ⟨g, og + j * 7 + 5, none⟩) lg).trans x5, (hb.cell (p := ⟨g, og + j * 7 + 6, none⟩) lg).trans x6, (hb.cell (p := ⟨g, og + k * 7, none⟩) lg).trans y0⟩
            cases hless : Op.bytesLess yp.data.toList xp.data.toList with
            | false =>
              have HF := hid (HZF.out (HSN.out (HSRT.out.trans hless)).symm)
              rw [hless, Bool.not_false] at hle
              clear hless
              go_wp2_with fail
              refine wp_region_held_drew (S := fun W => W.cell? ⟨w.heap.size, 7, none⟩ = some (.slice (some ⟨g, og, none⟩) ps.length c) ∧ W.cell? ⟨g, og + j * 7, none⟩ = some (.string xp) ∧ W.cell? ⟨g, og + j * 7 + 1, none⟩ = some (.bool xh) ∧ W.cell? ⟨g, og + j * 7 + 2, none⟩ = some (.int .i64 xs) ∧ W.cell? ⟨g, og + j * 7 + 3, none⟩ = some (.slice C xc.length cc) ∧ W.cell? ⟨g, og + j * 7 + 4, none⟩ = some (.int .i64 xd) ∧ W.cell? ⟨g, og + j * 7 + 5, none⟩ = some (.int .i64 xl) ∧ W.cell? ⟨g, og + j * 7 + 6, none⟩ = some (.int .i64 xr) ∧ W.cell? ⟨g, og + k * 7, none⟩ = some (.string yp)) (by kernel_rfl) (HS.out _ bd) (fun hHeld => ?_)
              refine wpAnyH_take (i := 0) (oi := ⟨_, _, _, _, _, _⟩) (v := ?_) rfl (by kernel_rfl) (by kernel_rfl) (by kernel_rfl) (fun _ _ _ h => h) (Or.inl ⟨by rfl, ?_⟩) (by assumption) ?_
              rotate_left
              · intro w hSw; (try dsimp only at hSw); go_simp; (try (with_reducible rfl))
              try simp only [Act.put, List.setIfInBounds_toArray, List.set_cons_zero, List.set_cons_succ]
              refine wpAnyH_take (i := 1) (oi := ⟨_, _, _, _, _, _⟩) (v := ?_) rfl (by kernel_rfl) (by kernel_rfl) (by kernel_rfl) (fun _ _ _ h => h) (Or.inl ⟨by rfl, ?_⟩) (by assumption) ?_
              rotate_left
              · intro w hSw; (try dsimp only at hSw); go_simp; (try (with_reducible rfl))
              try simp only [Act.put, List.setIfInBounds_toArray, List.set_cons_zero, List.set_cons_succ]
              refine wpAnyH_take (i := 2) (oi := ⟨_, _, _, _, _, _⟩) (v := ?_) rfl (by kernel_rfl) (by kernel_rfl) (by kernel_rfl) (fun _ _ _ h => h) (Or.inl ⟨by rfl, ?_⟩) (by assumption) ?_
              rotate_left
              · intro w hSw; (try dsimp only at hSw); go_simp; (try (with_reducible rfl))
              try simp only [Act.put, List.setIfInBounds_toArray, List.set_cons_zero, List.set_cons_succ]
              refine wpAnyH_take (i := 3) (oi := ⟨_, _, _, _, _, _⟩) (v := ?_) rfl (by kernel_rfl) (by kernel_rfl) (by kernel_rfl) (fun _ _ _ h => h) (Or.inl ⟨by rfl, ?_⟩) (by assumption) ?_
              rotate_left
              · intro w hSw; (try dsimp only at hSw); go_simp; (try (with_reducible rfl))
              try simp only [Act.put, List.setIfInBounds_toArray, List.set_cons_zero, List.set_cons_succ]
              refine wpAnyH_take (i := 4) (oi := ⟨_, _, _, _, _, _⟩) (v := ?_) rfl (by kernel_rfl) (by kernel_rfl) (by kernel_rfl) (fun _ _ _ h => h) (Or.inl ⟨by rfl, ?_⟩) (by assumption) ?_
              rotate_left
              · intro w hSw; (try dsimp only at hSw); go_simp; (try (with_reducible rfl))
              try simp only [Act.put, List.setIfInBounds_toArray, List.set_cons_zero, List.set_cons_succ]
              refine wpAnyH_ready (rs := [5]) (by kernel_rfl) (by simp) ?_
              refine AllReadyH.cons (o := ⟨_, _, _, _, _, _⟩) rfl (fun K hK => ?_) AllReadyH.nil
              go_simp
              refine cP.mono ?_
              rintro e w5 ⟨rfl, b5⟩
              have d5 := below2 bd b5
              have hS5 := HS.out _ d5
              refine hK.out _ _ hS5 (fun hHeld => ?_)
              clear hK K
              try simp only [Act.put, List.setIfInBounds_toArray, List.set_cons_zero, List.set_cons_succ]
              refine wpAnyH_take (i := 6) (oi := ⟨_, _, _, _, _, _⟩) (v := ?_) rfl (by kernel_rfl) (by kernel_rfl) (by kernel_rfl) (fun _ _ _ h => h) (Or.inl ⟨by rfl, ?_⟩) (by assumption) ?_
              rotate_left
              · intro w hSw; (try dsimp only at hSw); go_simp; (try (with_reducible rfl))
              try simp only [Act.put, List.setIfInBounds_toArray, List.set_cons_zero, List.set_cons_succ]
              refine wpAnyH_take (i := 7) (oi := ⟨_, _, _, _, _, _⟩) (v := ?_) rfl (by kernel_rfl) (by kernel_rfl) (by kernel_rfl) (fun _ _ _ h => h) (Or.inl ⟨by rfl, ?_⟩) (by assumption) ?_
              rotate_left
              · intro w hSw; (try dsimp only at hSw); go_simp; (try (with_reducible rfl))
              try simp only [Act.put, List.setIfInBounds_toArray, List.set_cons_zero, List.set_cons_succ]
              refine wpAnyH_take (i := 8) (oi := ⟨_, _, _, _, _, _⟩) (v := ?_) rfl (by kernel_rfl) (by kernel_rfl) (by kernel_rfl) (fun _ _ _ h => h) (Or.inl ⟨by rfl, ?_⟩) (by assumption) ?_
              rotate_left
              · intro w hSw; (try dsimp only at hSw); go_simp; (try (with_reducible rfl))
              try simp only [Act.put, List.setIfInBounds_toArray, List.set_cons_zero, List.set_cons_succ]
              refine wpAnyH_take (i := 9) (oi := ⟨_, _, _, _, _, _⟩) (v := ?_) rfl (by kernel_rfl) (by kernel_rfl) (by kernel_rfl) (fun _ _ _ h => h) (Or.inl ⟨by rfl, ?_⟩) (by assumption) ?_
              rotate_left
              · intro w hSw; (try dsimp only at hSw); go_simp; (try (with_reducible rfl))
              try simp only [Act.put, List.setIfInBounds_toArray, List.set_cons_zero, List.set_cons_succ]
              refine wpAnyH_take (i := 10) (oi := ⟨_, _, _, _, _, _⟩) (v := ?_) rfl (by kernel_rfl) (by kernel_rfl) (by kernel_rfl) (fun _ _ _ h => h) (Or.inl ⟨by rfl, ?_⟩) (by assumption) ?_
              rotate_left
              · intro w hSw; (try dsimp only at hSw); go_simp; (try (with_reducible rfl))
              try simp only [Act.put, List.setIfInBounds_toArray, List.set_cons_zero, List.set_cons_succ]
              refine wpAnyH_take (i := 11) (oi := ⟨_, _, _, _, _, _⟩) (v := ?_) rfl (by kernel_rfl) (by kernel_rfl) (by kernel_rfl) (fun _ _ _ h => h) (Or.inl ⟨by rfl, ?_⟩) (by assumption) ?_
              rotate_left
              · intro w hSw; (try dsimp only at hSw); go_simp; (try (with_reducible rfl))
              try simp only [Act.put, List.setIfInBounds_toArray, List.set_cons_zero, List.set_cons_succ]
              refine wpAnyH_take (i := 12) (oi := ⟨_, _, _, _, _, _⟩) (v := ?_) rfl (by kernel_rfl) (by kernel_rfl) (by kernel_rfl) (fun _ _ _ h => h) (Or.inl ⟨by rfl, ?_⟩) (by assumption) ?_
              rotate_left
              · intro w hSw; (try dsimp only at hSw); go_simp; (try (with_reducible rfl))
              try simp only [Act.put, List.setIfInBounds_toArray, List.set_cons_zero, List.set_cons_succ]
              refine wpAnyH_take (i := 13) (oi := ⟨_, _, _, _, _, _⟩) (v := ?_) rfl (by kernel_rfl) (by kernel_rfl) (by kernel_rfl) (fun _ _ _ h => h) (Or.inl ⟨by rfl, ?_⟩) (by assumption) ?_
              rotate_left
              · intro w hSw; (try dsimp only at hSw); go_simp; (try (with_reducible rfl))
              try simp only [Act.put, List.setIfInBounds_toArray, List.set_cons_zero, List.set_cons_succ]
              refine wpAnyH_take (i := 14) (oi := ⟨_, _, _, _, _, _⟩) (v := ?_) rfl (by kernel_rfl) (by kernel_rfl) (by kernel_rfl) (fun _ _ _ h => h) (Or.inl ⟨by rfl, ?_⟩) (by assumption) ?_
              rotate_left
              · intro w hSw; (try dsimp only at hSw); go_simp; (try (with_reducible rfl))
              try simp only [Act.put, List.setIfInBounds_toArray, List.set_cons_zero, List.set_cons_succ]
              refine wpAnyH_take (i := 15) (oi := ⟨_, _, _, _, _, _⟩) (v := ?_) rfl (by kernel_rfl) (by kernel_rfl) (by kernel_rfl) (fun _ _ _ h => h) (Or.inl ⟨by rfl, ?_⟩) (by assumption) ?_
              rotate_left
              · intro w hSw; (try dsimp only at hSw); go_simp; (try (with_reducible rfl))
              try simp only [Act.put, List.setIfInBounds_toArray, List.set_cons_zero, List.set_cons_succ]
              refine wpAnyH_take (i := 16) (oi := ⟨_, _, _, _, _, _⟩) (v := ?_) rfl (by kernel_rfl) (by kernel_rfl) (by kernel_rfl) (fun _ _ _ h => h) (Or.inl ⟨by rfl, ?_⟩) (by assumption) ?_
              rotate_left
              · intro w hSw; (try dsimp only at hSw); go_simp; (try (with_reducible rfl))
              try simp only [Act.put, List.setIfInBounds_toArray, List.set_cons_zero, List.set_cons_succ]
              refine wpAnyH_take (i := 17) (oi := ⟨_, _, _, _, _, _⟩) (v := ?_) rfl (by kernel_rfl) (by kernel_rfl) (by kernel_rfl) (fun _ _ _ h => h) (Or.inl ⟨by rfl, ?_⟩) (by assumption) ?_
              rotate_left
              · intro w hSw; (try dsimp only at hSw); go_simp; (try (with_reducible rfl))
              try simp only [Act.put, List.setIfInBounds_toArray, List.set_cons_zero, List.set_cons_succ]
              refine wpAnyH_take (i := 18) (oi := ⟨_, _, _, _, _, _⟩) (v := ?_) rfl (by kernel_rfl) (by kernel_rfl) (by kernel_rfl) (fun _ _ _ h => h) (Or.inl ⟨by rfl, ?_⟩) (by assumption) ?_
              rotate_left
              · intro w hSw; (try dsimp only at hSw); go_simp; (try (with_reducible rfl))
              try simp only [Act.put, List.setIfInBounds_toArray, List.set_cons_zero, List.set_cons_succ]
              refine wpAnyH_take (i := 19) (oi := ⟨_, _, _, _, _, _⟩) (v := ?_) rfl (by kernel_rfl) (by kernel_rfl) (by kernel_rfl) (fun _ _ _ h => h) (Or.inl ⟨by rfl, ?_⟩) (by assumption) ?_
              rotate_left
              · intro w hSw; (try dsimp only at hSw); go_simp; (try (with_reducible rfl))
              try simp only [Act.put, List.setIfInBounds_toArray, List.set_cons_zero, List.set_cons_succ]
              refine wpAnyH_take (i := 20) (oi := ⟨_, _, _, _, _, _⟩) (v := ?_) rfl (by kernel_rfl) (by kernel_rfl) (by kernel_rfl) (fun _ _ _ h => h) (Or.inl ⟨by rfl, ?_⟩) (by assumption) ?_
              rotate_left
              · intro w hSw; (try dsimp only at hSw); go_simp; (try (with_reducible rfl))
              try simp only [Act.put, List.setIfInBounds_toArray, List.set_cons_zero, List.set_cons_succ]
              refine wpAnyH_take (i := 21) (oi := ⟨_, _, _, _, _, _⟩) (v := ?_) rfl (by kernel_rfl) (by kernel_rfl) (by kernel_rfl) (fun _ _ _ h => h) (Or.inl ⟨by rfl, ?_⟩) (by assumption) ?_
              rotate_left
              · intro w hSw; (try dsimp only at hSw); go_simp; (try (with_reducible rfl))
              try simp only [Act.put, List.setIfInBounds_toArray, List.set_cons_zero, List.set_cons_succ]
              refine wpAnyH_take (i := 22) (oi := ⟨_, _, _, _, _, _⟩) (v := ?_) rfl (by kernel_rfl) (by kernel_rfl) (by kernel_rfl) (fun _ _ _ h => h) (Or.inl ⟨by rfl, ?_⟩) (by assumption) ?_
              rotate_left
              · intro w hSw; (try dsimp only at hSw); go_simp; (try (with_reducible rfl))
              try simp only [Act.put, List.setIfInBounds_toArray, List.set_cons_zero, List.set_cons_succ]
              refine wpAnyH_take (i := 23) (oi := ⟨_, _, _, _, _, _⟩) (v := ?_) rfl (by kernel_rfl) (by kernel_rfl) (by kernel_rfl) (fun _ _ _ h => h) (Or.inl ⟨by rfl, ?_⟩) (by assumption) ?_
              rotate_left
              · intro w hSw; (try dsimp only at hSw); go_simp; (try (with_reducible rfl))
              try simp only [Act.put, List.setIfInBounds_toArray, List.set_cons_zero, List.set_cons_succ]
              refine wpAnyH_take (i := 24) (oi := ⟨_, _, _, _, _, _⟩) (v := ?_) rfl (by kernel_rfl) (by kernel_rfl) (by kernel_rfl) (fun _ _ _ h => h) (Or.inl ⟨by rfl, ?_⟩) (by assumption) ?_
              rotate_left
              · intro w hSw; (try dsimp only at hSw); go_simp; (try (with_reducible rfl))
              try simp only [Act.put, List.setIfInBounds_toArray, List.set_cons_zero, List.set_cons_succ]
              refine wpAnyH_take (i := 25) (oi := ⟨_, _, _, _, _, _⟩) (v := ?_) rfl (by kernel_rfl) (by kernel_rfl) (by kernel_rfl) (fun _ _ _ h => h) (Or.inl ⟨by rfl, ?_⟩) (by assumption) ?_
              rotate_left
              · intro w hSw; (try dsimp only at hSw); go_simp; (try (with_reducible rfl))
              try simp only [Act.put, List.setIfInBounds_toArray, List.set_cons_zero, List.set_cons_succ]
              refine wpAnyH_take (i := 26) (oi := ⟨_, _, _, _, _, _⟩) (v := ?_) rfl (by kernel_rfl) (by kernel_rfl) (by kernel_rfl) (fun _ _ _ h => h) (Or.inl ⟨by rfl, ?_⟩) (by assumption) ?_
              rotate_left
              · intro w hSw; (try dsimp only at hSw); go_simp; (try (with_reducible rfl))
              try simp only [Act.put, List.setIfInBounds_toArray, List.set_cons_zero, List.set_cons_succ]
              refine wpAnyH_done (by kernel_rfl) ?_ _
              clear hHeld
              have bz := below2 b0 (b.trans (d5.mono b.size))
              go_wp2
              go_ret
              exact ⟨ret_bool HF.out.symm, bz⟩
            | true =>
              have HO2 : Hid ((List.range (j + 1)).all (srtAt (ps.map ppth)) = true) := by show _ = _; rw [range_step, HO.out, HSRT.out, hless]; rfl
              rw [hless, Bool.not_true] at hle
              clear hless
              go_wp2_with fail
              refine wp_region_held_drew (S := fun W => W.cell? ⟨w.heap.size, 7, none⟩ = some (.slice (some ⟨g, og, none⟩) ps.length c) ∧ W.cell? ⟨g, og + j * 7, none⟩ = some (.string xp) ∧ W.cell? ⟨g, og + j * 7 + 1, none⟩ = some (.bool xh) ∧ W.cell? ⟨g, og + j * 7 + 2, none⟩ = some (.int .i64 xs) ∧ W.cell? ⟨g, og + j * 7 + 3, none⟩ = some (.slice C xc.length cc) ∧ W.cell? ⟨g, og + j * 7 + 4, none⟩ = some (.int .i64 xd) ∧ W.cell? ⟨g, og + j * 7 + 5, none⟩ = some (.int .i64 xl) ∧ W.cell? ⟨g, og + j * 7 + 6, none⟩ = some (.int .i64 xr) ∧ W.cell? ⟨g, og + k * 7, none⟩ = some (.string yp)) (by kernel_rfl) (HS.out _ bd) (fun hHeld => ?_)
              refine wpAnyH_take (i := 0) (oi := ⟨_, _, _, _, _, _⟩) (v := ?_) rfl (by kernel_rfl) (by kernel_rfl) (by kernel_rfl) (fun _ _ _ h => h) (Or.inl ⟨by rfl, ?_⟩) (by assumption) ?_
              rotate_left
              · intro w hSw; (try dsimp only at hSw); go_simp; (try (with_reducible rfl))
              try simp only [Act.put, List.setIfInBounds_toArray, List.set_cons_zero, List.set_cons_succ]
              refine wpAnyH_take (i := 1) (oi := ⟨_, _, _, _, _, _⟩) (v := ?_) rfl (by kernel_rfl) (by kernel_rfl) (by kernel_rfl) (fun _ _ _ h => h) (Or.inl ⟨by rfl, ?_⟩) (by assumption) ?_
              rotate_left
              · intro w hSw; (try dsimp only at hSw); go_simp; (try (with_reducible rfl))
              try simp only [Act.put, List.setIfInBounds_toArray, List.set_cons_zero, List.set_cons_succ]
              refine wpAnyH_take (i := 2) (oi := ⟨_, _, _, _, _, _⟩) (v := ?_) rfl (by kernel_rfl) (by kernel_rfl) (by kernel_rfl) (fun _ _ _ h => h) (Or.inl ⟨by rfl, ?_⟩) (by assumption) ?_
              rotate_left
              · intro w hSw; (try dsimp only at hSw); go_simp; (try (with_reducible rfl))
              try simp only [Act.put, List.setIfInBounds_toArray, List.set_cons_zero, List.set_cons_succ]
              refine wpAnyH_take (i := 3) (oi := ⟨_, _, _, _, _, _⟩) (v := ?_) rfl (by kernel_rfl) (by kernel_rfl) (by kernel_rfl) (fun _ _ _ h => h) (Or.inl ⟨by rfl, ?_⟩) (by assumption) ?_
              rotate_left
              · intro w hSw; (try dsimp only at hSw); go_simp; (try (with_reducible rfl))
              try simp only [Act.put, List.setIfInBounds_toArray, List.set_cons_zero, List.set_cons_succ]
              refine wpAnyH_take (i := 4) (oi := ⟨_, _, _, _, _, _⟩) (v := ?_) rfl (by kernel_rfl) (by kernel_rfl) (by kernel_rfl) (fun _ _ _ h => h) (Or.inl ⟨by rfl, ?_⟩) (by assumption) ?_
              rotate_left
              · intro w hSw; (try dsimp only at hSw); go_simp; (try (with_reducible rfl))
              try simp only [Act.put, List.setIfInBounds_toArray, List.set_cons_zero, List.set_cons_succ]
              refine wpAnyH_ready (rs := [5]) (by kernel_rfl) (by simp) ?_
              refine AllReadyH.cons (o := ⟨_, _, _, _, _, _⟩) rfl (fun K hK => ?_) AllReadyH.nil
              go_simp
              refine cP.mono ?_
              rintro e w5 ⟨rfl, b5⟩
              have d5 := below2 bd b5
              have hS5 := HS.out _ d5
              refine hK.out _ _ hS5 (fun hHeld => ?_)
              clear hK K
              try simp only [Act.put, List.setIfInBounds_toArray, List.set_cons_zero, List.set_cons_succ]
              refine wpAnyH_take (i := 6) (oi := ⟨_, _, _, _, _, _⟩) (v := ?_) rfl (by kernel_rfl) (by kernel_rfl) (by kernel_rfl) (fun _ _ _ h => h) (Or.inl ⟨by rfl, ?_⟩) (by assumption) ?_
              rotate_left
              · intro w hSw; (try dsimp only at hSw); go_simp; (try (with_reducible rfl))
              try simp only [Act.put, List.setIfInBounds_toArray, List.set_cons_zero, List.set_cons_succ]
              refine wpAnyH_take (i := 7) (oi := ⟨_, _, _, _, _, _⟩) (v := ?_) rfl (by kernel_rfl) (by kernel_rfl) (by kernel_rfl) (fun _ _ _ h => h) (Or.inl ⟨by rfl, ?_⟩) (by assumption) ?_
              rotate_left
              · intro w hSw; (try dsimp only at hSw); go_simp; (try (with_reducible rfl))
              try simp only [Act.put, List.setIfInBounds_toArray, List.set_cons_zero, List.set_cons_succ]
              refine wpAnyH_take (i := 8) (oi := ⟨_, _, _, _, _, _⟩) (v := ?_) rfl (by kernel_rfl) (by kernel_rfl) (by kernel_rfl) (fun _ _ _ h => h) (Or.inl ⟨by rfl, ?_⟩) (by assumption) ?_
              rotate_left
              · intro w hSw; (try dsimp only at hSw); go_simp; (try (with_reducible rfl))
              try simp only [Act.put, List.setIfInBounds_toArray, List.set_cons_zero, List.set_cons_succ]
              refine wpAnyH_take (i := 9) (oi := ⟨_, _, _, _, _, _⟩) (v := ?_) rfl (by kernel_rfl) (by kernel_rfl) (by kernel_rfl) (fun _ _ _ h => h) (Or.inl ⟨by rfl, ?_⟩) (by assumption) ?_
              rotate_left
              · intro w hSw; (try dsimp only at hSw); go_simp; (try (with_reducible rfl))
              try simp only [Act.put, List.setIfInBounds_toArray, List.set_cons_zero, List.set_cons_succ]
              refine wpAnyH_take (i := 10) (oi := ⟨_, _, _, _, _, _⟩) (v := ?_) rfl (by kernel_rfl) (by kernel_rfl) (by kernel_rfl) (fun _ _ _ h => h) (Or.inl ⟨by rfl, ?_⟩) (by assumption) ?_
              rotate_left
              · intro w hSw; (try dsimp only at hSw); go_simp; (try (with_reducible rfl))
              try simp only [Act.put, List.setIfInBounds_toArray, List.set_cons_zero, List.set_cons_succ]
              refine wpAnyH_take (i := 11) (oi := ⟨_, _, _, _, _, _⟩) (v := ?_) rfl (by kernel_rfl) (by kernel_rfl) (by kernel_rfl) (fun _ _ _ h => h) (Or.inl ⟨by rfl, ?_⟩) (by assumption) ?_
              rotate_left
              · intro w hSw; (try dsimp only at hSw); go_simp; (try (with_reducible rfl))
              try simp only [Act.put, List.setIfInBounds_toArray, List.set_cons_zero, List.set_cons_succ]
              refine wpAnyH_take (i := 12) (oi := ⟨_, _, _, _, _, _⟩) (v := ?_) rfl (by kernel_rfl) (by kernel_rfl) (by kernel_rfl) (fun _ _ _ h => h) (Or.inl ⟨by rfl, ?_⟩) (by assumption) ?_
              rotate_left
              · intro w hSw; (try dsimp only at hSw); go_simp; (try (with_reducible rfl))
              try simp only [Act.put, List.setIfInBounds_toArray, List.set_cons_zero, List.set_cons_succ]
              refine wpAnyH_take (i := 13) (oi := ⟨_, _, _, _, _, _⟩) (v := ?_) rfl (by kernel_rfl) (by kernel_rfl) (by kernel_rfl) (fun _ _ _ h => h) (Or.inl ⟨by rfl, ?_⟩) (by assumption) ?_
              rotate_left
              · intro w hSw; (try dsimp only at hSw); go_simp; (try (with_reducible rfl))
              try simp only [Act.put, List.setIfInBounds_toArray, List.set_cons_zero, List.set_cons_succ]
              refine wpAnyH_take (i := 14) (oi := ⟨_, _, _, _, _, _⟩) (v := ?_) rfl (by kernel_rfl) (by kernel_rfl) (by kernel_rfl) (fun _ _ _ h => h) (Or.inl ⟨by rfl, ?_⟩) (by assumption) ?_
              rotate_left
              · intro w hSw; (try dsimp only at hSw); go_simp; (try (with_reducible rfl))
              try simp only [Act.put, List.setIfInBounds_toArray, List.set_cons_zero, List.set_cons_succ]
              refine wpAnyH_take (i := 15) (oi := ⟨_, _, _, _, _, _⟩) (v := ?_) rfl (by kernel_rfl) (by kernel_rfl) (by kernel_rfl) (fun _ _ _ h => h) (Or.inl ⟨by rfl, ?_⟩) (by assumption) ?_
              rotate_left
              · intro w hSw; (try dsimp only at hSw); go_simp; (try (with_reducible rfl))
              try simp only [Act.put, List.setIfInBounds_toArray, List.set_cons_zero, List.set_cons_succ]
              refine wpAnyH_take (i := 16) (oi := ⟨_, _, _, _, _, _⟩) (v := ?_) rfl (by kernel_rfl) (by kernel_rfl) (by kernel_rfl) (fun _ _ _ h => h) (Or.inl ⟨by rfl, ?_⟩) (by assumption) ?_
              rotate_left
              · intro w hSw; (try dsimp only at hSw); go_simp; (try (with_reducible rfl))
              try simp only [Act.put, List.setIfInBounds_toArray, List.set_cons_zero, List.set_cons_succ]
              refine wpAnyH_take (i := 17) (oi := ⟨_, _, _, _, _, _⟩) (v := ?_) rfl (by kernel_rfl) (by kernel_rfl) (by kernel_rfl) (fun _ _ _ h => h) (Or.inl ⟨by rfl, ?_⟩) (by assumption) ?_
              rotate_left
              · intro w hSw; (try dsimp only at hSw); go_simp; (try (with_reducible rfl))
              try simp only [Act.put, List.setIfInBounds_toArray, List.set_cons_zero, List.set_cons_succ]
              refine wpAnyH_take (i := 18) (oi := ⟨_, _, _, _, _, _⟩) (v := ?_) rfl (by kernel_rfl) (by kernel_rfl) (by kernel_rfl) (fun _ _ _ h => h) (Or.inl ⟨by rfl, ?_⟩) (by assumption) ?_
              rotate_left
              · intro w hSw; (try dsimp only at hSw); go_simp; (try (with_reducible rfl))
              try simp only [Act.put, List.setIfInBounds_toArray, List.set_cons_zero, List.set_cons_succ]
              refine wpAnyH_take (i := 19) (oi := ⟨_, _, _, _, _, _⟩) (v := ?_) rfl (by kernel_rfl) (by kernel_rfl) (by kernel_rfl) (fun _ _ _ h => h) (Or.inl ⟨by rfl, ?_⟩) (by assumption) ?_
              rotate_left
              · intro w hSw; (try dsimp only at hSw); go_simp; (try (with_reducible rfl))
              try simp only [Act.put, List.setIfInBounds_toArray, List.set_cons_zero, List.set_cons_succ]
              refine wpAnyH_take (i := 20) (oi := ⟨_, _, _, _, _, _⟩) (v := ?_) rfl (by kernel_rfl) (by kernel_rfl) (by kernel_rfl) (fun _ _ _ h => h) (Or.inl ⟨by rfl, ?_⟩) (by assumption) ?_
              rotate_left
              · intro w hSw; (try dsimp only at hSw); go_simp; (try (with_reducible rfl))
              try simp only [Act.put, List.setIfInBounds_toArray, List.set_cons_zero, List.set_cons_succ]
              refine wpAnyH_take (i := 21) (oi := ⟨_, _, _, _, _, _⟩) (v := ?_) rfl (by kernel_rfl) (by kernel_rfl) (by kernel_rfl) (fun _ _ _ h => h) (Or.inl ⟨by rfl, ?_⟩) (by assumption) ?_
              rotate_left
              · intro w hSw; (try dsimp only at hSw); go_simp; (try (with_reducible rfl))
              try simp only [Act.put, List.setIfInBounds_toArray, List.set_cons_zero, List.set_cons_succ]
              refine wpAnyH_take (i := 22) (oi := ⟨_, _, _, _, _, _⟩) (v := ?_) rfl (by kernel_rfl) (by kernel_rfl) (by kernel_rfl) (fun _ _ _ h => h) (Or.inl ⟨by rfl, ?_⟩) (by assumption) ?_
              rotate_left
              · intro w hSw; (try dsimp only at hSw); go_simp; (try (with_reducible rfl))
              try simp only [Act.put, List.setIfInBounds_toArray, List.set_cons_zero, List.set_cons_succ]
              refine wpAnyH_take (i := 23) (oi := ⟨_, _, _, _, _, _⟩) (v := ?_) rfl (by kernel_rfl) (by kernel_rfl) (by kernel_rfl) (fun _ _ _ h => h) (Or.inl ⟨by rfl, ?_⟩) (by assumption) ?_
              rotate_left
              · intro w hSw; (try dsimp only at hSw); go_simp; (try (with_reducible rfl))
              try simp only [Act.put, List.setIfInBounds_toArray, List.set_cons_zero, List.set_cons_succ]
              refine wpAnyH_take (i := 24) (oi := ⟨_, _, _, _, _, _⟩) (v := ?_) rfl (by kernel_rfl) (by kernel_rfl) (by kernel_rfl) (fun _ _ _ h => h) (Or.inl ⟨by rfl, ?_⟩) (by assumption) ?_
              rotate_left
              · intro w hSw; (try dsimp only at hSw); go_simp; (try (with_reducible rfl))
              try simp only [Act.put, List.setIfInBounds_toArray, List.set_cons_zero, List.set_cons_succ]
              refine wpAnyH_take (i := 25) (oi := ⟨_, _, _, _, _, _⟩) (v := ?_) rfl (by kernel_rfl) (by kernel_rfl) (by kernel_rfl) (fun _ _ _ h => h) (Or.inl ⟨by rfl, ?_⟩) (by assumption) ?_
              rotate_left
              · intro w hSw; (try dsimp only at hSw); go_simp; (try (with_reducible rfl))
              try simp only [Act.put, List.setIfInBounds_toArray, List.set_cons_zero, List.set_cons_succ]
              refine wpAnyH_take (i := 26) (oi := ⟨_, _, _, _, _, _⟩) (v := ?_) rfl (by kernel_rfl) (by kernel_rfl) (by kernel_rfl) (fun _ _ _ h => h) (Or.inl ⟨by rfl, ?_⟩) (by assumption) ?_
              rotate_left
              · intro w hSw; (try dsimp only at hSw); go_simp; (try (with_reducible rfl))
              try simp only [Act.put, List.setIfInBounds_toArray, List.set_cons_zero, List.set_cons_succ]
              refine wpAnyH_done (by kernel_rfl) ?_ _
              clear hHeld
              have bz := b.trans (d5.mono b.size)
              clear x0 x1 x2 x3 x4 x5 x6 y0 HX k7 hS5 d5 b5 b HS cP hle
              go_wp2
              go_roundw
              case rel => exact ⟨j + 1, by omega, by go_num, HT3, HO2, bz⟩
              case measure => simp [intOf]; omega
      · have hnl : ¬ (j : Int) < ps.length := by omega
        have HF : Hid (Z = true) := by
          have h1 := HT.out
          have h2 := HO.out
          have hjn2 : j = ps.length := by omega
          rw [hjn2, List.take_length] at h1
          rw [hjn2] at h2
          show _ = _
          rw [HR.out, h1, Bool.true_and]
          unfold sortedL
          rw [List.length_map]
          exact h2
        have bz := below2 b0 b
        go_wp2
        go_ret
        exact ⟨ret_bool HF.out.symm, bz⟩
  · subst e1
    have e1n : (a4 + 1 == a4) = false := by rw [beq_eq_false_iff_ne]; omega
    clear hmost
    go_wp2_with fail
    have lgm := pk.lt
    have k7 := pk.cell 7
    simp only [List.getElem?_cons_zero, List.getElem?_cons_succ] at k7
    generalize w.alloc (.cells #[.int .i64 a1, .int .i64 a2, .int .i64 a3, .int .i64 a4, .int .i64 (a4 + 1), .int .i64 a6, .int .i64 a7, .slice A ps.length c] 26) = w0 at *
    have HK7 := hid (fun W (hb : Below w0.heap.size w0 W) => (hb.cell (p := ⟨w.heap.size, 7, none⟩) lgm).trans k7)
    clear k7 pk
    have HPS := hid (hps.below b0)
    go_loopw [3] (fun i wr => ∃ j : Nat, j ≤ ps.length ∧ i = .int .i64 j ∧ Hid ((ps.take j).all pceR = true) ∧ Hid ((List.range j).all (srtAt (ps.map ppth)) = true) ∧ Below w0.heap.size w0 wr) (fun i _ => ps.length - (intOf i).toNat)
    case atStart => exact ⟨0, by omega, rfl, rfl, rfl, Below.refl _ _⟩
    case round =>
      obtain ⟨j, hj, rfl, HT, HO, b⟩ := hrel
      have k7 := HK7.out wr b
      by_cases hjn : j < ps.length
      · have hz : (0 : Int) ≤ j := by omega
        have hlt : (j : Int) < ps.length := by omega
        obtain ⟨g, og, C, cc, rfl, x0, x1, x2, x3, x4, x5, x6, rx, hcx, hcx2, lg⟩ := (HPS.out.below b).pc hjn
        have HX := hid (⟨x0, x1, x2, x3, x4, x5, x6⟩ : _ ∧ _ ∧ _ ∧ _ ∧ _ ∧ _ ∧ _)
        have HT2 : Hid ((ps.take (j + 1)).all pceR = pceR ps[j]) := by show _ = _; rw [all_more pceR ps j hjn, HT.out, Bool.true_and]
        have HNE : Hid (pceR ps[j] = false → Z = false) := by
          refine hid fun h => ?_
          rw [HR.out]
          have : ps.all pceR = false := by
            refine Bool.eq_false_iff.2 fun ha => ?_
            rw [List.all_eq_true] at ha
            exact Bool.false_ne_true (h.symm.trans (ha _ (List.getElem_mem hjn)))
          rw [this]; rfl
        have hsz := HSZ.out _ (List.getElem_mem hjn)
        have HAT : Hid ((ps.map ppth).getD j [] = ppth ps[j]) := by show _ = _; simp [List.getD, hjn]
        have HRP : Hid (pceR ps[j] = true → rightL (ppth ps[j]) = true) := hid fun h => ((pceR_iff _).1 h).path
        have hlj : j < (ps.map ppth).length := by simpa using hjn
        have HSN := hid (fun h => sorted_no (L := ps.map ppth) hlj h)
        have HZF : Hid (sortedL (ps.map ppth) = false → Z = false) := hid fun h => by rw [HR.out, h, Bool.and_false]
        have HPREV : Hid (∀ k (hk : k < ps.length), (ps.map ppth).getD k [] = ppth ps[k]) := hid fun k hk => by simp [List.getD, hk]
        have cP := rpiece_any (w := wr.drew) (p := ps[j]) rx hsz hcx hcx2
        have hxe : ps[j] = ps[j] := rfl
        have bd : Below wr.heap.size wr wr.drew := (Below.refl _ _).drew
        obtain ⟨x, hx⟩ : ∃ x, ps[j] = x := ⟨_, rfl⟩
        rw [hx] at x0 x1 x2 x3 x4 x5 x6 rx hcx cP HX HT2 HNE HAT HRP
        have HXE := hid hx
        clear hx hxe hsz
        obtain ⟨xp, xh, xs, xc, xd, xl, xr⟩ := x
        dsimp only at x0 x1 x2 x3 x4 x5 x6 rx hcx HX
        unfold pcA at cP
        dsimp only at cP
        cases hq : pceR ⟨xp, xh, xs, xc, xd, xl, xr⟩ with
        | false =>
          have HF := hid (HNE.out hq)
          rw [hq] at cP
          clear hq
          have HS : Hid (∀ W, Below wr.heap.size wr W → (fun W => W.cell? ⟨w.heap.size, 7, none⟩ = some (.slice (some ⟨g, og, none⟩) ps.length c) ∧ W.cell? ⟨g, og + j * 7, none⟩ = some (.string xp) ∧ W.cell? ⟨g, og + j * 7 + 1, none⟩ = some (.bool xh) ∧ W.cell? ⟨g, og + j * 7 + 2, none⟩ = some (.int .i64 xs) ∧ W.cell? ⟨g, og + j * 7 + 3, none⟩ = some (.slice C xc.length cc) ∧ W.cell? ⟨g, og + j * 7 + 4, none⟩ = some (.int .i64 xd) ∧ W.cell? ⟨g, og + j * 7 + 5, none⟩ = some (.int .i64 xl) ∧ W.cell? ⟨g, og + j * 7 + 6, none⟩ = some (.int .i64 xr)) W) := hid fun W hb => ⟨HK7.out W (b.trans (hb.mono b.size)), (hb.cell (p := ⟨g, og + j * 7, none⟩) lg).trans x0, (hb.cell (p := ⟨g, og + j * 7 + 1, none⟩) lg).trans x1, (hb.cell (p := ⟨g, og + j * 7 + 2, none⟩) lg).trans x2, (hb.cell (p := ⟨g, og + j * 7 + 3, none⟩) lg).trans x3, (hb.cell (p := ⟨g, og + j * 7 + 4, none⟩) lg).trans x4, (hb.cell (p := ⟨g, og + j * 7 + 5, none⟩) lg).trans x5, (hb.cell (p := ⟨g, og + j * 7 + 6, none⟩) lg).trans x6⟩
          go_wp2_with fail
          refine wp_region_held_drew (S := fun W => W.cell? ⟨w.heap.size, 7, none⟩ = some (.slice (some ⟨g, og, none⟩) ps.length c) ∧ W.cell? ⟨g, og + j * 7, none⟩ = some (.string xp) ∧ W.cell? ⟨g, og + j * 7 + 1, none⟩ = some (.bool xh) ∧ W.cell? ⟨g, og + j * 7 + 2, none⟩ = some (.int .i64 xs) ∧ W.cell? ⟨g, og + j * 7 + 3, none⟩ = some (.slice C xc.length cc) ∧ W.cell? ⟨g, og + j * 7 + 4, none⟩ = some (.int .i64 xd) ∧ W.cell? ⟨g, og + j * 7 + 5, none⟩ = some (.int .i64 xl) ∧ W.cell? ⟨g, og + j * 7 + 6, none⟩ = some (.int .i64 xr)) (by kernel_rfl) (HS.out _ bd) (fun hHeld => ?_)
          refine wpAnyH_take (i := 0) (oi := ⟨_, _, _, _, _, _⟩) (v := ?_) rfl (by kernel_rfl) (by kernel_rfl) (by kernel_rfl) (fun _ _ _ h => h) (Or.inl ⟨by rfl, ?_⟩) (by assumption) ?_
          rotate_left
          · intro w hSw; (try dsimp only at hSw); go_simp; (try (with_reducible rfl))
          try simp only [Act.put, List.setIfInBounds_toArray, List.set_cons_zero, List.set_cons_succ]
          refine wpAnyH_take (i := 1) (oi := ⟨_, _, _, _, _, _⟩) (v := ?_) rfl (by kernel_rfl) (by kernel_rfl) (by kernel_rfl) (fun _ _ _ h => h) (Or.inl ⟨by rfl, ?_⟩) (by assumption) ?_
          rotate_left
          · intro w hSw; (try dsimp only at hSw); go_simp; (try (with_reducible rfl))
          try simp only [Act.put, List.setIfInBounds_toArray, List.set_cons_zero, List.set_cons_succ]
          refine wpAnyH_take (i := 2) (oi := ⟨_, _, _, _, _, _⟩) (v := ?_) rfl (by kernel_rfl) (by kernel_rfl) (by kernel_rfl) (fun _ _ _ h => h) (Or.inl ⟨by rfl, ?_⟩) (by assumption) ?_
          rotate_left
          · intro w hSw; (try dsimp only at hSw); go_simp; (try (with_reducible rfl))
          try simp only [Act.put, List.setIfInBounds_toArray, List.set_cons_zero, List.set_cons_succ]
          refine wpAnyH_take (i := 3) (oi := ⟨_, _, _, _, _, _⟩) (v := ?_) rfl (by kernel_rfl) (by kernel_rfl) (by kernel_rfl) (fun _ _ _ h => h) (Or.inl ⟨by rfl, ?_⟩) (by assumption) ?_
          rotate_left
          · intro w hSw; (try dsimp only at hSw); go_simp; (try (with_reducible rfl))
          try simp only [Act.put, List.setIfInBounds_toArray, List.set_cons_zero, List.set_cons_succ]
          refine wpAnyH_take (i := 4) (oi := ⟨_, _, _, _, _, _⟩) (v := ?_) rfl (by kernel_rfl) (by kernel_rfl) (by kernel_rfl) (fun _ _ _ h => h) (Or.inl ⟨by rfl, ?_⟩) (by assumption) ?_
          rotate_left
          · intro w hSw; (try dsimp only at hSw); go_simp; (try (with_reducible rfl))
          try simp only [Act.put, List.setIfInBounds_toArray, List.set_cons_zero, List.set_cons_succ]
          refine wpAnyH_ready (rs := [5]) (by kernel_rfl) (by simp) ?_
          refine AllReadyH.cons (o := ⟨_, _, _, _, _, _⟩) rfl (fun K hK => ?_) AllReadyH.nil
          go_simp
          refine cP.mono ?_
          rintro e w5 ⟨rfl, b5⟩
          have d5 := below2 bd b5
          have hS5 := HS.out _ d5
          refine hK.out _ _ hS5 (fun hHeld => ?_)
          clear hK K
          try simp only [Act.put, List.setIfInBounds_toArray, List.set_cons_zero, List.set_cons_succ]
          refine wpAnyH_take (i := 6) (oi := ⟨_, _, _, _, _, _⟩) (v := ?_) rfl (by kernel_rfl) (by kernel_rfl) (by kernel_rfl) (fun _ _ _ h => h) (Or.inl ⟨by rfl, ?_⟩) (by assumption) ?_
          rotate_left
          · intro w hSw; (try dsimp only at hSw); go_simp; (try (with_reducible rfl))
          try simp only [Act.put, List.setIfInBounds_toArray, List.set_cons_zero, List.set_cons_succ]
          refine wpAnyH_take (i := 7) (oi := ⟨_, _, _, _, _, _⟩) (v := ?_) rfl (by kernel_rfl) (by kernel_rfl) (by kernel_rfl) (fun _ _ _ h => h) (Or.inl ⟨by rfl, ?_⟩) (by assumption) ?_
          rotate_left
          · intro w hSw; (try dsimp only at hSw); go_simp; (try (with_reducible rfl))
          try simp only [Act.put, List.setIfInBounds_toArray, List.set_cons_zero, List.set_cons_succ]
          refine wpAnyH_take (i := 8) (oi := ⟨_, _, _, _, _, _⟩) (v := undef) rfl (by kernel_rfl) (by kernel_rfl) (by kernel_rfl) (fun _ _ _ h => h) (Or.inr ⟨by rfl, rfl⟩) (by assumption) ?_
          try simp only [Act.put, List.setIfInBounds_toArray, List.set_cons_zero, List.set_cons_succ]
          refine wpAnyH_take (i := 9) (oi := ⟨_, _, _, _, _, _⟩) (v := undef) rfl (by kernel_rfl) (by kernel_rfl) (by kernel_rfl) (fun _ _ _ h => h) (Or.inr ⟨by rfl, rfl⟩) (by assumption) ?_
          try simp only [Act.put, List.setIfInBounds_toArray, List.set_cons_zero, List.set_cons_succ]
          refine wpAnyH_take (i := 10) (oi := ⟨_, _, _, _, _, _⟩) (v := undef) rfl (by kernel_rfl) (by kernel_rfl) (by kernel_rfl) (fun _ _ _ h => h) (Or.inr ⟨by rfl, rfl⟩) (by assumption) ?_
          try simp only [Act.put, List.setIfInBounds_toArray, List.set_cons_zero, List.set_cons_succ]
          refine wpAnyH_take (i := 11) (oi := ⟨_, _, _, _, _, _⟩) (v := undef) rfl (by kernel_rfl) (by kernel_rfl) (by kernel_rfl) (fun _ _ _ h => h) (Or.inr ⟨by rfl, rfl⟩) (by assumption) ?_
          try simp only [Act.put, List.setIfInBounds_toArray, List.set_cons_zero, List.set_cons_succ]
          refine wpAnyH_take (i := 12) (oi := ⟨_, _, _, _, _, _⟩) (v := undef) rfl (by kernel_rfl) (by kernel_rfl) (by kernel_rfl) (fun _ _ _ h => h) (Or.inr ⟨by rfl, rfl⟩) (by assumption) ?_
          try simp only [Act.put, List.setIfInBounds_toArray, List.set_cons_zero, List.set_cons_succ]
          refine wpAnyH_take (i := 13) (oi := ⟨_, _, _, _, _, _⟩) (v := undef) rfl (by kernel_rfl) (by kernel_rfl) (by kernel_rfl) (fun _ _ _ h => h) (Or.inr ⟨by rfl, rfl⟩) (by assumption) ?_
          try simp only [Act.put, List.setIfInBounds_toArray, List.set_cons_zero, List.set_cons_succ]
          refine wpAnyH_take (i := 14) (oi := ⟨_, _, _, _, _, _⟩) (v := undef) rfl (by kernel_rfl) (by kernel_rfl) (by kernel_rfl) (fun _ _ _ h => h) (Or.inr ⟨by rfl, rfl⟩) (by assumption) ?_
          try simp only [Act.put, List.setIfInBounds_toArray, List.set_cons_zero, List.set_cons_succ]
          refine wpAnyH_take (i := 15) (oi := ⟨_, _, _, _, _, _⟩) (v := undef) rfl (by kernel_rfl) (by kernel_rfl) (by kernel_rfl) (fun _ _ _ h => h) (Or.inr ⟨by rfl, rfl⟩) (by assumption) ?_
          try simp only [Act.put, List.setIfInBounds_toArray, List.set_cons_zero, List.set_cons_succ]
          refine wpAnyH_take (i := 16) (oi := ⟨_, _, _, _, _, _⟩) (v := undef) rfl (by kernel_rfl) (by kernel_rfl) (by kernel_rfl) (fun _ _ _ h => h) (Or.inr ⟨by rfl, rfl⟩) (by assumption) ?_
          try simp only [Act.put, List.setIfInBounds_toArray, List.set_cons_zero, List.set_cons_succ]
          refine wpAnyH_take (i := 17) (oi := ⟨_, _, _, _, _, _⟩) (v := undef) rfl (by kernel_rfl) (by kernel_rfl) (by kernel_rfl) (fun _ _ _ h => h) (Or.inr ⟨by rfl, rfl⟩) (by assumption) ?_
          try simp only [Act.put, List.setIfInBounds_toArray, List.set_cons_zero, List.set_cons_succ]
          refine wpAnyH_take (i := 18) (oi := ⟨_, _, _, _, _, _⟩) (v := undef) rfl (by kernel_rfl) (by kernel_rfl) (by kernel_rfl) (fun _ _ _ h => h) (Or.inr ⟨by rfl, rfl⟩) (by assumption) ?_
          try simp only [Act.put, List.setIfInBounds_toArray, List.set_cons_zero, List.set_cons_succ]
          refine wpAnyH_take (i := 19) (oi := ⟨_, _, _, _, _, _⟩) (v := undef) rfl (by kernel_rfl) (by kernel_rfl) (by kernel_rfl) (fun _ _ _ h => h) (Or.inr ⟨by rfl, rfl⟩) (by assumption) ?_
          try simp only [Act.put, List.setIfInBounds_toArray, List.set_cons_zero, List.set_cons_succ]
          refine wpAnyH_take (i := 20) (oi := ⟨_, _, _, _, _, _⟩) (v := undef) rfl (by kernel_rfl) (by kernel_rfl) (by kernel_rfl) (fun _ _ _ h => h) (Or.inr ⟨by rfl, rfl⟩) (by assumption) ?_
          try simp only [Act.put, List.setIfInBounds_toArray, List.set_cons_zero, List.set_cons_succ]
          refine wpAnyH_take (i := 21) (oi := ⟨_, _, _, _, _, _⟩) (v := undef) rfl (by kernel_rfl) (by kernel_rfl) (by kernel_rfl) (fun _ _ _ h => h) (Or.inr ⟨by rfl, rfl⟩) (by assumption) ?_
          try simp only [Act.put, List.setIfInBounds_toArray, List.set_cons_zero, List.set_cons_succ]
          refine wpAnyH_take (i := 22) (oi := ⟨_, _, _, _, _, _⟩) (v := undef) rfl (by kernel_rfl) (by kernel_rfl) (by kernel_rfl) (fun _ _ _ h => h) (Or.inr ⟨by rfl, rfl⟩) (by assumption) ?_
          try simp only [Act.put, List.setIfInBounds_toArray, List.set_cons_zero, List.set_cons_succ]
          refine wpAnyH_take (i := 23) (oi := ⟨_, _, _, _, _, _⟩) (v := undef) rfl (by kernel_rfl) (by kernel_rfl) (by kernel_rfl) (fun _ _ _ h => h) (Or.inr ⟨by rfl, rfl⟩) (by assumption) ?_
          try simp only [Act.put, List.setIfInBounds_toArray, List.set_cons_zero, List.set_cons_succ]
          refine wpAnyH_take (i := 24) (oi := ⟨_, _, _, _, _, _⟩) (v := undef) rfl (by kernel_rfl) (by kernel_rfl) (by kernel_rfl) (fun _ _ _ h => h) (Or.inr ⟨by rfl, rfl⟩) (by assumption) ?_
          try simp only [Act.put, List.setIfInBounds_toArray, List.set_cons_zero, List.set_cons_succ]
          refine wpAnyH_take (i := 25) (oi := ⟨_, _, _, _, _, _⟩) (v := undef) rfl (by kernel_rfl) (by kernel_rfl) (by kernel_rfl) (fun _ _ _ h => h) (Or.inr ⟨by rfl, rfl⟩) (by assumption) ?_
          try simp only [Act.put, List.setIfInBounds_toArray, List.set_cons_zero, List.set_cons_succ]
          refine wpAnyH_take (i := 26) (oi := ⟨_, _, _, _, _, _⟩) (v := ?_) rfl (by kernel_rfl) (by kernel_rfl) (by kernel_rfl) (fun _ _ _ h => h) (Or.inl ⟨by rfl, ?_⟩) (by assumption) ?_
          rotate_left
          · intro w hSw; (try dsimp only at hSw); go_simp; (try (with_reducible rfl))
          try simp only [Act.put, List.setIfInBounds_toArray, List.set_cons_zero, List.set_cons_succ]
          refine wpAnyH_done (by kernel_rfl) ?_ _
          clear hHeld
          have bz := below2 b0 (b.trans (d5.mono b.size))
          go_wp2
          go_ret
          exact ⟨ret_bool HF.out.symm, bz⟩
        | true =>
          have HT3 := hid (HT2.out.trans hq)
          have hrp := HRP.out hq
          rw [hq] at cP
          clear hq
          by_cases hj0 : j = 0
          · subst hj0
            have HO2 : Hid ((List.range 1).all (srtAt (ps.map ppth)) = true) := by show _ = _; rw [show (1 : Nat) = 0 + 1 from rfl, range_step, HO.out, srtAt, HAT.out, hrp]; rfl
            simp only [Nat.zero_mul, Nat.add_zero] at x0 x1 x2 x3 x4 x5 x6
            have HS : Hid (∀ W, Below wr.heap.size wr W → (fun W => W.cell? ⟨w.heap.size, 7, none⟩ = some (.slice (some ⟨g, og, none⟩) ps.length c) ∧ W.cell? ⟨g, og, none⟩ = some (.string xp) ∧ W.cell? ⟨g, og + 1, none⟩ = some (.bool xh) ∧ W.cell? ⟨g, og + 2, none⟩ = some (.int .i64 xs) ∧ W.cell? ⟨g, og + 3, none⟩ = some (.slice C xc.length cc) ∧ W.cell? ⟨g, og + 4, none⟩ = some (.int .i64 xd) ∧ W.cell? ⟨g, og + 5, none⟩ = some (.int .i64 xl) ∧ W.cell? ⟨g, og + 6, none⟩ = some (.int .i64 xr)) W) := hid fun W hb => ⟨HK7.out W (b.trans (hb.mono b.size)), (hb.cell (p := ⟨g, og, none⟩) lg).trans x0, (hb.cell (p := ⟨g, og + 1, none⟩) lg).trans x1, (hb.cell (p := ⟨g, og + 2, none⟩) lg).trans x2, (hb.cell (p := ⟨g, og + 3, none⟩) lg).trans x3, (hb.cell (p := ⟨g, og + 4, none⟩) lg).trans x4, (hb.cell (p := ⟨g, og + 5, none⟩) lg).trans x5, (hb.cell (p := ⟨g, og + 6, none⟩) lg).trans x6⟩
            clear hz hlt
            go_wp2_with fail
            refine wp_region_held_drew (S := fun W => W.cell? ⟨w.heap.size, 7, none⟩ = some (.slice (some ⟨g, og, none⟩) ps.length c) ∧ W.cell? ⟨g, og, none⟩ = some (.string xp) ∧ W.cell? ⟨g, og + 1, none⟩ = some (.bool xh) ∧ W.cell? ⟨g, og + 2, none⟩ = some (.int .i64 xs) ∧ W.cell? ⟨g, og + 3, none⟩ = some (.slice C xc.length cc) ∧ W.cell? ⟨g, og + 4, none⟩ = some (.int .i64 xd) ∧ W.cell? ⟨g, og + 5, none⟩ = some (.int .i64 xl) ∧ W.cell? ⟨g, og + 6, none⟩ = some (.int .i64 xr)) (by kernel_rfl) (HS.out _ bd) (fun hHeld => ?_)
            refine wpAnyH_take (i := 0) (oi := ⟨_, _, _, _, _, _⟩) (v := ?_) rfl (by kernel_rfl) (by kernel_rfl) (by kernel_rfl) (fun _ _ _ h => h) (Or.inl ⟨by rfl, ?_⟩) (by assumption) ?_
            rotate_left
            · intro w hSw; (try dsimp only at hSw); go_simp; (try (with_reducible rfl))
            try simp only [Act.put, List.setIfInBounds_toArray, List.set_cons_zero, List.set_cons_succ]
            refine wpAnyH_take (i := 1) (oi := ⟨_, _, _, _, _, _⟩) (v := ?_) rfl (by kernel_rfl) (by kernel_rfl) (by kernel_rfl) (fun _ _ _ h => h) (Or.inl ⟨by rfl, ?_⟩) (by assumption) ?_
            rotate_left
            · intro w hSw; (try dsimp only at hSw); go_simp; (try (with_reducible rfl))
            try simp only [Act.put, List.setIfInBounds_toArray, List.set_cons_zero, List.set_cons_succ]
            refine wpAnyH_take (i := 2) (oi := ⟨_, _, _, _, _, _⟩) (v := ?_) rfl (by kernel_rfl) (by kernel_rfl) (by kernel_rfl) (fun _ _ _ h => h) (Or.inl ⟨by rfl, ?_⟩) (by assumption) ?_
            rotate_left
            · intro w hSw; (try dsimp only at hSw); go_simp; (try (with_reducible rfl))
            try simp only [Act.put, List.setIfInBounds_toArray, List.set_cons_zero, List.set_cons_succ]
            refine wpAnyH_take (i := 3) (oi := ⟨_, _, _, _, _, _⟩) (v := ?_) rfl (by kernel_rfl) (by kernel_rfl) (by kernel_rfl) (fun _ _ _ h => h) (Or.inl ⟨by rfl, ?_⟩) (by assumption) ?_
            rotate_left
            · intro w hSw; (try dsimp only at hSw); go_simp; (try (with_reducible rfl))
            try simp only [Act.put, List.setIfInBounds_toArray, List.set_cons_zero, List.set_cons_succ]
            refine wpAnyH_take (i := 4) (oi := ⟨_, _, _, _, _, _⟩) (v := ?_) rfl (by kernel_rfl) (by kernel_rfl) (by kernel_rfl) (fun _ _ _ h => h) (Or.inl ⟨by rfl, ?_⟩) (by assumption) ?_
            rotate_left
            · intro w hSw; (try dsimp only at hSw); go_simp; (try (with_reducible rfl))
            try simp only [Act.put, List.setIfInBounds_toArray, List.set_cons_zero, List.set_cons_succ]
            refine wpAnyH_ready (rs := [5]) (by kernel_rfl) (by simp) ?_
            refine AllReadyH.cons (o := ⟨_, _, _, _, _, _⟩) rfl (fun K hK => ?_) AllReadyH.nil
            go_simp
            refine cP.mono ?_
            rintro e w5 ⟨rfl, b5⟩
            have d5 := below2 bd b5
            have hS5 := HS.out _ d5
            refine hK.out _ _ hS5 (fun hHeld => ?_)
            clear hK K
            try simp only [Act.put, List.setIfInBounds_toArray, List.set_cons_zero, List.set_cons_succ]
            refine wpAnyH_take (i := 6) (oi := ⟨_, _, _, _, _, _⟩) (v := ?_) rfl (by kernel_rfl) (by kernel_rfl) (by kernel_rfl) (fun _ _ _ h => h) (Or.inl ⟨by rfl, ?_⟩) (by assumption) ?_
            rotate_left
            · intro w hSw; (try dsimp only at hSw); go_simp; (try (with_reducible rfl))
            try simp only [Act.put, List.setIfInBounds_toArray, List.set_cons_zero, List.set_cons_succ]
            refine wpAnyH_take (i := 7) (oi := ⟨_, _, _, _, _, _⟩) (v := ?_) rfl (by kernel_rfl) (by kernel_rfl) (by kernel_rfl) (fun _ _ _ h => h) (Or.inl ⟨by rfl, ?_⟩) (by assumption) ?_
            rotate_left
            · intro w hSw; (try dsimp only at hSw); go_simp; (try (with_reducible rfl))
            try simp only [Act.put, List.setIfInBounds_toArray, List.set_cons_zero, List.set_cons_succ]
            refine wpAnyH_take (i := 8) (oi := ⟨_, _, _, _, _, _⟩) (v := ?_) rfl (by kernel_rfl) (by kernel_rfl) (by kernel_rfl) (fun _ _ _ h => h) (Or.inl ⟨by rfl, ?_⟩) (by assumption) ?_
            rotate_left
            · intro w hSw; (try dsimp only at hSw); go_simp; (try (with_reducible rfl))
            try simp only [Act.put, List.setIfInBounds_toArray, List.set_cons_zero, List.set_cons_succ]
            refine wpAnyH_take (i := 9) (oi := ⟨_, _, _, _, _, _⟩) (v := ?_) rfl (by kernel_rfl) (by kernel_rfl) (by kernel_rfl) (fun _ _ _ h => h) (Or.inl ⟨by rfl, ?_⟩) (by assumption) ?_
            rotate_left
            · intro w hSw; (try dsimp only at hSw); go_simp; (try (with_reducible rfl))
            try simp only [Act.put, List.setIfInBounds_toArray, List.set_cons_zero, List.set_cons_succ]
            refine wpAnyH_take (i := 10) (oi := ⟨_, _, _, _, _, _⟩) (v := ?_) rfl (by kernel_rfl) (by kernel_rfl) (by kernel_rfl) (fun _ _ _ h => h) (Or.inl ⟨by rfl, ?_⟩) (by assumption) ?_
            rotate_left
            · intro w hSw; (try dsimp only at hSw); go_simp; (try (with_reducible rfl))
            try simp only [Act.put, List.setIfInBounds_toArray, List.set_cons_zero, List.set_cons_succ]
            refine wpAnyH_take (i := 11) (oi := ⟨_, _, _, _, _, _⟩) (v := undef) rfl (by kernel_rfl) (by kernel_rfl) (by kernel_rfl) (fun _ _ _ h => h) (Or.inr ⟨by rfl, rfl⟩) (by assumption) ?_
            try simp only [Act.put, List.setIfInBounds_toArray, List.set_cons_zero, List.set_cons_succ]
            refine wpAnyH_take (i := 12) (oi := ⟨_, _, _, _, _, _⟩) (v := undef) rfl (by kernel_rfl) (by kernel_rfl) (by kernel_rfl) (fun _ _ _ h => h) (Or.inr ⟨by rfl, rfl⟩) (by assumption) ?_
            try simp only [Act.put, List.setIfInBounds_toArray, List.set_cons_zero, List.set_cons_succ]
            refine wpAnyH_take (i := 13) (oi := ⟨_, _, _, _, _, _⟩) (v := undef) rfl (by kernel_rfl) (by kernel_rfl) (by kernel_rfl) (fun _ _ _ h => h) (Or.inr ⟨by rfl, rfl⟩) (by assumption) ?_
            try simp only [Act.put, List.setIfInBounds_toArray, List.set_cons_zero, List.set_cons_succ]
            refine wpAnyH_take (i := 14) (oi := ⟨_, _, _, _, _, _⟩) (v := undef) rfl (by kernel_rfl) (by kernel_rfl) (by kernel_rfl) (fun _ _ _ h => h) (Or.inr ⟨by rfl, rfl⟩) (by assumption) ?_
            try simp only [Act.put, List.setIfInBounds_toArray, List.set_cons_zero, List.set_cons_succ]
            refine wpAnyH_take (i := 15) (oi := ⟨_, _, _, _, _, _⟩) (v := undef) rfl (by kernel_rfl) (by kernel_rfl) (by kernel_rfl) (fun _ _ _ h => h) (Or.inr ⟨by rfl, rfl⟩) (by assumption) ?_
            try simp only [Act.put, List.setIfInBounds_toArray, List.set_cons_zero, List.set_cons_succ]
            refine wpAnyH_take (i := 16) (oi := ⟨_, _, _, _, _, _⟩) (v := undef) rfl (by kernel_rfl) (by kernel_rfl) (by kernel_rfl) (fun _ _ _ h => h) (Or.inr ⟨by rfl, rfl⟩) (by assumption) ?_
            try simp only [Act.put, List.setIfInBounds_toArray, List.set_cons_zero, List.set_cons_succ]
            refine wpAnyH_take (i := 17) (oi := ⟨_, _, _, _, _, _⟩) (v := undef) rfl (by kernel_rfl) (by kernel_rfl) (by kernel_rfl) (fun _ _ _ h => h) (Or.inr ⟨by rfl, rfl⟩) (by assumption) ?_
            try simp only [Act.put, List.setIfInBounds_toArray, List.set_cons_zero, List.set_cons_succ]
            refine wpAnyH_take (i := 18) (oi := ⟨_, _, _, _, _, _⟩) (v := undef) rfl (by kernel_rfl) (by kernel_rfl) (by kernel_rfl) (fun _ _ _ h => h) (Or.inr ⟨by rfl, rfl⟩) (by assumption) ?_
            try simp only [Act.put, List.setIfInBounds_toArray, List.set_cons_zero, List.set_cons_succ]
            refine wpAnyH_take (i := 19) (oi := ⟨_, _, _, _, _, _⟩) (v := undef) rfl (by kernel_rfl) (by kernel_rfl) (by kernel_rfl) (fun _ _ _ h => h) (Or.inr ⟨by rfl, rfl⟩) (by assumption) ?_
            try simp only [Act.put, List.setIfInBounds_toArray, List.set_cons_zero, List.set_cons_succ]
            refine wpAnyH_take (i := 20) (oi := ⟨_, _, _, _, _, _⟩) (v := undef) rfl (by kernel_rfl) (by kernel_rfl) (by kernel_rfl) (fun _ _ _ h => h) (Or.inr ⟨by rfl, rfl⟩) (by assumption) ?_
            try simp only [Act.put, List.setIfInBounds_toArray, List.set_cons_zero, List.set_cons_succ]
            refine wpAnyH_take (i := 21) (oi := ⟨_, _, _, _, _, _⟩) (v := undef) rfl (by kernel_rfl) (by kernel_rfl) (by kernel_rfl) (fun _ _ _ h => h) (Or.inr ⟨by rfl, rfl⟩) (by assumption) ?_
            try simp only [Act.put, List.setIfInBounds_toArray, List.set_cons_zero, List.set_cons_succ]
            refine wpAnyH_take (i := 22) (oi := ⟨_, _, _, _, _, _⟩) (v := undef) rfl (by kernel_rfl) (by kernel_rfl) (by kernel_rfl) (fun _ _ _ h => h) (Or.inr ⟨by rfl, rfl⟩) (by assumption) ?_
            try simp only [Act.put, List.setIfInBounds_toArray, List.set_cons_zero, List.set_cons_succ]
            refine wpAnyH_take (i := 23) (oi := ⟨_, _, _, _, _, _⟩) (v := undef) rfl (by kernel_rfl) (by kernel_rfl) (by kernel_rfl) (fun _ _ _ h => h) (Or.inr ⟨by rfl, rfl⟩) (by assumption) ?_
            try simp only [Act.put, List.setIfInBounds_toArray, List.set_cons_zero, List.set_cons_succ]
            refine wpAnyH_take (i := 24) (oi := ⟨_, _, _, _, _, _⟩) (v := undef) rfl (by kernel_rfl) (by kernel_rfl) (by kernel_rfl) (fun _ _ _ h => h) (Or.inr ⟨by rfl, rfl⟩) (by assumption) ?_
            try simp only [Act.put, List.setIfInBounds_toArray, List.set_cons_zero, List.set_cons_succ]
            refine wpAnyH_take (i := 25) (oi := ⟨_, _, _, _, _, _⟩) (v := ?_) rfl (by kernel_rfl) (by kernel_rfl) (by kernel_rfl) (fun _ _ _ h => h) (Or.inl ⟨by rfl, ?_⟩) (by assumption) ?_
            rotate_left
            · intro w hSw; (try dsimp only at hSw); go_simp; (try (with_reducible rfl))
            try simp only [Act.put, List.setIfInBounds_toArray, List.set_cons_zero, List.set_cons_succ]
            refine wpAnyH_take (i := 26) (oi := ⟨_, _, _, _, _, _⟩) (v := ?_) rfl (by kernel_rfl) (by kernel_rfl) (by kernel_rfl) (fun _ _ _ h => h) (Or.inl ⟨by rfl, ?_⟩) (by assumption) ?_
            rotate_left
            · intro w hSw; (try dsimp only at hSw); go_simp; (try (with_reducible rfl))
            try simp only [Act.put, List.setIfInBounds_toArray, List.set_cons_zero, List.set_cons_succ]
            refine wpAnyH_done (by kernel_rfl) ?_ _
            clear hHeld
            have bz := b.trans (d5.mono b.size)
            clear x0 x1 x2 x3 x4 x5 x6 HX k7 hS5 d5 b5 b HS cP
            go_wp2
            go_roundw
            case rel => exact ⟨1, by omega, by go_num, HT3, HO2, bz⟩
            case measure => simp [intOf]; omega
          · obtain ⟨k, hk⟩ : ∃ k, k = j - 1 := ⟨_, rfl⟩
            have hkn : k < ps.length := by omega
            obtain ⟨g', og', C', cc', he, y0, -, -, -, -, -, -, -, -, -, -⟩ := (HPS.out.below b).pc hkn
            injection he with he
            injection he with he1 he2
            subst he1 he2
            have hsrt : srtAt (ps.map ppth) j = Op.bytesLess ps[k].path.data.toList xp.data.toList := by rw [srtAt, HAT.out, hrp, Bool.true_and, ← hk, HPREV.out k hkn, show (j == 0) = false by simp [hj0], Bool.false_or]; rfl
            have hle : (Op.bytesLess xp.toList ps[k].path.toList || xp.toList == ps[k].path.toList) = !Op.bytesLess ps[k].path.data.toList xp.data.toList := by rw [less_flip, Lib.toList_data, Lib.toList_data]
            have HSRT := hid hsrt
            clear hsrt
            generalize ps[k].path = yp at *
            have hpos : (0 : Int) < (j : Int) := by omega
            have hposn : 0 < j := by omega
            have hj1 : (j : Int) - 1 = (k : Int) := by omega
            have hwk : IntKind.i64.wrap (k : Int) = (k : Int) := by rw [IntKind.wrap_i64]; omega
            have hkz : (0 : Int) ≤ k := by omega
            have hkl : (k : Int) < ps.length := by omega
            have hj0' := hid hj0
            clear hk hkn hj0
            have HS : Hid (∀ W, Below wr.heap.size wr W → (fun W => W.cell? ⟨w.heap.size, 7, none⟩ = some (.slice (some ⟨g, og, none⟩) ps.length c) ∧ W.cell? ⟨g, og + j * 7, none⟩ = some (.string xp) ∧ W.cell? ⟨g, og + j * 7 + 1, none⟩ = some (.bool xh) ∧ W.cell? ⟨g, og + j * 7 + 2, none⟩ = some (.int .i64 xs) ∧ W.cell? ⟨g, og + j * 7 + 3, none⟩ = some (.slice C xc.length cc) ∧ W.cell? ⟨g, og + j * 7 + 4, none⟩ = some (.int .i64 xd) ∧ W.cell? ⟨g, og + j * 7 + 5, none⟩ = some (.int .i64 xl) ∧ W.cell? ⟨g, og + j * 7 + 6, none⟩ = some (.int .i64 xr) ∧ W.cell? ⟨g, og + k * 7, none⟩ = some (.string yp)) W) := hid fun W hb => ⟨HK7.out W (b.trans (hb.mono b.size)), (hb.cell (p := ⟨g, og + j * 7, none⟩) lg).trans x0, (hb.cell (p := ⟨g, og + j * 7 + 1, none⟩) lg).trans x1, (hb.cell (p := ⟨g, og + j * 7 + 2, none⟩) lg).trans x2, (hb.cell (p := ⟨g, og + j * 7 + 3, none⟩) lg).trans x3, (hb.cell (p := ⟨g, og + j * 7 + 4, none⟩) lg).trans x4, (hb.cell (p := ⟨g, og + j * 7 + 5, none⟩) lg).trans x5, (hb.cell (p := ⟨g, og + j * 7 + 6, none⟩) lg).trans x6, (hb.cell (p := ⟨g, og + k * 7, none⟩) lg).trans y0⟩
            cases hless : Op.bytesLess yp.data.toList xp.data.toList with
            | false =>
              have HF := hid (HZF.out (HSN.out (HSRT.out.trans hless)).symm)
              rw [hless, Bool.not_false] at hle
              clear hless
              go_wp2_with fail
              refine wp_region_held_drew (S := fun W => W.cell? ⟨w.heap.size, 7, none⟩ = some (.slice (some ⟨g, og, none⟩) ps.length c) ∧ W.cell? ⟨g, og + j * 7, none⟩ = some (.string xp) ∧ W.cell? ⟨g, og + j * 7 + 1, none⟩ = some (.bool xh) ∧ W.cell? ⟨g, og + j * 7 + 2, none⟩ = some (.int .i64 xs) ∧ W.cell? ⟨g, og + j * 7 + 3, none⟩ = some (.slice C xc.length cc) ∧ W.cell? ⟨g, og + j * 7 + 4, none⟩ = some (.int .i64 xd) ∧ W.cell? ⟨g, og + j * 7 + 5, none⟩ = some (.int .i64 xl) ∧ W.cell? ⟨g, og + j * 7 + 6, none⟩ = some (.int .i64 xr) ∧ W.cell? ⟨g, og + k * 7, none⟩ = some (.string yp)) (by kernel_rfl) (HS.out _ bd) (fun hHeld => ?_)
              refine wpAnyH_take (i := 0) (oi := ⟨_, _, _, _, _, _⟩) (v := ?_) rfl (by kernel_rfl) (by kernel_rfl) (by kernel_rfl) (fun _ _ _ h => h) (Or.inl ⟨by rfl, ?_⟩) (by assumption) ?_
              rotate_left
              · intro w hSw; (try dsimp only at hSw); go_simp; (try (with_reducible rfl))
              try simp only [Act.put, List.setIfInBounds_toArray, List.set_cons_zero, List.set_cons_succ]
              refine wpAnyH_take (i := 1) (oi := ⟨_, _, _, _, _, _⟩) (v := ?_) rfl (by kernel_rfl) (by kernel_rfl) (by kernel_rfl) (fun _ _ _ h => h) (Or.inl ⟨by rfl, ?_⟩) (by assumption) ?_
              rotate_left
              · intro w hSw; (try dsimp only at hSw); go_simp; (try (with_reducible rfl))
              try simp only [Act.put, List.setIfInBounds_toArray, List.set_cons_zero, List.set_cons_succ]
              refine wpAnyH_take (i := 2) (oi := ⟨_, _, _, _, _, _⟩) (v := ?_) rfl (by kernel_rfl) (by kernel_rfl) (by kernel_rfl) (fun _ _ _ h => h) (Or.inl ⟨by rfl, ?_⟩) (by assumption) ?_
              rotate_left
              · intro w hSw; (try dsimp only at hSw); go_simp; (try (with_reducible rfl))
              try simp only [Act.put, List.setIfInBounds_toArray, List.set_cons_zero, List.set_cons_succ]
              refine wpAnyH_take (i := 3) (oi := ⟨_, _, _, _, _, _⟩) (v := ?_) rfl (by kernel_rfl) (by kernel_rfl) (by kernel_rfl) (fun _ _ _ h => h) (Or.inl ⟨by rfl, ?_⟩) (by assumption) ?_
              rotate_left
              · intro w hSw; (try dsimp only at hSw); go_simp; (try (with_reducible rfl))
              try simp only [Act.put, List.setIfInBounds_toArray, List.set_cons_zero, List.set_cons_succ]
              refine wpAnyH_take (i := 4) (oi := ⟨_, _, _, _, _, _⟩) (v := ?_) rfl (by kernel_rfl) (by kernel_rfl) (by kernel_rfl) (fun _ _ _ h => h) (Or.inl ⟨by rfl, ?_⟩) (by assumption) ?_
              rotate_left
              · intro w hSw; (try dsimp only at hSw); go_simp; (try (with_reducible rfl))
              try simp only [Act.put, List.setIfInBounds_toArray, List.set_cons_zero, List.set_cons_succ]
              refine wpAnyH_ready (rs := [5]) (by kernel_rfl) (by simp) ?_
              refine AllReadyH.cons (o := ⟨_, _, _, _, _, _⟩) rfl (fun K hK => ?_) AllReadyH.nil
              go_simp
              refine cP.mono ?_
              rintro e w5 ⟨rfl, b5⟩
              have d5 := below2 bd b5
              have hS5 := HS.out _ d5
              refine hK.out _ _ hS5 (fun hHeld => ?_)
              clear hK K
              try simp only [Act.put, List.setIfInBounds_toArray, List.set_cons_zero, List.set_cons_succ]
              refine wpAnyH_take (i := 6) (oi := ⟨_, _, _, _, _, _⟩) (v := ?_) rfl (by kernel_rfl) (by kernel_rfl) (by kernel_rfl) (fun _ _ _ h => h) (Or.inl ⟨by rfl, ?_⟩) (by assumption) ?_
              rotate_left
              · intro w hSw; (try dsimp only at hSw); go_simp; (try (with_reducible rfl))
              try simp only [Act.put, List.setIfInBounds_toArray, List.set_cons_zero, List.set_cons_succ]
              refine wpAnyH_take (i := 7) (oi := ⟨_, _, _, _, _, _⟩) (v := ?_) rfl (by kernel_rfl) (by kernel_rfl) (by kernel_rfl) (fun _ _ _ h => h) (Or.inl ⟨by rfl, ?_⟩) (by assumption) ?_
              rotate_left
              · intro w hSw; (try dsimp only at hSw); go_simp; (try (with_reducible rfl))
              try simp only [Act.put, List.setIfInBounds_toArray, List.set_cons_zero, List.set_cons_succ]
              refine wpAnyH_take (i := 8) (oi := ⟨_, _, _, _, _, _⟩) (v := ?_) rfl (by kernel_rfl) (by kernel_rfl) (by kernel_rfl) (fun _ _ _ h => h) (Or.inl ⟨by rfl, ?_⟩) (by assumption) ?_
              rotate_left
              · intro w hSw; (try dsimp only at hSw); go_simp; (try (with_reducible rfl))
              try simp only [Act.put, List.setIfInBounds_toArray, List.set_cons_zero, List.set_cons_succ]
              refine wpAnyH_take (i := 9) (oi := ⟨_, _, _, _, _, _⟩) (v := ?_) rfl (by kernel_rfl) (by kernel_rfl) (by kernel_rfl) (fun _ _ _ h => h) (Or.inl ⟨by rfl, ?_⟩) (by assumption) ?_
              rotate_left
              · intro w hSw; (try dsimp only at hSw); go_simp; (try (with_reducible rfl))
              try simp only [Act.put, List.setIfInBounds_toArray, List.set_cons_zero, List.set_cons_succ]
              refine wpAnyH_take (i := 10) (oi := ⟨_, _, _, _, _, _⟩) (v := ?_) rfl (by kernel_rfl) (by kernel_rfl) (by kernel_rfl) (fun _ _ _ h => h) (Or.inl ⟨by rfl, ?_⟩) (by assumption) ?_
              rotate_left
              · intro w hSw; (try dsimp only at hSw); go_simp; (try (with_reducible rfl))
              try simp only [Act.put, List.setIfInBounds_toArray, List.set_cons_zero, List.set_cons_succ]
              refine wpAnyH_take (i := 11) (oi := ⟨_, _, _, _, _, _⟩) (v := ?_) rfl (by kernel_rfl) (by kernel_rfl) (by kernel_rfl) (fun _ _ _ h => h) (Or.inl ⟨by rfl, ?_⟩) (by assumption) ?_
              rotate_left
              · intro w hSw; (try dsimp only at hSw); go_simp; (try (with_reducible rfl))
              try simp only [Act.put, List.setIfInBounds_toArray, List.set_cons_zero, List.set_cons_succ]
              refine wpAnyH_take (i := 12) (oi := ⟨_, _, _, _, _, _⟩) (v := ?_) rfl (by kernel_rfl) (by kernel_rfl) (by kernel_rfl) (fun _ _ _ h => h) (Or.inl ⟨by rfl, ?_⟩) (by assumption) ?_
              rotate_left
              · intro w hSw; (try dsimp only at hSw); go_simp; (try (with_reducible rfl))
              try simp only [Act.put, List.setIfInBounds_toArray, List.set_cons_zero, List.set_cons_succ]
              refine wpAnyH_take (i := 13) (oi := ⟨_, _, _, _, _, _⟩) (v := ?_) rfl (by kernel_rfl) (by kernel_rfl) (by kernel_rfl) (fun _ _ _ h => h) (Or.inl ⟨by rfl, ?_⟩) (by assumption) ?_
              rotate_left
              · intro w hSw; (try dsimp only at hSw); go_simp; (try (with_reducible rfl))
              try simp only [Act.put, List.setIfInBounds_toArray, List.set_cons_zero, List.set_cons_succ]
              refine wpAnyH_take (i := 14) (oi := ⟨_, _, _, _, _, _⟩) (v := ?_) rfl (by kernel_rfl) (by kernel_rfl) (by kernel_rfl) (fun _ _ _ h => h) (Or.inl ⟨by rfl, ?_⟩) (by assumption) ?_
              rotate_left
              · intro w hSw; (try dsimp only at hSw); go_simp; (try (with_reducible rfl))
              try simp only [Act.put, List.setIfInBounds_toArray, List.set_cons_zero, List.set_cons_succ]
              refine wpAnyH_take (i := 15) (oi := ⟨_, _, _, _, _, _⟩) (v := ?_) rfl (by kernel_rfl) (by kernel_rfl) (by kernel_rfl) (fun _ _ _ h => h) (Or.inl ⟨by rfl, ?_⟩) (by assumption) ?_
              rotate_left
              · intro w hSw; (try dsimp only at hSw); go_simp; (try (with_reducible rfl))
              try simp only [Act.put, List.setIfInBounds_toArray, List.set_cons_zero, List.set_cons_succ]
              refine wpAnyH_take (i := 16) (oi := ⟨_, _, _, _, _, _⟩) (v := ?_) rfl (by kernel_rfl) (by kernel_rfl) (by kernel_rfl) (fun _ _ _ h => h) (Or.inl ⟨by rfl, ?_⟩) (by assumption) ?_
              rotate_left
              · intro w hSw; (try dsimp only at hSw); go_simp; (try (with_reducible rfl))
              try simp only [Act.put, List.setIfInBounds_toArray, List.set_cons_zero, List.set_cons_succ]
              refine wpAnyH_take (i := 17) (oi := ⟨_, _, _, _, _, _⟩) (v := ?_) rfl (by kernel_rfl) (by kernel_rfl) (by kernel_rfl) (fun _ _ _ h => h) (Or.inl ⟨by rfl, ?_⟩) (by assumption) ?_
              rotate_left
              · intro w hSw; (try dsimp only at hSw); go_simp; (try (with_reducible rfl))
              try simp only [Act.put, List.setIfInBounds_toArray, List.set_cons_zero, List.set_cons_succ]
              refine wpAnyH_take (i := 18) (oi := ⟨_, _, _, _, _, _⟩) (v := ?_) rfl (by kernel_rfl) (by kernel_rfl) (by kernel_rfl) (fun _ _ _ h => h) (Or.inl ⟨by rfl, ?_⟩) (by assumption) ?_
              rotate_left
              · intro w hSw; (try dsimp only at hSw); go_simp; (try (with_reducible rfl))
              try simp only [Act.put, List.setIfInBounds_toArray, List.set_cons_zero, List.set_cons_succ]
              refine wpAnyH_take (i := 19) (oi := ⟨_, _, _, _, _, _⟩) (v := ?_) rfl (by kernel_rfl) (by kernel_rfl) (by kernel_rfl) (fun _ _ _ h => h) (Or.inl ⟨by rfl, ?_⟩) (by assumption) ?_
              rotate_left
              · intro w hSw; (try dsimp only at hSw); go_simp; (try (with_reducible rfl))
              try simp only [Act.put, List.setIfInBounds_toArray, List.set_cons_zero, List.set_cons_succ]
              refine wpAnyH_take (i := 20) (oi := ⟨_, _, _, _, _, _⟩) (v := ?_) rfl (by kernel_rfl) (by kernel_rfl) (by kernel_rfl) (fun _ _ _ h => h) (Or.inl ⟨by rfl, ?_⟩) (by assumption) ?_
              rotate_left
              · intro w hSw; (try dsimp only at hSw); go_simp; (try (with_reducible rfl))
              try simp only [Act.put, List.setIfInBounds_toArray, List.set_cons_zero, List.set_cons_succ]
              refine wpAnyH_take (i := 21) (oi := ⟨_, _, _, _, _, _⟩) (v := ?_) rfl (by kernel_rfl) (by kernel_rfl) (by kernel_rfl) (fun _ _ _ h => h) (Or.inl ⟨by rfl, ?_⟩) (by assumption) ?_
              rotate_left
              · intro w hSw; (try dsimp only at hSw); go_simp; (try (with_reducible rfl))
              try simp only [Act.put, List.setIfInBounds_toArray, List.set_cons_zero, List.set_cons_succ]
              refine wpAnyH_take (i := 22) (oi := ⟨_, _, _, _, _, _⟩) (v := ?_) rfl (by kernel_rfl) (by kernel_rfl) (by kernel_rfl) (fun _ _ _ h => h) (Or.inl ⟨by rfl, ?_⟩) (by assumption) ?_
              rotate_left
              · intro w hSw; (try dsimp only at hSw); go_simp; (try (with_reducible rfl))
              try simp only [Act.put, List.setIfInBounds_toArray, List.set_cons_zero, List.set_cons_succ]
              refine wpAnyH_take (i := 23) (oi := ⟨_, _, _, _, _, _⟩) (v := ?_) rfl (by kernel_rfl) (by kernel_rfl) (by kernel_rfl) (fun _ _ _ h => h) (Or.inl ⟨by rfl, ?_⟩) (by assumption) ?_
              rotate_left
              · intro w hSw; (try dsimp only at hSw); go_simp; (try (with_reducible rfl))
              try simp only [Act.put, List.setIfInBounds_toArray, List.set_cons_zero, List.set_cons_succ]
              refine wpAnyH_take (i := 24) (oi := ⟨_, _, _, _, _, _⟩) (v := ?_) rfl (by kernel_rfl) (by kernel_rfl) (by kernel_rfl) (fun _ _ _ h => h) (Or.inl ⟨by rfl, ?_⟩) (by assumption) ?_
              rotate_left
              · intro w hSw; (try dsimp only at hSw); go_simp; (try (with_reducible rfl))
              try simp only [Act.put, List.setIfInBounds_toArray, List.set_cons_zero, List.set_cons_succ]
              refine wpAnyH_take (i := 25) (oi := ⟨_, _, _, _, _, _⟩) (v := ?_) rfl (by kernel_rfl) (by kernel_rfl) (by kernel_rfl) (fun _ _ _ h => h) (Or.inl ⟨by rfl, ?_⟩) (by assumption) ?_
              rotate_left
              · intro w hSw; (try dsimp only at hSw); go_simp; (try (with_reducible rfl))
              try simp only [Act.put, List.setIfInBounds_toArray, List.set_cons_zero, List.set_cons_succ]
              refine wpAnyH_take (i := 26) (oi := ⟨_, _, _, _, _, _⟩) (v := ?_) rfl (by kernel_rfl) (by kernel_rfl) (by kernel_rfl) (fun _ _ _ h => h) (Or.inl ⟨by rfl, ?_⟩) (by assumption) ?_
              rotate_left
              · intro w hSw; (try dsimp only at hSw); go_simp; (try (with_reducible rfl))
              try simp only [Act.put, List.setIfInBounds_toArray, List.set_cons_zero, List.set_cons_succ]
              refine wpAnyH_done (by kernel_rfl) ?_ _
              clear hHeld
              have bz := below2 b0 (b.trans (d5.mono b.size))
              go_wp2
              go_ret
              exact ⟨ret_bool HF.out.symm, bz⟩
            | true =>
              have HO2 : Hid ((List.range (j + 1)).all (srtAt (ps.map ppth)) = true) := by show _ = _; rw [range_step, HO.out, HSRT.out, hless]; rfl
              rw [hless, Bool.not_true] at hle
              clear hless
              go_wp2_with fail
              refine wp_region_held_drew (S := fun W => W.cell? ⟨w.heap.size, 7, none⟩ = some (.slice (some ⟨g, og, none⟩) ps.length c) ∧ W.cell? ⟨g, og + j * 7, none⟩ = some (.string xp) ∧ W.cell? ⟨g, og + j * 7 + 1, none⟩ = some (.bool xh) ∧ W.cell? ⟨g, og + j * 7 + 2, none⟩ = some (.int .i64 xs) ∧ W.cell? ⟨g, og + j * 7 + 3, none⟩ = some (.slice C xc.length cc) ∧ W.cell? ⟨g, og + j * 7 + 4, none⟩ = some (.int .i64 xd) ∧ W.cell? ⟨g, og + j * 7 + 5, none⟩ = some (.int .i64 xl) ∧ W.cell? ⟨g, og + j * 7 + 6, none⟩ = some (.int .i64 xr) ∧ W.cell? ⟨g, og + k * 7, none⟩ = some (.string yp)) (by kernel_rfl) (HS.out _ bd) (fun hHeld => ?_)
              refine wpAnyH_take (i := 0) (oi := ⟨_, _, _, _, _, _⟩) (v := ?_) rfl (by kernel_rfl) (by kernel_rfl) (by kernel_rfl) (fun _ _ _ h => h) (Or.inl ⟨by rfl, ?_⟩) (by assumption) ?_
              rotate_left
              · intro w hSw; (try dsimp only at hSw); go_simp; (try (with_reducible rfl))
              try simp only [Act.put, List.setIfInBounds_toArray, List.set_cons_zero, List.set_cons_succ]
              refine wpAnyH_take (i := 1) (oi := ⟨_, _, _, _, _, _⟩) (v := ?_) rfl (by kernel_rfl) (by kernel_rfl) (by kernel_rfl) (fun _ _ _ h => h) (Or.inl ⟨by rfl, ?_⟩) (by assumption) ?_
              rotate_left
              · intro w hSw; (try dsimp only at hSw); go_simp; (try (with_reducible rfl))
              try simp only [Act.put, List.setIfInBounds_toArray, List.set_cons_zero, List.set_cons_succ]
              refine wpAnyH_take (i := 2) (oi := ⟨_, _, _, _, _, _⟩) (v := ?_) rfl (by kernel_rfl) (by kernel_rfl) (by kernel_rfl) (fun _ _ _ h => h) (Or.inl ⟨by rfl, ?_⟩) (by assumption) ?_
              rotate_left
              · intro w hSw; (try dsimp only at hSw); go_simp; (try (with_reducible rfl))
              try simp only [Act.put, List.setIfInBounds_toArray, List.set_cons_zero, List.set_cons_succ]
              refine wpAnyH_take (i := 3) (oi := ⟨_, _, _, _, _, _⟩) (v := ?_) rfl (by kernel_rfl) (by kernel_rfl) (by kernel_rfl) (fun _ _ _ h => h) (Or.inl ⟨by rfl, ?_⟩) (by assumption) ?_
              rotate_left
              · intro w hSw; (try dsimp only at hSw); go_simp; (try (with_reducible rfl))
              try simp only [Act.put, List.setIfInBounds_toArray, List.set_cons_zero, List.set_cons_succ]
              refine wpAnyH_take (i := 4) (oi := ⟨_, _, _, _, _, _⟩) (v := ?_) rfl (by kernel_rfl) (by kernel_rfl) (by kernel_rfl) (fun _ _ _ h => h) (Or.inl ⟨by rfl, ?_⟩) (by assumption) ?_
              rotate_left
              · intro w hSw; (try dsimp only at hSw); go_simp; (try (with_reducible rfl))
              try simp only [Act.put, List.setIfInBounds_toArray, List.set_cons_zero, List.set_cons_succ]
              refine wpAnyH_ready (rs := [5]) (by kernel_rfl) (by simp) ?_
              refine AllReadyH.cons (o := ⟨_, _, _, _, _, _⟩) rfl (fun K hK => ?_) AllReadyH.nil
              go_simp
              refine cP.mono ?_
              rintro e w5 ⟨rfl, b5⟩
              have d5 := below2 bd b5
              have hS5 := HS.out _ d5
              refine hK.out _ _ hS5 (fun hHeld => ?_)
              clear hK K
              try simp only [Act.put, List.setIfInBounds_toArray, List.set_cons_zero, List.set_cons_succ]
              refine wpAnyH_take (i := 6) (oi := ⟨_, _, _, _, _, _⟩) (v := ?_) rfl (by kernel_rfl) (by kernel_rfl) (by kernel_rfl) (fun _ _ _ h => h) (Or.inl ⟨by rfl, ?_⟩) (by assumption) ?_
              rotate_left
              · intro w hSw; (try dsimp only at hSw); go_simp; (try (with_reducible rfl))
              try simp only [Act.put, List.setIfInBounds_toArray, List.set_cons_zero, List.set_cons_succ]
              refine wpAnyH_take (i := 7) (oi := ⟨_, _, _, _, _, _⟩) (v := ?_) rfl (by kernel_rfl) (by kernel_rfl) (by kernel_rfl) (fun _ _ _ h => h) (Or.inl ⟨by rfl, ?_⟩) (by assumption) ?_
              rotate_left
              · intro w hSw; (try dsimp only at hSw); go_simp; (try (with_reducible rfl))
              try simp only [Act.put, List.setIfInBounds_toArray, List.set_cons_zero, List.set_cons_succ]
              refine wpAnyH_take (i := 8) (oi := ⟨_, _, _, _, _, _⟩) (v := ?_) rfl (by kernel_rfl) (by kernel_rfl) (by kernel_rfl) (fun _ _ _ h => h) (Or.inl ⟨by rfl, ?_⟩) (by assumption) ?_
              rotate_left
              · intro w hSw; (try dsimp only at hSw); go_simp; (try (with_reducible rfl))
              try simp only [Act.put, List.setIfInBounds_toArray, List.set_cons_zero, List.set_cons_succ]
              refine wpAnyH_take (i := 9) (oi := ⟨_, _, _, _, _, _⟩) (v := ?_) rfl (by kernel_rfl) (by kernel_rfl) (by kernel_rfl) (fun _ _ _ h => h) (Or.inl ⟨by rfl, ?_⟩) (by assumption) ?_
              rotate_left
              · intro w hSw; (try dsimp only at hSw); go_simp; (try (with_reducible rfl))
              try simp only [Act.put, List.setIfInBounds_toArray, List.set_cons_zero, List.set_cons_succ]
              refine wpAnyH_take (i := 10) (oi := ⟨_, _, _, _, _, _⟩) (v := ?_) rfl (by kernel_rfl) (by kernel_rfl) (by kernel_rfl) (fun _ _ _ h => h) (Or.inl ⟨by rfl, ?_⟩) (by assumption) ?_
              rotate_left
              · intro w hSw; (try dsimp only at hSw); go_simp; (try (with_reducible rfl))
              try simp only [Act.put, List.setIfInBounds_toArray, List.set_cons_zero, List.set_cons_succ]
              refine wpAnyH_take (i := 11) (oi := ⟨_, _, _, _, _, _⟩) (v := ?_) rfl (by kernel_rfl) (by kernel_rfl) (by kernel_rfl) (fun _ _ _ h => h) (Or.inl ⟨by rfl, ?_⟩) (by assumption) ?_
              rotate_left
              · intro w hSw; (try dsimp only at hSw); go_simp; (try (with_reducible rfl))
              try simp only [Act.put, List.setIfInBounds_toArray, List.set_cons_zero, List.set_cons_succ]
              refine wpAnyH_take (i := 12) (oi := ⟨_, _, _, _, _, _⟩) (v := ?_) rfl (by kernel_rfl) (by kernel_rfl) (by kernel_rfl) (fun _ _ _ h => h) (Or.inl ⟨by rfl, ?_⟩) (by assumption) ?_
              rotate_left
              · intro w hSw; (try dsimp only at hSw); go_simp; (try (with_reducible rfl))
              try simp only [Act.put, List.setIfInBounds_toArray, List.set_cons_zero, List.set_cons_succ]
              refine wpAnyH_take (i := 13) (oi := ⟨_, _, _, _, _, _⟩) (v := ?_) rfl (by kernel_rfl) (by kernel_rfl) (by kernel_rfl) (fun _ _ _ h => h) (Or.inl ⟨by rfl, ?_⟩) (by assumption) ?_
              rotate_left
              · intro w hSw; (try dsimp only at hSw); go_simp; (try (with_reducible rfl))
              try simp only [Act.put, List.setIfInBounds_toArray, List.set_cons_zero, List.set_cons_succ]
              refine wpAnyH_take (i := 14) (oi := ⟨_, _, _, _, _, _⟩) (v := ?_) rfl (by kernel_rfl) (by kernel_rfl) (by kernel_rfl) (fun _ _ _ h => h) (Or.inl ⟨by rfl, ?_⟩) (by assumption) ?_
              rotate_left
              · intro w hSw; (try dsimp only at hSw); go_simp; (try (with_reducible rfl))
              try simp only [Act.put, List.setIfInBounds_toArray, List.set_cons_zero, List.set_cons_succ]
              refine wpAnyH_take (i := 15) (oi := ⟨_, _, _, _, _, _⟩) (v := ?_) rfl (by kernel_rfl) (by kernel_rfl) (by kernel_rfl) (fun _ _ _ h => h) (Or.inl ⟨by rfl, ?_⟩) (by assumption) ?_
              rotate_left
              · intro w hSw; (try dsimp only at hSw); go_simp; (try (with_reducible rfl))
              try simp only [Act.put, List.setIfInBounds_toArray, List.set_cons_zero, List.set_cons_succ]
              refine wpAnyH_take (i := 16) (oi := ⟨_, _, _, _, _, _⟩) (v := ?_) rfl (by kernel_rfl) (by kernel_rfl) (by kernel_rfl) (fun _ _ _ h => h) (Or.inl ⟨by rfl, ?_⟩) (by assumption) ?_
              rotate_left
              · intro w hSw; (try dsimp only at hSw); go_simp; (try (with_reducible rfl))
              try simp only [Act.put, List.setIfInBounds_toArray, List.set_cons_zero, List.set_cons_succ]
              refine wpAnyH_take (i := 17) (oi := ⟨_, _, _, _, _, _⟩) (v := ?_) rfl (by kernel_rfl) (by kernel_rfl) (by kernel_rfl) (fun _ _ _ h => h) (Or.inl ⟨by rfl, ?_⟩) (by assumption) ?_
              rotate_left
              · intro w hSw; (try dsimp only at hSw); go_simp; (try (with_reducible rfl))
              try simp only [Act.put, List.setIfInBounds_toArray, List.set_cons_zero, List.set_cons_succ]
              refine wpAnyH_take (i := 18) (oi := ⟨_, _, _, _, _, _⟩) (v := ?_) rfl (by kernel_rfl) (by kernel_rfl) (by kernel_rfl) (fun _ _ _ h => h) (Or.inl ⟨by rfl, ?_⟩) (by assumption) ?_
              rotate_left
              · intro w hSw; (try dsimp only at hSw); go_simp; (try (with_reducible rfl))
              try simp only [Act.put, List.setIfInBounds_toArray, List.set_cons_zero, List.set_cons_succ]
              refine wpAnyH_take (i := 19) (oi := ⟨_, _, _, _, _, _⟩) (v := ?_) rfl (by kernel_rfl) (by kernel_rfl) (by kernel_rfl) (fun _ _ _ h => h) (Or.inl ⟨by rfl, ?_⟩) (by assumption) ?_
              rotate_left
              · intro w hSw; (try dsimp only at hSw); go_simp; (try (with_reducible rfl))
              try simp only [Act.put, List.setIfInBounds_toArray, List.set_cons_zero, List.set_cons_succ]
              refine wpAnyH_take (i := 20) (oi := ⟨_, _, _, _, _, _⟩) (v := ?_) rfl (by kernel_rfl) (by kernel_rfl) (by kernel_rfl) (fun _ _ _ h => h) (Or.inl ⟨by rfl, ?_⟩) (by assumption) ?_
              rotate_left
              · intro w hSw; (try dsimp only at hSw); go_simp; (try (with_reducible rfl))
              try simp only [Act.put, List.setIfInBounds_toArray, List.set_cons_zero, List.set_cons_succ]
              refine wpAnyH_take (i := 21) (oi := ⟨_, _, _, _, _, _⟩) (v := ?_) rfl (by kernel_rfl) (by kernel_rfl) (by kernel_rfl) (fun _ _ _ h => h) (Or.inl ⟨by rfl, ?_⟩) (by assumption) ?_
              rotate_left
              · intro w hSw; (try dsimp only at hSw); go_simp; (try (with_reducible rfl))
              try simp only [Act.put, List.setIfInBounds_toArray, List.set_cons_zero, List.set_cons_succ]
              refine wpAnyH_take (i := 22) (oi := ⟨_, _, _, _, _, _⟩) (v := ?_) rfl (by kernel_rfl) (by kernel_rfl) (by kernel_rfl) (fun _ _ _ h => h) (Or.inl ⟨by rfl, ?_⟩) (by assumption) ?_
              rotate_left
              · intro w hSw; (try dsimp only at hSw); go_simp; (try (with_reducible rfl))
              try simp only [Act.put, List.setIfInBounds_toArray, List.set_cons_zero, List.set_cons_succ]
              refine wpAnyH_take (i := 23) (oi := ⟨_, _, _, _, _, _⟩) (v := ?_) rfl (by kernel_rfl) (by kernel_rfl) (by kernel_rfl) (fun _ _ _ h => h) (Or.inl ⟨by rfl, ?_⟩) (by assumption) ?_
              rotate_left
              · intro w hSw; (try dsimp only at hSw); go_simp; (try (with_reducible rfl))
              try simp only [Act.put, List.setIfInBounds_toArray, List.set_cons_zero, List.set_cons_succ]
              refine wpAnyH_take (i := 24) (oi := ⟨_, _, _, _, _, _⟩) (v := ?_) rfl (by kernel_rfl) (by kernel_rfl) (by kernel_rfl) (fun _ _ _ h => h) (Or.inl ⟨by rfl, ?_⟩) (by assumption) ?_
              rotate_left
              · intro w hSw; (try dsimp only at hSw); go_simp; (try (with_reducible rfl))
              try simp only [Act.put, List.setIfInBounds_toArray, List.set_cons_zero, List.set_cons_succ]
              refine wpAnyH_take (i := 25) (oi := ⟨_, _, _, _, _, _⟩) (v := ?_) rfl (by kernel_rfl) (by kernel_rfl) (by kernel_rfl) (fun _ _ _ h => h) (Or.inl ⟨by rfl, ?_⟩) (by assumption) ?_
              rotate_left
              · intro w hSw; (try dsimp only at hSw); go_simp; (try (with_reducible rfl))
              try simp only [Act.put, List.setIfInBounds_toArray, List.set_cons_zero, List.set_cons_succ]
              refine wpAnyH_take (i := 26) (oi := ⟨_, _, _, _, _, _⟩) (v := ?_) rfl (by kernel_rfl) (by kernel_rfl) (by kernel_rfl) (fun _ _ _ h => h) (Or.inl ⟨by rfl, ?_⟩) (by assumption) ?_
              rotate_left
              · intro w hSw; (try dsimp only at hSw); go_simp; (try (with_reducible rfl))
              try simp only [Act.put, List.setIfInBounds_toArray, List.set_cons_zero, List.set_cons_succ]
              refine wpAnyH_done (by kernel_rfl) ?_ _
              clear hHeld
              have bz := b.trans (d5.mono b.size)
              clear x0 x1 x2 x3 x4 x5 x6 y0 HX k7 hS5 d5 b5 b HS cP hle
              go_wp2
              go_roundw
              case rel => exact ⟨j + 1, by omega, by go_num, HT3, HO2, bz⟩
              case measure => simp [intOf]; omega
      · have hnl : ¬ (j : Int) < ps.length := by omega
        have HF : Hid (Z = true) := by
          have h1 := HT.out
          have h2 := HO.out
          have hjn2 : j = ps.length := by omega
          rw [hjn2, List.take_length] at h1
          rw [hjn2] at h2
          show _ = _
          rw [HR.out, h1, Bool.true_and]
          unfold sortedL
          rw [List.length_map]
          exact h2
        have bz := below2 b0 b
        go_wp2
        go_ret
        exact ⟨ret_bool HF.out.symm, bz⟩
theorem rright12_any {w : World} {A : Option Addr} {c : Nat} {m : Man} (h : Mt w A c m) (hs : ∀ p ∈ m.pieces, p.path.size < 4294967281) :
    Calls Tryd.prog 22 #[manV m A c] w fun e w' => e = .returned (.bool (manR m)) ∧ Below w.heap.size w w' := by
  obtain ⟨a1, a2, a3, a4, a5, a6, a7, ps⟩ := m
  cases hh : headR (⟨a1, a2, a3, a4, a5, a6, a7, ps⟩ : Man) with
  | true => exact rright12_good h hs hh
  | false =>
    have h1 := rright12_bad (w := w) (A := A) (c := c) (n := ps.length) (a1 := a1) (a2 := a2) (a3 := a3) (a4 := a4) (a5 := a5) (a6 := a6) (a7 := a7) (by have := h.cap; have := h.capm; unfold maxLen at this; dsimp only at *; omega) hh
    rw [show manR (⟨a1, a2, a3, a4, a5, a6, a7, ps⟩ : Man) = false by unfold manR; rw [hh]; rfl]
    exact h1
end Go.Proofs.YteimgnmjmpeobaaDoor
