/- The texts Qf, Qr, Cc, Cr, Ck, Cl, Eg, Lf, Le, Lg, Ld, Rc, in one. -/
import Derived.Test.YtgafjbmpaeejbaaDoorP3
import Derived.Deep.RegionHeld3
namespace Go.Proofs.YtgafjbmpaeejbaaDoor
open Go.RowKit

theorem okB_no {b : UInt8} (h : okB b = false) : ((b.toNat : Int) < 97 ∨ (122 : Int) < b.toNat) ∧ ((b.toNat : Int) < 48 ∨ (57 : Int) < b.toNat) ∧ (b.toNat : Int) ≠ 46 ∧ (b.toNat : Int) ≠ 45 := by
  simp [okB] at h
  omega
theorem okB_yes {b : UInt8} (h : okB b = true) : ((97 : Int) ≤ b.toNat ∧ (b.toNat : Int) ≤ 122) ∨ ((48 : Int) ≤ b.toNat ∧ (b.toNat : Int) ≤ 57) ∨ (b.toNat : Int) = 46 ∨ (b.toNat : Int) = 45 := by
  simp [okB] at h
  omega

set_option maxHeartbeats 2000000 in
theorem refName (s : ByteArray) (w : World) :
    Calls Tryd.prog 77 #[.string s] w fun e w' => e = .returned (.bool (nameL s.data.toList)) ∧ w = w' := by
  by_cases h1 : (s.size : Int) < 1
  · go_enter Tryd.func77, Tryd.ntmps77
    go_wp2
    go_ret
    exact ⟨ret_bool (nameL_no (by have := size_len s; omega)), rfl⟩
  by_cases h2 : (12 : Int) < s.size
  · go_enter Tryd.func77, Tryd.ntmps77
    go_wp2
    go_ret
    exact ⟨ret_bool (nameL_no (by have := size_len s; omega)), rfl⟩
  cases h3 : (s.toList == [46])
  case true =>
    have H := hid (show s.data.toList = [46] by rw [← Lib.toList_data s]; simpa using h3)
    go_enter Tryd.func77, Tryd.ntmps77
    go_wp2
    go_ret
    exact ⟨ret_bool (nameL_no (fun h => h.2.2.1 H.out)), rfl⟩
  cases h4 : (s.toList == [46, 46])
  case true =>
    have H := hid (show s.data.toList = [46, 46] by rw [← Lib.toList_data s]; simpa using h4)
    go_enter Tryd.func77, Tryd.ntmps77
    go_wp2
    go_ret
    exact ⟨ret_bool (nameL_no (fun h => h.2.2.2 H.out)), rfl⟩
  have HH := hid (show 1 ≤ s.data.toList.length ∧ s.data.toList.length ≤ 12 ∧ s.data.toList ≠ [46] ∧ s.data.toList ≠ [46, 46] by
    have hl := size_len s
    rw [Lib.toList_data s] at h3 h4
    exact ⟨by omega, by omega, by simpa using h3, by simpa using h4⟩)
  go_enter Tryd.func77, Tryd.ntmps77
  go_wp2_with fail
  go_loop [3] (fun i => ∃ j : Nat, j ≤ s.size ∧ i = .int .i64 j ∧ (s.data.toList.take j).all okB = true) (fun i => s.size - (intOf i).toNat)
  case atStart => exact ⟨0, by omega, rfl, by simp⟩
  case round =>
    obtain ⟨j, hj, rfl, hok⟩ := hrel
    by_cases hjn : j < s.size
    · have hlt : (j : Int) < s.size := by omega
      have HK := hid (take_ok s j hjn)
      have HO := hid hok
      clear hok
      obtain ⟨b, hb⟩ : ∃ b, s[j] = b := ⟨_, rfl⟩
      rw [hb] at HK
      have hyes : okB b = true → (s.data.toList.take (j + 1)).all okB = true := fun h => by rw [HK.out, HO.out, h]; rfl
      have hno : okB b = false → false = nameL s.data.toList := fun h => by
        have hk : (s.data.toList.take (j + 1)).all okB = false := by rw [HK.out, HO.out, h]; rfl
        cases hn : nameL s.data.toList with
        | false => rfl
        | true =>
          simp only [nameL, Bool.and_eq_true, List.all_eq_true] at hn
          have : (s.data.toList.take (j + 1)).all okB = true := List.all_eq_true.2 fun b hbm => hn.2 b (List.mem_of_mem_take hbm)
          rw [hk] at this
          cases this
      have HY := hid hyes
      have HN := hid hno
      clear hyes hno HK
      cases hob : okB b
      · have h5 := okB_no hob
        go_wp2
        all_goals first
          | (go_ret; exact ⟨ret_bool (HN.out hob), rfl⟩)
          | (exfalso; rename_i h; simp at h; omega)
      · have HT := HY.out hob
        clear HY HN
        rcases okB_yes hob with ⟨h5, h6⟩ | ⟨h5, h6⟩ | h5 | h5
        all_goals
          go_wp2
          go_roundw
          case rel => exact ⟨j + 1, by omega, by go_num, HT⟩
          case measure => simp [intOf]; omega
    · have e : s.size = j := by omega
      have HE := hid e
      have HO := hid hok
      have hnlt : ¬ (j : Int) < s.size := by omega
      clear e hok
      go_wp2
      go_ret
      refine ⟨ret_bool ?_, rfl⟩
      have hl := size_len s
      have ho := HO.out
      rw [← HE.out, hl, List.take_length] at ho
      have hh := HH.out
      simp only [nameL, ho, Bool.and_true]
      exact (decide_eq_true hh).symm

/-- What is cut so far: the pieces that end, and from where the last one goes on. -/
def CutInv (l : List UInt8) (j f : Nat) (done : List (List UInt8)) : Prop :=
  (j ≤ l.length ∧ f ≤ j ∧ 47 ∉ (l.drop f).take (j - f) ∧ done ++ pieces (l.drop f) = pieces l) ∨ (j = l.length + 1 ∧ done = pieces l)
theorem cut_last {l : List UInt8} {f : Nat} {done : List (List UInt8)} (h : CutInv l l.length f done) : f ≤ l.length ∧ done ++ [(l.drop f).take (l.length - f)] = pieces l := by
  rcases h with ⟨_, h2, h3, h4⟩ | ⟨h1, _⟩
  · have e : (l.drop f).take (l.length - f) = l.drop f := List.take_of_length_le (by simp)
    rw [e] at h3 ⊢
    rw [← h4, pieces_none _ h3]
    exact ⟨h2, rfl⟩
  · omega
theorem drop_at {l : List UInt8} {j f : Nat} (h : j < l.length) (hf : f ≤ j) : l.drop f = (l.drop f).take (j - f) ++ l[j] :: l.drop (j + 1) := by
  have e1 : (l.drop f).drop (j - f) = l.drop j := by rw [List.drop_drop]; congr 1; omega
  have e2 : l.drop j = l[j] :: l.drop (j + 1) := List.drop_eq_getElem_cons h
  rw [← e2, ← e1, List.take_append_drop]
theorem cut_stroke {l : List UInt8} {j f : Nat} {done : List (List UInt8)} (h : CutInv l j f done) (hj : j < l.length) (hb : l[j] = 47) :
    f ≤ j ∧ CutInv l (j + 1) (j + 1) (done ++ [(l.drop f).take (j - f)]) := by
  rcases h with ⟨_, h2, h3, h4⟩ | ⟨h1, _⟩
  · refine ⟨h2, .inl ⟨by omega, Nat.le_refl _, by simp, ?_⟩⟩
    have e := drop_at hj h2
    rw [hb] at e
    have e2 : pieces (l.drop f) = (l.drop f).take (j - f) :: pieces (l.drop (j + 1)) := by
      conv => lhs; rw [e]
      rw [pieces_app, pieces_none _ h3]
      rfl
    rw [← h4, e2]
    simp
  · omega
theorem cut_on {l : List UInt8} {j f : Nat} {done : List (List UInt8)} (h : CutInv l j f done) (hj : j < l.length) (hb : l[j] ≠ 47) : CutInv l (j + 1) f done := by
  rcases h with ⟨_, h2, h3, h4⟩ | ⟨h1, _⟩
  · refine .inl ⟨by omega, by omega, ?_, h4⟩
    have e : j + 1 - f = (j - f) + 1 := by omega
    have e2 : (l.drop f)[j - f]? = some l[j] := by rw [List.getElem?_drop, show f + (j - f) = j by omega, List.getElem?_eq_getElem hj]
    rw [e, List.take_add_one, e2]
    intro hm
    rcases List.mem_append.1 hm with hm | hm
    · exact h3 hm
    · simp at hm
      exact hb hm.symm
  · omega
theorem ba_at (s : ByteArray) (j : Nat) (h : j < s.size) : s[j] = s.data.toList[j]'(by have := size_len s; omega) := rfl

/-- A slice of pieces that the call made. -/
def CutPost (w : World) (L : List (List UInt8)) (e : Ending) (w' : World) : Prop :=
  ∃ A c, e = .returned (.slice A L.length c) ∧ Rd w' A (strV (L.map mkS)) ∧ L.length ≤ c ∧ Below w.heap.size w w'

set_option maxHeartbeats 2000000 in
theorem refCut (s : ByteArray) (w : World) (hs : s.size < 4294967281) :
    Calls Tryd.prog 76 #[.string s] w (CutPost w (pieces s.data.toList)) := by
  go_enter Tryd.func76, Tryd.ntmps76
  go_wp2_with fail
  go_loopw [3, 4, 5] (fun v f i wr => ∃ j k : Nat, ∃ done : List ByteArray, ∃ A c, i = .int .i64 j ∧ f = .int .i64 k ∧ v = .slice A done.length c ∧ done.length ≤ j ∧ j ≤ s.size + 1 ∧ wr.ownsRow w.heap.size 9 1 (.slice A done.length c) done.length (strV done) ∧ CutInv s.data.toList j k (lst done) ∧ Below w.heap.size w wr) (fun _ _ i _ => s.size + 1 - (intOf i).toNat)
  case atStart => exact ⟨0, 0, [], none, 0, rfl, rfl, rfl, Nat.le_refl _, by omega, World.ownsRow_nil _ _ _ _, .inl ⟨by omega, Nat.le_refl _, by simp, rfl⟩, Below.refl _ _⟩
  case round =>
    obtain ⟨j, k, done, A, c, rfl, rfl, rfl, hdl, hj, hown, hinv, hb⟩ := hrel
    have HI := hid hinv
    clear hinv
    by_cases hjs : j ≤ s.size
    · have hle : (j : Int) ≤ s.size := by omega
      by_cases hje : j = s.size
      · subst hje
        have HI2 := hid (show CutInv s.data.toList (s.size + 1) (s.size + 1) (lst done ++ [(s.data.toList.drop k).take (s.size - k)]) by
          have h := HI.out
          rw [size_len] at h ⊢
          exact .inr ⟨rfl, (cut_last h).2⟩)
        have hk : (k : Int) ≤ s.size := by
          have h := HI.out
          rw [size_len] at h ⊢
          have := (cut_last h).1
          omega
        clear HI
        go_wp2_with (at_builtin; refine wpApp _ rfl _ _ 52 rfl w.heap.size 9 (.string ⟨#[]⟩) 16 Tryd.underlying52 Tryd.infoS rfl A done.length c _ rfl (hown.alloc _) _ _ _ (strV [s.extract k s.size]) rfl rfl (.inr ⟨_, rfl, new_cells wr 9 _⟩) (strV_one _) (by omega) (by have := hb.size; simp; omega) (by omega) ?_)
        intro A2 c2 w2 hown2 hg2
        have hb2 : Below w.heap.size w w2 := (hb.alloc hb.size _).grown hg2 (by have := hb.size; simp; omega) (own_app_block hown)
        have hown3 : w2.ownsRow w.heap.size 9 1 (.slice A2 (done ++ [s.extract k s.size]).length c2) (done ++ [s.extract k s.size]).length (strV (done ++ [s.extract k s.size])) := by
          rw [strV_append, List.length_append]
          exact hown2
        clear hown hown2 hg2 hb
        go_wp2
        go_roundw
        case rel =>
          exact ⟨s.size + 1, s.size + 1, done ++ [s.extract k s.size], A2, c2, by go_num, by go_num, by simp, by simp; omega, by omega, hown3, by rw [lst, List.map_append, List.map_cons, List.map_nil, Lib.extract_data]; exact HI2.out, hb2⟩
        case measure => simp [intOf]
      · have hjn : j < s.size := by omega
        have hlt : (j : Int) < s.size := by omega
        have hne : ((j : Int) == (s.size : Int)) = false := by simp; omega
        have hjl : j < s.data.toList.length := by rw [← size_len]; exact hjn
        have HB := hid (ba_at s j hjn)
        obtain ⟨b, hbe⟩ : ∃ b, s[j] = b := ⟨_, rfl⟩
        rw [hbe] at HB
        by_cases h47 : b = 47
        · subst h47
          have HI2 := hid (show CutInv s.data.toList (j + 1) (j + 1) (lst done ++ [(s.data.toList.drop k).take (j - k)]) from (cut_stroke HI.out hjl HB.out.symm).2)
          have hk : (k : Int) ≤ j := by
            have := (cut_stroke HI.out hjl HB.out.symm).1
            omega
          clear HI HB
          go_wp2_with (at_builtin; refine wpApp _ rfl _ _ 52 rfl w.heap.size 9 (.string ⟨#[]⟩) 16 Tryd.underlying52 Tryd.infoS rfl A done.length c _ rfl (hown.alloc _) _ _ _ (strV [s.extract k j]) rfl rfl (.inr ⟨_, rfl, new_cells wr 9 _⟩) (strV_one _) (by omega) (by have := hb.size; simp; omega) (by omega) ?_)
          intro A2 c2 w2 hown2 hg2
          have hb2 : Below w.heap.size w w2 := (hb.alloc hb.size _).grown hg2 (by have := hb.size; simp; omega) (own_app_block hown)
          have hown3 : w2.ownsRow w.heap.size 9 1 (.slice A2 (done ++ [s.extract k j]).length c2) (done ++ [s.extract k j]).length (strV (done ++ [s.extract k j])) := by
            rw [strV_append, List.length_append]
            exact hown2
          clear hown hown2 hg2 hb
          go_wp2
          go_roundw
          case rel =>
            exact ⟨j + 1, j + 1, done ++ [s.extract k j], A2, c2, by go_num, by go_num, by simp, by simp; omega, by omega, hown3, by rw [lst, List.map_append, List.map_cons, List.map_nil, Lib.extract_data]; exact HI2.out, hb2⟩
          case measure => simp [intOf]; omega
        · have hb47 : ¬ (b.toNat : Int) = 47 := fun h => h47 (by
            have : b.toNat = 47 := by omega
            exact UInt8.toNat_inj.1 this)
          have hq : ((b.toNat : Int) == 47) = false := by simpa using hb47
          have HI2 := hid (cut_on HI.out hjl (by rw [← HB.out]; exact h47))
          clear HI HB
          go_wp2
          go_roundw
          case rel => exact ⟨j + 1, k, done, A, c, by go_num, rfl, rfl, by omega, by omega, hown, HI2.out, hb⟩
          case measure => simp [intOf]; omega
    · have hnle : ¬ (j : Int) ≤ s.size := by omega
      have HJ := hid (show j = s.size + 1 by omega)
      go_wp2
      go_ret
      have e : lst done = pieces s.data.toList := by
        rcases HI.out with ⟨h1, _⟩ | ⟨_, h2⟩
        · have := HJ.out
          rw [size_len] at this
          omega
        · exact h2
      rw [← e]
      obtain ⟨_, A', c', hv, hc, _⟩ := own_form hown
      injection hv with e1 e2 e3
      subst e1 e3
      refine ⟨A, c, by rw [lst_length]; rfl, ?_, by rw [lst_length]; exact hc, hb⟩
      rw [lst, mkS_map]
      exact Rd.of_own hown
end Go.Proofs.YtgafjbmpaeejbaaDoor
namespace Go.Proofs.YtgafjbmpaeejbaaDoor
open Go.RowKit

theorem all_take_step (L : List (List UInt8)) (j : Nat) (h : j < L.length) : (L.take (j + 1)).all nameL = ((L.take j).all nameL && nameL L[j]) := by
  rw [List.take_add_one, List.getElem?_eq_getElem h, List.all_append]
  simp
theorem not_fine_at {L : List (List UInt8)} {j : Nat} (h : j < L.length) (hb : nameL L[j] = false) : fineL L = false := by
  cases hf : fineL L with
  | false => rfl
  | true =>
    have := fine_all hf L[j] (List.getElem_mem h)
    rw [hb] at this
    cases this

set_option maxHeartbeats 1000000 in
theorem refRight (s : ByteArray) (w : World) (hs : s.size < 4294967281) :
    Calls Tryd.prog 59 #[.string s] w fun e w' => e = .returned (.bool (rightL s.data.toList)) ∧ Below w.heap.size w w' := by
  have c0 := refCut s w hs
  have hpl := pieces_len s.data.toList
  rw [← size_len] at hpl
  have hpos := List.length_pos_iff.2 (pieces_ne s.data.toList)
  unfold rightL
  generalize pieces s.data.toList = L at c0 hpl hpos ⊢
  go_enter Tryd.func59, Tryd.ntmps59
  go_wp2_with fail
  refine c0.mono ?_
  clear c0
  rintro e w1 ⟨A, c, rfl, hr1, hc1, hb1⟩
  by_cases h4 : (4 : Int) < L.length
  · go_wp2
    go_ret
    exact ⟨ret_bool (fine_long (by omega)).symm, hb1⟩
  go_wp2_with fail
  go_loop [4] (fun i => ∃ j : Nat, j ≤ L.length ∧ i = .int .i64 j ∧ (L.take j).all nameL = true) (fun i => L.length - (intOf i).toNat)
  case atStart => exact ⟨0, by omega, rfl, by simp⟩
  case round =>
    obtain ⟨j, hj, rfl, hok⟩ := hrel
    by_cases hjn : j < L.length
    · obtain ⟨b, off, rfl, hc, -⟩ := hr1.at_ (k := j) (by rw [strV_length, List.length_map]; exact hjn)
      have h5 : w1.cell? ⟨b, off + j, none⟩ = some (.string (mkS L[j])) := by rw [hc]; simp [strV]
      have HK := hid (all_take_step L j hjn)
      have HO := hid hok
      clear hc hok
      have hz : (0 : Int) ≤ j := by omega
      have hlt : (j : Int) < L.length := by omega
      go_wp2_with fail
      refine (refName _ _).mono ?_
      rintro e w2 ⟨he, rfl⟩
      rw [mkS_data] at he
      subst he
      cases hb : nameL L[j]
      · go_wp2
        go_ret
        exact ⟨ret_bool (not_fine_at hjn hb).symm, hb1⟩
      · go_wp2
        go_roundw
        case rel => exact ⟨j + 1, by omega, by go_num, by rw [HK.out, HO.out, hb]; rfl⟩
        case measure => simp [intOf]; omega
    · have HE := hid (show j = L.length by omega)
      have HO := hid hok
      have hnlt : ¬ (j : Int) < L.length := by omega
      clear hok
      go_wp2
      go_ret
      refine ⟨ret_bool ?_, hb1⟩
      have ho := HO.out
      rw [HE.out, List.take_length] at ho
      exact (fine_mk (by omega) (by omega) (List.all_eq_true.1 ho)).symm

theorem pre_no {s d : List UInt8} (h : s.length ≤ d.length) : Lib.hasPrefix s (d ++ [47]) = false := by
  cases hp : Lib.hasPrefix s (d ++ [47]) with
  | false => rfl
  | true =>
    have := Lib.hasPrefix_of_take s (d ++ [47])
    rw [hp] at this
    simp at this
    omega
theorem pre_at {s d : List UInt8} (h : d.length < s.length) : Lib.hasPrefix s (d ++ [47]) = (s.take d.length == d && s[d.length] == 47) := by
  rw [← Lib.hasPrefix_of_take]
  have e1 : decide ((d ++ [47]).length ≤ s.length) = true := by simp; omega
  have e2 : s.take (d ++ [47]).length = s.take d.length ++ [s[d.length]] := by
    rw [List.length_append, List.length_cons, List.length_nil, List.take_add_one, List.getElem?_eq_getElem h]
    rfl
  rw [e1, e2, Bool.true_and, Bool.eq_iff_iff]
  simp only [beq_iff_eq, Bool.and_eq_true]
  constructor
  · intro e
    have := List.append_inj' e rfl
    exact ⟨this.1, by simpa using this.2⟩
  · rintro ⟨h1, h2⟩
    rw [h1, h2]

end Go.Proofs.YtgafjbmpaeejbaaDoor
namespace Go.Proofs.YtgafjbmpaeejbaaDoor
open Go.RowKit

theorem cl_of {a : Nat} {x : Int} (h : a ≤ 1073741824) (e : x = a) : cl x = a := by unfold cl; omega

/-- What Mine tells. -/
def mineI (a b : Nat) (author : Int) : Int := if odd author then b else a

/-- What Order tells. -/
def ordI (a b c d : Nat) : Int := if a = c ∧ b = d then 0 else if a ≤ c ∧ b ≤ d then 1 else if c ≤ a ∧ d ≤ b then 2 else 3

end Go.Proofs.YtgafjbmpaeejbaaDoor
namespace Go.Proofs.YtgafjbmpaeejbaaDoor
open Go.RowKit

/-- A pair lies there. -/
def PairAt (w : World) (g : Nat) (l r : Int) : Prop := w.cell? ⟨g, 0, none⟩ = some (.int .i64 l) ∧ w.cell? ⟨g, 1, none⟩ = some (.int .i64 r)
theorem PairAt.below {w w' : World} {g : Nat} {l r : Int} (h : PairAt w g l r) (hb : Below w.heap.size w w') : PairAt w' g l r :=
  ⟨(hb.cell (World.block_lt_of_cell? w _ h.1)).trans h.1, (hb.cell (World.block_lt_of_cell? w _ h.2)).trans h.2⟩
theorem PairAt.lt {w : World} {g : Nat} {l r : Int} (h : PairAt w g l r) : g < w.heap.size := World.block_lt_of_cell? w _ h.1
theorem PairAt.new (w : World) (l r : Int) (t : TypeId) : PairAt (w.alloc (.cells #[.int .i64 l, .int .i64 r] t)) w.heap.size l r :=
  ⟨new_cells w t [.int .i64 l, .int .i64 r] 0 _ rfl, new_cells w t [.int .i64 l, .int .i64 r] 1 _ rfl⟩
theorem PairAt.alloc {w : World} {g : Nat} {l r : Int} (h : PairAt w g l r) (o : Obj) : PairAt (w.alloc o) g l r := h.below ((Below.refl _ _).alloc (Nat.le_refl _) o)

theorem below_al {w w' : World} (o : Obj) (h : Below (w.alloc o).heap.size (w.alloc o) w') : Below w.heap.size w w' := below2 ((Below.refl _ _).alloc (Nat.le_refl _) o) h
end Go.Proofs.YtgafjbmpaeejbaaDoor
namespace Go.Proofs.YtgafjbmpaeejbaaDoor
open Go.RowKit

end Go.Proofs.YtgafjbmpaeejbaaDoor
namespace Go.Proofs.YtgafjbmpaeejbaaDoor
open Go.RowKit

theorem and_bit (n : Int) : bits BinOp.and IntKind.i64 n 1 = n % 2 := by
  show IntKind.i64.wrap ((BitVec.ofInt 64 n &&& BitVec.ofInt 64 1).toNat : Int) = _
  rw [BitVec.toNat_and, show (BitVec.ofInt 64 1).toNat = 1 by decide, Nat.and_one_is_mod, BitVec.toNat_ofInt, IntKind.wrap_i64]
  have e : ((2 ^ 64 : Nat) : Int) = 18446744073709551616 := by decide
  rw [e]
  omega
theorem and_odd (n : Int) : (bits BinOp.and IntKind.i64 n 1 == 1) = odd n := by
  rw [and_bit]
  unfold odd
  rw [Bool.eq_iff_iff]
  simp only [beq_iff_eq, bne_iff_ne]
  omega

set_option maxHeartbeats 1000000 in
theorem rright_any (l r : Int) (w : World) :
    Calls Tryd.prog 60 #[.agg #[.int .i64 l, .int .i64 r]] w fun e w' => e = .returned (.bool (rt l r)) ∧ Below w.heap.size w w' := by
  go_enter Tryd.func60, Tryd.ntmps60
  go_wp2
  all_goals
    go_ret
    refine ⟨?_, ?_⟩
    · refine congrArg (fun b => Ending.returned (.bool b)) ?_
      unfold rt
      rw [Bool.eq_iff_iff]
      simp
      omega
    · go_grown

end Go.Proofs.YtgafjbmpaeejbaaDoor
namespace Go.Proofs.YtgafjbmpaeejbaaDoor
open Go.RowKit

theorem bdrew {g : Nat} {w w' : World} (h : Below g w w') (n : Nat) : Below g w (w'.drewN n) := ⟨h.1, h.2, h.3, h.4, h.5⟩
theorem rwithin_is {n most : Int} {b : Bool} (h : inN n most = b) (w : World) : Calls Tryd.prog 35 #[.int .i64 n, .int .i64 most] w fun e w' => e = .returned (.bool b) ∧ w' = w := by
  subst h
  exact (rwithin_any n most w).mono fun _ _ k => ⟨k.1, k.2.symm⟩
set_option maxHeartbeats 400000 in
theorem rcnt_is (n : Int) (w : World) (h0 : 0 ≤ n) (hn : n ≤ 9223372036854775807) :
    Calls Tryd.prog 61 #[.int .i64 n] w fun e w' => e = .returned (.int .i64 (cnt n.toNat : Nat)) ∧ w' = w := by
  have HC : Hid ((cnt n.toNat : Int) = countI n) := by
    show _ = _
    rw [← countI_nat]
    congr 1
    omega
  by_cases h : n < 1
  · go_enter Tryd.func61, Tryd.ntmps61
    go_wp2
    go_ret
    exact ⟨ret_int (by rw [HC.out]; unfold countI; rw [if_pos (by omega)]), rfl⟩
  · have h0 : 1 ≤ n := by omega
    go_enter Tryd.func61, Tryd.ntmps61
    go_wp2
    go_ret
    exact ⟨ret_int (by rw [HC.out]; unfold countI; rw [if_neg (by omega)]), rfl⟩

set_option maxHeartbeats 4000000 in
set_option maxRecDepth 20000 in
theorem rpiece_bad {w : World} {C : Option Addr} {c : Nat} {p : Pce} (hr : Rd w C (intV p.chunks)) (hs : p.path.size < 4294967281) (hc : p.chunks.length ≤ c) (hcm : c ≤ maxLen) (hbad : (rightL p.path.data.toList && rt p.l p.r && !(decide (p.l = 0) && decide (p.r = 0))) = false) :
    Calls Tryd.prog 36 #[pcA p C c] w fun e w' => e = .returned (.bool (pceR p)) ∧ Below w.heap.size w w' := by
  obtain ⟨xp, xh, xs, xc, xd, xl, xr⟩ := p
  dsimp only [pcA] at hr hs hc hbad ⊢
  have hal : ∀ (W : World) (o : Obj), Below W.heap.size W (W.alloc o) := fun W o => (Below.refl _ _).alloc (Nat.le_refl _) o
  obtain ⟨n, hn0⟩ : ∃ n, n = xc.length := ⟨_, rfl⟩
  have hnb : n ≤ c ∧ c ≤ 9223372036854775807 := by unfold maxLen at hcm; omega
  have HN := hid hn0
  rw [← hn0]
  have HR : Hid (pceR ⟨xp, xh, xs, xc, xd, xl, xr⟩ = (rightL xp.data.toList && rt xl xr && !(decide (xl = 0) && decide (xr = 0)) && (if xh then inN xs 600 && inN xd 4294967295 && decide (n = cnt xs.toNat) && xc.all (fun c => inN c 4294967295) else decide (xs = 0) && decide (xd = 0) && decide (n = 0)))) := by
    show _ = _
    have he : decide (n = 0) = decide (xc = []) := by rw [hn0]; cases xc <;> rfl
    rw [he, hn0]
    rfl
  clear hn0 hc hcm
  generalize pceR ⟨xp, xh, xs, xc, xd, xl, xr⟩ = Z at *
  have pk := Blk.new w [.string xp, .bool xh, .int .i64 xs, .slice C n c, .int .i64 xd, .int .i64 xl, .int .i64 xr] 35
  have b0 := hal w (.cells #[.string xp, .bool xh, .int .i64 xs, .slice C n c, .int .i64 xd, .int .i64 xl, .int .i64 xr] 35)
  have hr0 := hr.below b0
  go_enter Tryd.func36, Tryd.ntmps36
  go_wp2_with fail
  generalize w.alloc (.cells #[.string xp, .bool xh, .int .i64 xs, .slice C n c, .int .i64 xd, .int .i64 xl, .int .i64 xr] 35) = w0 at *
  refine (refRight xp _ hs).mono ?_
  rintro e w1 ⟨rfl, b1⟩
  simp only
  have pk1 := pk.below b1
  have bw1 := b0.trans (b1.mono b0.size)
  have hr1 := hr0.below b1
  clear pk hr0 hr b0 b1
  have c0 := pk1.cell 0
  have c1 := pk1.cell 1
  have c2 := pk1.cell 2
  have c3 := pk1.cell 3
  have c4 := pk1.cell 4
  have c5 := pk1.cell 5
  have c6 := pk1.cell 6
  simp only [List.getElem?_cons_zero, List.getElem?_cons_succ] at c0 c1 c2 c3 c4 c5 c6
  go_wp2_with fail
  refine (rright_any xl xr _).mono ?_
  rintro e w2 ⟨rfl, b2⟩
  simp only
  have pk2 := pk1.below b2
  have bw := bw1.trans (b2.mono bw1.size)
  have hr2 := hr1.below b2
  clear pk1 hr1 bw1 b2 c0 c1 c2 c3 c4 c5 c6
  have c0 := pk2.cell 0
  have c1 := pk2.cell 1
  have c2 := pk2.cell 2
  have c3 := pk2.cell 3
  have c4 := pk2.cell 4
  have c5 := pk2.cell 5
  have c6 := pk2.cell 6
  simp only [List.getElem?_cons_zero, List.getElem?_cons_succ] at c0 c1 c2 c3 c4 c5 c6
  clear pk2
  cases hA : rightL xp.data.toList
  · have HF : Hid (Z = false) := by show _ = _; rw [HR.out, hA]; rfl
    go_wp2
    go_ret
    exact ⟨ret_bool HF.out.symm, bw⟩
  cases hB : rt xl xr
  · have HF : Hid (Z = false) := by show _ = _; rw [HR.out, hB, Bool.and_false]; rfl
    go_wp2
    go_ret
    exact ⟨ret_bool HF.out.symm, bw⟩
  have h00 : xl = 0 ∧ xr = 0 := by rw [hA, hB] at hbad; simpa using hbad
  obtain ⟨l0, r0⟩ := h00
  clear hbad
  subst l0
  subst r0
  have HF : Hid (Z = false) := by show _ = _; rw [HR.out, hA, hB]; rfl
  go_wp2
  go_ret
  exact ⟨ret_bool HF.out.symm, bw⟩
set_option maxHeartbeats 4000000 in
set_option maxRecDepth 20000 in
theorem rpiece_r {w : World} {C : Option Addr} {c : Nat} {p : Pce} (hr : Rd w C (intV p.chunks)) (hs : p.path.size < 4294967281) (hc : p.chunks.length ≤ c) (hcm : c ≤ maxLen) (hA : rightL p.path.data.toList = true) (hB : rt p.l p.r = true) (L0 : Hid (p.l = 0)) (r0 : p.r ≠ 0) :
    Calls Tryd.prog 36 #[pcA p C c] w fun e w' => e = .returned (.bool (pceR p)) ∧ Below w.heap.size w w' := by
  obtain ⟨xp, xh, xs, xc, xd, xl, xr⟩ := p
  dsimp only [pcA] at hr hs hc hA hB L0 r0 ⊢
  have hal : ∀ (W : World) (o : Obj), Below W.heap.size W (W.alloc o) := fun W o => (Below.refl _ _).alloc (Nat.le_refl _) o
  obtain ⟨n, hn0⟩ : ∃ n, n = xc.length := ⟨_, rfl⟩
  have hnb : n ≤ c ∧ c ≤ 9223372036854775807 := by unfold maxLen at hcm; omega
  have HN := hid hn0
  rw [← hn0]
  have HR : Hid (pceR ⟨xp, xh, xs, xc, xd, xl, xr⟩ = (rightL xp.data.toList && rt xl xr && !(decide (xl = 0) && decide (xr = 0)) && (if xh then inN xs 600 && inN xd 4294967295 && decide (n = cnt xs.toNat) && xc.all (fun c => inN c 4294967295) else decide (xs = 0) && decide (xd = 0) && decide (n = 0)))) := by
    show _ = _
    have he : decide (n = 0) = decide (xc = []) := by rw [hn0]; cases xc <;> rfl
    rw [he, hn0]
    rfl
  clear hn0 hc hcm
  generalize pceR ⟨xp, xh, xs, xc, xd, xl, xr⟩ = Z at *
  have pk := Blk.new w [.string xp, .bool xh, .int .i64 xs, .slice C n c, .int .i64 xd, .int .i64 xl, .int .i64 xr] 35
  have b0 := hal w (.cells #[.string xp, .bool xh, .int .i64 xs, .slice C n c, .int .i64 xd, .int .i64 xl, .int .i64 xr] 35)
  have hr0 := hr.below b0
  go_enter Tryd.func36, Tryd.ntmps36
  go_wp2_with fail
  generalize w.alloc (.cells #[.string xp, .bool xh, .int .i64 xs, .slice C n c, .int .i64 xd, .int .i64 xl, .int .i64 xr] 35) = w0 at *
  refine (refRight xp _ hs).mono ?_
  rintro e w1 ⟨rfl, b1⟩
  simp only
  have pk1 := pk.below b1
  have bw1 := b0.trans (b1.mono b0.size)
  have hr1 := hr0.below b1
  clear pk hr0 hr b0 b1
  have c0 := pk1.cell 0
  have c1 := pk1.cell 1
  have c2 := pk1.cell 2
  have c3 := pk1.cell 3
  have c4 := pk1.cell 4
  have c5 := pk1.cell 5
  have c6 := pk1.cell 6
  simp only [List.getElem?_cons_zero, List.getElem?_cons_succ] at c0 c1 c2 c3 c4 c5 c6
  go_wp2_with fail
  refine (rright_any xl xr _).mono ?_
  rintro e w2 ⟨rfl, b2⟩
  simp only
  have pk2 := pk1.below b2
  have bw := bw1.trans (b2.mono bw1.size)
  have hr2 := hr1.below b2
  clear pk1 hr1 bw1 b2 c0 c1 c2 c3 c4 c5 c6
  have c0 := pk2.cell 0
  have c1 := pk2.cell 1
  have c2 := pk2.cell 2
  have c3 := pk2.cell 3
  have c4 := pk2.cell 4
  have c5 := pk2.cell 5
  have c6 := pk2.cell 6
  simp only [List.getElem?_cons_zero, List.getElem?_cons_succ] at c0 c1 c2 c3 c4 c5 c6
  clear pk2
  have l0 : xl = 0 := L0.out
  subst l0
  have HZ : Hid (Z = (if xh then inN xs 600 && inN xd 4294967295 && decide (n = cnt xs.toNat) && xc.all (fun c => inN c 4294967295) else decide (xs = 0) && decide (xd = 0) && decide (n = 0))) := by show _ = _; rw [HR.out, hA, hB, decide_eq_false r0, Bool.and_false]; rfl
  have hrb : (xr == 0) = false := by simp [r0]
  rw [hA, hB]
  clear hA hB HR
  cases xh
  · have HZ2 : Hid (Z = (decide (xs = 0) && decide (xd = 0) && decide (n = 0))) := HZ.out.trans (if_neg (by simp))
    by_cases s0 : xs = 0
    rotate_left
    · have hsb : (xs == 0) = false := by simp [s0]
      have HF : Hid (Z = false) := by show _ = _; rw [HZ2.out, decide_eq_false s0]; rfl
      go_wp2
      go_ret
      exact ⟨ret_bool HF.out.symm, bw⟩
    subst s0
    by_cases d0 : xd = 0
    rotate_left
    · have hdb : (xd == 0) = false := by simp [d0]
      have HF : Hid (Z = false) := by show _ = _; rw [HZ2.out, decide_eq_false d0]; rfl
      go_wp2
      go_ret
      exact ⟨ret_bool HF.out.symm, bw⟩
    subst d0
    by_cases n0 : n = 0
    rotate_left
    · have hnb2 : ((n : Int) == 0) = false := by simp [n0]
      have HF : Hid (Z = false) := by show _ = _; rw [HZ2.out, decide_eq_false n0]; rfl
      go_wp2
      go_ret
      exact ⟨ret_bool HF.out.symm, bw⟩
    subst n0
    have HF : Hid (Z = true) := by show _ = _; rw [HZ2.out]; rfl
    go_wp2
    go_ret
    exact ⟨ret_bool HF.out.symm, bw⟩
  have HZ2 : Hid (Z = (inN xs 600 && inN xd 4294967295 && decide (n = cnt xs.toNat) && xc.all (fun c => inN c 4294967295))) := HZ.out.trans (if_pos rfl)
  cases hS : inN xs 600
  · have cS := rwithin_is hS
    have HF : Hid (Z = false) := by show _ = _; rw [HZ2.out, hS]; rfl
    go_wp2_with fail
    go_quiet (first | (go_at_call 35; exact Calls.quiet_of_same (rwithin_is (by assumption) _)) | (go_at_call 61; exact Calls.quiet_of_same (cC _)))
    go_wp2
    go_ret
    exact ⟨ret_bool HF.out.symm, bdrew bw _⟩
  have cS := rwithin_is hS
  cases hD : inN xd 4294967295
  · have cD := rwithin_is hD
    have HF : Hid (Z = false) := by show _ = _; rw [HZ2.out, hD, Bool.and_false]; rfl
    go_wp2_with fail
    go_quiet (first | (go_at_call 35; exact Calls.quiet_of_same (rwithin_is (by assumption) _)) | (go_at_call 61; exact Calls.quiet_of_same (cC _)))
    go_wp2
    go_ret
    exact ⟨ret_bool HF.out.symm, bdrew bw _⟩
  have cD := rwithin_is hD
  have hs6 := inN_iff.1 hS
  have cC := fun W => rcnt_is xs W hs6.1 (by omega)
  have HZ3 : Hid (Z = (decide (n = cnt xs.toNat) && xc.all (fun c => inN c 4294967295))) := by show _ = _; rw [HZ2.out, hS, hD]; rfl
  clear HZ2
  generalize cnt xs.toNat = k at *
  by_cases hK : n = k
  rotate_left
  · have hkb : ((n : Int) == (k : Int)) = false := by simp; omega
    have HF : Hid (Z = false) := by show _ = _; rw [HZ3.out, decide_eq_false hK]; rfl
    go_wp2_with fail
    go_quiet (first | (go_at_call 35; exact Calls.quiet_of_same (rwithin_is (by assumption) _)) | (go_at_call 61; exact Calls.quiet_of_same (cC _)))
    go_wp2
    go_ret
    exact ⟨ret_bool HF.out.symm, bdrew bw _⟩
  subst hK
  have HA : Hid (Z = xc.all (fun c => inN c 4294967295)) := by show _ = _; rw [HZ3.out, decide_eq_true rfl]; rfl
  clear HZ3
  go_wp2_with fail
  go_quiet (first | (go_at_call 35; exact Calls.quiet_of_same (rwithin_is (by assumption) _)) | (go_at_call 61; exact Calls.quiet_of_same (cC _)))
  go_wp2_with fail
  clear cS cD cC hS hD
  go_loopw [5] (fun i wr => ∃ j : Nat, j ≤ n ∧ i = .int .i64 j ∧ Hid ((xc.take j).all (fun c => inN c 4294967295) = true) ∧ ∃ q, wr = w2.drewN q) (fun i _ => n - (intOf i).toNat)
  case atStart => exact ⟨0, by omega, rfl, rfl, _, rfl⟩
  case round =>
    obtain ⟨j, hj, rfl, HT, q, rfl⟩ := hrel
    by_cases hjn : j < n
    · have hjl : j < xc.length := by rw [← HN.out]; exact hjn
      obtain ⟨b, off, rfl, x0, -⟩ := int_at hr2 hjl
      have hz : (0 : Int) ≤ j := by omega
      have hlt : (j : Int) < n := by omega
      have HJ := hid hjn
      have HXY : Hid ((xc.take (j + 1)).all (fun c => inN c 4294967295) = inN xc[j] 4294967295) := by
        show _ = _
        rw [List.take_add_one, List.getElem?_eq_getElem hjl, List.all_append, HT.out]
        simp
      have HNE : Hid (inN xc[j] 4294967295 = false → Z = false) := by
        refine hid fun h => ?_
        rw [HA.out]
        refine Bool.eq_false_iff.2 fun ha => ?_
        rw [List.all_eq_true] at ha
        exact Bool.false_ne_true (h.symm.trans (ha _ (List.getElem_mem hjl)))
      generalize xc[j] = x at *
      cases hX : inN x 4294967295
      · have HF := hid (HNE.out hX)
        have cX := rwithin_is hX
        clear HXY HNE HT
        go_wp2_with fail
        refine (cX _).mono ?_
        rintro e w5 ⟨rfl, rfl⟩
        go_wp2
        go_ret
        exact ⟨ret_bool HF.out.symm, bdrew bw _⟩
      · have HT2 := hid (HXY.out.trans hX)
        have cX := rwithin_is hX
        clear HXY HNE HT
        go_wp2_with fail
        refine (cX _).mono ?_
        rintro e w5 ⟨rfl, rfl⟩
        go_wp2
        go_roundw
        case rel => exact ⟨j + 1, HJ.out, by go_num, HT2, _, rfl⟩
        case measure => have := HJ.out; simp [intOf]; omega
    · have hjn2 : j = n := by omega
      have HF : Hid (Z = true) := by
        have ht := HT.out
        rw [hjn2, List.take_of_length_le (by rw [HN.out]; exact Nat.le_refl _)] at ht
        exact HA.out.trans ht
      have hnl : ¬ (j : Int) < n := by omega
      go_wp2
      go_ret
      exact ⟨ret_bool HF.out.symm, bdrew bw _⟩
set_option maxHeartbeats 4000000 in
set_option maxRecDepth 20000 in
theorem rpiece_l {w : World} {C : Option Addr} {c : Nat} {p : Pce} (hr : Rd w C (intV p.chunks)) (hs : p.path.size < 4294967281) (hc : p.chunks.length ≤ c) (hcm : c ≤ maxLen) (hA : rightL p.path.data.toList = true) (hB : rt p.l p.r = true) (l0 : p.l ≠ 0) :
    Calls Tryd.prog 36 #[pcA p C c] w fun e w' => e = .returned (.bool (pceR p)) ∧ Below w.heap.size w w' := by
  obtain ⟨xp, xh, xs, xc, xd, xl, xr⟩ := p
  dsimp only [pcA] at hr hs hc hA hB l0 ⊢
  have hal : ∀ (W : World) (o : Obj), Below W.heap.size W (W.alloc o) := fun W o => (Below.refl _ _).alloc (Nat.le_refl _) o
  obtain ⟨n, hn0⟩ : ∃ n, n = xc.length := ⟨_, rfl⟩
  have hnb : n ≤ c ∧ c ≤ 9223372036854775807 := by unfold maxLen at hcm; omega
  have HN := hid hn0
  rw [← hn0]
  have HR : Hid (pceR ⟨xp, xh, xs, xc, xd, xl, xr⟩ = (rightL xp.data.toList && rt xl xr && !(decide (xl = 0) && decide (xr = 0)) && (if xh then inN xs 600 && inN xd 4294967295 && decide (n = cnt xs.toNat) && xc.all (fun c => inN c 4294967295) else decide (xs = 0) && decide (xd = 0) && decide (n = 0)))) := by
    show _ = _
    have he : decide (n = 0) = decide (xc = []) := by rw [hn0]; cases xc <;> rfl
    rw [he, hn0]
    rfl
  clear hn0 hc hcm
  generalize pceR ⟨xp, xh, xs, xc, xd, xl, xr⟩ = Z at *
  have pk := Blk.new w [.string xp, .bool xh, .int .i64 xs, .slice C n c, .int .i64 xd, .int .i64 xl, .int .i64 xr] 35
  have b0 := hal w (.cells #[.string xp, .bool xh, .int .i64 xs, .slice C n c, .int .i64 xd, .int .i64 xl, .int .i64 xr] 35)
  have hr0 := hr.below b0
  go_enter Tryd.func36, Tryd.ntmps36
  go_wp2_with fail
  generalize w.alloc (.cells #[.string xp, .bool xh, .int .i64 xs, .slice C n c, .int .i64 xd, .int .i64 xl, .int .i64 xr] 35) = w0 at *
  refine (refRight xp _ hs).mono ?_
  rintro e w1 ⟨rfl, b1⟩
  simp only
  have pk1 := pk.below b1
  have bw1 := b0.trans (b1.mono b0.size)
  have hr1 := hr0.below b1
  clear pk hr0 hr b0 b1
  have c0 := pk1.cell 0
  have c1 := pk1.cell 1
  have c2 := pk1.cell 2
  have c3 := pk1.cell 3
  have c4 := pk1.cell 4
  have c5 := pk1.cell 5
  have c6 := pk1.cell 6
  simp only [List.getElem?_cons_zero, List.getElem?_cons_succ] at c0 c1 c2 c3 c4 c5 c6
  go_wp2_with fail
  refine (rright_any xl xr _).mono ?_
  rintro e w2 ⟨rfl, b2⟩
  simp only
  have pk2 := pk1.below b2
  have bw := bw1.trans (b2.mono bw1.size)
  have hr2 := hr1.below b2
  clear pk1 hr1 bw1 b2 c0 c1 c2 c3 c4 c5 c6
  have c0 := pk2.cell 0
  have c1 := pk2.cell 1
  have c2 := pk2.cell 2
  have c3 := pk2.cell 3
  have c4 := pk2.cell 4
  have c5 := pk2.cell 5
  have c6 := pk2.cell 6
  simp only [List.getElem?_cons_zero, List.getElem?_cons_succ] at c0 c1 c2 c3 c4 c5 c6
  clear pk2
  have HZ : Hid (Z = (if xh then inN xs 600 && inN xd 4294967295 && decide (n = cnt xs.toNat) && xc.all (fun c => inN c 4294967295) else decide (xs = 0) && decide (xd = 0) && decide (n = 0))) := by show _ = _; rw [HR.out, hA, hB, decide_eq_false l0]; rfl
  have hlb : (xl == 0) = false := by simp [l0]
  rw [hA, hB]
  clear hA hB HR
  cases xh
  · have HZ2 : Hid (Z = (decide (xs = 0) && decide (xd = 0) && decide (n = 0))) := HZ.out.trans (if_neg (by simp))
    by_cases s0 : xs = 0
    rotate_left
    · have hsb : (xs == 0) = false := by simp [s0]
      have HF : Hid (Z = false) := by show _ = _; rw [HZ2.out, decide_eq_false s0]; rfl
      go_wp2
      go_ret
      exact ⟨ret_bool HF.out.symm, bw⟩
    subst s0
    by_cases d0 : xd = 0
    rotate_left
    · have hdb : (xd == 0) = false := by simp [d0]
      have HF : Hid (Z = false) := by show _ = _; rw [HZ2.out, decide_eq_false d0]; rfl
      go_wp2
      go_ret
      exact ⟨ret_bool HF.out.symm, bw⟩
    subst d0
    by_cases n0 : n = 0
    rotate_left
    · have hnb2 : ((n : Int) == 0) = false := by simp [n0]
      have HF : Hid (Z = false) := by show _ = _; rw [HZ2.out, decide_eq_false n0]; rfl
      go_wp2
      go_ret
      exact ⟨ret_bool HF.out.symm, bw⟩
    subst n0
    have HF : Hid (Z = true) := by show _ = _; rw [HZ2.out]; rfl
    go_wp2
    go_ret
    exact ⟨ret_bool HF.out.symm, bw⟩
  have HZ2 : Hid (Z = (inN xs 600 && inN xd 4294967295 && decide (n = cnt xs.toNat) && xc.all (fun c => inN c 4294967295))) := HZ.out.trans (if_pos rfl)
  cases hS : inN xs 600
  · have cS := rwithin_is hS
    have HF : Hid (Z = false) := by show _ = _; rw [HZ2.out, hS]; rfl
    go_wp2_with fail
    go_quiet (first | (go_at_call 35; exact Calls.quiet_of_same (rwithin_is (by assumption) _)) | (go_at_call 61; exact Calls.quiet_of_same (cC _)))
    go_wp2
    go_ret
    exact ⟨ret_bool HF.out.symm, bdrew bw _⟩
  have cS := rwithin_is hS
  cases hD : inN xd 4294967295
  · have cD := rwithin_is hD
    have HF : Hid (Z = false) := by show _ = _; rw [HZ2.out, hD, Bool.and_false]; rfl
    go_wp2_with fail
    go_quiet (first | (go_at_call 35; exact Calls.quiet_of_same (rwithin_is (by assumption) _)) | (go_at_call 61; exact Calls.quiet_of_same (cC _)))
    go_wp2
    go_ret
    exact ⟨ret_bool HF.out.symm, bdrew bw _⟩
  have cD := rwithin_is hD
  have hs6 := inN_iff.1 hS
  have cC := fun W => rcnt_is xs W hs6.1 (by omega)
  have HZ3 : Hid (Z = (decide (n = cnt xs.toNat) && xc.all (fun c => inN c 4294967295))) := by show _ = _; rw [HZ2.out, hS, hD]; rfl
  clear HZ2
  generalize cnt xs.toNat = k at *
  by_cases hK : n = k
  rotate_left
  · have hkb : ((n : Int) == (k : Int)) = false := by simp; omega
    have HF : Hid (Z = false) := by show _ = _; rw [HZ3.out, decide_eq_false hK]; rfl
    go_wp2_with fail
    go_quiet (first | (go_at_call 35; exact Calls.quiet_of_same (rwithin_is (by assumption) _)) | (go_at_call 61; exact Calls.quiet_of_same (cC _)))
    go_wp2
    go_ret
    exact ⟨ret_bool HF.out.symm, bdrew bw _⟩
  subst hK
  have HA : Hid (Z = xc.all (fun c => inN c 4294967295)) := by show _ = _; rw [HZ3.out, decide_eq_true rfl]; rfl
  clear HZ3
  go_wp2_with fail
  go_quiet (first | (go_at_call 35; exact Calls.quiet_of_same (rwithin_is (by assumption) _)) | (go_at_call 61; exact Calls.quiet_of_same (cC _)))
  go_wp2_with fail
  clear cS cD cC hS hD
  go_loopw [5] (fun i wr => ∃ j : Nat, j ≤ n ∧ i = .int .i64 j ∧ Hid ((xc.take j).all (fun c => inN c 4294967295) = true) ∧ ∃ q, wr = w2.drewN q) (fun i _ => n - (intOf i).toNat)
  case atStart => exact ⟨0, by omega, rfl, rfl, _, rfl⟩
  case round =>
    obtain ⟨j, hj, rfl, HT, q, rfl⟩ := hrel
    by_cases hjn : j < n
    · have hjl : j < xc.length := by rw [← HN.out]; exact hjn
      obtain ⟨b, off, rfl, x0, -⟩ := int_at hr2 hjl
      have hz : (0 : Int) ≤ j := by omega
      have hlt : (j : Int) < n := by omega
      have HJ := hid hjn
      have HXY : Hid ((xc.take (j + 1)).all (fun c => inN c 4294967295) = inN xc[j] 4294967295) := by
        show _ = _
        rw [List.take_add_one, List.getElem?_eq_getElem hjl, List.all_append, HT.out]
        simp
      have HNE : Hid (inN xc[j] 4294967295 = false → Z = false) := by
        refine hid fun h => ?_
        rw [HA.out]
        refine Bool.eq_false_iff.2 fun ha => ?_
        rw [List.all_eq_true] at ha
        exact Bool.false_ne_true (h.symm.trans (ha _ (List.getElem_mem hjl)))
      generalize xc[j] = x at *
      cases hX : inN x 4294967295
      · have HF := hid (HNE.out hX)
        have cX := rwithin_is hX
        clear HXY HNE HT
        go_wp2_with fail
        refine (cX _).mono ?_
        rintro e w5 ⟨rfl, rfl⟩
        go_wp2
        go_ret
        exact ⟨ret_bool HF.out.symm, bdrew bw _⟩
      · have HT2 := hid (HXY.out.trans hX)
        have cX := rwithin_is hX
        clear HXY HNE HT
        go_wp2_with fail
        refine (cX _).mono ?_
        rintro e w5 ⟨rfl, rfl⟩
        go_wp2
        go_roundw
        case rel => exact ⟨j + 1, HJ.out, by go_num, HT2, _, rfl⟩
        case measure => have := HJ.out; simp [intOf]; omega
    · have hjn2 : j = n := by omega
      have HF : Hid (Z = true) := by
        have ht := HT.out
        rw [hjn2, List.take_of_length_le (by rw [HN.out]; exact Nat.le_refl _)] at ht
        exact HA.out.trans ht
      have hnl : ¬ (j : Int) < n := by omega
      go_wp2
      go_ret
      exact ⟨ret_bool HF.out.symm, bdrew bw _⟩
theorem rpiece_any {w : World} {C : Option Addr} {c : Nat} {p : Pce} (hr : Rd w C (intV p.chunks)) (hs : p.path.size < 4294967281) (hc : p.chunks.length ≤ c) (hcm : c ≤ maxLen) :
    Calls Tryd.prog 36 #[pcA p C c] w fun e w' => e = .returned (.bool (pceR p)) ∧ Below w.heap.size w w' := by
  cases hk : (rightL p.path.data.toList && rt p.l p.r && !(decide (p.l = 0) && decide (p.r = 0))) with
  | false => exact rpiece_bad hr hs hc hcm hk
  | true =>
    rw [Bool.and_eq_true, Bool.and_eq_true] at hk
    obtain ⟨⟨hA, hB⟩, h0⟩ := hk
    by_cases l0 : p.l = 0
    · refine rpiece_r hr hs hc hcm hA hB (hid l0) fun r0 => ?_
      rw [l0, r0] at h0
      exact absurd h0 (by decide)
    · exact rpiece_l hr hs hc hcm hA hB l0
end Go.Proofs.YtgafjbmpaeejbaaDoor
namespace Go.Proofs.YtgafjbmpaeejbaaDoor
open Go.RowKit

/-- A store of what is there already. -/
theorem set_same {w : World} {g : Nat} {cs : List Value} {t : TypeId} (h : Blk w g cs t) (i : Nat) (u : Value) (hu : cs[i]? = some u) : w.setCell ⟨g, i, none⟩ u = w := by
  have hh : (w.setCell ⟨g, i, none⟩ u).heap = w.heap := by
    apply Array.ext_getElem?
    intro k
    by_cases hk : k = g
    · subst hk
      have h1 := h.set_ i u
      unfold Blk at h1 h
      rw [h1, h]
      congr 2
      have : cs.set i u = cs := by
        obtain ⟨hi, rfl⟩ := List.getElem?_eq_some_iff.1 hu
        exact List.set_getElem_self hi
      rw [this]
    · exact Below.heap_setCell w _ u k hk
  show { w with heap := (w.setCell ⟨g, i, none⟩ u).heap } = w
  rw [hh]

set_option maxHeartbeats 400000 in
theorem rdNumber_bad (g : Nat) (A : Option Addr) (c : Nat) (l : List UInt8) (p : Nat) (e : Int) (most : Int) (w : World) (hq : RdrAt w g A c l p e) (he : (e != 0) = true) :
    Calls Tryd.prog 45 #[.pointer (some ⟨g, 0, none⟩), .int .i64 most] w fun r w' => r = .returned (.int .i64 0) ∧ w' = w := by
  obtain ⟨hb, _⟩ := hq
  have c2 := hb.cell 2
  simp only [List.getElem?_cons_zero, List.getElem?_cons_succ] at c2
  go_enter Tryd.func45, Tryd.ntmps45
  go_wp2
  go_ret
  exact ⟨rfl, rfl⟩

set_option maxHeartbeats 400000 in
theorem rdString_bad (g : Nat) (A : Option Addr) (c : Nat) (l : List UInt8) (p : Nat) (e : Int) (most : Int) (w : World) (hq : RdrAt w g A c l p e) (he : (e != 0) = true) :
    Calls Tryd.prog 70 #[.pointer (some ⟨g, 0, none⟩), .int .i64 most] w fun r w' => r = .returned (.string ⟨#[]⟩) ∧ w' = w := by
  have h' := hq
  obtain ⟨hb, _⟩ := h'
  have c1 := hb.cell 1
  have c2 := hb.cell 2
  simp only [List.getElem?_cons_zero, List.getElem?_cons_succ] at c1 c2
  go_enter Tryd.func70, Tryd.ntmps70
  go_wp2_with fail
  all_goals
    refine (rdNumber_bad g A c l p e _ _ hq he).mono ?_
    rintro r w' ⟨rfl, rfl⟩
    go_wp2
    go_ret
    exact ⟨rfl, rfl⟩

set_option maxHeartbeats 400000 in
theorem rdEnd_bad (g : Nat) (A : Option Addr) (c : Nat) (l : List UInt8) (p : Nat) (e : Int) (w : World) (hq : RdrAt w g A c l p e) (he : (e == 0) = false) :
    Calls Tryd.prog 48 #[.pointer (some ⟨g, 0, none⟩)] w fun r w' => r = .returned (.int .i64 e) ∧ w' = w := by
  obtain ⟨hb, _⟩ := hq
  have c2 := hb.cell 2
  simp only [List.getElem?_cons_zero, List.getElem?_cons_succ] at c2
  go_enter Tryd.func48, Tryd.ntmps48
  go_wp2
  go_ret
  exact ⟨rfl, rfl⟩
end Go.Proofs.YtgafjbmpaeejbaaDoor
namespace Go.Proofs.YtgafjbmpaeejbaaDoor
open Go.RowKit

theorem intk_at {w : World} {A : Option Addr} {zs : List Int} {k : IntKind} (h : Rd w A (zs.map (Value.int k))) {j : Nat} (hj : j < zs.length) : ∃ b off, A = some ⟨b, off, none⟩ ∧ w.cell? ⟨b, off + j, none⟩ = some (.int k zs[j]) := by
  obtain ⟨b, off, rfl, hc, _⟩ := h.at_ (k := j) (by simpa using hj)
  exact ⟨b, off, rfl, by rw [hc]; simp⟩

/-- What holds at the head of the loop. -/
def OneInv (w : World) (g : Nat) (B : Option Addr) (d : Nat) (M : List UInt8) (j : Nat) (v : Value) (wr : World) : Prop :=
  ∃ p e A1 c1 out, v = .slice A1 out.length c1 ∧ RdrAt wr g B d M p e ∧ Rd wr A1 (by8 out) ∧ out.length ≤ j * 4200000 ∧ (e = 0 → out = M.take p) ∧ Below w.heap.size w wr

theorem one_step {w w2 w3 : World} {g : Nat} {B : Option Addr} {d : Nat} {M : List UInt8} {j p p' : Nat} {e e' : Int} {A2 : Option Addr} {c2 : Nat} {out more : List UInt8} (hb : Below w.heap.size w w2) (hq : RdrAt w2 g B d M p' e') (hb3 : Below w2.heap.size w2 w3)
    (hown : w3.ownsRow w2.heap.size 5 1 (.slice A2 (out.length + more.length) c2) (out.length + more.length) (by8 (out ++ more))) (hlen : out.length ≤ j * 4200000) (hm : more.length ≤ 4200000) (ho : e = 0 → out = M.take p)
    (hone : e' = 0 → e = 0 ∧ M.take p ++ more = M.take p') : OneInv w g B d M (j + 1) (.slice A2 (out.length + more.length) c2) w3 := by
  refine ⟨p', e', A2, c2, out ++ more, by simp, hq.below hb3, Rd.of_own hown, by simp; omega, ?_, hb.trans (hb3.mono hb.size)⟩
  intro h
  obtain ⟨h1, h2⟩ := hone h
  rw [ho h1, h2]

end Go.Proofs.YtgafjbmpaeejbaaDoor
namespace Go.Proofs.YtgafjbmpaeejbaaDoor
open Go.RowKit

/-- A call that leaves the world as it was leaves whatever holds of it. -/
theorem still_call {P : Program} {f : FuncId} {args : Array Value} {W : World} {v : Value} {R : World → Prop} (h : Calls P f args W fun e w' => e = .returned v ∧ w' = W) (hR : R W) : Calls P f args W fun e w' => e = .returned v ∧ R w' :=
  h.mono fun _ _ hx => ⟨hx.1, by rw [hx.2]; exact hR⟩
theorem turn_call {P : Program} {f : FuncId} {args : Array Value} {W : World} {v : Value} (h : Calls P f args W fun e w' => e = .returned v ∧ W = w') : Calls P f args W fun e w' => e = .returned v ∧ w' = W := h.mono fun _ _ hx => ⟨hx.1, hx.2.symm⟩

def StopsInv (w : World) (g : Nat) (B : Option Addr) (d : Nat) (M : List UInt8) (p : Nat) (e : Int) (wr : World) : Prop := RdrAt wr g B d M p e ∧ Below w.heap.size w wr

end Go.Proofs.YtgafjbmpaeejbaaDoor
namespace Go.Proofs.YtgafjbmpaeejbaaDoor
open Go.RowKit

theorem Rd.far {w0 w w' : World} {A : Option Addr} {xs : List Value} {row : Option Nat} (h0 : Rd w0 A xs) (h : Rd w A xs) (hg : w.grownBy w' row) (hrow : ∀ k, row = some k → w0.heap.size ≤ k) : Rd w' A xs := by
  rcases h with rfl | ⟨ad, rfl, hc⟩
  · exact .inl rfl
  · refine .inr ⟨ad, rfl, fun j u hu => ?_⟩
    have hin := hc j u hu
    have hbl : ad.block < w0.heap.size := by
      rcases h0 with rfl | ⟨ad', he, hc'⟩
      · simp at hu
      · injection he with he
        subst he
        have := World.block_lt_of_cell? w0 _ (hc' j u hu)
        rwa [add_block] at this
    refine (World.cell?_of_block (hg.block _ (World.block_lt_of_cell? w _ hin) ?_)).trans hin
    rw [add_block]
    exact fun e => by have := hrow _ e.symm; omega

theorem rStr_err_place (l : List UInt8) (p : Nat) (each : Int) (h : (rStr l p 0 each).2.2 ≠ 0) : (rStr l p 0 each).2.1 = p := by
  unfold rStr strOf at *
  split at h <;> rename_i h1
  · rw [if_pos h1]
  · rw [if_neg h1]
    split at h <;> rename_i h2
    · rw [if_pos h2]
    · simp at h
theorem rStr_err_str (l : List UInt8) (p : Nat) (e each : Int) (h : (rStr l p e each).2.2 ≠ 0) : (rStr l p e each).1 = [] := by
  unfold rStr strOf at *
  split at h <;> rename_i h1
  · rw [if_pos h1]
  · rw [if_neg h1]
    split at h <;> rename_i h2
    · rw [if_pos h2]
    · simp at h

/-- What holds at the head of the loop. -/
def RowsInv (w w5 : World) (gx : Nat) (Bx : Option Addr) (dx px : Nat) (ex : Int) (gy : Nat) (By : Option Addr) (dy : Nat) (M : List UInt8) (each : Int) (Al : Option Addr) (xs : List Value) (j : Nat) (A1 : Option Addr) (c1 : Nat) (wr : World) : Prop :=
  ∃ outs : List ByteArray, outs.length = j ∧ ((steps M each 4 j).2.2 = 0 → outs = (steps M each 4 j).1.map toS) ∧ wr.ownsRow w5.heap.size 9 1 (.slice A1 j c1) j (strV outs) ∧
    RdrAt wr gx Bx dx M px ex ∧ RdrAt wr gy By dy M (steps M each 4 j).2.1 (steps M each 4 j).2.2 ∧ Rd wr Al xs ∧ Below w.heap.size w wr ∧ w5.heap.size ≤ wr.heap.size

end Go.Proofs.YtgafjbmpaeejbaaDoor
namespace Go.Proofs.YtgafjbmpaeejbaaDoor
open Go.RowKit

theorem Rd.drewN {w : World} {A : Option Addr} {xs : List Value} (h : Rd w A xs) (n : Nat) : Rd (w.drewN n) A xs := h

/-- The document's reader lies in block g. -/
def RefAt (w : World) (g : Nat) (A : Option Addr) (c : Nat) (l : List UInt8) (p : Nat) (e : Int) : Prop :=
  Blk w g [.slice A l.length c, .int .i64 p, .int .i64 e] 75 ∧ Rd w A (by8 l) ∧ l.length ≤ c ∧ c ≤ maxLen ∧ p ≤ l.length
theorem RefAt.drewN {w : World} {g : Nat} {A : Option Addr} {c : Nat} {l : List UInt8} {p : Nat} {e : Int} (h : RefAt w g A c l p e) (n : Nat) : RefAt (w.drewN n) g A c l p e := h
theorem ref_err {w w' : World} {g : Nat} {A : Option Addr} {c : Nat} {l : List UInt8} {p : Nat} {e e' : Int} (h : RefAt w g A c l p e) (hg : w' = w.setCell ⟨g, 2, none⟩ (.int .i64 e')) : RefAt w' g A c l p e' := by
  subst hg
  obtain ⟨hb, hr, h1, h2, h3⟩ := h
  exact ⟨hb.set_ 2 _, hr.grown (grown_set 2 _) (blk_not_by8 hb), h1, h2, h3⟩
theorem ref_pos {w w' : World} {g : Nat} {A : Option Addr} {c : Nat} {l : List UInt8} {p p' : Nat} {e : Int} (h : RefAt w g A c l p e) (hp : p' ≤ l.length) (hg : w' = w.setCell ⟨g, 1, none⟩ (.int .i64 p')) : RefAt w' g A c l p' e := by
  subst hg
  obtain ⟨hb, hr, h1, h2, h3⟩ := h
  exact ⟨hb.set_ 1 _, hr.grown (grown_set 1 _) (blk_not_by8 hb), h1, h2, hp⟩
theorem RefAt.far {w0 w w' : World} {g : Nat} {A : Option Addr} {c : Nat} {l : List UInt8} {p p0 : Nat} {e e0 : Int} {row : Option Nat} (h0 : RefAt w0 g A c l p0 e0) (h : RefAt w g A c l p e) (hg : w.grownBy w' row) (hsz : w0.heap.size ≤ w.heap.size)
    (hrow : ∀ k, row = some k → w0.heap.size ≤ k) : RefAt w' g A c l p e := by
  obtain ⟨hb, hr, h1, h2, h3⟩ := h
  have hlt := h0.1.lt
  refine ⟨?_, Rd.far h0.2.1 hr hg hrow, h1, h2, h3⟩
  unfold Blk
  rw [hg.block g (by omega) (fun e => by have := hrow g e.symm; omega)]
  exact hb
theorem RefAt.below {w w' : World} {g : Nat} {A : Option Addr} {c : Nat} {l : List UInt8} {p : Nat} {e : Int} (h : RefAt w g A c l p e) (hb : Below w.heap.size w w') : RefAt w' g A c l p e :=
  RefAt.far (row := none) h h (grown_below hb) (Nat.le_refl _) (by simp)
theorem RefAt.apart {w w' : World} {g g' : Nat} {A : Option Addr} {c : Nat} {l : List UInt8} {p : Nat} {e : Int} {n' c' : Nat} {A' : Option Addr} {p' e' : Int} {t : TypeId} (h : RefAt w g A c l p e) (hb : Blk w g' [.slice A' n' c', .int .i64 p', .int .i64 e'] t) (hg : w.grownBy w' (some g')) (hne : g ≠ g') : RefAt w' g A c l p e := by
  obtain ⟨h0, hr, h1, h2, h3⟩ := h
  refine ⟨?_, hr.grown hg (blk_not_by8 hb), h1, h2, h3⟩
  unfold Blk
  rw [hg.block g (Blk.lt h0) (by simpa using hne)]
  exact h0
def RefPost (w : World) (g : Nat) (A : Option Addr) (c : Nat) (l : List UInt8) (v : Value) (q : Nat × Int) (r : Ending) (w' : World) : Prop :=
  r = .returned v ∧ RefAt w' g A c l q.1 q.2 ∧ w.grownBy w' (some g)
theorem rNum_place (l : List UInt8) (p : Nat) (e most : Int) (hp : p ≤ l.length) : (rNum l p e most).2.1 ≤ l.length := by
  rcases rNum_cases l p e most with ⟨e', _, hx⟩ | ⟨n, _, _, _, h4, _, hx⟩ <;> rw [hx] <;> simp only <;> omega
theorem rStr_place (l : List UInt8) (p : Nat) (e most : Int) (hp : p ≤ l.length) : (rStr l p e most).2.1 ≤ l.length := by
  unfold rStr strOf
  split
  · exact hp
  · split
    · exact hp
    · simp only; omega

set_option maxHeartbeats 1000000 in
theorem refRNumber (g : Nat) (A : Option Addr) (c : Nat) (l : List UInt8) (p : Nat) (e : Int) (most : Int) (w : World) (h : RefAt w g A c l p e) (hl : l.length ≤ 140737488355328) :
    Calls Tryd.prog 49 #[.pointer (some ⟨g, 0, none⟩), .int .i64 most] w (RefPost w g A c l (.int .i64 (rNum l p e most).1) (rNum l p e most).2) := by
  have h' := h
  obtain ⟨hb, hr, h1, h2, h3⟩ := h'
  have c0 := hb.cell 0
  have c1 := hb.cell 1
  have c2 := hb.cell 2
  have f1 := hb.frozen 1
  have f2 := hb.frozen 2
  simp only [List.getElem?_cons_zero, List.getElem?_cons_succ] at c0 c1 c2
  by_cases he : e = 0
  · subst he
    have hpl := rNum_place l p 0 most h3
    have K := fun m => still_call (R := fun w' => ∃ k, w' = w.drewN k) (turn_call (refnum A l.length c l p most (w.drewN m) rfl (hr.drewN m) hl h3)) ⟨m, rfl⟩
    have HK := hid K
    clear K
    generalize rNum l p 0 most = z at *
    obtain ⟨z1, z2, z3⟩ := z
    simp only at HK hpl ⊢
    go_enter Tryd.func49, Tryd.ntmps49
    go_wp2_with fail
    go_quiet ((go_at_call 71; exact HK.out _))
    go_wp2
    go_ret
    exact ⟨rfl, ref_err (ref_pos (h.drewN nq) hpl rfl) rfl, grown_trans (grown_trans (grown_drewN (World.grownBy.refl _ _) nq) (grown_set 1 _)) (grown_set 2 _)⟩
  · have he' : (e != 0) = true := by simp [he]
    rw [rNum_bad he]
    go_enter Tryd.func49, Tryd.ntmps49
    go_wp2
    go_ret
    exact ⟨rfl, h, World.grownBy.refl _ _⟩

set_option maxHeartbeats 1000000 in
theorem refRString (g : Nat) (A : Option Addr) (c : Nat) (l : List UInt8) (p : Nat) (e : Int) (most : Int) (w : World) (h : RefAt w g A c l p e) (hl : l.length ≤ 140737488355328) :
    Calls Tryd.prog 50 #[.pointer (some ⟨g, 0, none⟩), .int .i64 most] w (RefPost w g A c l (.string ⟨(rStr l p e most).1.toArray⟩) (rStr l p e most).2) := by
  have h' := h
  obtain ⟨hb, hr, h1, h2, h3⟩ := h'
  have c0 := hb.cell 0
  have c1 := hb.cell 1
  have c2 := hb.cell 2
  have f1 := hb.frozen 1
  have f2 := hb.frozen 2
  simp only [List.getElem?_cons_zero, List.getElem?_cons_succ] at c0 c1 c2
  by_cases he : e = 0
  · subst he
    have hpl := rStr_place l p 0 most h3
    have K := fun m => still_call (R := fun w' => ∃ k, w' = w.drewN k) (turn_call (reftext A l.length c l p most (w.drewN m) rfl (hr.drewN m) h1 hl h3)) ⟨m, rfl⟩
    have HK := hid K
    clear K
    generalize rStr l p 0 most = z at *
    obtain ⟨z1, z2, z3⟩ := z
    simp only at HK hpl ⊢
    go_enter Tryd.func50, Tryd.ntmps50
    go_wp2_with fail
    go_quiet ((go_at_call 72; exact HK.out _))
    go_wp2
    go_ret
    exact ⟨rfl, ref_err (ref_pos (h.drewN nq) hpl rfl) rfl, grown_trans (grown_trans (grown_drewN (World.grownBy.refl _ _) nq) (grown_set 1 _)) (grown_set 2 _)⟩
  · have he' : (e != 0) = true := by simp [he]
    rw [rStr_bad he]
    go_enter Tryd.func50, Tryd.ntmps50
    go_wp2
    go_ret
    exact ⟨rfl, h, World.grownBy.refl _ _⟩

set_option maxHeartbeats 1000000 in
theorem refREnd (g : Nat) (A : Option Addr) (c : Nat) (l : List UInt8) (p : Nat) (e : Int) (w : World) (h : RefAt w g A c l p e) :
    Calls Tryd.prog 51 #[.pointer (some ⟨g, 0, none⟩)] w (RefPost w g A c l (.int .i64 (rEnd l p e)) (p, rEnd l p e)) := by
  have h' := h
  obtain ⟨hb, hr, h1, h2, h3⟩ := h'
  have c0 := hb.cell 0
  have c1 := hb.cell 1
  have c2 := hb.cell 2
  have f2 := hb.frozen 2
  simp only [List.getElem?_cons_zero, List.getElem?_cons_succ] at c0 c1 c2
  by_cases he : e = 0
  · subst he
    by_cases hp : p < l.length
    · have hd : decide (p < l.length) = true := by simpa using hp
      rw [rEnd, if_pos ⟨rfl, hp⟩]
      go_enter Tryd.func51, Tryd.ntmps51
      go_wp2_with fail
      go_quiet (fail)
      go_wp2
      go_ret
      exact ⟨rfl, ref_err (h.drewN nq) rfl, grown_trans (grown_drewN (World.grownBy.refl _ _) nq) (grown_set 2 _)⟩
    · have hd : decide (p < l.length) = false := by simpa using hp
      rw [rEnd, if_neg (by omega)]
      go_enter Tryd.func51, Tryd.ntmps51
      go_wp2_with fail
      go_quiet (fail)
      go_wp2
      go_ret
      exact ⟨rfl, h.drewN nq, grown_drewN (World.grownBy.refl _ _) nq⟩
  · have he' : (e == 0) = false := by simp [he]
    rw [rEnd, if_neg (by omega)]
    go_enter Tryd.func51, Tryd.ntmps51
    go_wp2_with fail
    go_quiet (fail)
    go_wp2
    go_ret
    exact ⟨rfl, h.drewN nq, grown_drewN (World.grownBy.refl _ _) nq⟩
end Go.Proofs.YtgafjbmpaeejbaaDoor
