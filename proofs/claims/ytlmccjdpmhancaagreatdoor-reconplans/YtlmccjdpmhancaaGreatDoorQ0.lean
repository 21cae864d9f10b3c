/- The texts Zl, Cm, Zo, Zp, in one. -/
import Derived.Test.YtlmccjdpmhancaaGreatDoorP7
namespace Go.Proofs.YtlmccjdpmhancaaGreatDoor
open Go.RowKit

/-! ### What keeps entries from being an archive -/
def undB (a b : ByteArray) : Bool := underL a.data.toList b.data.toList
def undE (a b : Ent) : Bool := a.has && b.has && undB a.path b.path
def mayN (es : List Ent) : Nat := if 16 < (filesOf es).length ∨ 32 < es.length then 2 else if es.any (fun a => es.any (undE a)) then 6 else 0
theorem und_self (a : ByteArray) : undB a a = false := by unfold undB underL; rw [pre_no (Nat.le_refl _), Bool.and_false]
theorem apt_iff {l : List ByteArray} : Apt l ↔ ∀ a ∈ l, ∀ b ∈ l, undB a b = false := by
  constructor
  · intro h a ha b hb
    obtain ⟨i, hi, rfl⟩ := List.mem_iff_getElem.1 ha
    obtain ⟨j, hj, rfl⟩ := List.mem_iff_getElem.1 hb
    rcases Nat.lt_trichotomy i j with k | k | k
    · have := List.pairwise_iff_getElem.1 h i j hi hj k
      unfold clB clashL at this
      rw [Bool.or_eq_false_iff] at this
      exact this.2
    · subst k; exact und_self _
    · have := List.pairwise_iff_getElem.1 h j i hj hi k
      unfold clB clashL at this
      rw [Bool.or_eq_false_iff] at this
      exact this.1
  · intro h
    refine List.pairwise_iff_getElem.2 fun i j hi hj _ => ?_
    unfold clB clashL
    rw [Bool.or_eq_false_iff]
    exact ⟨h _ (List.getElem_mem hj) _ (List.getElem_mem hi), h _ (List.getElem_mem hi) _ (List.getElem_mem hj)⟩
theorem fpaths_mem {es : List Ent} {x : ByteArray} : x ∈ fpaths es ↔ ∃ e ∈ es, e.has = true ∧ e.path = x := by
  unfold fpaths
  rw [List.mem_map]
  constructor
  · rintro ⟨f, hf, rfl⟩
    obtain ⟨e, he, hh, rfl⟩ := mem_files.1 hf
    exact ⟨e, he, hh, rfl⟩
  · rintro ⟨e, he, hh, rfl⟩
    exact ⟨_, mem_files.2 ⟨e, he, hh, rfl⟩, rfl⟩
theorem und_all {es : List Ent} : (es.any fun a => es.any (undE a)) = false ↔ Apt (fpaths es) := by
  rw [apt_iff]
  constructor
  · intro h a ha b hb
    obtain ⟨x, hx, hh, rfl⟩ := fpaths_mem.1 ha
    obtain ⟨y, hy, hk, rfl⟩ := fpaths_mem.1 hb
    have h1 := Bool.eq_false_iff.2 (List.any_eq_false.1 h x hx)
    have h2 := Bool.eq_false_iff.2 (List.any_eq_false.1 h1 y hy)
    unfold undE at h2
    rwa [hh, hk, Bool.true_and, Bool.true_and] at h2
  · intro h
    refine List.any_eq_false.2 fun x hx => ?_
    rw [Bool.not_eq_true]
    refine List.any_eq_false.2 fun y hy => ?_
    rw [Bool.not_eq_true]
    unfold undE
    cases hh : x.has with
    | false => rfl
    | true =>
      cases hk : y.has with
      | false => rfl
      | true => exact h _ (fpaths_mem.2 ⟨x, hx, hh, rfl⟩) _ (fpaths_mem.2 ⟨y, hy, hk, rfl⟩)
theorem may_fit (es : List Ent) : mayN es = fitN es := by
  unfold mayN fitN
  by_cases h : 32 < es.length ∨ 16 < (filesOf es).length
  · rw [if_pos h, if_pos h.symm]
  · rw [if_neg h, if_neg fun k => h k.symm]
    by_cases ha : Apt (fpaths es)
    · rw [if_pos ha, und_all.2 ha]; rfl
    · rw [if_neg ha, if_pos]
      cases hc : es.any fun a => es.any (undE a) with
      | true => rfl
      | false => exact absurd (und_all.1 hc) ha
theorem may_full {es : List Ent} (h : 16 < (filesOf es).length ∨ 32 < es.length) : fitN es = 2 := by rw [← may_fit, mayN, if_pos h]
theorem may_name {es : List Ent} (h : ¬ (16 < (filesOf es).length ∨ 32 < es.length)) {i k : Nat} (hi : i < es.length) (hk : k < es.length) (hu : undE es[i] es[k] = true) : fitN es = 6 := by
  rw [← may_fit, mayN, if_neg h, if_pos]
  exact List.any_eq_true.2 ⟨_, List.getElem_mem hi, List.any_eq_true.2 ⟨_, List.getElem_mem hk, hu⟩⟩
theorem may_ok {es : List Ent} (h : ¬ (16 < (filesOf es).length ∨ 32 < es.length)) (hu : ∀ i (hi : i < es.length) k (hk : k < es.length), undE es[i] es[k] = false) : fitN es = 0 := by
  rw [← may_fit, mayN, if_neg h, if_neg]
  rw [Bool.not_eq_true]
  refine List.any_eq_false.2 fun x hx => ?_
  rw [Bool.not_eq_true]
  refine List.any_eq_false.2 fun y hy => ?_
  obtain ⟨i, hi, rfl⟩ := List.mem_iff_getElem.1 hx
  obtain ⟨k, hk, rfl⟩ := List.mem_iff_getElem.1 hy
  simp [hu i hi k hk]
theorem cnt_more (es : List Ent) (j : Nat) (h : j < es.length) : (filesOf (es.take (j + 1))).length = (filesOf (es.take j)).length + (if es[j].has then 1 else 0) := by
  rw [filesOf_more es j h, List.length_append]
  congr 1
  split <;> rfl

/-! ### Both, one by one -/
theorem mrgD_l {es fs : List Ent} {i k : Nat} (hi : i < es.length) (hk : fs.length ≤ k ∨ ∃ h : k < fs.length, epth es[i] < epth fs[k]) : mrgL (es.drop i) (fs.drop k) = (es[i], false) :: mrgL (es.drop (i + 1)) (fs.drop k) := by
  rw [List.drop_eq_getElem_cons hi]
  rcases hk with hk | ⟨hk, hlt⟩
  · rw [List.drop_of_length_le hk, mrgL]
  · rw [List.drop_eq_getElem_cons hk, mrgL, if_neg, if_pos ((less_iff _ _).2 hlt)]
    intro e
    rw [epth, epth, e] at hlt
    exact List.lt_irrefl _ hlt
theorem mrgD_r {es fs : List Ent} {i k : Nat} (hk : k < fs.length) (hi : es.length ≤ i ∨ ∃ h : i < es.length, epth fs[k] < epth es[i]) : mrgL (es.drop i) (fs.drop k) = (fs[k], false) :: mrgL (es.drop i) (fs.drop (k + 1)) := by
  rw [List.drop_eq_getElem_cons hk]
  rcases hi with hi | ⟨hi, hlt⟩
  · rw [List.drop_of_length_le hi, mrgL]
  · rw [List.drop_eq_getElem_cons hi, mrgL, if_neg, if_neg]
    · intro e
      exact absurd hlt (List.lt_asymm ((less_iff _ _).1 e))
    · intro e
      rw [epth, epth, e] at hlt
      exact List.lt_irrefl _ hlt
theorem mrgD_b {es fs : List Ent} {i k : Nat} (hi : i < es.length) (hk : k < fs.length) (h : es[i].path = fs[k].path) : mrgL (es.drop i) (fs.drop k) = comeE es[i] fs[k] :: mrgL (es.drop (i + 1)) (fs.drop (k + 1)) := by
  rw [List.drop_eq_getElem_cons hi, List.drop_eq_getElem_cons hk, mrgL, if_pos h]
theorem mAp_snoc (D : List (Ent × Bool)) (x : Ent × Bool) : mAp (D ++ [x]) = mAp D ++ [x.1] := by unfold mAp; rw [List.map_append]; rfl
theorem mCp_snoc (D : List (Ent × Bool)) (x : Ent × Bool) : mCp (D ++ [x]) = mCp D ++ (if x.2 then [x.1.path] else []) := by
  unfold mCp
  rw [List.filter_append, List.map_append]
  congr 1
  rw [List.filter_cons]
  split <;> rfl
/-- What is done, and what is to come. -/
def MrgAt (es fs : List Ent) (i k : Nat) (D : List (Ent × Bool)) : Prop := mrgL es fs = D ++ mrgL (es.drop i) (fs.drop k)
theorem MrgAt.start (es fs : List Ent) : MrgAt es fs 0 0 [] := rfl
theorem MrgAt.l {es fs : List Ent} {i k : Nat} {D : List (Ent × Bool)} (h : MrgAt es fs i k D) (hi : i < es.length) (hk : fs.length ≤ k ∨ ∃ h : k < fs.length, epth es[i] < epth fs[k]) : MrgAt es fs (i + 1) k (D ++ [(es[i], false)]) := by
  unfold MrgAt at h ⊢; rw [h, mrgD_l hi hk, List.append_assoc]; rfl
theorem MrgAt.r {es fs : List Ent} {i k : Nat} {D : List (Ent × Bool)} (h : MrgAt es fs i k D) (hk : k < fs.length) (hi : es.length ≤ i ∨ ∃ h : i < es.length, epth fs[k] < epth es[i]) : MrgAt es fs i (k + 1) (D ++ [(fs[k], false)]) := by
  unfold MrgAt at h ⊢; rw [h, mrgD_r hk hi, List.append_assoc]; rfl
theorem MrgAt.b {es fs : List Ent} {i k : Nat} {D : List (Ent × Bool)} (h : MrgAt es fs i k D) (hi : i < es.length) (hk : k < fs.length) (e : es[i].path = fs[k].path) : MrgAt es fs (i + 1) (k + 1) (D ++ [comeE es[i] fs[k]]) := by
  unfold MrgAt at h ⊢; rw [h, mrgD_b hi hk e, List.append_assoc]; rfl
theorem MrgAt.whole {es fs : List Ent} {i k : Nat} {D : List (Ent × Bool)} (h : MrgAt es fs i k D) (hi : es.length ≤ i) (hk : fs.length ≤ k) : mrgL es fs = D := by
  unfold MrgAt at h; rw [h, List.drop_of_length_le hi, List.drop_of_length_le hk, mrgL, List.append_nil]
theorem MrgAt.len {es fs : List Ent} {i k : Nat} {D : List (Ent × Bool)} (h : MrgAt es fs i k D) : D.length ≤ es.length + fs.length := by
  have h1 := mrg_len es fs
  have h2 := congrArg List.length h
  rw [List.length_append] at h2
  omega
/-- What comes of two, as the document says it. -/
theorem come_doc (a b : Ent) : (ordE a b = 1 → comeE a b = (b, false)) ∧ (ordE a b = 2 → comeE a b = (a, false)) ∧ (ordE a b = 0 → likeE a b = true → comeE a b = (a, false)) ∧ (ordE a b = 3 → likeE a b = true → comeE a b = (joinE a b, false)) ∧ (ordE a b ≠ 1 → ordE a b ≠ 2 → likeE a b = false → comeE a b = (a, true)) := by
  unfold comeE
  refine ⟨fun h => by rw [if_pos h], fun h => by rw [h]; rfl, fun h k => by rw [h, k]; rfl, fun h k => by rw [h, k]; rfl, fun h1 h2 k => by rw [if_neg h1, if_neg h2, k]; rfl⟩
end Go.Proofs.YtlmccjdpmhancaaGreatDoor
namespace Go.Proofs.YtlmccjdpmhancaaGreatDoor
open Go.RowKit

theorem agg_int {a b : Int} {x y : Nat} (h : a = x) (k : b = y) : Value.agg #[.int .i64 a, .int .i64 b] = .agg #[.int .i64 x, .int .i64 y] := by rw [h, k]

set_option maxHeartbeats 2000000 in
set_option maxRecDepth 10000 in
theorem rjoin_any (l r l2 r2 : Int) (w : World) :
    Calls Tryz.prog 54 #[.agg #[.int .i64 l, .int .i64 r], .agg #[.int .i64 l2, .int .i64 r2]] w fun e w' =>
      e = .returned (.agg #[.int .i64 (max (cl l) (cl l2) : Nat), .int .i64 (max (cl r) (cl r2) : Nat)]) ∧ Below w.heap.size w w' := by
  go_enter Tryz.func54, Tryz.ntmps54
  go_wp2_with fail
  refine (rfit_any _ _ _).mono ?_
  rintro e w1 ⟨rfl, hb1⟩
  have p1 : Blk w1 w.heap.size [.int .i64 l, .int .i64 r] 32 := (((Blk.new w [.int .i64 l, .int .i64 r] 32).below ((Below.refl _ _).alloc (Nat.le_refl _) (.cells #[.int .i64 l2, .int .i64 r2] 32))).below ((Below.refl _ _).alloc (Nat.le_refl _) (.cells #[.int .i64 0, .int .i64 0] 32))).below hb1
  have q1 := ((Blk.new (w.alloc (.cells #[.int .i64 l, .int .i64 r] 32)) [.int .i64 l2, .int .i64 r2] 32).below ((Below.refl _ _).alloc (Nat.le_refl _) (.cells #[.int .i64 0, .int .i64 0] 32))).below hb1
  have s1 := (Blk.new ((w.alloc (.cells #[.int .i64 l, .int .i64 r] 32)).alloc (.cells #[.int .i64 l2, .int .i64 r2] 32)) [.int .i64 0, .int .i64 0] 32).below hb1
  simp only [World.size_alloc] at q1 s1
  have b1 : Below w.heap.size w w1 := (below_al _ (below_al _ (below_al _ hb1)))
  clear hb1
  have dp0 := p1.cell 0
  have dp1 := p1.cell 1
  simp only [List.getElem?_cons_zero, List.getElem?_cons_succ] at dp0 dp1
  have zp0 := p1.frozen 0
  have zp1 := p1.frozen 1
  have dq0 := q1.cell 0
  have dq1 := q1.cell 1
  simp only [List.getElem?_cons_zero, List.getElem?_cons_succ] at dq0 dq1
  go_wp2_with fail
  refine (rfit_any _ _ _).mono ?_
  rintro e w2 ⟨rfl, hb2⟩
  have p2 : Blk w2 w.heap.size [.int .i64 (cl l : Nat), .int .i64 (cl r : Nat)] 32 := ((p1.set_ 0 _).set_ 1 _).below hb2
  have q2 := ((q1.other (show w.heap.size + 1 ≠ w.heap.size by omega) 0 _).other (show w.heap.size + 1 ≠ w.heap.size by omega) 1 _).below hb2
  have s2 := ((s1.other (show w.heap.size + 1 + 1 ≠ w.heap.size by omega) 0 _).other (show w.heap.size + 1 + 1 ≠ w.heap.size by omega) 1 _).below hb2
  have b2 : Below w.heap.size w w2 := below2 (b := (w1.setCell ⟨w.heap.size, 0, none⟩ (.int .i64 (cl l : Nat))).setCell ⟨w.heap.size, 1, none⟩ (.int .i64 (cl r : Nat))) (by go_grown) hb2
  clear hb2 dp0 dp1 dq0 dq1 zp0 zp1 p1 q1 b1 s1
  have dp0 := p2.cell 0
  have dp1 := p2.cell 1
  simp only [List.getElem?_cons_zero, List.getElem?_cons_succ] at dp0 dp1
  have dq0 := q2.cell 0
  have dq1 := q2.cell 1
  simp only [List.getElem?_cons_zero, List.getElem?_cons_succ] at dq0 dq1
  have zq0 := q2.frozen 0
  have zq1 := q2.frozen 1
  have ds0 := s2.cell 0
  have ds1 := s2.cell 1
  simp only [List.getElem?_cons_zero, List.getElem?_cons_succ] at ds0 ds1
  have zs0 := s2.frozen 0
  have zs1 := s2.frozen 1
  go_wp2
  all_goals
    refine bodyPost_ret (by simp [results, Tryz.results54, go_sem, ds0, ds1]; exact ⟨rfl, rfl⟩) rfl ⟨congrArg Ending.returned (agg_int ?_ ?_), ?_⟩
    · omega
    · omega
    · go_grown

set_option maxHeartbeats 2000000 in
set_option maxRecDepth 10000 in
theorem rorder_any (l r l2 r2 : Int) (w : World) :
    Calls Tryz.prog 78 #[.agg #[.int .i64 l, .int .i64 r], .agg #[.int .i64 l2, .int .i64 r2]] w fun e w' =>
      e = .returned (.int .i64 (ordI (cl l) (cl r) (cl l2) (cl r2))) ∧ Below w.heap.size w w' := by
  go_enter Tryz.func78, Tryz.ntmps78
  go_wp2_with fail
  refine (rfit_any _ _ _).mono ?_
  rintro e w1 ⟨rfl, hb1⟩
  have p1 : Blk w1 w.heap.size [.int .i64 l, .int .i64 r] 32 := ((Blk.new w [.int .i64 l, .int .i64 r] 32).below ((Below.refl _ _).alloc (Nat.le_refl _) (.cells #[.int .i64 l2, .int .i64 r2] 32))).below hb1
  have q1 := (Blk.new (w.alloc (.cells #[.int .i64 l, .int .i64 r] 32)) [.int .i64 l2, .int .i64 r2] 32).below hb1
  simp only [World.size_alloc] at q1
  have b1 : Below w.heap.size w w1 := (below_al _ (below_al _ hb1))
  clear hb1
  have dp0 := p1.cell 0
  have dp1 := p1.cell 1
  simp only [List.getElem?_cons_zero, List.getElem?_cons_succ] at dp0 dp1
  have zp0 := p1.frozen 0
  have zp1 := p1.frozen 1
  have dq0 := q1.cell 0
  have dq1 := q1.cell 1
  simp only [List.getElem?_cons_zero, List.getElem?_cons_succ] at dq0 dq1
  go_wp2_with fail
  refine (rfit_any _ _ _).mono ?_
  rintro e w2 ⟨rfl, hb2⟩
  have p2 : Blk w2 w.heap.size [.int .i64 (cl l : Nat), .int .i64 (cl r : Nat)] 32 := ((p1.set_ 0 _).set_ 1 _).below hb2
  have q2 := ((q1.other (show w.heap.size + 1 ≠ w.heap.size by omega) 0 _).other (show w.heap.size + 1 ≠ w.heap.size by omega) 1 _).below hb2
  have b2 : Below w.heap.size w w2 := below2 (b := (w1.setCell ⟨w.heap.size, 0, none⟩ (.int .i64 (cl l : Nat))).setCell ⟨w.heap.size, 1, none⟩ (.int .i64 (cl r : Nat))) (by go_grown) hb2
  clear hb2 dp0 dp1 dq0 dq1 zp0 zp1 p1 q1 b1
  have dp0 := p2.cell 0
  have dp1 := p2.cell 1
  simp only [List.getElem?_cons_zero, List.getElem?_cons_succ] at dp0 dp1
  have dq0 := q2.cell 0
  have dq1 := q2.cell 1
  simp only [List.getElem?_cons_zero, List.getElem?_cons_succ] at dq0 dq1
  have zq0 := q2.frozen 0
  have zq1 := q2.frozen 1
  go_wp2
  all_goals
    go_ret
    refine ⟨ret_int ?_, ?_⟩
    · unfold ordI
      omega
    · go_grown
end Go.Proofs.YtlmccjdpmhancaaGreatDoor
namespace Go.Proofs.YtlmccjdpmhancaaGreatDoor
open Go.RowKit

/-! ### come -/
set_option maxRecDepth 10000 in
set_option maxHeartbeats 4000000 in
theorem rcome_any (x y : Ent) (w : World) :
    Calls Tryz.prog 38 #[eA x, eA y] w fun e w' => e = .returned (.tuple #[eA (comeE x y).1, .bool (comeE x y).2]) ∧ Below w.heap.size w w' := by
  have hal : ∀ (W : World) (o : Obj), Below W.heap.size W (W.alloc o) := fun W o => (Below.refl _ _).alloc (Nat.le_refl _) o
  have HO : Hid (ordE x y = ordI (cl x.l) (cl x.r) (cl y.l) (cl y.r)) := rfl
  have HOC : Hid (ordE x y = 0 ∨ ordE x y = 1 ∨ ordE x y = 2 ∨ ordE x y = 3) := ord_cases _ _ _ _
  have HC := hid (come_doc x y)
  have HK : Hid (likeE x y = (decide (x.has = y.has) && decide (x.data = y.data))) := rfl
  have HJ : Hid (joinE x y = ⟨x.path, x.has, x.data, ((max (cl x.l) (cl y.l) : Nat) : Int), ((max (cl x.r) (cl y.r) : Nat) : Int)⟩) := rfl
  have Q0 := ((Blk.new w [.string x.path, .bool x.has, .string x.data, .int .i64 x.l, .int .i64 x.r] 34).below (hal _ (.cells #[.string y.path, .bool y.has, .string y.data, .int .i64 y.l, .int .i64 y.r] 34))).below (hal _ (.cells #[.string noS, .bool false, .string noS, .int .i64 0, .int .i64 0] 34))
  have Y0 := (Blk.new (w.alloc (.cells #[.string x.path, .bool x.has, .string x.data, .int .i64 x.l, .int .i64 x.r] 34)) [.string y.path, .bool y.has, .string y.data, .int .i64 y.l, .int .i64 y.r] 34).below (hal _ (.cells #[.string noS, .bool false, .string noS, .int .i64 0, .int .i64 0] 34))
  have R0 := Blk.new ((w.alloc (.cells #[.string x.path, .bool x.has, .string x.data, .int .i64 x.l, .int .i64 x.r] 34)).alloc (.cells #[.string y.path, .bool y.has, .string y.data, .int .i64 y.l, .int .i64 y.r] 34)) [.string noS, .bool false, .string noS, .int .i64 0, .int .i64 0] 34
  have b0 := below2 (below2 (hal w (.cells #[.string x.path, .bool x.has, .string x.data, .int .i64 x.l, .int .i64 x.r] 34)) (hal _ (.cells #[.string y.path, .bool y.has, .string y.data, .int .i64 y.l, .int .i64 y.r] 34))) (hal _ (.cells #[.string noS, .bool false, .string noS, .int .i64 0, .int .i64 0] 34))
  go_enter Tryz.func38, Tryz.ntmps38
  go_wp2_with fail
  simp at Q0 Y0 R0
  generalize (((w.alloc (.cells #[.string x.path, .bool x.has, .string x.data, .int .i64 x.l, .int .i64 x.r] 34)).alloc (.cells #[.string y.path, .bool y.has, .string y.data, .int .i64 y.l, .int .i64 y.r] 34)).alloc (.cells #[.string noS, .bool false, .string noS, .int .i64 0, .int .i64 0] 34)) = W0 at Q0 Y0 R0 b0 ⊢
  refine (rorder_any x.l x.r y.l y.r _).mono ?_
  rintro e w1 ⟨rfl, hb1⟩
  have Q1 := Q0.below hb1
  have Y1 := Y0.below hb1
  have R1 := R0.below hb1
  have b1 := below2 b0 hb1
  rw [← HO.out]
  clear Q0 Y0 R0 b0 hb1 HO
  have hge : w.heap.size ≤ w.heap.size + 1 + 1 := by omega
  have a0 := Q1.cell 0
  have a1 := Q1.cell 1
  have a2 := Q1.cell 2
  have a3 := Q1.cell 3
  have a4 := Q1.cell 4
  have d0 := Y1.cell 0
  have d1 := Y1.cell 1
  have d2 := Y1.cell 2
  have d3 := Y1.cell 3
  have d4 := Y1.cell 4
  simp only [List.getElem?_cons_zero, List.getElem?_cons_succ] at a0 a1 a2 a3 a4 d0 d1 d2 d3 d4
  have hhb : (x.has == y.has) = decide (x.has = y.has) := by cases x.has <;> cases y.has <;> rfl
  have hsq := str_eqb x.data y.data
  generalize ordE x y = o at *
  cases hh : decide (x.has = y.has) with
  | false =>
    have HLK : Hid (likeE x y = false) := by show _ = _; rw [HK.out, hh]; rfl
    rw [hh] at hhb
    clear hh hsq
    rcases HOC.out with rfl | rfl | rfl | rfl
    · have HE : Hid (comeE x y = (x, true)) := HC.out.2.2.2.2 (by decide) (by decide) HLK.out
      clear HC HOC HK HJ Q1 Y1
      have f0 := R1.frozen 0
      have f1 := R1.frozen 1
      have f2 := R1.frozen 2
      have f3 := R1.frozen 3
      have f4 := R1.frozen 4
      have R3 := ((((R1.set_ 0 (.string x.path)).set_ 1 (.bool x.has)).set_ 2 (.string x.data)).set_ 3 (.int .i64 x.l)).set_ 4 (.int .i64 x.r)
      have c3 := ((((b1.setCell (p := ⟨w.heap.size + 1 + 1, 0, none⟩) hge (.string x.path)).setCell (p := ⟨w.heap.size + 1 + 1, 1, none⟩) hge (.bool x.has)).setCell (p := ⟨w.heap.size + 1 + 1, 2, none⟩) hge (.string x.data)).setCell (p := ⟨w.heap.size + 1 + 1, 3, none⟩) hge (.int .i64 x.l)).setCell (p := ⟨w.heap.size + 1 + 1, 4, none⟩) hge (.int .i64 x.r)
      have r0 := R3.cell 0
      have r1 := R3.cell 1
      have r2 := R3.cell 2
      have r3 := R3.cell 3
      have r4 := R3.cell 4
      have r00 := R1.cell 0
      have r01 := R1.cell 1
      have r02 := R1.cell 2
      have r03 := R1.cell 3
      have r04 := R1.cell 4
      simp only [List.set_cons_zero, List.set_cons_succ, List.getElem?_cons_zero, List.getElem?_cons_succ] at r0 r1 r2 r3 r4 r00 r01 r02 r03 r04
      clear R1 R3 b1
      go_wp2
      refine bodyPost_ret (v := .tuple #[eA x, .bool true]) (by simp [results, Tryz.results38, go_sem, r0, r1, r2, r3, r4]) rfl ⟨by rw [HE.out], c3⟩
    · have HE : Hid (comeE x y = (y, false)) := HC.out.1 rfl
      clear HC HOC HK HJ Q1 Y1
      have f0 := R1.frozen 0
      have f1 := R1.frozen 1
      have f2 := R1.frozen 2
      have f3 := R1.frozen 3
      have f4 := R1.frozen 4
      have R3 := ((((R1.set_ 0 (.string y.path)).set_ 1 (.bool y.has)).set_ 2 (.string y.data)).set_ 3 (.int .i64 y.l)).set_ 4 (.int .i64 y.r)
      have c3 := ((((b1.setCell (p := ⟨w.heap.size + 1 + 1, 0, none⟩) hge (.string y.path)).setCell (p := ⟨w.heap.size + 1 + 1, 1, none⟩) hge (.bool y.has)).setCell (p := ⟨w.heap.size + 1 + 1, 2, none⟩) hge (.string y.data)).setCell (p := ⟨w.heap.size + 1 + 1, 3, none⟩) hge (.int .i64 y.l)).setCell (p := ⟨w.heap.size + 1 + 1, 4, none⟩) hge (.int .i64 y.r)
      have r0 := R3.cell 0
      have r1 := R3.cell 1
      have r2 := R3.cell 2
      have r3 := R3.cell 3
      have r4 := R3.cell 4
      have r00 := R1.cell 0
      have r01 := R1.cell 1
      have r02 := R1.cell 2
      have r03 := R1.cell 3
      have r04 := R1.cell 4
      simp only [List.set_cons_zero, List.set_cons_succ, List.getElem?_cons_zero, List.getElem?_cons_succ] at r0 r1 r2 r3 r4 r00 r01 r02 r03 r04
      clear R1 R3 b1
      go_wp2
      refine bodyPost_ret (v := .tuple #[eA y, .bool false]) (by simp [results, Tryz.results38, go_sem, r0, r1, r2, r3, r4]) rfl ⟨by rw [HE.out], c3⟩
    · have HE : Hid (comeE x y = (x, false)) := HC.out.2.1 rfl
      clear HC HOC HK HJ Q1 Y1
      have f0 := R1.frozen 0
      have f1 := R1.frozen 1
      have f2 := R1.frozen 2
      have f3 := R1.frozen 3
      have f4 := R1.frozen 4
      have R3 := ((((R1.set_ 0 (.string x.path)).set_ 1 (.bool x.has)).set_ 2 (.string x.data)).set_ 3 (.int .i64 x.l)).set_ 4 (.int .i64 x.r)
      have c3 := ((((b1.setCell (p := ⟨w.heap.size + 1 + 1, 0, none⟩) hge (.string x.path)).setCell (p := ⟨w.heap.size + 1 + 1, 1, none⟩) hge (.bool x.has)).setCell (p := ⟨w.heap.size + 1 + 1, 2, none⟩) hge (.string x.data)).setCell (p := ⟨w.heap.size + 1 + 1, 3, none⟩) hge (.int .i64 x.l)).setCell (p := ⟨w.heap.size + 1 + 1, 4, none⟩) hge (.int .i64 x.r)
      have r0 := R3.cell 0
      have r1 := R3.cell 1
      have r2 := R3.cell 2
      have r3 := R3.cell 3
      have r4 := R3.cell 4
      have r00 := R1.cell 0
      have r01 := R1.cell 1
      have r02 := R1.cell 2
      have r03 := R1.cell 3
      have r04 := R1.cell 4
      simp only [List.set_cons_zero, List.set_cons_succ, List.getElem?_cons_zero, List.getElem?_cons_succ] at r0 r1 r2 r3 r4 r00 r01 r02 r03 r04
      clear R1 R3 b1
      go_wp2
      refine bodyPost_ret (v := .tuple #[eA x, .bool false]) (by simp [results, Tryz.results38, go_sem, r0, r1, r2, r3, r4]) rfl ⟨by rw [HE.out], c3⟩
    · have HE : Hid (comeE x y = (x, true)) := HC.out.2.2.2.2 (by decide) (by decide) HLK.out
      clear HC HOC HK HJ Q1 Y1
      have f0 := R1.frozen 0
      have f1 := R1.frozen 1
      have f2 := R1.frozen 2
      have f3 := R1.frozen 3
      have f4 := R1.frozen 4
      have R3 := ((((R1.set_ 0 (.string x.path)).set_ 1 (.bool x.has)).set_ 2 (.string x.data)).set_ 3 (.int .i64 x.l)).set_ 4 (.int .i64 x.r)
      have c3 := ((((b1.setCell (p := ⟨w.heap.size + 1 + 1, 0, none⟩) hge (.string x.path)).setCell (p := ⟨w.heap.size + 1 + 1, 1, none⟩) hge (.bool x.has)).setCell (p := ⟨w.heap.size + 1 + 1, 2, none⟩) hge (.string x.data)).setCell (p := ⟨w.heap.size + 1 + 1, 3, none⟩) hge (.int .i64 x.l)).setCell (p := ⟨w.heap.size + 1 + 1, 4, none⟩) hge (.int .i64 x.r)
      have r0 := R3.cell 0
      have r1 := R3.cell 1
      have r2 := R3.cell 2
      have r3 := R3.cell 3
      have r4 := R3.cell 4
      have r00 := R1.cell 0
      have r01 := R1.cell 1
      have r02 := R1.cell 2
      have r03 := R1.cell 3
      have r04 := R1.cell 4
      simp only [List.set_cons_zero, List.set_cons_succ, List.getElem?_cons_zero, List.getElem?_cons_succ] at r0 r1 r2 r3 r4 r00 r01 r02 r03 r04
      clear R1 R3 b1
      go_wp2
      refine bodyPost_ret (v := .tuple #[eA x, .bool true]) (by simp [results, Tryz.results38, go_sem, r0, r1, r2, r3, r4]) rfl ⟨by rw [HE.out], c3⟩
  | true =>
    rw [hh] at hhb
    cases hd : decide (x.data = y.data) with
    | false =>
      have HLK : Hid (likeE x y = false) := by show _ = _; rw [HK.out, hd, Bool.and_false]
      rw [hd] at hsq
      clear hh hd
      rcases HOC.out with rfl | rfl | rfl | rfl
      · have HE : Hid (comeE x y = (x, true)) := HC.out.2.2.2.2 (by decide) (by decide) HLK.out
        clear HC HOC HK HJ Q1 Y1
        have f0 := R1.frozen 0
        have f1 := R1.frozen 1
        have f2 := R1.frozen 2
        have f3 := R1.frozen 3
        have f4 := R1.frozen 4
        have R3 := ((((R1.set_ 0 (.string x.path)).set_ 1 (.bool x.has)).set_ 2 (.string x.data)).set_ 3 (.int .i64 x.l)).set_ 4 (.int .i64 x.r)
        have c3 := ((((b1.setCell (p := ⟨w.heap.size + 1 + 1, 0, none⟩) hge (.string x.path)).setCell (p := ⟨w.heap.size + 1 + 1, 1, none⟩) hge (.bool x.has)).setCell (p := ⟨w.heap.size + 1 + 1, 2, none⟩) hge (.string x.data)).setCell (p := ⟨w.heap.size + 1 + 1, 3, none⟩) hge (.int .i64 x.l)).setCell (p := ⟨w.heap.size + 1 + 1, 4, none⟩) hge (.int .i64 x.r)
        have r0 := R3.cell 0
        have r1 := R3.cell 1
        have r2 := R3.cell 2
        have r3 := R3.cell 3
        have r4 := R3.cell 4
        have r00 := R1.cell 0
        have r01 := R1.cell 1
        have r02 := R1.cell 2
        have r03 := R1.cell 3
        have r04 := R1.cell 4
        simp only [List.set_cons_zero, List.set_cons_succ, List.getElem?_cons_zero, List.getElem?_cons_succ] at r0 r1 r2 r3 r4 r00 r01 r02 r03 r04
        clear R1 R3 b1
        go_wp2
        refine bodyPost_ret (v := .tuple #[eA x, .bool true]) (by simp [results, Tryz.results38, go_sem, r0, r1, r2, r3, r4]) rfl ⟨by rw [HE.out], c3⟩
      · have HE : Hid (comeE x y = (y, false)) := HC.out.1 rfl
        clear HC HOC HK HJ Q1 Y1
        have f0 := R1.frozen 0
        have f1 := R1.frozen 1
        have f2 := R1.frozen 2
        have f3 := R1.frozen 3
        have f4 := R1.frozen 4
        have R3 := ((((R1.set_ 0 (.string y.path)).set_ 1 (.bool y.has)).set_ 2 (.string y.data)).set_ 3 (.int .i64 y.l)).set_ 4 (.int .i64 y.r)
        have c3 := ((((b1.setCell (p := ⟨w.heap.size + 1 + 1, 0, none⟩) hge (.string y.path)).setCell (p := ⟨w.heap.size + 1 + 1, 1, none⟩) hge (.bool y.has)).setCell (p := ⟨w.heap.size + 1 + 1, 2, none⟩) hge (.string y.data)).setCell (p := ⟨w.heap.size + 1 + 1, 3, none⟩) hge (.int .i64 y.l)).setCell (p := ⟨w.heap.size + 1 + 1, 4, none⟩) hge (.int .i64 y.r)
        have r0 := R3.cell 0
        have r1 := R3.cell 1
        have r2 := R3.cell 2
        have r3 := R3.cell 3
        have r4 := R3.cell 4
        have r00 := R1.cell 0
        have r01 := R1.cell 1
        have r02 := R1.cell 2
        have r03 := R1.cell 3
        have r04 := R1.cell 4
        simp only [List.set_cons_zero, List.set_cons_succ, List.getElem?_cons_zero, List.getElem?_cons_succ] at r0 r1 r2 r3 r4 r00 r01 r02 r03 r04
        clear R1 R3 b1
        go_wp2
        refine bodyPost_ret (v := .tuple #[eA y, .bool false]) (by simp [results, Tryz.results38, go_sem, r0, r1, r2, r3, r4]) rfl ⟨by rw [HE.out], c3⟩
      · have HE : Hid (comeE x y = (x, false)) := HC.out.2.1 rfl
        clear HC HOC HK HJ Q1 Y1
        have f0 := R1.frozen 0
        have f1 := R1.frozen 1
        have f2 := R1.frozen 2
        have f3 := R1.frozen 3
        have f4 := R1.frozen 4
        have R3 := ((((R1.set_ 0 (.string x.path)).set_ 1 (.bool x.has)).set_ 2 (.string x.data)).set_ 3 (.int .i64 x.l)).set_ 4 (.int .i64 x.r)
        have c3 := ((((b1.setCell (p := ⟨w.heap.size + 1 + 1, 0, none⟩) hge (.string x.path)).setCell (p := ⟨w.heap.size + 1 + 1, 1, none⟩) hge (.bool x.has)).setCell (p := ⟨w.heap.size + 1 + 1, 2, none⟩) hge (.string x.data)).setCell (p := ⟨w.heap.size + 1 + 1, 3, none⟩) hge (.int .i64 x.l)).setCell (p := ⟨w.heap.size + 1 + 1, 4, none⟩) hge (.int .i64 x.r)
        have r0 := R3.cell 0
        have r1 := R3.cell 1
        have r2 := R3.cell 2
        have r3 := R3.cell 3
        have r4 := R3.cell 4
        have r00 := R1.cell 0
        have r01 := R1.cell 1
        have r02 := R1.cell 2
        have r03 := R1.cell 3
        have r04 := R1.cell 4
        simp only [List.set_cons_zero, List.set_cons_succ, List.getElem?_cons_zero, List.getElem?_cons_succ] at r0 r1 r2 r3 r4 r00 r01 r02 r03 r04
        clear R1 R3 b1
        go_wp2
        refine bodyPost_ret (v := .tuple #[eA x, .bool false]) (by simp [results, Tryz.results38, go_sem, r0, r1, r2, r3, r4]) rfl ⟨by rw [HE.out], c3⟩
      · have HE : Hid (comeE x y = (x, true)) := HC.out.2.2.2.2 (by decide) (by decide) HLK.out
        clear HC HOC HK HJ Q1 Y1
        have f0 := R1.frozen 0
        have f1 := R1.frozen 1
        have f2 := R1.frozen 2
        have f3 := R1.frozen 3
        have f4 := R1.frozen 4
        have R3 := ((((R1.set_ 0 (.string x.path)).set_ 1 (.bool x.has)).set_ 2 (.string x.data)).set_ 3 (.int .i64 x.l)).set_ 4 (.int .i64 x.r)
        have c3 := ((((b1.setCell (p := ⟨w.heap.size + 1 + 1, 0, none⟩) hge (.string x.path)).setCell (p := ⟨w.heap.size + 1 + 1, 1, none⟩) hge (.bool x.has)).setCell (p := ⟨w.heap.size + 1 + 1, 2, none⟩) hge (.string x.data)).setCell (p := ⟨w.heap.size + 1 + 1, 3, none⟩) hge (.int .i64 x.l)).setCell (p := ⟨w.heap.size + 1 + 1, 4, none⟩) hge (.int .i64 x.r)
        have r0 := R3.cell 0
        have r1 := R3.cell 1
        have r2 := R3.cell 2
        have r3 := R3.cell 3
        have r4 := R3.cell 4
        have r00 := R1.cell 0
        have r01 := R1.cell 1
        have r02 := R1.cell 2
        have r03 := R1.cell 3
        have r04 := R1.cell 4
        simp only [List.set_cons_zero, List.set_cons_succ, List.getElem?_cons_zero, List.getElem?_cons_succ] at r0 r1 r2 r3 r4 r00 r01 r02 r03 r04
        clear R1 R3 b1
        go_wp2
        refine bodyPost_ret (v := .tuple #[eA x, .bool true]) (by simp [results, Tryz.results38, go_sem, r0, r1, r2, r3, r4]) rfl ⟨by rw [HE.out], c3⟩
    | true =>
      have HLK : Hid (likeE x y = true) := by show _ = _; rw [HK.out, hh, hd]; rfl
      rw [hd] at hsq
      clear hh hd
      rcases HOC.out with rfl | rfl | rfl | rfl
      · have HE : Hid (comeE x y = (x, false)) := HC.out.2.2.1 rfl HLK.out
        clear HC HOC HK HJ Q1 Y1
        have f0 := R1.frozen 0
        have f1 := R1.frozen 1
        have f2 := R1.frozen 2
        have f3 := R1.frozen 3
        have f4 := R1.frozen 4
        have R3 := ((((R1.set_ 0 (.string x.path)).set_ 1 (.bool x.has)).set_ 2 (.string x.data)).set_ 3 (.int .i64 x.l)).set_ 4 (.int .i64 x.r)
        have c3 := ((((b1.setCell (p := ⟨w.heap.size + 1 + 1, 0, none⟩) hge (.string x.path)).setCell (p := ⟨w.heap.size + 1 + 1, 1, none⟩) hge (.bool x.has)).setCell (p := ⟨w.heap.size + 1 + 1, 2, none⟩) hge (.string x.data)).setCell (p := ⟨w.heap.size + 1 + 1, 3, none⟩) hge (.int .i64 x.l)).setCell (p := ⟨w.heap.size + 1 + 1, 4, none⟩) hge (.int .i64 x.r)
        have r0 := R3.cell 0
        have r1 := R3.cell 1
        have r2 := R3.cell 2
        have r3 := R3.cell 3
        have r4 := R3.cell 4
        have r00 := R1.cell 0
        have r01 := R1.cell 1
        have r02 := R1.cell 2
        have r03 := R1.cell 3
        have r04 := R1.cell 4
        simp only [List.set_cons_zero, List.set_cons_succ, List.getElem?_cons_zero, List.getElem?_cons_succ] at r0 r1 r2 r3 r4 r00 r01 r02 r03 r04
        clear R1 R3 b1
        go_wp2
        refine bodyPost_ret (v := .tuple #[eA x, .bool false]) (by simp [results, Tryz.results38, go_sem, r0, r1, r2, r3, r4]) rfl ⟨by rw [HE.out], c3⟩
      · have HE : Hid (comeE x y = (y, false)) := HC.out.1 rfl
        clear HC HOC HK HJ Q1 Y1
        have f0 := R1.frozen 0
        have f1 := R1.frozen 1
        have f2 := R1.frozen 2
        have f3 := R1.frozen 3
        have f4 := R1.frozen 4
        have R3 := ((((R1.set_ 0 (.string y.path)).set_ 1 (.bool y.has)).set_ 2 (.string y.data)).set_ 3 (.int .i64 y.l)).set_ 4 (.int .i64 y.r)
        have c3 := ((((b1.setCell (p := ⟨w.heap.size + 1 + 1, 0, none⟩) hge (.string y.path)).setCell (p := ⟨w.heap.size + 1 + 1, 1, none⟩) hge (.bool y.has)).setCell (p := ⟨w.heap.size + 1 + 1, 2, none⟩) hge (.string y.data)).setCell (p := ⟨w.heap.size + 1 + 1, 3, none⟩) hge (.int .i64 y.l)).setCell (p := ⟨w.heap.size + 1 + 1, 4, none⟩) hge (.int .i64 y.r)
        have r0 := R3.cell 0
        have r1 := R3.cell 1
        have r2 := R3.cell 2
        have r3 := R3.cell 3
        have r4 := R3.cell 4
        have r00 := R1.cell 0
        have r01 := R1.cell 1
        have r02 := R1.cell 2
        have r03 := R1.cell 3
        have r04 := R1.cell 4
        simp only [List.set_cons_zero, List.set_cons_succ, List.getElem?_cons_zero, List.getElem?_cons_succ] at r0 r1 r2 r3 r4 r00 r01 r02 r03 r04
        clear R1 R3 b1
        go_wp2
        refine bodyPost_ret (v := .tuple #[eA y, .bool false]) (by simp [results, Tryz.results38, go_sem, r0, r1, r2, r3, r4]) rfl ⟨by rw [HE.out], c3⟩
      · have HE : Hid (comeE x y = (x, false)) := HC.out.2.1 rfl
        clear HC HOC HK HJ Q1 Y1
        have f0 := R1.frozen 0
        have f1 := R1.frozen 1
        have f2 := R1.frozen 2
        have f3 := R1.frozen 3
        have f4 := R1.frozen 4
        have R3 := ((((R1.set_ 0 (.string x.path)).set_ 1 (.bool x.has)).set_ 2 (.string x.data)).set_ 3 (.int .i64 x.l)).set_ 4 (.int .i64 x.r)
        have c3 := ((((b1.setCell (p := ⟨w.heap.size + 1 + 1, 0, none⟩) hge (.string x.path)).setCell (p := ⟨w.heap.size + 1 + 1, 1, none⟩) hge (.bool x.has)).setCell (p := ⟨w.heap.size + 1 + 1, 2, none⟩) hge (.string x.data)).setCell (p := ⟨w.heap.size + 1 + 1, 3, none⟩) hge (.int .i64 x.l)).setCell (p := ⟨w.heap.size + 1 + 1, 4, none⟩) hge (.int .i64 x.r)
        have r0 := R3.cell 0
        have r1 := R3.cell 1
        have r2 := R3.cell 2
        have r3 := R3.cell 3
        have r4 := R3.cell 4
        have r00 := R1.cell 0
        have r01 := R1.cell 1
        have r02 := R1.cell 2
        have r03 := R1.cell 3
        have r04 := R1.cell 4
        simp only [List.set_cons_zero, List.set_cons_succ, List.getElem?_cons_zero, List.getElem?_cons_succ] at r0 r1 r2 r3 r4 r00 r01 r02 r03 r04
        clear R1 R3 b1
        go_wp2
        refine bodyPost_ret (v := .tuple #[eA x, .bool false]) (by simp [results, Tryz.results38, go_sem, r0, r1, r2, r3, r4]) rfl ⟨by rw [HE.out], c3⟩
      · have HE : Hid (comeE x y = (⟨x.path, x.has, x.data, ((max (cl x.l) (cl y.l) : Nat) : Int), ((max (cl x.r) (cl y.r) : Nat) : Int)⟩, false)) := by show _ = _; rw [HC.out.2.2.2.1 rfl HLK.out, HJ.out]
        have cj := rjoin_any x.l x.r y.l y.r w1
        clear HC HOC HK HJ
        generalize max (cl x.l) (cl y.l) = j1 at *
        generalize max (cl x.r) (cl y.r) = j2 at *
        go_wp2_with fail
        refine cj.mono ?_
        rintro e w2 ⟨rfl, hb2⟩
        have Q2 := Q1.below hb2
        have R2 := R1.below hb2
        have b2 := below2 b1 hb2
        clear Q1 R1 Y1 b1 hb2 cj a0 a1 a2 a3 a4 d0 d1 d2 d3 d4
        have q3 := Q2.cell 3
        have q4 := Q2.cell 4
        have n3 := Q2.frozen 3
        have n4 := Q2.frozen 4
        have Q3 := (Q2.set_ 3 (.int .i64 (j1 : Int))).set_ 4 (.int .i64 (j2 : Int))
        have R4 := (R2.other (show w.heap.size + 1 + 1 ≠ w.heap.size by omega) 3 (.int .i64 (j1 : Int))).other (show w.heap.size + 1 + 1 ≠ w.heap.size by omega) 4 (.int .i64 (j2 : Int))
        have b4 := (b2.setCell (p := ⟨w.heap.size, 3, none⟩) (Nat.le_refl _) (.int .i64 (j1 : Int))).setCell (p := ⟨w.heap.size, 4, none⟩) (Nat.le_refl _) (.int .i64 (j2 : Int))
        generalize HU : (w2.setCell ⟨w.heap.size, 3, none⟩ (.int .i64 (j1 : Int))).setCell ⟨w.heap.size, 4, none⟩ (.int .i64 (j2 : Int)) = U at Q3 R4 b4
        have a0 := Q3.cell 0
        have a1 := Q3.cell 1
        have a2 := Q3.cell 2
        have a3 := Q3.cell 3
        have a4 := Q3.cell 4
        simp only [List.set_cons_zero, List.set_cons_succ, List.getElem?_cons_zero, List.getElem?_cons_succ] at a0 a1 a2 a3 a4 q3 q4
        clear Q2 Q3 R2 b2
        have f0 := R4.frozen 0
        have f1 := R4.frozen 1
        have f2 := R4.frozen 2
        have f3 := R4.frozen 3
        have f4 := R4.frozen 4
        have R3 := ((((R4.set_ 0 (.string x.path)).set_ 1 (.bool x.has)).set_ 2 (.string x.data)).set_ 3 (.int .i64 (j1 : Int))).set_ 4 (.int .i64 (j2 : Int))
        have c3 := ((((b4.setCell (p := ⟨w.heap.size + 1 + 1, 0, none⟩) hge (.string x.path)).setCell (p := ⟨w.heap.size + 1 + 1, 1, none⟩) hge (.bool x.has)).setCell (p := ⟨w.heap.size + 1 + 1, 2, none⟩) hge (.string x.data)).setCell (p := ⟨w.heap.size + 1 + 1, 3, none⟩) hge (.int .i64 (j1 : Int))).setCell (p := ⟨w.heap.size + 1 + 1, 4, none⟩) hge (.int .i64 (j2 : Int))
        have r0 := R3.cell 0
        have r1 := R3.cell 1
        have r2 := R3.cell 2
        have r3 := R3.cell 3
        have r4 := R3.cell 4
        have r00 := R4.cell 0
        have r01 := R4.cell 1
        have r02 := R4.cell 2
        have r03 := R4.cell 3
        have r04 := R4.cell 4
        simp only [List.set_cons_zero, List.set_cons_succ, List.getElem?_cons_zero, List.getElem?_cons_succ] at r0 r1 r2 r3 r4 r00 r01 r02 r03 r04
        clear R4 R3 b4
        go_wp2
        refine bodyPost_ret (v := .tuple #[.agg #[.string x.path, .bool x.has, .string x.data, .int .i64 (j1 : Int), .int .i64 (j2 : Int)], .bool false]) (by simp [results, Tryz.results38, go_sem, r0, r1, r2, r3, r4]) rfl ⟨by rw [HE.out], c3⟩
end Go.Proofs.YtlmccjdpmhancaaGreatDoor
namespace Go.Proofs.YtlmccjdpmhancaaGreatDoor
open Go.RowKit

/-! ### may -/
set_option maxRecDepth 10000 in
set_option maxHeartbeats 4000000 in
theorem rmay_any {w : World} {A : Option Addr} {n c : Nat} {es : List Ent} (h : Et w A n c es) :
    Calls Tryz.prog 39 #[.slice A n c] w fun e w' => e = .returned (.int .i64 (fitN es : Nat)) ∧ Below w.heap.size w w' := by
  have hr := h.rd
  have HS := hid h.sz
  have HL := hid h.len
  have hbig := h.big
  clear h
  go_enter Tryz.func39, Tryz.ntmps39
  go_wp2_with fail
  go_loop [3, 4] (fun v i => ∃ j : Nat, j ≤ n ∧ i = .int .i64 j ∧ v = .int .i64 ((filesOf (es.take j)).length : Nat)) (fun _ i => n - (intOf i).toNat)
  case atStart => exact ⟨0, by omega, rfl, rfl⟩
  case round =>
    obtain ⟨j, hj, rfl, rfl⟩ := hrel
    by_cases hjn : j < n
    · have hjl : j < es.length := by rw [HL.out]; exact hjn
      obtain ⟨b, off, rfl, -, h2, -⟩ := hr.ent hjl
      have HC := hid (cnt_more es j hjl)
      have hfl : (filesOf (es.take j)).length ≤ 1000000 := by have := filesOf_len (es.take j); rw [List.length_take] at this; omega
      have hz : (0 : Int) ≤ j := by omega
      have hlt : (j : Int) < n := by omega
      generalize es[j] = x at *
      generalize (filesOf (es.take j)).length = q at *
      cases hh : x.has with
      | false =>
        have HC2 : Hid ((filesOf (es.take (j + 1))).length = q) := by show _ = _; rw [HC.out, hh]; rfl
        rw [hh] at h2
        clear HC hh
        go_wp2
        go_round
        case rel => exact ⟨j + 1, by omega, by go_num, by rw [HC2.out]⟩
        case measure => simp [intOf]; omega
      | true =>
        have HC2 : Hid ((filesOf (es.take (j + 1))).length = q + 1) := by show _ = _; rw [HC.out, hh]; rfl
        rw [hh] at h2
        clear HC hh
        go_wp2
        go_round
        case rel => exact ⟨j + 1, by omega, by go_num, by rw [HC2.out]; go_num⟩
        case measure => simp [intOf]; omega
    · have HE := hid (show j = n by omega)
      have hnlt : ¬ (j : Int) < n := by omega
      have HT : Hid (es.take j = es) := by show _ = _; rw [HE.out, ← HL.out, List.take_length]
      rw [HT.out]
      by_cases hq : 16 < (filesOf es).length ∨ 32 < n
      · have HR := hid (may_full (es := es) (by rw [HL.out]; exact hq))
        by_cases h16 : 16 < (filesOf es).length
        · have h16' : (16 : Int) < (filesOf es).length := by omega
          clear hq h16
          go_wp2
          go_ret
          exact ⟨by rw [HR.out]; rfl, Below.refl _ _⟩
        · have h16' : ¬ (16 : Int) < (filesOf es).length := by omega
          have h32 : (32 : Int) < n := by omega
          clear hq h16
          go_wp2
          go_ret
          exact ⟨by rw [HR.out]; rfl, Below.refl _ _⟩
      · have HNF : Hid (¬ (16 < (filesOf es).length ∨ 32 < es.length)) := by show ¬ _; rw [HL.out]; exact hq
        have h16' : ¬ (16 : Int) < (filesOf es).length := by omega
        have h32' : ¬ (32 : Int) < n := by omega
        have hn32 : n ≤ 32 := by omega
        clear hq
        generalize (filesOf es).length = q at h16' ⊢
        go_wp2_with fail
        go_loopw [5] (fun v wr => ∃ i : Nat, i ≤ n ∧ v = .int .i64 i ∧ Hid (∀ a (ha : a < es.length), a < i → ∀ b (hb : b < es.length), undE es[a] es[b] = false) ∧ Below w.heap.size w wr) (fun v _ => n - (intOf v).toNat)
        case atStart => exact ⟨0, by omega, rfl, hid (fun a _ h => absurd h (by omega)), Below.refl _ _⟩
        case round =>
          obtain ⟨i, hi, rfl, HA, b⟩ := hrel
          by_cases hin : i < n
          · have hil : i < es.length := by rw [HL.out]; exact hin
            have hz : (0 : Int) ≤ i := by omega
            have hlt : (i : Int) < n := by omega
            obtain ⟨W1, rfl⟩ : ∃ W1, W1 = wr := ⟨_, rfl⟩
            go_wp2_with fail
            go_loopw [6] (fun v wr => ∃ k : Nat, k ≤ n ∧ v = .int .i64 k ∧ Hid (∀ b (hb : b < es.length), b < k → undE es[i] es[b] = false) ∧ Below W1.heap.size W1 wr) (fun v _ => n - (intOf v).toNat)
            case atStart => exact ⟨0, by omega, rfl, hid (fun b _ h => absurd h (by omega)), Below.refl _ _⟩
            case round =>
              obtain ⟨k, hk, rfl, HB, b2⟩ := hrel
              by_cases hkn : k < n
              · have hkl : k < es.length := by rw [HL.out]; exact hkn
                have hkz : (0 : Int) ≤ k := by omega
                have hklt : (k : Int) < n := by omega
                obtain ⟨g, og, rfl, a0, a1, -, -, -, lg⟩ := ((hr.below b).below b2).ent hil
                obtain ⟨g', og', e', d0, d1, -, -, -, -⟩ := ((hr.below b).below b2).ent hkl
                injection e' with e'
                injection e' with e1 e2
                subst e1 e2
                have HU : Hid (undE es[i] es[k] = (es[i].has && es[k].has && underL es[i].path.data.toList es[k].path.data.toList)) := rfl
                have HMORE : Hid (undE es[i] es[k] = false → ∀ b (hb : b < es.length), b < k + 1 → undE es[i] es[b] = false) := fun h b hb hbk => by
                  by_cases e : b = k
                  · subst e; exact h
                  · exact HB.out b hb (by omega)
                have HNO := hid (fun h => @may_name es HNF.out i k hil hkl h)
                have sx := (HS.out _ (List.getElem_mem hil)).1
                have sy := (HS.out _ (List.getElem_mem hkl)).1
                generalize es[i] = x at *
                generalize es[k] = y at *
                cases hx : x.has with
                | false =>
                  rw [hx] at a1 HU
                  have HF : Hid (undE x y = false) := by show _ = _; rw [HU.out]; rfl
                  clear hx
                  go_wp2_with fail
                  refine wp_region_held_drew (S := fun w' => w'.cell? ⟨g, og + i * 5 + 1, none⟩ = some (.bool false)) (by kernel_rfl) a1 (fun hHeld => ?_)
                  refine wpAnyH_take (i := 0) (oi := ⟨_, _, _, _, _, _⟩) (v := ?_) rfl (by kernel_rfl) (by kernel_rfl) (by kernel_rfl) (fun _ _ _ h => h) (Or.inl ⟨by rfl, ?_⟩) (by assumption) ?_
                  rotate_left
                  · intro w hSw; (try dsimp only at hSw); go_simp; (try (with_reducible rfl))
                  try simp only [Act.put, List.setIfInBounds_toArray, List.set_cons_zero, List.set_cons_succ]
                  refine wpAnyH_take (i := 1) (oi := ⟨_, _, _, _, _, _⟩) (v := ?_) rfl (by kernel_rfl) (by kernel_rfl) (by kernel_rfl) (fun _ _ _ h => h) (Or.inl ⟨by rfl, ?_⟩) (by assumption) ?_
                  rotate_left
                  · intro w hSw; (try dsimp only at hSw); go_simp; (try (with_reducible rfl))
                  try simp only [Act.put, List.setIfInBounds_toArray, List.set_cons_zero, List.set_cons_succ]
                  refine wpAnyH_take (i := 2) (oi := ⟨_, _, _, _, _, _⟩) (v := ?_) rfl (by kernel_rfl) (by kernel_rfl) (by kernel_rfl) (fun _ _ _ h => h) (Or.inl ⟨by rfl, ?_⟩) (by assumption) ?_
                  rotate_left
                  · intro w hSw; (try dsimp only at hSw); go_simp; (try (with_reducible rfl))
                  try simp only [Act.put, List.setIfInBounds_toArray, List.set_cons_zero, List.set_cons_succ]
                  refine wpAnyH_take (i := 3) (oi := ⟨_, _, _, _, _, _⟩) (v := ?_) rfl (by kernel_rfl) (by kernel_rfl) (by kernel_rfl) (fun _ _ _ h => h) (Or.inl ⟨by rfl, ?_⟩) (by assumption) ?_
                  rotate_left
                  · intro w hSw; (try dsimp only at hSw); go_simp; (try (with_reducible rfl))
                  try simp only [Act.put, List.setIfInBounds_toArray, List.set_cons_zero, List.set_cons_succ]
                  refine wpAnyH_take (i := 4) (oi := ⟨_, _, _, _, _, _⟩) (v := ?_) rfl (by kernel_rfl) (by kernel_rfl) (by kernel_rfl) (fun _ _ _ h => h) (Or.inl ⟨by rfl, ?_⟩) (by assumption) ?_
                  rotate_left
                  · intro w hSw; (try dsimp only at hSw); go_simp; (try (with_reducible rfl))
                  try simp only [Act.put, List.setIfInBounds_toArray, List.set_cons_zero, List.set_cons_succ]
                  refine wpAnyH_take (i := 5) (oi := ⟨_, _, _, _, _, _⟩) (v := ?_) rfl (by kernel_rfl) (by kernel_rfl) (by kernel_rfl) (fun _ _ _ h => h) (Or.inl ⟨by rfl, ?_⟩) (by assumption) ?_
                  rotate_left
                  · intro w hSw; (try dsimp only at hSw); go_simp; (try (with_reducible rfl))
                  try simp only [Act.put, List.setIfInBounds_toArray, List.set_cons_zero, List.set_cons_succ]
                  refine wpAnyH_take (i := 6) (oi := ⟨_, _, _, _, _, _⟩) (v := undef) rfl (by kernel_rfl) (by kernel_rfl) (by kernel_rfl) (fun _ _ _ h => h) (Or.inr ⟨by rfl, rfl⟩) (by assumption) ?_
                  try simp only [Act.put, List.setIfInBounds_toArray, List.set_cons_zero, List.set_cons_succ]
                  refine wpAnyH_take (i := 7) (oi := ⟨_, _, _, _, _, _⟩) (v := undef) rfl (by kernel_rfl) (by kernel_rfl) (by kernel_rfl) (fun _ _ _ h => h) (Or.inr ⟨by rfl, rfl⟩) (by assumption) ?_
                  try simp only [Act.put, List.setIfInBounds_toArray, List.set_cons_zero, List.set_cons_succ]
                  refine wpAnyH_take (i := 8) (oi := ⟨_, _, _, _, _, _⟩) (v := undef) rfl (by kernel_rfl) (by kernel_rfl) (by kernel_rfl) (fun _ _ _ h => h) (Or.inr ⟨by rfl, rfl⟩) (by assumption) ?_
                  try simp only [Act.put, List.setIfInBounds_toArray, List.set_cons_zero, List.set_cons_succ]
                  refine wpAnyH_take (i := 9) (oi := ⟨_, _, _, _, _, _⟩) (v := undef) rfl (by kernel_rfl) (by kernel_rfl) (by kernel_rfl) (fun _ _ _ h => h) (Or.inr ⟨by rfl, rfl⟩) (by assumption) ?_
                  try simp only [Act.put, List.setIfInBounds_toArray, List.set_cons_zero, List.set_cons_succ]
                  refine wpAnyH_take (i := 10) (oi := ⟨_, _, _, _, _, _⟩) (v := undef) rfl (by kernel_rfl) (by kernel_rfl) (by kernel_rfl) (fun _ _ _ h => h) (Or.inr ⟨by rfl, rfl⟩) (by assumption) ?_
                  try simp only [Act.put, List.setIfInBounds_toArray, List.set_cons_zero, List.set_cons_succ]
                  refine wpAnyH_take (i := 11) (oi := ⟨_, _, _, _, _, _⟩) (v := ?_) rfl (by kernel_rfl) (by kernel_rfl) (by kernel_rfl) (fun _ _ _ h => h) (Or.inl ⟨by rfl, ?_⟩) (by assumption) ?_
                  rotate_left
                  · intro w hSw; (try dsimp only at hSw); go_simp; (try (with_reducible rfl))
                  try simp only [Act.put, List.setIfInBounds_toArray, List.set_cons_zero, List.set_cons_succ]
                  refine wpAnyH_take (i := 12) (oi := ⟨_, _, _, _, _, _⟩) (v := ?_) rfl (by kernel_rfl) (by kernel_rfl) (by kernel_rfl) (fun _ _ _ h => h) (Or.inl ⟨by rfl, ?_⟩) (by assumption) ?_
                  rotate_left
                  · intro w hSw; (try dsimp only at hSw); go_simp; (try (with_reducible rfl))
                  try simp only [Act.put, List.setIfInBounds_toArray, List.set_cons_zero, List.set_cons_succ]
                  refine wpAnyH_take (i := 13) (oi := ⟨_, _, _, _, _, _⟩) (v := undef) rfl (by kernel_rfl) (by kernel_rfl) (by kernel_rfl) (fun _ _ _ h => h) (Or.inr ⟨by rfl, rfl⟩) (by assumption) ?_
                  try simp only [Act.put, List.setIfInBounds_toArray, List.set_cons_zero, List.set_cons_succ]
                  refine wpAnyH_take (i := 14) (oi := ⟨_, _, _, _, _, _⟩) (v := undef) rfl (by kernel_rfl) (by kernel_rfl) (by kernel_rfl) (fun _ _ _ h => h) (Or.inr ⟨by rfl, rfl⟩) (by assumption) ?_
                  try simp only [Act.put, List.setIfInBounds_toArray, List.set_cons_zero, List.set_cons_succ]
                  refine wpAnyH_take (i := 15) (oi := ⟨_, _, _, _, _, _⟩) (v := undef) rfl (by kernel_rfl) (by kernel_rfl) (by kernel_rfl) (fun _ _ _ h => h) (Or.inr ⟨by rfl, rfl⟩) (by assumption) ?_
                  try simp only [Act.put, List.setIfInBounds_toArray, List.set_cons_zero, List.set_cons_succ]
                  refine wpAnyH_take (i := 16) (oi := ⟨_, _, _, _, _, _⟩) (v := undef) rfl (by kernel_rfl) (by kernel_rfl) (by kernel_rfl) (fun _ _ _ h => h) (Or.inr ⟨by rfl, rfl⟩) (by assumption) ?_
                  try simp only [Act.put, List.setIfInBounds_toArray, List.set_cons_zero, List.set_cons_succ]
                  refine wpAnyH_take (i := 17) (oi := ⟨_, _, _, _, _, _⟩) (v := undef) rfl (by kernel_rfl) (by kernel_rfl) (by kernel_rfl) (fun _ _ _ h => h) (Or.inr ⟨by rfl, rfl⟩) (by assumption) ?_
                  try simp only [Act.put, List.setIfInBounds_toArray, List.set_cons_zero, List.set_cons_succ]
                  refine wpAnyH_take (i := 18) (oi := ⟨_, _, _, _, _, _⟩) (v := undef) rfl (by kernel_rfl) (by kernel_rfl) (by kernel_rfl) (fun _ _ _ h => h) (Or.inr ⟨by rfl, rfl⟩) (by assumption) ?_
                  try simp only [Act.put, List.setIfInBounds_toArray, List.set_cons_zero, List.set_cons_succ]
                  refine wpAnyH_take (i := 19) (oi := ⟨_, _, _, _, _, _⟩) (v := undef) rfl (by kernel_rfl) (by kernel_rfl) (by kernel_rfl) (fun _ _ _ h => h) (Or.inr ⟨by rfl, rfl⟩) (by assumption) ?_
                  try simp only [Act.put, List.setIfInBounds_toArray, List.set_cons_zero, List.set_cons_succ]
                  refine wpAnyH_take (i := 20) (oi := ⟨_, _, _, _, _, _⟩) (v := undef) rfl (by kernel_rfl) (by kernel_rfl) (by kernel_rfl) (fun _ _ _ h => h) (Or.inr ⟨by rfl, rfl⟩) (by assumption) ?_
                  try simp only [Act.put, List.setIfInBounds_toArray, List.set_cons_zero, List.set_cons_succ]
                  refine wpAnyH_take (i := 21) (oi := ⟨_, _, _, _, _, _⟩) (v := undef) rfl (by kernel_rfl) (by kernel_rfl) (by kernel_rfl) (fun _ _ _ h => h) (Or.inr ⟨by rfl, rfl⟩) (by assumption) ?_
                  try simp only [Act.put, List.setIfInBounds_toArray, List.set_cons_zero, List.set_cons_succ]
                  refine wpAnyH_take (i := 22) (oi := ⟨_, _, _, _, _, _⟩) (v := undef) rfl (by kernel_rfl) (by kernel_rfl) (by kernel_rfl) (fun _ _ _ h => h) (Or.inr ⟨by rfl, rfl⟩) (by assumption) ?_
                  try simp only [Act.put, List.setIfInBounds_toArray, List.set_cons_zero, List.set_cons_succ]
                  refine wpAnyH_take (i := 23) (oi := ⟨_, _, _, _, _, _⟩) (v := undef) rfl (by kernel_rfl) (by kernel_rfl) (by kernel_rfl) (fun _ _ _ h => h) (Or.inr ⟨by rfl, rfl⟩) (by assumption) ?_
                  try simp only [Act.put, List.setIfInBounds_toArray, List.set_cons_zero, List.set_cons_succ]
                  refine wpAnyH_take (i := 24) (oi := ⟨_, _, _, _, _, _⟩) (v := ?_) rfl (by kernel_rfl) (by kernel_rfl) (by kernel_rfl) (fun _ _ _ h => h) (Or.inl ⟨by rfl, ?_⟩) (by assumption) ?_
                  rotate_left
                  · intro w hSw; (try dsimp only at hSw); go_simp; (try (with_reducible rfl))
                  try simp only [Act.put, List.setIfInBounds_toArray, List.set_cons_zero, List.set_cons_succ]
                  refine wpAnyH_done (by kernel_rfl) ?_ _
                  clear hHeld
                  go_wp2
                  go_roundw
                  case rel => exact ⟨k + 1, by omega, by go_num, hid (HMORE.out HF.out), b2.drew⟩
                  case measure => simp [intOf]; omega
                | true =>
                  rw [hx] at a1 HU
                  cases hy : y.has with
                  | false =>
                    rw [hy] at d1 HU
                    have HF : Hid (undE x y = false) := by show _ = _; rw [HU.out]; rfl
                    clear hx hy
                    go_wp2_with fail
                    refine wp_region_held_drew (S := fun w' => w'.cell? ⟨g, og + i * 5 + 1, none⟩ = some (.bool true) ∧ w'.cell? ⟨g, og + k * 5 + 1, none⟩ = some (.bool false)) (by kernel_rfl) ⟨a1, d1⟩ (fun hHeld => ?_)
                    refine wpAnyH_take (i := 0) (oi := ⟨_, _, _, _, _, _⟩) (v := ?_) rfl (by kernel_rfl) (by kernel_rfl) (by kernel_rfl) (fun _ _ _ h => h) (Or.inl ⟨by rfl, ?_⟩) (by assumption) ?_
                    rotate_left
                    · intro w hSw; (try dsimp only at hSw); go_simp; (try (with_reducible rfl))
                    try simp only [Act.put, List.setIfInBounds_toArray, List.set_cons_zero, List.set_cons_succ]
                    refine wpAnyH_take (i := 1) (oi := ⟨_, _, _, _, _, _⟩) (v := ?_) rfl (by kernel_rfl) (by kernel_rfl) (by kernel_rfl) (fun _ _ _ h => h) (Or.inl ⟨by rfl, ?_⟩) (by assumption) ?_
                    rotate_left
                    · intro w hSw; (try dsimp only at hSw); go_simp; (try (with_reducible rfl))
                    try simp only [Act.put, List.setIfInBounds_toArray, List.set_cons_zero, List.set_cons_succ]
                    refine wpAnyH_take (i := 2) (oi := ⟨_, _, _, _, _, _⟩) (v := ?_) rfl (by kernel_rfl) (by kernel_rfl) (by kernel_rfl) (fun _ _ _ h => h) (Or.inl ⟨by rfl, ?_⟩) (by assumption) ?_
                    rotate_left
                    · intro w hSw; (try dsimp only at hSw); go_simp; (try (with_reducible rfl))
                    try simp only [Act.put, List.setIfInBounds_toArray, List.set_cons_zero, List.set_cons_succ]
                    refine wpAnyH_take (i := 3) (oi := ⟨_, _, _, _, _, _⟩) (v := ?_) rfl (by kernel_rfl) (by kernel_rfl) (by kernel_rfl) (fun _ _ _ h => h) (Or.inl ⟨by rfl, ?_⟩) (by assumption) ?_
                    rotate_left
                    · intro w hSw; (try dsimp only at hSw); go_simp; (try (with_reducible rfl))
                    try simp only [Act.put, List.setIfInBounds_toArray, List.set_cons_zero, List.set_cons_succ]
                    refine wpAnyH_take (i := 4) (oi := ⟨_, _, _, _, _, _⟩) (v := ?_) rfl (by kernel_rfl) (by kernel_rfl) (by kernel_rfl) (fun _ _ _ h => h) (Or.inl ⟨by rfl, ?_⟩) (by assumption) ?_
                    rotate_left
                    · intro w hSw; (try dsimp only at hSw); go_simp; (try (with_reducible rfl))
                    try simp only [Act.put, List.setIfInBounds_toArray, List.set_cons_zero, List.set_cons_succ]
                    refine wpAnyH_take (i := 5) (oi := ⟨_, _, _, _, _, _⟩) (v := ?_) rfl (by kernel_rfl) (by kernel_rfl) (by kernel_rfl) (fun _ _ _ h => h) (Or.inl ⟨by rfl, ?_⟩) (by assumption) ?_
                    rotate_left
                    · intro w hSw; (try dsimp only at hSw); go_simp; (try (with_reducible rfl))
                    try simp only [Act.put, List.setIfInBounds_toArray, List.set_cons_zero, List.set_cons_succ]
                    refine wpAnyH_take (i := 6) (oi := ⟨_, _, _, _, _, _⟩) (v := ?_) rfl (by kernel_rfl) (by kernel_rfl) (by kernel_rfl) (fun _ _ _ h => h) (Or.inl ⟨by rfl, ?_⟩) (by assumption) ?_
                    rotate_left
                    · intro w hSw; (try dsimp only at hSw); go_simp; (try (with_reducible rfl))
                    try simp only [Act.put, List.setIfInBounds_toArray, List.set_cons_zero, List.set_cons_succ]
                    refine wpAnyH_take (i := 7) (oi := ⟨_, _, _, _, _, _⟩) (v := ?_) rfl (by kernel_rfl) (by kernel_rfl) (by kernel_rfl) (fun _ _ _ h => h) (Or.inl ⟨by rfl, ?_⟩) (by assumption) ?_
                    rotate_left
                    · intro w hSw; (try dsimp only at hSw); go_simp; (try (with_reducible rfl))
                    try simp only [Act.put, List.setIfInBounds_toArray, List.set_cons_zero, List.set_cons_succ]
                    refine wpAnyH_take (i := 8) (oi := ⟨_, _, _, _, _, _⟩) (v := ?_) rfl (by kernel_rfl) (by kernel_rfl) (by kernel_rfl) (fun _ _ _ h => h) (Or.inl ⟨by rfl, ?_⟩) (by assumption) ?_
                    rotate_left
                    · intro w hSw; (try dsimp only at hSw); go_simp; (try (with_reducible rfl))
                    try simp only [Act.put, List.setIfInBounds_toArray, List.set_cons_zero, List.set_cons_succ]
                    refine wpAnyH_take (i := 9) (oi := ⟨_, _, _, _, _, _⟩) (v := ?_) rfl (by kernel_rfl) (by kernel_rfl) (by kernel_rfl) (fun _ _ _ h => h) (Or.inl ⟨by rfl, ?_⟩) (by assumption) ?_
                    rotate_left
                    · intro w hSw; (try dsimp only at hSw); go_simp; (try (with_reducible rfl))
                    try simp only [Act.put, List.setIfInBounds_toArray, List.set_cons_zero, List.set_cons_succ]
                    refine wpAnyH_take (i := 10) (oi := ⟨_, _, _, _, _, _⟩) (v := ?_) rfl (by kernel_rfl) (by kernel_rfl) (by kernel_rfl) (fun _ _ _ h => h) (Or.inl ⟨by rfl, ?_⟩) (by assumption) ?_
                    rotate_left
                    · intro w hSw; (try dsimp only at hSw); go_simp; (try (with_reducible rfl))
                    try simp only [Act.put, List.setIfInBounds_toArray, List.set_cons_zero, List.set_cons_succ]
                    refine wpAnyH_take (i := 11) (oi := ⟨_, _, _, _, _, _⟩) (v := ?_) rfl (by kernel_rfl) (by kernel_rfl) (by kernel_rfl) (fun _ _ _ h => h) (Or.inl ⟨by rfl, ?_⟩) (by assumption) ?_
                    rotate_left
                    · intro w hSw; (try dsimp only at hSw); go_simp; (try (with_reducible rfl))
                    try simp only [Act.put, List.setIfInBounds_toArray, List.set_cons_zero, List.set_cons_succ]
                    refine wpAnyH_take (i := 12) (oi := ⟨_, _, _, _, _, _⟩) (v := ?_) rfl (by kernel_rfl) (by kernel_rfl) (by kernel_rfl) (fun _ _ _ h => h) (Or.inl ⟨by rfl, ?_⟩) (by assumption) ?_
                    rotate_left
                    · intro w hSw; (try dsimp only at hSw); go_simp; (try (with_reducible rfl))
                    try simp only [Act.put, List.setIfInBounds_toArray, List.set_cons_zero, List.set_cons_succ]
                    refine wpAnyH_take (i := 13) (oi := ⟨_, _, _, _, _, _⟩) (v := undef) rfl (by kernel_rfl) (by kernel_rfl) (by kernel_rfl) (fun _ _ _ h => h) (Or.inr ⟨by rfl, rfl⟩) (by assumption) ?_
                    try simp only [Act.put, List.setIfInBounds_toArray, List.set_cons_zero, List.set_cons_succ]
                    refine wpAnyH_take (i := 14) (oi := ⟨_, _, _, _, _, _⟩) (v := undef) rfl (by kernel_rfl) (by kernel_rfl) (by kernel_rfl) (fun _ _ _ h => h) (Or.inr ⟨by rfl, rfl⟩) (by assumption) ?_
                    try simp only [Act.put, List.setIfInBounds_toArray, List.set_cons_zero, List.set_cons_succ]
                    refine wpAnyH_take (i := 15) (oi := ⟨_, _, _, _, _, _⟩) (v := undef) rfl (by kernel_rfl) (by kernel_rfl) (by kernel_rfl) (fun _ _ _ h => h) (Or.inr ⟨by rfl, rfl⟩) (by assumption) ?_
                    try simp only [Act.put, List.setIfInBounds_toArray, List.set_cons_zero, List.set_cons_succ]
                    refine wpAnyH_take (i := 16) (oi := ⟨_, _, _, _, _, _⟩) (v := undef) rfl (by kernel_rfl) (by kernel_rfl) (by kernel_rfl) (fun _ _ _ h => h) (Or.inr ⟨by rfl, rfl⟩) (by assumption) ?_
                    try simp only [Act.put, List.setIfInBounds_toArray, List.set_cons_zero, List.set_cons_succ]
                    refine wpAnyH_take (i := 17) (oi := ⟨_, _, _, _, _, _⟩) (v := undef) rfl (by kernel_rfl) (by kernel_rfl) (by kernel_rfl) (fun _ _ _ h => h) (Or.inr ⟨by rfl, rfl⟩) (by assumption) ?_
                    try simp only [Act.put, List.setIfInBounds_toArray, List.set_cons_zero, List.set_cons_succ]
                    refine wpAnyH_take (i := 18) (oi := ⟨_, _, _, _, _, _⟩) (v := undef) rfl (by kernel_rfl) (by kernel_rfl) (by kernel_rfl) (fun _ _ _ h => h) (Or.inr ⟨by rfl, rfl⟩) (by assumption) ?_
                    try simp only [Act.put, List.setIfInBounds_toArray, List.set_cons_zero, List.set_cons_succ]
                    refine wpAnyH_take (i := 19) (oi := ⟨_, _, _, _, _, _⟩) (v := undef) rfl (by kernel_rfl) (by kernel_rfl) (by kernel_rfl) (fun _ _ _ h => h) (Or.inr ⟨by rfl, rfl⟩) (by assumption) ?_
                    try simp only [Act.put, List.setIfInBounds_toArray, List.set_cons_zero, List.set_cons_succ]
                    refine wpAnyH_take (i := 20) (oi := ⟨_, _, _, _, _, _⟩) (v := undef) rfl (by kernel_rfl) (by kernel_rfl) (by kernel_rfl) (fun _ _ _ h => h) (Or.inr ⟨by rfl, rfl⟩) (by assumption) ?_
                    try simp only [Act.put, List.setIfInBounds_toArray, List.set_cons_zero, List.set_cons_succ]
                    refine wpAnyH_take (i := 21) (oi := ⟨_, _, _, _, _, _⟩) (v := undef) rfl (by kernel_rfl) (by kernel_rfl) (by kernel_rfl) (fun _ _ _ h => h) (Or.inr ⟨by rfl, rfl⟩) (by assumption) ?_
                    try simp only [Act.put, List.setIfInBounds_toArray, List.set_cons_zero, List.set_cons_succ]
                    refine wpAnyH_take (i := 22) (oi := ⟨_, _, _, _, _, _⟩) (v := undef) rfl (by kernel_rfl) (by kernel_rfl) (by kernel_rfl) (fun _ _ _ h => h) (Or.inr ⟨by rfl, rfl⟩) (by assumption) ?_
                    try simp only [Act.put, List.setIfInBounds_toArray, List.set_cons_zero, List.set_cons_succ]
                    refine wpAnyH_take (i := 23) (oi := ⟨_, _, _, _, _, _⟩) (v := undef) rfl (by kernel_rfl) (by kernel_rfl) (by kernel_rfl) (fun _ _ _ h => h) (Or.inr ⟨by rfl, rfl⟩) (by assumption) ?_
                    try simp only [Act.put, List.setIfInBounds_toArray, List.set_cons_zero, List.set_cons_succ]
                    refine wpAnyH_take (i := 24) (oi := ⟨_, _, _, _, _, _⟩) (v := ?_) rfl (by kernel_rfl) (by kernel_rfl) (by kernel_rfl) (fun _ _ _ h => h) (Or.inl ⟨by rfl, ?_⟩) (by assumption) ?_
                    rotate_left
                    · intro w hSw; (try dsimp only at hSw); go_simp; (try (with_reducible rfl))
                    try simp only [Act.put, List.setIfInBounds_toArray, List.set_cons_zero, List.set_cons_succ]
                    refine wpAnyH_done (by kernel_rfl) ?_ _
                    clear hHeld
                    go_wp2
                    go_roundw
                    case rel => exact ⟨k + 1, by omega, by go_num, hid (HMORE.out HF.out), b2.drew⟩
                    case measure => simp [intOf]; omega
                  | true =>
                    rw [hy] at d1 HU
                    clear hx hy
                    go_wp2_with fail
                    refine wp_region_held_drew (S := fun w' => w'.cell? ⟨g, og + i * 5 + 1, none⟩ = some (.bool true) ∧ w'.cell? ⟨g, og + k * 5 + 1, none⟩ = some (.bool true) ∧ w'.cell? ⟨g, og + i * 5, none⟩ = some (.string x.path) ∧ w'.cell? ⟨g, og + k * 5, none⟩ = some (.string y.path)) (by kernel_rfl) ⟨a1, d1, a0, d0⟩ (fun hHeld => ?_)
                    refine wpAnyH_take (i := 0) (oi := ⟨_, _, _, _, _, _⟩) (v := ?_) rfl (by kernel_rfl) (by kernel_rfl) (by kernel_rfl) (fun _ _ _ h => h) (Or.inl ⟨by rfl, ?_⟩) (by assumption) ?_
                    rotate_left
                    · intro w hSw; (try dsimp only at hSw); go_simp; (try (with_reducible rfl))
                    try simp only [Act.put, List.setIfInBounds_toArray, List.set_cons_zero, List.set_cons_succ]
                    refine wpAnyH_take (i := 1) (oi := ⟨_, _, _, _, _, _⟩) (v := ?_) rfl (by kernel_rfl) (by kernel_rfl) (by kernel_rfl) (fun _ _ _ h => h) (Or.inl ⟨by rfl, ?_⟩) (by assumption) ?_
                    rotate_left
                    · intro w hSw; (try dsimp only at hSw); go_simp; (try (with_reducible rfl))
                    try simp only [Act.put, List.setIfInBounds_toArray, List.set_cons_zero, List.set_cons_succ]
                    refine wpAnyH_take (i := 2) (oi := ⟨_, _, _, _, _, _⟩) (v := ?_) rfl (by kernel_rfl) (by kernel_rfl) (by kernel_rfl) (fun _ _ _ h => h) (Or.inl ⟨by rfl, ?_⟩) (by assumption) ?_
                    rotate_left
                    · intro w hSw; (try dsimp only at hSw); go_simp; (try (with_reducible rfl))
                    try simp only [Act.put, List.setIfInBounds_toArray, List.set_cons_zero, List.set_cons_succ]
                    refine wpAnyH_take (i := 3) (oi := ⟨_, _, _, _, _, _⟩) (v := ?_) rfl (by kernel_rfl) (by kernel_rfl) (by kernel_rfl) (fun _ _ _ h => h) (Or.inl ⟨by rfl, ?_⟩) (by assumption) ?_
                    rotate_left
                    · intro w hSw; (try dsimp only at hSw); go_simp; (try (with_reducible rfl))
                    try simp only [Act.put, List.setIfInBounds_toArray, List.set_cons_zero, List.set_cons_succ]
                    refine wpAnyH_take (i := 4) (oi := ⟨_, _, _, _, _, _⟩) (v := ?_) rfl (by kernel_rfl) (by kernel_rfl) (by kernel_rfl) (fun _ _ _ h => h) (Or.inl ⟨by rfl, ?_⟩) (by assumption) ?_
                    rotate_left
                    · intro w hSw; (try dsimp only at hSw); go_simp; (try (with_reducible rfl))
                    try simp only [Act.put, List.setIfInBounds_toArray, List.set_cons_zero, List.set_cons_succ]
                    refine wpAnyH_take (i := 5) (oi := ⟨_, _, _, _, _, _⟩) (v := ?_) rfl (by kernel_rfl) (by kernel_rfl) (by kernel_rfl) (fun _ _ _ h => h) (Or.inl ⟨by rfl, ?_⟩) (by assumption) ?_
                    rotate_left
                    · intro w hSw; (try dsimp only at hSw); go_simp; (try (with_reducible rfl))
                    try simp only [Act.put, List.setIfInBounds_toArray, List.set_cons_zero, List.set_cons_succ]
                    refine wpAnyH_take (i := 6) (oi := ⟨_, _, _, _, _, _⟩) (v := ?_) rfl (by kernel_rfl) (by kernel_rfl) (by kernel_rfl) (fun _ _ _ h => h) (Or.inl ⟨by rfl, ?_⟩) (by assumption) ?_
                    rotate_left
                    · intro w hSw; (try dsimp only at hSw); go_simp; (try (with_reducible rfl))
                    try simp only [Act.put, List.setIfInBounds_toArray, List.set_cons_zero, List.set_cons_succ]
                    refine wpAnyH_take (i := 7) (oi := ⟨_, _, _, _, _, _⟩) (v := ?_) rfl (by kernel_rfl) (by kernel_rfl) (by kernel_rfl) (fun _ _ _ h => h) (Or.inl ⟨by rfl, ?_⟩) (by assumption) ?_
                    rotate_left
                    · intro w hSw; (try dsimp only at hSw); go_simp; (try (with_reducible rfl))
                    try simp only [Act.put, List.setIfInBounds_toArray, List.set_cons_zero, List.set_cons_succ]
                    refine wpAnyH_take (i := 8) (oi := ⟨_, _, _, _, _, _⟩) (v := ?_) rfl (by kernel_rfl) (by kernel_rfl) (by kernel_rfl) (fun _ _ _ h => h) (Or.inl ⟨by rfl, ?_⟩) (by assumption) ?_
                    rotate_left
                    · intro w hSw; (try dsimp only at hSw); go_simp; (try (with_reducible rfl))
                    try simp only [Act.put, List.setIfInBounds_toArray, List.set_cons_zero, List.set_cons_succ]
                    refine wpAnyH_take (i := 9) (oi := ⟨_, _, _, _, _, _⟩) (v := ?_) rfl (by kernel_rfl) (by kernel_rfl) (by kernel_rfl) (fun _ _ _ h => h) (Or.inl ⟨by rfl, ?_⟩) (by assumption) ?_
                    rotate_left
                    · intro w hSw; (try dsimp only at hSw); go_simp; (try (with_reducible rfl))
                    try simp only [Act.put, List.setIfInBounds_toArray, List.set_cons_zero, List.set_cons_succ]
                    refine wpAnyH_take (i := 10) (oi := ⟨_, _, _, _, _, _⟩) (v := ?_) rfl (by kernel_rfl) (by kernel_rfl) (by kernel_rfl) (fun _ _ _ h => h) (Or.inl ⟨by rfl, ?_⟩) (by assumption) ?_
                    rotate_left
                    · intro w hSw; (try dsimp only at hSw); go_simp; (try (with_reducible rfl))
                    try simp only [Act.put, List.setIfInBounds_toArray, List.set_cons_zero, List.set_cons_succ]
                    refine wpAnyH_take (i := 11) (oi := ⟨_, _, _, _, _, _⟩) (v := ?_) rfl (by kernel_rfl) (by kernel_rfl) (by kernel_rfl) (fun _ _ _ h => h) (Or.inl ⟨by rfl, ?_⟩) (by assumption) ?_
                    rotate_left
                    · intro w hSw; (try dsimp only at hSw); go_simp; (try (with_reducible rfl))
                    try simp only [Act.put, List.setIfInBounds_toArray, List.set_cons_zero, List.set_cons_succ]
                    refine wpAnyH_take (i := 12) (oi := ⟨_, _, _, _, _, _⟩) (v := ?_) rfl (by kernel_rfl) (by kernel_rfl) (by kernel_rfl) (fun _ _ _ h => h) (Or.inl ⟨by rfl, ?_⟩) (by assumption) ?_
                    rotate_left
                    · intro w hSw; (try dsimp only at hSw); go_simp; (try (with_reducible rfl))
                    try simp only [Act.put, List.setIfInBounds_toArray, List.set_cons_zero, List.set_cons_succ]
                    refine wpAnyH_take (i := 13) (oi := ⟨_, _, _, _, _, _⟩) (v := ?_) rfl (by kernel_rfl) (by kernel_rfl) (by kernel_rfl) (fun _ _ _ h => h) (Or.inl ⟨by rfl, ?_⟩) (by assumption) ?_
                    rotate_left
                    · intro w hSw; (try dsimp only at hSw); go_simp; (try (with_reducible rfl))
                    try simp only [Act.put, List.setIfInBounds_toArray, List.set_cons_zero, List.set_cons_succ]
                    refine wpAnyH_take (i := 14) (oi := ⟨_, _, _, _, _, _⟩) (v := ?_) rfl (by kernel_rfl) (by kernel_rfl) (by kernel_rfl) (fun _ _ _ h => h) (Or.inl ⟨by rfl, ?_⟩) (by assumption) ?_
                    rotate_left
                    · intro w hSw; (try dsimp only at hSw); go_simp; (try (with_reducible rfl))
                    try simp only [Act.put, List.setIfInBounds_toArray, List.set_cons_zero, List.set_cons_succ]
                    refine wpAnyH_take (i := 15) (oi := ⟨_, _, _, _, _, _⟩) (v := ?_) rfl (by kernel_rfl) (by kernel_rfl) (by kernel_rfl) (fun _ _ _ h => h) (Or.inl ⟨by rfl, ?_⟩) (by assumption) ?_
                    rotate_left
                    · intro w hSw; (try dsimp only at hSw); go_simp; (try (with_reducible rfl))
                    try simp only [Act.put, List.setIfInBounds_toArray, List.set_cons_zero, List.set_cons_succ]
                    refine wpAnyH_take (i := 16) (oi := ⟨_, _, _, _, _, _⟩) (v := ?_) rfl (by kernel_rfl) (by kernel_rfl) (by kernel_rfl) (fun _ _ _ h => h) (Or.inl ⟨by rfl, ?_⟩) (by assumption) ?_
                    rotate_left
                    · intro w hSw; (try dsimp only at hSw); go_simp; (try (with_reducible rfl))
                    try simp only [Act.put, List.setIfInBounds_toArray, List.set_cons_zero, List.set_cons_succ]
                    refine wpAnyH_take (i := 17) (oi := ⟨_, _, _, _, _, _⟩) (v := ?_) rfl (by kernel_rfl) (by kernel_rfl) (by kernel_rfl) (fun _ _ _ h => h) (Or.inl ⟨by rfl, ?_⟩) (by assumption) ?_
                    rotate_left
                    · intro w hSw; (try dsimp only at hSw); go_simp; (try (with_reducible rfl))
                    try simp only [Act.put, List.setIfInBounds_toArray, List.set_cons_zero, List.set_cons_succ]
                    refine wpAnyH_take (i := 18) (oi := ⟨_, _, _, _, _, _⟩) (v := ?_) rfl (by kernel_rfl) (by kernel_rfl) (by kernel_rfl) (fun _ _ _ h => h) (Or.inl ⟨by rfl, ?_⟩) (by assumption) ?_
                    rotate_left
                    · intro w hSw; (try dsimp only at hSw); go_simp; (try (with_reducible rfl))
                    try simp only [Act.put, List.setIfInBounds_toArray, List.set_cons_zero, List.set_cons_succ]
                    refine wpAnyH_take (i := 19) (oi := ⟨_, _, _, _, _, _⟩) (v := ?_) rfl (by kernel_rfl) (by kernel_rfl) (by kernel_rfl) (fun _ _ _ h => h) (Or.inl ⟨by rfl, ?_⟩) (by assumption) ?_
                    rotate_left
                    · intro w hSw; (try dsimp only at hSw); go_simp; (try (with_reducible rfl))
                    try simp only [Act.put, List.setIfInBounds_toArray, List.set_cons_zero, List.set_cons_succ]
                    refine wpAnyH_take (i := 20) (oi := ⟨_, _, _, _, _, _⟩) (v := ?_) rfl (by kernel_rfl) (by kernel_rfl) (by kernel_rfl) (fun _ _ _ h => h) (Or.inl ⟨by rfl, ?_⟩) (by assumption) ?_
                    rotate_left
                    · intro w hSw; (try dsimp only at hSw); go_simp; (try (with_reducible rfl))
                    try simp only [Act.put, List.setIfInBounds_toArray, List.set_cons_zero, List.set_cons_succ]
                    refine wpAnyH_take (i := 21) (oi := ⟨_, _, _, _, _, _⟩) (v := ?_) rfl (by kernel_rfl) (by kernel_rfl) (by kernel_rfl) (fun _ _ _ h => h) (Or.inl ⟨by rfl, ?_⟩) (by assumption) ?_
                    rotate_left
                    · intro w hSw; (try dsimp only at hSw); go_simp; (try (with_reducible rfl))
                    try simp only [Act.put, List.setIfInBounds_toArray, List.set_cons_zero, List.set_cons_succ]
                    refine wpAnyH_take (i := 22) (oi := ⟨_, _, _, _, _, _⟩) (v := ?_) rfl (by kernel_rfl) (by kernel_rfl) (by kernel_rfl) (fun _ _ _ h => h) (Or.inl ⟨by rfl, ?_⟩) (by assumption) ?_
                    rotate_left
                    · intro w hSw; (try dsimp only at hSw); go_simp; (try (with_reducible rfl))
                    try simp only [Act.put, List.setIfInBounds_toArray, List.set_cons_zero, List.set_cons_succ]
                    refine wpAnyH_ready (rs := [23]) (by kernel_rfl) (by simp) ?_
                    refine AllReadyH.cons (o := ⟨_, _, _, _, _, _⟩) rfl (fun K hK => ?_) AllReadyH.nil
                    go_simp
                    refine (refUnder x.path y.path _ sx sy).mono ?_
                    rintro e w3 ⟨rfl, hb3⟩
                    have b3 : Below W1.heap.size W1 w3 := below2 b2.drew hb3
                    have c3 := below2 (show Below wr.heap.size wr wr.drew from (Below.refl _ _).drew) hb3
                    have e1 := (c3.cell (p := ⟨g, og + i * 5 + 1, none⟩) lg).trans a1
                    have e2 := (c3.cell (p := ⟨g, og + k * 5 + 1, none⟩) lg).trans d1
                    have e3 := (c3.cell (p := ⟨g, og + i * 5, none⟩) lg).trans a0
                    have e4 := (c3.cell (p := ⟨g, og + k * 5, none⟩) lg).trans d0
                    refine hK.out _ _ ⟨e1, e2, e3, e4⟩ (fun hHeld => ?_)
                    clear hK K
                    try simp only [Act.put, List.setIfInBounds_toArray, List.set_cons_zero, List.set_cons_succ]
                    refine wpAnyH_take (i := 24) (oi := ⟨_, _, _, _, _, _⟩) (v := ?_) rfl (by kernel_rfl) (by kernel_rfl) (by kernel_rfl) (fun _ _ _ h => h) (Or.inl ⟨by rfl, ?_⟩) (by assumption) ?_
                    rotate_left
                    · intro w hSw; (try dsimp only at hSw); go_simp; (try (with_reducible rfl))
                    try simp only [Act.put, List.setIfInBounds_toArray, List.set_cons_zero, List.set_cons_succ]
                    refine wpAnyH_done (by kernel_rfl) ?_ _
                    clear hHeld
                    cases hu : underL x.path.data.toList y.path.data.toList with
                    | false =>
                      have HF : Hid (undE x y = false) := by show _ = _; rw [HU.out, hu]; rfl
                      clear hu
                      go_wp2
                      go_roundw
                      case rel => exact ⟨k + 1, by omega, by go_num, hid (HMORE.out HF.out), b3⟩
                      case measure => simp [intOf]; omega
                    | true =>
                      have HR := hid (HNO.out (by rw [HU.out, hu]; rfl))
                      clear hu
                      have b5 := below2 b b3
                      go_wp2
                      go_ret
                      exact ⟨by rw [HR.out]; rfl, b5⟩
              · have HEk := hid (show k = n by omega)
                have hknlt : ¬ (k : Int) < n := by omega
                have HA2 : Hid (∀ a (ha : a < es.length), a < i + 1 → ∀ b (hb : b < es.length), undE es[a] es[b] = false) := fun a ha hai b hb => by
                  by_cases e : a = i
                  · subst e; exact HB.out b hb (by rw [HEk.out, ← HL.out]; exact hb)
                  · exact HA.out a ha (by omega) b hb
                have b5 := below2 b b2
                go_wp2
                go_roundw
                case rel => exact ⟨i + 1, by omega, by go_num, HA2, b5⟩
                case measure => simp [intOf]; omega
          · have hinl : ¬ (i : Int) < n := by omega
            have HR := hid (may_ok HNF.out (fun a ha k hk => HA.out a ha (by have := HL.out; omega) k hk))
            go_wp2
            go_ret
            exact ⟨by rw [HR.out]; rfl, b⟩
end Go.Proofs.YtlmccjdpmhancaaGreatDoor
