/- TreeKeeps: the walk. -/
import Derived.Test.YtblfpmlnpaibkaaDoorTl
namespace Go.Proofs.YtblfpmlnpaibkaaDoor
open Go.RowKit

section
variable {fs : List Fil} {p d : ByteArray}
theorem put_tree (h : putE fs p d = 0) : treeR (putL fs p d) = true := (treeR_iff _).2 (right_putT h)
theorem put_got (h : putE fs p d = 0) : getT (putL fs p d) p.data.toList = some d := by
  rw [getT, if_pos (put_tree h), data_iff (right_putT h).srt]
  exact mem_put.2 (.inl rfl)
theorem put_other (h : putE fs p d = 0) {o : ByteArray} (ho : o ≠ p) : getT (putL fs p d) o.data.toList = getT fs o.data.toList := by
  have hR := (putE_zero.1 h).1
  rw [getT, if_pos (put_tree h), getT, if_pos ((treeR_iff _).2 hR)]
  refine Option.ext fun x => ?_
  rw [data_iff (right_putT h).srt, data_iff hR.srt, mem_put]
  constructor
  · rintro (e | e)
    · exact absurd (Prod.mk.inj e).1 ho
    · exact e.1
  · intro e
    exact .inr ⟨e, fun e2 => ho (data_inj e2)⟩
theorem put_there : thereT (putL fs p d) p.data.toList = true := there_iff.2 ⟨(p, d), mem_put.2 (.inl rfl), rfl⟩
theorem put_drop (h : putE fs p d = 0) : dropE (putL fs p d) p.data.toList = 0 := dropE_zero.2 ⟨right_putT h, put_there⟩
theorem drop_tree {q : List UInt8} (h : RightT fs) : treeR (dropL fs q) = true := (treeR_iff _).2 (right_drop h q)
theorem drop_gone (q : List UInt8) : thereT (dropL fs q) q = false := there_no.2 fun _ hf => (mem_drop.1 hf).2
theorem drop_find (q : List UInt8) : findT (dropL fs q) q = -1 := by rw [findT, drop_gone, Bool.and_false]; rfl
theorem drop_put (h : putE fs p d = 0) (hn : thereT fs p.data.toList = false) : dropL (putL fs p d) p.data.toList = fs := by
  refine Srt.unique (srt_drop (right_putT h).srt _) (putE_zero.1 h).1.srt fun f => ?_
  rw [mem_drop, mem_put]
  have hn' := there_no.1 hn
  constructor
  · rintro ⟨e | e, e2⟩
    · subst e; exact absurd rfl e2
    · exact e.1
  · intro e
    exact ⟨.inr ⟨e, hn' f e⟩, hn' f e⟩
theorem get_isSome (hR : treeR fs = true) : (getT fs p.data.toList).isSome = thereT fs p.data.toList := by rw [getT, if_pos hR, data_some]
end
theorem put_szs {fs : List Fil} {p d : ByteArray} (hf : ∀ f ∈ fs, f.1.size < 4294967281 ∧ f.2.size ≤ 140737488355328) (hp : p.size < 4294967281) (hd : d.size ≤ 140737488355328) : ∀ f ∈ putL fs p d, f.1.size < 4294967281 ∧ f.2.size ≤ 140737488355328 := by
  intro f hm
  rcases mem_put.1 hm with rfl | hm
  · exact ⟨hp, hd⟩
  · exact hf f hm.1
theorem drop_szs {fs : List Fil} {q : List UInt8} (hf : ∀ f ∈ fs, f.1.size < 4294967281 ∧ f.2.size ≤ 140737488355328) : ∀ f ∈ dropL fs q, f.1.size < 4294967281 ∧ f.2.size ≤ 140737488355328 := fun f hm => hf f (mem_drop.1 hm).1

/-- Put without an error. -/
theorem put_yes {w : World} {A : Option Addr} {n c : Nat} {fs : List Fil} (h : Ft w A n c fs) (p d : ByteArray) (hp : p.size < 4294967281) (hd : d.size ≤ 140737488355328) (hE : putE fs p d = 0) :
    Calls Tryd.prog 12 #[.slice A n c, .string p, .string d] w fun e w' => ∃ A' n' c', e = .returned (.tuple #[.slice A' n' c', .int .i64 0]) ∧ Ft w' A' n' c' (putL fs p d) ∧ OwnF w.heap.size w' A' n' c' (putL fs p d) ∧ Below w.heap.size w w' := by
  refine (put_any h p d hp hd).mono ?_
  rintro e w' ⟨A', n', c', rfl, ho, hb⟩
  rw [putT_ok hE] at ho
  rw [hE]
  have hn : n' ≤ 16 := by have := (right_putT hE).few; have := ho.1; omega
  exact ⟨A', n', c', rfl, ho.ft (by omega) (put_szs h.sz hp hd), ho, hb⟩
/-- Put with an error. -/
theorem put_not {w : World} {A : Option Addr} {n c : Nat} {fs : List Fil} (h : Ft w A n c fs) (p d : ByteArray) (hp : p.size < 4294967281) (hd : d.size ≤ 140737488355328) (hE : putE fs p d ≠ 0) :
    Calls Tryd.prog 12 #[.slice A n c, .string p, .string d] w fun e w' => ∃ A' c', e = .returned (.tuple #[.slice A' 0 c', .int .i64 (putE fs p d : Nat)]) ∧ Ft w' A' 0 c' [] ∧ Below w.heap.size w w' := by
  refine (put_any h p d hp hd).mono ?_
  rintro e w' ⟨A', n', c', rfl, ho, hb⟩
  rw [putT_err rfl hE] at ho
  have hn : n' = 0 := ho.1.symm
  subst hn
  exact ⟨A', c', rfl, ho.ft (by omega) (by simp), hb⟩
/-- Drop without an error. -/
theorem drop_yes {w : World} {A : Option Addr} {n c : Nat} {fs : List Fil} (h : Ft w A n c fs) (p : ByteArray) (hE : dropE fs p.data.toList = 0) :
    Calls Tryd.prog 14 #[.slice A n c, .string p] w fun e w' => ∃ A' n' c', e = .returned (.tuple #[.slice A' n' c', .int .i64 0]) ∧ Ft w' A' n' c' (dropL fs p.data.toList) ∧ OwnF w.heap.size w' A' n' c' (dropL fs p.data.toList) ∧ Below w.heap.size w w' := by
  refine (drop_any h p).mono ?_
  rintro e w' ⟨A', n', c', rfl, ho, hb⟩
  rw [dropT_ok hE] at ho
  rw [hE]
  have hn : n' ≤ 16 := by have := (right_drop (dropE_zero.1 hE).1 p.data.toList).few; have := ho.1; omega
  exact ⟨A', n', c', rfl, ho.ft (by omega) (drop_szs h.sz), ho, hb⟩

theorem getV_eq (x : Option ByteArray) : getV x = .tuple #[.string (x.getD ⟨#[]⟩), .bool x.isSome] := by cases x <;> rfl
theorem toList_ne {a b : ByteArray} (h : a ≠ b) : (a.toList == b.toList) = false := by
  rw [beq_eq_false_iff_ne, Lib.toList_data, Lib.toList_data]
  exact fun e => h (data_inj e)
theorem toList_eq {a b : ByteArray} (h : a = b) : (a.toList == b.toList) = true := by rw [h]; simp

set_option maxHeartbeats 4000000 in
set_option maxRecDepth 20000 in
theorem treeKeeps_walk (A : Option Addr) (c : Nat) (fs : List Fil) (p d o : ByteArray) (w : World) (hr : Rd w A (filV fs)) (hlc : fs.length ≤ c) (hc : c ≤ maxLen) (_ : True) (_ : p.size ≤ 140737488351232) (_ : d.size ≤ 140737488351232) (_ : o.size ≤ 140737488351232) :
    Calls Tryd.prog 4 #[.slice A fs.length c, .string p, .string d, .string o] w fun e w' => e = .returned (.bool true) ∧ Below w.heap.size w w' := by
  generalize hl : fs.length = n at *
  go_enter Tryd.func4, Tryd.ntmps4
  go_wp2_with fail
  refine (small_any _).mono ?_
  rintro e w1 ⟨rfl, b1⟩
  go_wp2_with fail
  refine (few_any A n c fs _ hl (hr.below b1)).mono ?_
  rintro e wx ⟨rfl, rfl⟩
  cases hf : fewB fs
  · go_wp2
    go_ret
    exact ⟨rfl, b1⟩
  · have t1 : Ft w1 A n c fs := few_ft hf hl (hr.below b1) hlc hc
    clear hf hr hl
    go_wp2_with fail
    refine (tree_any t1).mono ?_
    rintro e w2 ⟨rfl, hb2⟩
    have t2 := t1.below hb2
    have b2 := below2 b1 hb2
    clear t1 b1 hb2
    cases hR : treeR fs
    · go_wp2
      go_ret
      exact ⟨rfl, b2⟩
    · have HR := hid hR
      clear hR
      by_cases hp : (100 : Int) < p.size
      · go_wp2
        go_ret
        exact ⟨rfl, b2⟩
      by_cases hd : (1000 : Int) < d.size
      · have hpb : decide ((100 : Int) < p.size) = false := by simp; omega
        go_wp2
        go_ret
        exact ⟨rfl, b2⟩
      by_cases ho : (100 : Int) < o.size
      · have hpb : decide ((100 : Int) < p.size) = false := by simp; omega
        have hdb : decide ((1000 : Int) < d.size) = false := by simp; omega
        go_wp2
        go_ret
        exact ⟨rfl, b2⟩
      have hpb : decide ((100 : Int) < p.size) = false := by simp; omega
      have hdb : decide ((1000 : Int) < d.size) = false := by simp; omega
      have hob : decide ((100 : Int) < o.size) = false := by simp; omega
      by_cases hE : putE fs p d = 0
      · go_wp2_with fail
        refine (put_yes t2 p d (by omega) (by omega) hE).mono ?_
        rintro e w3 ⟨A3, n3, c3, rfl, u3, -, hb3⟩
        have t3 := t2.below hb3
        have b3 := below2 b2 hb3
        clear t2 b2 hb3
        have HE := hid hE
        clear hE
        go_wp2_with fail
        refine (get_any u3 p).mono ?_
        rintro e w4 ⟨rfl, hb4⟩
        rw [put_got HE.out]
        have t4 := t3.below hb4
        have u4 := u3.below hb4
        have b4 := below2 b3 hb4
        clear t3 u3 b3 hb4
        simp only [getV]
        go_wp2_with fail
        refine (tree_any u4).mono ?_
        rintro e w5 ⟨rfl, hb5⟩
        rw [put_tree HE.out]
        have t5 := t4.below hb5
        have u5 := u4.below hb5
        have b5 := below2 b4 hb5
        clear t4 u4 b4 hb5
        go_wp2_with fail
        refine (get_any t5 o).mono ?_
        rintro e w6 ⟨rfl, hb6⟩
        have t6 := t5.below hb6
        have u6 := u5.below hb6
        have b6 := below2 b5 hb6
        clear t5 u5 b5 hb6
        rw [getV_eq]
        by_cases hop : o = p
        · have hob2 := toList_eq hop
          clear hop
          go_wp2_with fail
          refine (get_any u6 o).mono ?_
          rintro e w7 ⟨rfl, hb7⟩
          rw [getV_eq]
          have t7 := t6.below hb7
          have u7 := u6.below hb7
          have b7 := below2 b6 hb7
          clear t6 u6 b6 hb7
          go_wp2_with fail
          refine (drop_yes u7 p (put_drop HE.out)).mono ?_
          rintro e w8 ⟨A8, n8, c8, rfl, v8, -, hb8⟩
          have t8 := t7.below hb8
          have b8 := below2 b7 hb8
          clear t7 u7 b7 hb8
          go_wp2_with fail
          refine (get_any t8 p).mono ?_
          rintro e w9 ⟨rfl, hb9⟩
          rw [getV_eq]
          have t9 := t8.below hb9
          have v9 := v8.below hb9
          have b9 := below2 b8 hb9
          clear t8 v8 b8 hb9
          go_wp2_with fail
          refine (tree_any v9).mono ?_
          rintro e w10 ⟨rfl, hb10⟩
          rw [drop_tree (right_putT HE.out)]
          have t10 := t9.below hb10
          have v10 := v9.below hb10
          have b10 := below2 b9 hb10
          clear t9 v9 b9 hb10
          go_wp2_with fail
          refine (find_any v10 p).mono ?_
          rintro e w11 ⟨rfl, hb11⟩
          rw [drop_find]
          have t11 := t10.below hb11
          have v11 := v10.below hb11
          have b11 := below2 b10 hb11
          clear t10 v10 b10 hb11
          cases hw : (getT fs p.data.toList).isSome
          · have HW := hid (drop_put HE.out (by rw [← get_isSome HR.out]; exact hw))
            go_wp2_with fail
            refine (same_any v11 t11).mono ?_
            rintro e w12 ⟨rfl, hb12⟩
            rw [decide_eq_true HW.out]
            have b12 := below2 b11 hb12
            go_wp2
            go_ret
            exact ⟨rfl, b12⟩
          · go_wp2
            go_ret
            exact ⟨rfl, b11⟩
        · have hob2 := toList_ne hop
          have HOP := hid hop
          clear hop
          go_wp2_with fail
          refine (get_any u6 o).mono ?_
          rintro e w7 ⟨rfl, hb7⟩
          rw [put_other HE.out HOP.out, getV_eq]
          have t7 := t6.below hb7
          have u7 := u6.below hb7
          have b7 := below2 b6 hb7
          clear t6 u6 b6 hb7
          go_wp2_with fail
          refine (drop_yes u7 p (put_drop HE.out)).mono ?_
          rintro e w8 ⟨A8, n8, c8, rfl, v8, -, hb8⟩
          have t8 := t7.below hb8
          have b8 := below2 b7 hb8
          clear t7 u7 b7 hb8
          go_wp2_with fail
          refine (get_any t8 p).mono ?_
          rintro e w9 ⟨rfl, hb9⟩
          rw [getV_eq]
          have t9 := t8.below hb9
          have v9 := v8.below hb9
          have b9 := below2 b8 hb9
          clear t8 v8 b8 hb9
          go_wp2_with fail
          refine (tree_any v9).mono ?_
          rintro e w10 ⟨rfl, hb10⟩
          rw [drop_tree (right_putT HE.out)]
          have t10 := t9.below hb10
          have v10 := v9.below hb10
          have b10 := below2 b9 hb10
          clear t9 v9 b9 hb10
          go_wp2_with fail
          refine (find_any v10 p).mono ?_
          rintro e w11 ⟨rfl, hb11⟩
          rw [drop_find]
          have t11 := t10.below hb11
          have v11 := v10.below hb11
          have b11 := below2 b10 hb11
          clear t10 v10 b10 hb11
          cases hw : (getT fs p.data.toList).isSome
          · have HW := hid (drop_put HE.out (by rw [← get_isSome HR.out]; exact hw))
            go_wp2_with fail
            refine (same_any v11 t11).mono ?_
            rintro e w12 ⟨rfl, hb12⟩
            rw [decide_eq_true HW.out]
            have b12 := below2 b11 hb12
            go_wp2
            go_ret
            exact ⟨rfl, b12⟩
          · go_wp2
            go_ret
            exact ⟨rfl, b11⟩
      · go_wp2_with fail
        refine (put_not t2 p d (by omega) (by omega) hE).mono ?_
        rintro e w3 ⟨A3, c3, rfl, -, hb3⟩
        have b3 := below2 b2 hb3
        have hEb : (((putE fs p d : Nat) : Int) == 0) = false := by simp; omega
        clear hb3 t2 b2
        go_wp2
        go_ret
        exact ⟨rfl, b3⟩
end Go.Proofs.YtblfpmlnpaibkaaDoor
