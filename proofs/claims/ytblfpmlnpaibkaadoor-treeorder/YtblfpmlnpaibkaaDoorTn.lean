/- TreeOrder: the walk. -/
import Derived.Test.YtblfpmlnpaibkaaDoorTm
namespace Go.Proofs.YtblfpmlnpaibkaaDoor
open Go.RowKit

theorem order_ok {fs : List Fil} {p q a b : ByteArray} (hne : p ≠ q) (h1 : putE fs p a = 0) (h2 : putE fs q b = 0) (h : putE (putL fs p a) q b = 0) : putE (putL fs q b) p a = 0 := by
  obtain ⟨r1, p1, c1, d1, l1⟩ := putE_zero.1 h1
  obtain ⟨_, _, c3, _, l3⟩ := putE_zero.1 h
  have hne2 : p.data.toList ≠ q.data.toList := fun e => hne (data_inj e)
  refine putE_zero.2 ⟨right_putT h2, p1, clash_no.2 fun f hf => ?_, d1, ?_⟩
  · rcases mem_put.1 hf with rfl | hf
    · have := clash_no.1 c3 (p, a) (mem_put.2 (.inl rfl))
      exact ⟨this.2, this.1⟩
    · exact clash_no.1 c1 f hf.1
  · cases ht : thereT fs p.data.toList with
    | true =>
      obtain ⟨f, hf, e⟩ := there_iff.1 ht
      exact .inl (there_iff.2 ⟨f, mem_put.2 (.inr ⟨hf, by rw [e]; exact hne2⟩), e⟩)
    | false =>
      right
      rw [put_len r1.srt]
      cases hq : thereT fs q.data.toList with
      | true =>
        rcases l1 with l1 | l1
        · rw [ht] at l1; cases l1
        · simpa using l1
      | false =>
        rcases l3 with l3 | l3
        · obtain ⟨f, hf, e⟩ := there_iff.1 l3
          rcases mem_put.1 hf with rfl | hf
          · exact absurd e hne2
          · exact absurd e (there_no.1 hq f hf.1)
        · rw [put_len r1.srt, ht] at l3
          simpa using l3
theorem order_same {fs : List Fil} {p q a b : ByteArray} (hne : p ≠ q) (h1 : putE fs p a = 0) (h2 : putE fs q b = 0) (h : putE (putL fs p a) q b = 0) : putL (putL fs p a) q b = putL (putL fs q b) p a := by
  have hne2 : p.data.toList ≠ q.data.toList := fun e => hne (data_inj e)
  refine Srt.unique (right_putT h).srt (right_putT (order_ok hne h1 h2 h)).srt fun f => ?_
  rw [mem_put, mem_put, mem_put, mem_put]
  constructor
  · rintro (e | ⟨e | ⟨e, e2⟩, e3⟩)
    · subst e; exact .inr ⟨.inl rfl, fun e => hne2 e.symm⟩
    · exact .inl e
    · exact .inr ⟨.inr ⟨e, e3⟩, e2⟩
  · rintro (e | ⟨e | ⟨e, e2⟩, e3⟩)
    · subst e; exact .inr ⟨.inl rfl, hne2⟩
    · exact .inl e
    · exact .inr ⟨.inr ⟨e, e3⟩, e2⟩

set_option maxHeartbeats 4000000 in
set_option maxRecDepth 20000 in
theorem treeOrder_walk (A : Option Addr) (c : Nat) (fs : List Fil) (p q a b : ByteArray) (w : World) (hr : Rd w A (filV fs)) (hlc : fs.length ≤ c) (hc : c ≤ maxLen) (_ : True) (_ : p.size ≤ 140737488351232) (_ : q.size ≤ 140737488351232) (_ : a.size ≤ 140737488351232) (_ : b.size ≤ 140737488351232) :
    Calls Tryd.prog 5 #[.slice A fs.length c, .string p, .string q, .string a, .string b] w fun e w' => e = .returned (.bool true) ∧ Below w.heap.size w w' := by
  generalize hl : fs.length = n at *
  go_enter Tryd.func5, Tryd.ntmps5
  go_wp2_with fail
  refine (small_any _).mono ?_
  rintro e w1 ⟨rfl, b1⟩
  go_wp2_with fail
  refine (few_any A n c fs _ hl (hr.below b1)).mono ?_
  rintro e wx ⟨rfl, rfl⟩
  cases hf : fewB fs
  · go_wp2
    go_ret
    exact ⟨rfl, b1⟩
  · have t1 : Ft w1 A n c fs := few_ft hf hl (hr.below b1) hlc hc
    have HFW := hid hf
    clear hf hr hl
    go_wp2_with fail
    refine (tree_any t1).mono ?_
    rintro e w2 ⟨rfl, hb2⟩
    have t2 := t1.below hb2
    have b2 := below2 b1 hb2
    clear t1 b1 hb2
    cases hR : treeR fs
    · go_wp2
      go_ret
      exact ⟨rfl, b2⟩
    · have HR := hid hR
      clear hR
      by_cases hpq : p = q
      · have hpe := toList_eq hpq
        go_wp2
        go_ret
        exact ⟨rfl, b2⟩
      have hpe := toList_ne hpq
      have HPQ := hid hpq
      clear hpq
      by_cases hp : (100 : Int) < p.size
      · go_wp2
        go_ret
        exact ⟨rfl, b2⟩
      have hpb : decide ((100 : Int) < p.size) = false := by simp; omega
      by_cases hq : (100 : Int) < q.size
      · go_wp2
        go_ret
        exact ⟨rfl, b2⟩
      have hqb : decide ((100 : Int) < q.size) = false := by simp; omega
      by_cases ha : (1000 : Int) < a.size
      · go_wp2
        go_ret
        exact ⟨rfl, b2⟩
      have hab : decide ((1000 : Int) < a.size) = false := by simp; omega
      by_cases hb : (1000 : Int) < b.size
      · go_wp2
        go_ret
        exact ⟨rfl, b2⟩
      have hbb : decide ((1000 : Int) < b.size) = false := by simp; omega
      by_cases hE1 : putE fs p a = 0
      · have HE1 := hid hE1
        clear hE1
        go_wp2_with fail
        refine (put_yes t2 p a (by omega) (by omega) HE1.out).mono ?_
        rintro e w3 ⟨A3, n3, c3, rfl, x3, -, hb3⟩
        have t3 := t2.below hb3
        have b3 := below2 b2 hb3
        clear t2 b2 hb3
        by_cases hE2 : putE fs q b = 0
        · have HE2 := hid hE2
          clear hE2
          go_wp2_with fail
          refine (put_yes t3 q b (by omega) (by omega) HE2.out).mono ?_
          rintro e w4 ⟨A4, n4, c4, rfl, y4, -, hb4⟩
          have x4 := x3.below hb4
          have b4 := below2 b3 hb4
          clear t3 x3 b3 hb4
          by_cases hE3 : putE (putL fs p a) q b = 0
          · have HE3 := hid hE3
            clear hE3
            go_wp2_with fail
            refine (put_yes x4 q b (by omega) (by omega) HE3.out).mono ?_
            rintro e w5 ⟨A5, n5, c5, rfl, z5, -, hb5⟩
            have y5 := y4.below hb5
            have b5 := below2 b4 hb5
            clear x4 y4 b4 hb5
            go_wp2_with fail
            refine (put_yes y5 p a (by omega) (by omega) (order_ok HPQ.out HE1.out HE2.out HE3.out)).mono ?_
            rintro e w6 ⟨A6, n6, c6, rfl, v6, -, hb6⟩
            have z6 := z5.below hb6
            have b6 := below2 b5 hb6
            clear y5 z5 b5 hb6
            go_wp2_with fail
            refine (same_any z6 v6).mono ?_
            rintro e w7 ⟨rfl, hb7⟩
            rw [decide_eq_true (order_same HPQ.out HE1.out HE2.out HE3.out)]
            have b7 := below2 b6 hb7
            go_wp2
            go_ret
            exact ⟨rfl, b7⟩
          · have HE4 := hid (fun h => hE3 (order_ok (fun e => HPQ.out e.symm) HE2.out HE1.out h) : ¬ putE (putL fs q b) p a = 0)
            have hEb : (((putE (putL fs p a) q b : Nat) : Int) == 0) = false := by simp; omega
            go_wp2_with fail
            refine (put_not x4 q b (by omega) (by omega) hE3).mono ?_
            rintro e w5 ⟨A5, c5, rfl, z5, hb5⟩
            have y5 := y4.below hb5
            have b5 := below2 b4 hb5
            clear x4 y4 b4 hb5 hE3
            have hEb2 : (((putE (putL fs q b) p a : Nat) : Int) == 0) = false := by have := HE4.out; simp; omega
            go_wp2_with fail
            refine (put_not y5 p a (by omega) (by omega) HE4.out).mono ?_
            rintro e w6 ⟨A6, c6, rfl, v6, hb6⟩
            have z6 := z5.below hb6
            have b6 := below2 b5 hb6
            clear y5 z5 b5 hb6
            go_wp2_with fail
            refine (same_any z6 v6).mono ?_
            rintro e w7 ⟨rfl, hb7⟩
            rw [decide_eq_true rfl]
            have b7 := below2 b6 hb7
            go_wp2
            go_ret
            exact ⟨rfl, b7⟩
        · have hEb : (((putE fs q b : Nat) : Int) == 0) = false := by simp; omega
          go_wp2_with fail
          refine (put_not t3 q b (by omega) (by omega) hE2).mono ?_
          rintro e w4 ⟨A4, c4, rfl, -, hb4⟩
          have b4 := below2 b3 hb4
          clear b3 hb4 t3
          go_wp2
          go_ret
          exact ⟨rfl, b4⟩
      · have hEb : (((putE fs p a : Nat) : Int) == 0) = false := by simp; omega
        go_wp2_with fail
        refine (put_not t2 p a (by omega) (by omega) hE1).mono ?_
        rintro e w3 ⟨A3, c3, rfl, -, hb3⟩
        have t3 := t2.below hb3
        have b3 := below2 b2 hb3
        clear t2 b2 hb3
        go_wp2_with fail
        refine (put_any t3 q b (by omega) (by omega)).mono ?_
        rintro e w4 ⟨A4, n4, c4, rfl, -, hb4⟩
        have b4 := below2 b3 hb4
        clear b3 hb4 t3
        go_wp2
        go_ret
        exact ⟨rfl, b4⟩
end Go.Proofs.YtblfpmlnpaibkaaDoor
