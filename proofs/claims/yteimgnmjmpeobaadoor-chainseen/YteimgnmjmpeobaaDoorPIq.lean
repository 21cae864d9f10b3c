/- The text Iq. -/
import Derived.Test.YteimgnmjmpeobaaDoorP4
namespace Go.Proofs.YteimgnmjmpeobaaDoor
open Go.RowKit

section
variable {u p : Cur} {au : Int} {own : List Int}
theorem seen_yes (h : nextN u au false p [] = 0) (hs : u.a ≤ p.v) (ho : p.h = ownD own p.v) : accN u au (nextA u au false p []) own = 0 ∧ ∀ hd, accC u au (nextA u au false p []) hd own = ⟨u.v + 1, hd, u.e, p.v⟩ := by
  have h1 := next_acc (own := own) h hs ho
  refine ⟨h1, fun hd => ?_⟩
  rw [accC_yes h1, (next_ok h).2.2.2]
  simp [nextM, bitI]
theorem seen_no (h : nextN u au false p [] = 0) (hn : p.v < u.a ∨ p.h ≠ ownD own p.v) : accN u au (nextA u au false p []) own = 11 ∧ ∀ hd, accC u au (nextA u au false p []) hd own = u := by
  obtain ⟨-, -, hr, he⟩ := next_ok h
  have h1 : accN u au (nextA u au false p []) own = 11 := by
    rw [he]
    exact acc_seen ((manR_iff _).2 hr) rfl rfl rfl rfl hn
  exact ⟨h1, fun hd => accC_no (by rw [h1]; decide)⟩
theorem seen_range (h : nextN u au false p [] = 0) : 0 ≤ p.v ∧ p.v ≤ 4294967295 ∧ 0 ≤ p.h := by
  obtain ⟨-, -, hr, -⟩ := next_ok h
  exact ⟨hr.s0, hr.s1, hr.h0⟩
end
set_option maxHeartbeats 8000000 in
set_option maxRecDepth 20000 in
theorem chainSeen_walk (u : Cur) (au : Int) (O : Option Addr) (k : Nat) (own : List Int) (se : Int) (dg : Int) (w : World) (hu : CurI u) (_ : (Lit.int .i64 au).wf = true) (hor : Rd w O (own.map (Value.int .i64))) (hok : own.length ≤ k) (hkb : k * Tryd.prog.bytesOf 3 ≤ reachBytes) (_ : ∀ n ∈ own, (Lit.int .i64 n).wf = true) (_ : (Lit.int .i64 se).wf = true) (_ : (Lit.int .i64 dg).wf = true) :
    Calls Tryd.prog 8 #[curV u, .int .i64 au, .slice O own.length k, .int .i64 se, .int .i64 dg] w fun e w' => e = .returned (.bool true) ∧ Below w.heap.size w w' := by
  have hal : ∀ (W : World) (o : Obj), Below W.heap.size W (W.alloc o) := fun W o => (Below.refl _ _).alloc (Nat.le_refl _) o
  have hp0 : ∀ W : World, PcsAt W none [] := fun W => .inl rfl
  have hon := own_le1 hok hkb (by kernel_rfl)
  replace hor : Rd w O (intV own) := hor
  obtain ⟨n, hn⟩ : ∃ n, own.length = n := ⟨_, rfl⟩
  rw [hn] at hon ⊢
  have HOL := hid hn
  have HCV := hid hu.v.1
  have HCE := hid hu.e.1
  clear hn hok hkb hu
  obtain ⟨v, h, e, a⟩ := u
  dsimp only at HCV HCE ⊢
  go_enter Tryd.func8, Tryd.ntmps8
  have bx := hal w (.cells #[.int .i64 v, .int .i64 h, .int .i64 e, .int .i64 a] 23)
  have pc := Blk.new w [.int .i64 v, .int .i64 h, .int .i64 e, .int .i64 a] 23
  replace hor := hor.below bx
  have bw := bx
  clear bx
  have cc := small13_any (w.alloc (.cells #[.int .i64 v, .int .i64 h, .int .i64 e, .int .i64 a] 23))
  go_wp2_with fail
  refine cc.mono ?_
  clear  cc
  generalize (w.alloc (.cells #[.int .i64 v, .int .i64 h, .int .i64 e, .int .i64 a] 23)) = wg1 at *
  rintro _ w1 ⟨rfl, bx⟩
  simp only
  replace pc := pc.below bx
  replace hor := hor.below bx
  replace bw := below2 bw bx
  clear bx
  by_cases h100 : (100 : Int) < n
  · go_wp2
    go_ret
    exact ⟨rfl, bw⟩
  have lpc := pc.lt
  have pc_0 := pc.cell 0
  have pc_1 := pc.cell 1
  have pc_2 := pc.cell 2
  have pc_3 := pc.cell 3
  simp only [List.getElem?_cons_zero, List.getElem?_cons_succ] at pc_0 pc_1 pc_2 pc_3
  have cc := next_any (A := none) (n := 0) (c := 0) (⟨v, h, e, a⟩ : Cur) au false (⟨se, dg, 0, 0⟩ : Cur) (hp0 w1) rfl (Nat.le_refl 0) (by unfold maxLen; omega) (by simp) HCV.out HCE.out
  go_wp2_with fail
  refine cc.mono ?_
  clear lpc pc_0 pc_1 pc_2 pc_3 cc
  rintro _ w2 ⟨A1, c1, rfl, hm, bx, -⟩
  simp only
  replace pc := pc.below bx
  replace hor := hor.below bx
  replace bw := below2 bw bx
  clear bx
  have HP := nextA_nil (⟨v, h, e, a⟩ : Cur) au false (⟨se, dg, 0, 0⟩ : Cur)
  have HQ0 := hid (fun hh => (next_no (c := (⟨v, h, e, a⟩ : Cur)) (au := au) (t := false) (p := (⟨se, dg, 0, 0⟩ : Cur)) (ps := []) hh).2)
  have HY := hid (fun hh => seen_yes (u := (⟨v, h, e, a⟩ : Cur)) (p := (⟨se, dg, 0, 0⟩ : Cur)) (au := au) (own := own) hh)
  have HNO := hid (fun hh => seen_no (u := (⟨v, h, e, a⟩ : Cur)) (p := (⟨se, dg, 0, 0⟩ : Cur)) (au := au) (own := own) hh)
  have HRG := hid (fun hh => seen_range (u := (⟨v, h, e, a⟩ : Cur)) (p := (⟨se, dg, 0, 0⟩ : Cur)) (au := au) hh)
  dsimp only at HY HNO HRG
  generalize nextA (⟨v, h, e, a⟩ : Cur) au false (⟨se, dg, 0, 0⟩ : Cur) [] = MQ at *
  generalize nextN (⟨v, h, e, a⟩ : Cur) au false (⟨se, dg, 0, 0⟩ : Cur) [] = NQ at *
  obtain ⟨p1, p2, p3, p4, p5, p6, p7, ps⟩ := MQ
  dsimp only at HP
  subst HP
  rw [show manV (⟨p1, p2, p3, p4, p5, p6, p7, []⟩ : Man) A1 c1 = .agg #[.int .i64 p1, .int .i64 p2, .int .i64 p3, .int .i64 p4, .int .i64 p5, .int .i64 p6, .int .i64 p7, .slice A1 0 c1] from rfl]
  by_cases hN : NQ = 0
  rotate_left
  · have hM := HQ0.out hN
    injection hM with e1 e2 e3 e4 e5 e6 e7 e8
    subst e1 e2 e3 e4 e5 e6 e7
    have hb : (NQ != 0) = true := by simp [hN]
    have bx := hal w2 (.cells #[.int .i64 0, .int .i64 0, .int .i64 0, .int .i64 0, .int .i64 0, .int .i64 0, .int .i64 0, .slice A1 0 c1] 26)
    replace bw := below2 bw bx
    clear bx
    go_wp2
    go_ret
    exact ⟨rfl, bw⟩
  subst hN
  have hrg := HRG.out rfl
  obtain ⟨hs0, hs1, hd0⟩ := hrg
  by_cases hA : se < a
  · skip
    have hv := HNO.out rfl (.inl hA)
    have lpc := pc.lt
    have pc_0 := pc.cell 0
    have pc_1 := pc.cell 1
    have pc_2 := pc.cell 2
    have pc_3 := pc.cell 3
    simp only [List.getElem?_cons_zero, List.getElem?_cons_succ] at pc_0 pc_1 pc_2 pc_3
    have bx := hal w2 (.cells #[.int .i64 p1, .int .i64 p2, .int .i64 p3, .int .i64 p4, .int .i64 p5, .int .i64 p6, .int .i64 p7, .slice A1 0 c1] 26)
    have pm := Blk.new w2 [.int .i64 p1, .int .i64 p2, .int .i64 p3, .int .i64 p4, .int .i64 p5, .int .i64 p6, .int .i64 p7, .slice A1 0 c1] 26
    replace pc := pc.below bx
    replace hor := hor.below bx
    replace hm := hm.below bx
    replace bw := below2 bw bx
    clear bx
    have cc := accept_val (k := k) (u := (⟨v, h, e, a⟩ : Cur)) (m := (⟨p1, p2, p3, p4, p5, p6, p7, []⟩ : Man)) au 5 hm (by simp) HCV.out HOL.out hor hon hv.1 (hv.2 5)
    go_wp2_with fail
    refine cc.mono ?_
    clear lpc pc_0 pc_1 pc_2 pc_3 cc
    generalize (w2.alloc (.cells #[.int .i64 p1, .int .i64 p2, .int .i64 p3, .int .i64 p4, .int .i64 p5, .int .i64 p6, .int .i64 p7, .slice A1 0 c1] 26)) = wg3 at *
    rintro _ w3 ⟨rfl, bx⟩
    simp only
    replace pc := pc.below bx
    replace pm := pm.below bx
    replace hor := hor.below bx
    replace hm := hm.below bx
    replace bw := below2 bw bx
    clear bx
    have lpc := pc.lt
    have pc_0 := pc.cell 0
    have pc_1 := pc.cell 1
    have pc_2 := pc.cell 2
    have pc_3 := pc.cell 3
    have lpm := pm.lt
    have pm_0 := pm.cell 0
    have pm_1 := pm.cell 1
    have pm_2 := pm.cell 2
    have pm_3 := pm.cell 3
    have pm_4 := pm.cell 4
    have pm_5 := pm.cell 5
    have pm_6 := pm.cell 6
    have pm_7 := pm.cell 7
    simp only [List.getElem?_cons_zero, List.getElem?_cons_succ] at pc_0 pc_1 pc_2 pc_3 pm_0 pm_1 pm_2 pm_3 pm_4 pm_5 pm_6 pm_7
    have bx := hal w3 (.cells #[.int .i64 v, .int .i64 h, .int .i64 e, .int .i64 a] 23)
    replace bw := below2 bw bx
    clear bx
    have hcc := eqC v h e a v h e a
    clear hv
    go_wp2
    go_ret
    exact ⟨rfl, bw⟩
  by_cases hB : (n : Int) < se
  · skip
    have hv := HNO.out rfl (.inr (by rw [ownD_none (by omega) (.inr (by rw [HOL.out]; exact hB))]; omega))
    have lpc := pc.lt
    have pc_0 := pc.cell 0
    have pc_1 := pc.cell 1
    have pc_2 := pc.cell 2
    have pc_3 := pc.cell 3
    simp only [List.getElem?_cons_zero, List.getElem?_cons_succ] at pc_0 pc_1 pc_2 pc_3
    have bx := hal w2 (.cells #[.int .i64 p1, .int .i64 p2, .int .i64 p3, .int .i64 p4, .int .i64 p5, .int .i64 p6, .int .i64 p7, .slice A1 0 c1] 26)
    have pm := Blk.new w2 [.int .i64 p1, .int .i64 p2, .int .i64 p3, .int .i64 p4, .int .i64 p5, .int .i64 p6, .int .i64 p7, .slice A1 0 c1] 26
    replace pc := pc.below bx
    replace hor := hor.below bx
    replace hm := hm.below bx
    replace bw := below2 bw bx
    clear bx
    have cc := accept_val (k := k) (u := (⟨v, h, e, a⟩ : Cur)) (m := (⟨p1, p2, p3, p4, p5, p6, p7, []⟩ : Man)) au 5 hm (by simp) HCV.out HOL.out hor hon hv.1 (hv.2 5)
    go_wp2_with fail
    refine cc.mono ?_
    clear lpc pc_0 pc_1 pc_2 pc_3 cc
    generalize (w2.alloc (.cells #[.int .i64 p1, .int .i64 p2, .int .i64 p3, .int .i64 p4, .int .i64 p5, .int .i64 p6, .int .i64 p7, .slice A1 0 c1] 26)) = wg3 at *
    rintro _ w3 ⟨rfl, bx⟩
    simp only
    replace pc := pc.below bx
    replace pm := pm.below bx
    replace hor := hor.below bx
    replace hm := hm.below bx
    replace bw := below2 bw bx
    clear bx
    have lpc := pc.lt
    have pc_0 := pc.cell 0
    have pc_1 := pc.cell 1
    have pc_2 := pc.cell 2
    have pc_3 := pc.cell 3
    have lpm := pm.lt
    have pm_0 := pm.cell 0
    have pm_1 := pm.cell 1
    have pm_2 := pm.cell 2
    have pm_3 := pm.cell 3
    have pm_4 := pm.cell 4
    have pm_5 := pm.cell 5
    have pm_6 := pm.cell 6
    have pm_7 := pm.cell 7
    simp only [List.getElem?_cons_zero, List.getElem?_cons_succ] at pc_0 pc_1 pc_2 pc_3 pm_0 pm_1 pm_2 pm_3 pm_4 pm_5 pm_6 pm_7
    have bx := hal w3 (.cells #[.int .i64 v, .int .i64 h, .int .i64 e, .int .i64 a] 23)
    replace bw := below2 bw bx
    clear bx
    have hcc := eqC v h e a v h e a
    clear hv
    go_wp2
    go_ret
    exact ⟨rfl, bw⟩
  by_cases hC : se = 0
  · subst hC
    by_cases hD : dg = 0
    · skip
      subst hD
      have hv := HY.out rfl (by omega) rfl
      have lpc := pc.lt
      have pc_0 := pc.cell 0
      have pc_1 := pc.cell 1
      have pc_2 := pc.cell 2
      have pc_3 := pc.cell 3
      simp only [List.getElem?_cons_zero, List.getElem?_cons_succ] at pc_0 pc_1 pc_2 pc_3
      have bx := hal w2 (.cells #[.int .i64 p1, .int .i64 p2, .int .i64 p3, .int .i64 p4, .int .i64 p5, .int .i64 p6, .int .i64 p7, .slice A1 0 c1] 26)
      have pm := Blk.new w2 [.int .i64 p1, .int .i64 p2, .int .i64 p3, .int .i64 p4, .int .i64 p5, .int .i64 p6, .int .i64 p7, .slice A1 0 c1] 26
      replace pc := pc.below bx
      replace hor := hor.below bx
      replace hm := hm.below bx
      replace bw := below2 bw bx
      clear bx
      have cc := accept_val (k := k) (u := (⟨v, h, e, a⟩ : Cur)) (m := (⟨p1, p2, p3, p4, p5, p6, p7, []⟩ : Man)) au 5 hm (by simp) HCV.out HOL.out hor hon hv.1 (hv.2 5)
      go_wp2_with fail
      refine cc.mono ?_
      clear lpc pc_0 pc_1 pc_2 pc_3 cc
      generalize (w2.alloc (.cells #[.int .i64 p1, .int .i64 p2, .int .i64 p3, .int .i64 p4, .int .i64 p5, .int .i64 p6, .int .i64 p7, .slice A1 0 c1] 26)) = wg3 at *
      rintro _ w3 ⟨rfl, bx⟩
      simp only
      replace pc := pc.below bx
      replace pm := pm.below bx
      replace hor := hor.below bx
      replace hm := hm.below bx
      replace bw := below2 bw bx
      clear bx
      have lpc := pc.lt
      have pc_0 := pc.cell 0
      have pc_1 := pc.cell 1
      have pc_2 := pc.cell 2
      have pc_3 := pc.cell 3
      have lpm := pm.lt
      have pm_0 := pm.cell 0
      have pm_1 := pm.cell 1
      have pm_2 := pm.cell 2
      have pm_3 := pm.cell 3
      have pm_4 := pm.cell 4
      have pm_5 := pm.cell 5
      have pm_6 := pm.cell 6
      have pm_7 := pm.cell 7
      simp only [List.getElem?_cons_zero, List.getElem?_cons_succ] at pc_0 pc_1 pc_2 pc_3 pm_0 pm_1 pm_2 pm_3 pm_4 pm_5 pm_6 pm_7
      have bx := hal w3 (.cells #[.int .i64 (v + 1), .int .i64 5, .int .i64 e, .int .i64 0] 23)
      replace bw := below2 bw bx
      clear bx
      have hcc := eqC v h e a v h e a
      clear hv
      go_wp2
      go_ret
      exact ⟨rfl, bw⟩
    · skip
      have hv := HNO.out rfl (.inr (by rw [ownD_zero]; exact hD))
      have hb : (dg == 0) = false := by simp [hD]
      have lpc := pc.lt
      have pc_0 := pc.cell 0
      have pc_1 := pc.cell 1
      have pc_2 := pc.cell 2
      have pc_3 := pc.cell 3
      simp only [List.getElem?_cons_zero, List.getElem?_cons_succ] at pc_0 pc_1 pc_2 pc_3
      have bx := hal w2 (.cells #[.int .i64 p1, .int .i64 p2, .int .i64 p3, .int .i64 p4, .int .i64 p5, .int .i64 p6, .int .i64 p7, .slice A1 0 c1] 26)
      have pm := Blk.new w2 [.int .i64 p1, .int .i64 p2, .int .i64 p3, .int .i64 p4, .int .i64 p5, .int .i64 p6, .int .i64 p7, .slice A1 0 c1] 26
      replace pc := pc.below bx
      replace hor := hor.below bx
      replace hm := hm.below bx
      replace bw := below2 bw bx
      clear bx
      have cc := accept_val (k := k) (u := (⟨v, h, e, a⟩ : Cur)) (m := (⟨p1, p2, p3, p4, p5, p6, p7, []⟩ : Man)) au 5 hm (by simp) HCV.out HOL.out hor hon hv.1 (hv.2 5)
      go_wp2_with fail
      refine cc.mono ?_
      clear lpc pc_0 pc_1 pc_2 pc_3 cc
      generalize (w2.alloc (.cells #[.int .i64 p1, .int .i64 p2, .int .i64 p3, .int .i64 p4, .int .i64 p5, .int .i64 p6, .int .i64 p7, .slice A1 0 c1] 26)) = wg3 at *
      rintro _ w3 ⟨rfl, bx⟩
      simp only
      replace pc := pc.below bx
      replace pm := pm.below bx
      replace hor := hor.below bx
      replace hm := hm.below bx
      replace bw := below2 bw bx
      clear bx
      have lpc := pc.lt
      have pc_0 := pc.cell 0
      have pc_1 := pc.cell 1
      have pc_2 := pc.cell 2
      have pc_3 := pc.cell 3
      have lpm := pm.lt
      have pm_0 := pm.cell 0
      have pm_1 := pm.cell 1
      have pm_2 := pm.cell 2
      have pm_3 := pm.cell 3
      have pm_4 := pm.cell 4
      have pm_5 := pm.cell 5
      have pm_6 := pm.cell 6
      have pm_7 := pm.cell 7
      simp only [List.getElem?_cons_zero, List.getElem?_cons_succ] at pc_0 pc_1 pc_2 pc_3 pm_0 pm_1 pm_2 pm_3 pm_4 pm_5 pm_6 pm_7
      have bx := hal w3 (.cells #[.int .i64 v, .int .i64 h, .int .i64 e, .int .i64 a] 23)
      replace bw := below2 bw bx
      clear bx
      have hcc := eqC v h e a v h e a
      clear hv
      go_wp2
      go_ret
      exact ⟨rfl, bw⟩
  obtain ⟨j, hj⟩ : ∃ j : Nat, se = (j : Int) + 1 := ⟨(se - 1).toNat, by omega⟩
  have hjl : j < own.length := by rw [HOL.out]; omega
  have HD := hid (ownD_some hjl)
  rw [← hj] at HD
  obtain ⟨bo, oo, rfl, y0, lo⟩ := int_at hor hjl
  generalize own[j] = y at *
  rw [show j = se.toNat - 1 by omega] at y0
  have hzb : (se == 0) = false := by simp [hC]
  have hz1 : 0 ≤ se - 1 := by omega
  have hz2 : se - 1 < n := by omega
  have hz3 : 0 < se := by omega
  clear hj hjl
  by_cases hD : y = dg
  · skip
    subst hD
    have hv := HY.out rfl (by omega) HD.out.symm
    have hb : (y == y) = true := by simp
    have lpc := pc.lt
    have pc_0 := pc.cell 0
    have pc_1 := pc.cell 1
    have pc_2 := pc.cell 2
    have pc_3 := pc.cell 3
    simp only [List.getElem?_cons_zero, List.getElem?_cons_succ] at pc_0 pc_1 pc_2 pc_3
    have bx := hal w2 (.cells #[.int .i64 p1, .int .i64 p2, .int .i64 p3, .int .i64 p4, .int .i64 p5, .int .i64 p6, .int .i64 p7, .slice A1 0 c1] 26)
    have pm := Blk.new w2 [.int .i64 p1, .int .i64 p2, .int .i64 p3, .int .i64 p4, .int .i64 p5, .int .i64 p6, .int .i64 p7, .slice A1 0 c1] 26
    replace pc := pc.below bx
    replace hor := hor.below bx
    replace hm := hm.below bx
    replace bw := below2 bw bx
    clear bx
    have cc := accept_val (k := k) (u := (⟨v, h, e, a⟩ : Cur)) (m := (⟨p1, p2, p3, p4, p5, p6, p7, []⟩ : Man)) au 5 hm (by simp) HCV.out HOL.out hor hon hv.1 (hv.2 5)
    go_wp2_with fail
    refine cc.mono ?_
    clear lpc pc_0 pc_1 pc_2 pc_3 cc
    generalize (w2.alloc (.cells #[.int .i64 p1, .int .i64 p2, .int .i64 p3, .int .i64 p4, .int .i64 p5, .int .i64 p6, .int .i64 p7, .slice A1 0 c1] 26)) = wg3 at *
    rintro _ w3 ⟨rfl, bx⟩
    simp only
    replace pc := pc.below bx
    replace pm := pm.below bx
    replace hor := hor.below bx
    replace hm := hm.below bx
    replace bw := below2 bw bx
    clear bx
    have lpc := pc.lt
    have pc_0 := pc.cell 0
    have pc_1 := pc.cell 1
    have pc_2 := pc.cell 2
    have pc_3 := pc.cell 3
    have lpm := pm.lt
    have pm_0 := pm.cell 0
    have pm_1 := pm.cell 1
    have pm_2 := pm.cell 2
    have pm_3 := pm.cell 3
    have pm_4 := pm.cell 4
    have pm_5 := pm.cell 5
    have pm_6 := pm.cell 6
    have pm_7 := pm.cell 7
    simp only [List.getElem?_cons_zero, List.getElem?_cons_succ] at pc_0 pc_1 pc_2 pc_3 pm_0 pm_1 pm_2 pm_3 pm_4 pm_5 pm_6 pm_7
    have bx := hal w3 (.cells #[.int .i64 (v + 1), .int .i64 5, .int .i64 e, .int .i64 se] 23)
    replace bw := below2 bw bx
    clear bx
    have hcc := eqC v h e a v h e a
    clear hv
    go_wp2
    go_ret
    exact ⟨rfl, bw⟩
  · skip
    have hv := HNO.out rfl (.inr (by rw [HD.out]; exact fun q => hD q.symm))
    have hb : (y == dg) = false := by simp [hD]
    have lpc := pc.lt
    have pc_0 := pc.cell 0
    have pc_1 := pc.cell 1
    have pc_2 := pc.cell 2
    have pc_3 := pc.cell 3
    simp only [List.getElem?_cons_zero, List.getElem?_cons_succ] at pc_0 pc_1 pc_2 pc_3
    have bx := hal w2 (.cells #[.int .i64 p1, .int .i64 p2, .int .i64 p3, .int .i64 p4, .int .i64 p5, .int .i64 p6, .int .i64 p7, .slice A1 0 c1] 26)
    have pm := Blk.new w2 [.int .i64 p1, .int .i64 p2, .int .i64 p3, .int .i64 p4, .int .i64 p5, .int .i64 p6, .int .i64 p7, .slice A1 0 c1] 26
    replace pc := pc.below bx
    replace hor := hor.below bx
    replace hm := hm.below bx
    replace bw := below2 bw bx
    clear bx
    have cc := accept_val (k := k) (u := (⟨v, h, e, a⟩ : Cur)) (m := (⟨p1, p2, p3, p4, p5, p6, p7, []⟩ : Man)) au 5 hm (by simp) HCV.out HOL.out hor hon hv.1 (hv.2 5)
    go_wp2_with fail
    refine cc.mono ?_
    clear lpc pc_0 pc_1 pc_2 pc_3 cc
    generalize (w2.alloc (.cells #[.int .i64 p1, .int .i64 p2, .int .i64 p3, .int .i64 p4, .int .i64 p5, .int .i64 p6, .int .i64 p7, .slice A1 0 c1] 26)) = wg3 at *
    rintro _ w3 ⟨rfl, bx⟩
    simp only
    replace pc := pc.below bx
    replace pm := pm.below bx
    replace hor := hor.below bx
    replace hm := hm.below bx
    replace bw := below2 bw bx
    clear bx
    have lpc := pc.lt
    have pc_0 := pc.cell 0
    have pc_1 := pc.cell 1
    have pc_2 := pc.cell 2
    have pc_3 := pc.cell 3
    have lpm := pm.lt
    have pm_0 := pm.cell 0
    have pm_1 := pm.cell 1
    have pm_2 := pm.cell 2
    have pm_3 := pm.cell 3
    have pm_4 := pm.cell 4
    have pm_5 := pm.cell 5
    have pm_6 := pm.cell 6
    have pm_7 := pm.cell 7
    simp only [List.getElem?_cons_zero, List.getElem?_cons_succ] at pc_0 pc_1 pc_2 pc_3 pm_0 pm_1 pm_2 pm_3 pm_4 pm_5 pm_6 pm_7
    have bx := hal w3 (.cells #[.int .i64 v, .int .i64 h, .int .i64 e, .int .i64 a] 23)
    replace bw := below2 bw bx
    clear bx
    have hcc := eqC v h e a v h e a
    clear hv
    go_wp2
    go_ret
    exact ⟨rfl, bw⟩
end Go.Proofs.YteimgnmjmpeobaaDoor
