/- The texts Jn, Sm, Jo, Jp, Jr, Jv, in one. -/
import Derived.Test.YtlmccjdpmhancaaGreatDoorP6
namespace Go.Proofs.YtlmccjdpmhancaaGreatDoor
open Go.RowKit

set_option maxHeartbeats 1000000 in
theorem has_any (B : Option Addr) (c : Nat) (l : List ByteArray) (p : ByteArray) (w : World) (hr : Rd w B (strV l)) (hn : l.length ≤ 1000000) :
    Calls Tryz.prog 25 #[.slice B l.length c, .string p] w fun e w' => e = .returned (.bool (inB p l)) ∧ w' = w := by
  go_enter Tryz.func25, Tryz.ntmps25
  go_wp2_with fail
  go_loop [5] (fun i => ∃ j : Nat, j ≤ l.length ∧ i = .int .i64 j ∧ Hid (inB p (l.take j) = false)) (fun i => l.length - (intOf i).toNat)
  case atStart => exact ⟨0, by omega, rfl, by simp [Hid, inB]⟩
  case round =>
    obtain ⟨j, hj, rfl, HO⟩ := hrel
    by_cases hjn : j < l.length
    · obtain ⟨g, o, rfl, h1, -⟩ := str_at hr hjn
      have HK : Hid (inB p (l.take (j + 1)) = (inB p (l.take j) || decide (p = l[j]))) := any_take_step (fun s => decide (p = s)) l j hjn
      have HM := hid (List.getElem_mem hjn)
      have hsq := str_eqb l[j] p
      generalize l[j] = s at *
      have hz : (0 : Int) ≤ j := by omega
      have hlt : (j : Int) < l.length := by omega
      by_cases hq : p = s
      · rw [decide_eq_true hq.symm] at hsq
        have HQ : Hid (inB p l = true) := inB_iff.2 (by rw [hq]; exact HM.out)
        clear HK HM HO hq
        go_wp2
        go_ret
        exact ⟨ret_bool HQ.out.symm, rfl⟩
      · rw [decide_eq_false (fun e => hq e.symm)] at hsq
        have HK2 : Hid (inB p (l.take (j + 1)) = false) := by show _ = _; rw [HK.out, HO.out, decide_eq_false hq]; rfl
        clear HK HM HO hq
        go_wp2
        go_round
        case rel => exact ⟨j + 1, by omega, by go_num, HK2⟩
        case measure => simp [intOf]; omega
    · have HE := hid (show j = l.length by omega)
      have hnlt : ¬ (j : Int) < l.length := by omega
      have HQ : Hid (inB p l = false) := by have ho := HO.out; rw [HE.out, List.take_length] at ho; exact ho
      go_wp2
      go_ret
      exact ⟨ret_bool HQ.out.symm, rfl⟩

set_option maxRecDepth 20000 in
set_option maxHeartbeats 4000000 in
theorem small_any (w : World) : Calls Tryz.prog 9 #[] w fun e w' => e = .returned (.bool true) ∧ Below w.heap.size w w' := by
  have hal : ∀ (W : World) (o : Obj), Below W.heap.size W (W.alloc o) := fun W o => (Below.refl _ _).alloc (Nat.le_refl _) o
  have EA : Et ((w.alloc (.cells #[.string ⟨#[102]⟩, .bool true, .string ⟨#[49]⟩, .int .i64 2, .int .i64 0, .string ⟨#[103]⟩, .bool true, .string ⟨#[49]⟩, .int .i64 1, .int .i64 0] 34)).alloc (.cells #[.string ⟨#[102]⟩, .bool true, .string ⟨#[50]⟩, .int .i64 1, .int .i64 1, .string ⟨#[103]⟩, .bool false, .string ⟨#[]⟩, .int .i64 1, .int .i64 1, .string ⟨#[104]⟩, .bool true, .string ⟨#[]⟩, .int .i64 0, .int .i64 1] 34)) (some ⟨w.heap.size, 0, none⟩) 2 2 SA :=
    ⟨rfl, (Blk.below (Blk.new w (entV SA) 34) (hal _ _)).rd, Nat.le_refl _, by omega, by omega, by decide⟩
  have EB : Et ((w.alloc (.cells #[.string ⟨#[102]⟩, .bool true, .string ⟨#[49]⟩, .int .i64 2, .int .i64 0, .string ⟨#[103]⟩, .bool true, .string ⟨#[49]⟩, .int .i64 1, .int .i64 0] 34)).alloc (.cells #[.string ⟨#[102]⟩, .bool true, .string ⟨#[50]⟩, .int .i64 1, .int .i64 1, .string ⟨#[103]⟩, .bool false, .string ⟨#[]⟩, .int .i64 1, .int .i64 1, .string ⟨#[104]⟩, .bool true, .string ⟨#[]⟩, .int .i64 0, .int .i64 1] 34)) (some ⟨w.heap.size + 1, 0, none⟩) 3 3 SB := by
    have hs : (w.alloc (.cells #[.string ⟨#[102]⟩, .bool true, .string ⟨#[49]⟩, .int .i64 2, .int .i64 0, .string ⟨#[103]⟩, .bool true, .string ⟨#[49]⟩, .int .i64 1, .int .i64 0] 34)).heap.size = w.heap.size + 1 := by simp
    refine ⟨rfl, ?_, Nat.le_refl _, by omega, by omega, by decide⟩
    rw [← hs]
    exact (Blk.new (w.alloc (.cells #[.string ⟨#[102]⟩, .bool true, .string ⟨#[49]⟩, .int .i64 2, .int .i64 0, .string ⟨#[103]⟩, .bool true, .string ⟨#[49]⟩, .int .i64 1, .int .i64 0] 34)) (entV SB) 34).rd
  have b0 := below2 (hal w (.cells #[.string ⟨#[102]⟩, .bool true, .string ⟨#[49]⟩, .int .i64 2, .int .i64 0, .string ⟨#[103]⟩, .bool true, .string ⟨#[49]⟩, .int .i64 1, .int .i64 0] 34)) (hal _ (.cells #[.string ⟨#[102]⟩, .bool true, .string ⟨#[50]⟩, .int .i64 1, .int .i64 1, .string ⟨#[103]⟩, .bool false, .string ⟨#[]⟩, .int .i64 1, .int .i64 1, .string ⟨#[104]⟩, .bool true, .string ⟨#[]⟩, .int .i64 0, .int .i64 1] 34))
  go_enter Tryz.func9, Tryz.ntmps9
  go_wp2_with fail
  generalize (w.alloc (.cells #[.string ⟨#[102]⟩, .bool true, .string ⟨#[49]⟩, .int .i64 2, .int .i64 0, .string ⟨#[103]⟩, .bool true, .string ⟨#[49]⟩, .int .i64 1, .int .i64 0] 34)).alloc (.cells #[.string ⟨#[102]⟩, .bool true, .string ⟨#[50]⟩, .int .i64 1, .int .i64 1, .string ⟨#[103]⟩, .bool false, .string ⟨#[]⟩, .int .i64 1, .int .i64 1, .string ⟨#[104]⟩, .bool true, .string ⟨#[]⟩, .int .i64 0, .int .i64 1] 34) = W0 at *
  refine (merge_val EA EB sm_mA sm_mC (show _ = 3 from rfl) (show _ = 1 from rfl) (show _ = 0 by rw [sm_mN]; rfl)).mono ?_
  rintro e w1 ⟨A1, c1, B1, d1, rfl, E1, r1, hb1⟩
  have EA1 := EA.below hb1
  have EB1 := EB.below hb1
  have b1 := below2 b0 hb1
  clear EA EB b0 hb1
  have kt := treeE_any EA1
  rw [sm_t] at kt
  go_wp2_with fail
  refine kt.mono ?_
  rintro e w2 ⟨U, du, rfl, T2, hb2⟩
  have EA2 := EA1.below hb2
  have EB2 := EB1.below hb2
  have E2 := E1.below hb2
  have r2 := r1.below hb2
  have b2 := below2 b1 hb2
  clear EA1 EB1 E1 r1 b1 hb2 kt
  go_wp2_with fail
  refine (plan_val T2 E2 (by simp) (by omega) sm_pA (show _ = 2 from rfl) (show _ = 0 by rw [sm_pN]; rfl)).mono ?_
  rintro e w3 ⟨A3, c3, rfl, p3, hb3⟩
  have EA3 := EA2.below hb3
  have EB3 := EB2.below hb3
  have E3 := E2.below hb3
  have r3 := r2.below hb3
  have b3 := below2 b2 hb3
  clear EA2 EB2 E2 r2 b2 hb3 T2
  go_wp2_with fail
  refine (settle_val E3 EB3 tf true 0 sm_sA (show _ = 3 from rfl) (show _ = 0 by rw [sm_sN]; rfl)).mono ?_
  rintro e w4 ⟨A4, c4, rfl, S4, hb4⟩
  have EA4 := EA3.below hb4
  have EB4 := EB3.below hb4
  have E4 := E3.below hb4
  have r4 := r3.below hb4
  have p4 := p3.below hb4
  have b4 := below2 b3 hb4
  clear EA3 EB3 E3 r3 b3 hb4 p3
  go_wp2_with fail
  refine (settle_val E4 EB4 tg true 0 sm_sA2 (show _ = 0 from rfl) (show _ = 3 by rw [sm_sN2]; rfl)).mono ?_
  rintro e w5 ⟨A5, c5, rfl, -, hb5⟩
  have EA5 := EA4.below hb5
  have EB5 := EB4.below hb5
  have E5 := E4.below hb5
  have r5 := r4.below hb5
  have p5 := p4.below hb5
  have S5 := S4.below hb5
  have b5 := below2 b4 hb5
  clear EA4 EB4 E4 r4 b4 hb5 p4 S4
  obtain ⟨gc, oc, rfl, x0, -⟩ := str_at r5 (j := 0) (by decide)
  obtain ⟨gl, ol, rfl, l0, l1, l2, l3, l4, -⟩ := E5.rd.ent (j := 0) (by decide)
  obtain ⟨g, o, e0, m0, m1, m2, m3, m4, -⟩ := E5.rd.ent (j := 1) (by decide)
  injection e0 with e0; injection e0 with e0 e0'; subst e0 e0'
  obtain ⟨ga, oa, ea, a0, a1, a2, a3, a4, -⟩ := EA5.rd.ent (j := 0) (by decide)
  injection ea with ea; injection ea with ea ea'; subst ea ea'
  obtain ⟨ga, oa, ea, f0, f1, f2, f3, f4, -⟩ := EB5.rd.ent (j := 1) (by decide)
  injection ea with ea; injection ea with ea ea'; subst ea ea'
  obtain ⟨gs, os, rfl, s0, s1, s2, s3, s4, -⟩ := S5.rd.ent (j := 0) (by decide)
  obtain ⟨gp, op, rfl, q0, q1, q2, -⟩ := p5.act (j := 0) (by decide)
  obtain ⟨g, o, e0, q3, q4, q5, -⟩ := p5.act (j := 1) (by decide)
  injection e0 with e0; injection e0 with e0 e0'; subst e0 e0'
  simp only [List.getElem_cons_zero, List.getElem_cons_succ, Nat.zero_mul, Nat.one_mul, Nat.add_zero, Nat.zero_add, Nat.reduceAdd] at x0 l0 l1 l2 l3 l4 m0 m1 m2 m3 m4 a0 a1 a2 a3 a4 f0 f1 f2 f3 f4 s0 s1 s2 s3 s4 q0 q1 q2 q3 q4 q5
  have Q1 := eqE e1f e1f
  have Q2 := eqE e2g e2g
  have Q3 := eqAc (tg, false, noS) (tg, false, noS)
  have Q4 := eqAc (th, true, noS) (th, true, noS)
  have Q5 := eqE e3f e3f
  rw [decide_eq_true rfl] at Q1 Q2 Q3 Q4 Q5
  have HS : Hid (∀ W, Below w5.heap.size w5 W → (fun w' => w'.cell? ⟨gc, oc, none⟩ = some (.string ⟨#[102]⟩) ∧ w'.cell? ⟨gl, ol, none⟩ = some (.string ⟨#[102]⟩) ∧ w'.cell? ⟨gl, ol + 1, none⟩ = some (.bool true) ∧ w'.cell? ⟨gl, ol + 2, none⟩ = some (.string ⟨#[49]⟩) ∧ w'.cell? ⟨gl, ol + 3, none⟩ = some (.int .i64 2) ∧ w'.cell? ⟨gl, ol + 4, none⟩ = some (.int .i64 0) ∧ w'.cell? ⟨gl, ol + 5, none⟩ = some (.string ⟨#[103]⟩) ∧ w'.cell? ⟨gl, ol + 5 + 1, none⟩ = some (.bool false) ∧ w'.cell? ⟨gl, ol + 5 + 2, none⟩ = some (.string ⟨#[]⟩) ∧ w'.cell? ⟨gl, ol + 5 + 3, none⟩ = some (.int .i64 1) ∧ w'.cell? ⟨gl, ol + 5 + 4, none⟩ = some (.int .i64 1) ∧ w'.cell? ⟨w.heap.size, 0, none⟩ = some (.string ⟨#[102]⟩) ∧ w'.cell? ⟨w.heap.size, 1, none⟩ = some (.bool true) ∧ w'.cell? ⟨w.heap.size, 2, none⟩ = some (.string ⟨#[49]⟩) ∧ w'.cell? ⟨w.heap.size, 3, none⟩ = some (.int .i64 2) ∧ w'.cell? ⟨w.heap.size, 4, none⟩ = some (.int .i64 0) ∧ w'.cell? ⟨w.heap.size + 1, 5, none⟩ = some (.string ⟨#[103]⟩) ∧ w'.cell? ⟨w.heap.size + 1, 6, none⟩ = some (.bool false) ∧ w'.cell? ⟨w.heap.size + 1, 7, none⟩ = some (.string ⟨#[]⟩) ∧ w'.cell? ⟨w.heap.size + 1, 8, none⟩ = some (.int .i64 1) ∧ w'.cell? ⟨w.heap.size + 1, 9, none⟩ = some (.int .i64 1) ∧ w'.cell? ⟨gs, os, none⟩ = some (.string ⟨#[102]⟩) ∧ w'.cell? ⟨gs, os + 1, none⟩ = some (.bool true) ∧ w'.cell? ⟨gs, os + 2, none⟩ = some (.string ⟨#[50]⟩) ∧ w'.cell? ⟨gs, os + 3, none⟩ = some (.int .i64 3) ∧ w'.cell? ⟨gs, os + 4, none⟩ = some (.int .i64 1) ∧ w'.cell? ⟨gp, op, none⟩ = some (.string ⟨#[103]⟩) ∧ w'.cell? ⟨gp, op + 1, none⟩ = some (.bool false) ∧ w'.cell? ⟨gp, op + 2, none⟩ = some (.string ⟨#[]⟩) ∧ w'.cell? ⟨gp, op + 3, none⟩ = some (.string ⟨#[104]⟩) ∧ w'.cell? ⟨gp, op + 3 + 1, none⟩ = some (.bool true) ∧ w'.cell? ⟨gp, op + 3 + 2, none⟩ = some (.string ⟨#[]⟩)) W) := fun W hb => by
    refine ⟨?_, ?_, ?_, ?_, ?_, ?_, ?_, ?_, ?_, ?_, ?_, ?_, ?_, ?_, ?_, ?_, ?_, ?_, ?_, ?_, ?_, ?_, ?_, ?_, ?_, ?_, ?_, ?_, ?_, ?_, ?_, ?_⟩
    · exact (hb.cell (p := ⟨gc, oc, none⟩) (World.block_lt_of_cell? _ _ x0)).trans x0
    · exact (hb.cell (p := ⟨gl, ol, none⟩) (World.block_lt_of_cell? _ _ l0)).trans l0
    · exact (hb.cell (p := ⟨gl, ol + 1, none⟩) (World.block_lt_of_cell? _ _ l1)).trans l1
    · exact (hb.cell (p := ⟨gl, ol + 2, none⟩) (World.block_lt_of_cell? _ _ l2)).trans l2
    · exact (hb.cell (p := ⟨gl, ol + 3, none⟩) (World.block_lt_of_cell? _ _ l3)).trans l3
    · exact (hb.cell (p := ⟨gl, ol + 4, none⟩) (World.block_lt_of_cell? _ _ l4)).trans l4
    · exact (hb.cell (p := ⟨gl, ol + 5, none⟩) (World.block_lt_of_cell? _ _ m0)).trans m0
    · exact (hb.cell (p := ⟨gl, ol + 5 + 1, none⟩) (World.block_lt_of_cell? _ _ m1)).trans m1
    · exact (hb.cell (p := ⟨gl, ol + 5 + 2, none⟩) (World.block_lt_of_cell? _ _ m2)).trans m2
    · exact (hb.cell (p := ⟨gl, ol + 5 + 3, none⟩) (World.block_lt_of_cell? _ _ m3)).trans m3
    · exact (hb.cell (p := ⟨gl, ol + 5 + 4, none⟩) (World.block_lt_of_cell? _ _ m4)).trans m4
    · exact (hb.cell (p := ⟨w.heap.size, 0, none⟩) (World.block_lt_of_cell? _ _ a0)).trans a0
    · exact (hb.cell (p := ⟨w.heap.size, 1, none⟩) (World.block_lt_of_cell? _ _ a1)).trans a1
    · exact (hb.cell (p := ⟨w.heap.size, 2, none⟩) (World.block_lt_of_cell? _ _ a2)).trans a2
    · exact (hb.cell (p := ⟨w.heap.size, 3, none⟩) (World.block_lt_of_cell? _ _ a3)).trans a3
    · exact (hb.cell (p := ⟨w.heap.size, 4, none⟩) (World.block_lt_of_cell? _ _ a4)).trans a4
    · exact (hb.cell (p := ⟨w.heap.size + 1, 5, none⟩) (World.block_lt_of_cell? _ _ f0)).trans f0
    · exact (hb.cell (p := ⟨w.heap.size + 1, 6, none⟩) (World.block_lt_of_cell? _ _ f1)).trans f1
    · exact (hb.cell (p := ⟨w.heap.size + 1, 7, none⟩) (World.block_lt_of_cell? _ _ f2)).trans f2
    · exact (hb.cell (p := ⟨w.heap.size + 1, 8, none⟩) (World.block_lt_of_cell? _ _ f3)).trans f3
    · exact (hb.cell (p := ⟨w.heap.size + 1, 9, none⟩) (World.block_lt_of_cell? _ _ f4)).trans f4
    · exact (hb.cell (p := ⟨gs, os, none⟩) (World.block_lt_of_cell? _ _ s0)).trans s0
    · exact (hb.cell (p := ⟨gs, os + 1, none⟩) (World.block_lt_of_cell? _ _ s1)).trans s1
    · exact (hb.cell (p := ⟨gs, os + 2, none⟩) (World.block_lt_of_cell? _ _ s2)).trans s2
    · exact (hb.cell (p := ⟨gs, os + 3, none⟩) (World.block_lt_of_cell? _ _ s3)).trans s3
    · exact (hb.cell (p := ⟨gs, os + 4, none⟩) (World.block_lt_of_cell? _ _ s4)).trans s4
    · exact (hb.cell (p := ⟨gp, op, none⟩) (World.block_lt_of_cell? _ _ q0)).trans q0
    · exact (hb.cell (p := ⟨gp, op + 1, none⟩) (World.block_lt_of_cell? _ _ q1)).trans q1
    · exact (hb.cell (p := ⟨gp, op + 2, none⟩) (World.block_lt_of_cell? _ _ q2)).trans q2
    · exact (hb.cell (p := ⟨gp, op + 3, none⟩) (World.block_lt_of_cell? _ _ q3)).trans q3
    · exact (hb.cell (p := ⟨gp, op + 3 + 1, none⟩) (World.block_lt_of_cell? _ _ q4)).trans q4
    · exact (hb.cell (p := ⟨gp, op + 3 + 2, none⟩) (World.block_lt_of_cell? _ _ q5)).trans q5
  clear r5 p5 S5 EA5
  go_wp2_with fail
  refine wp_region_held_drew (S := fun w' => w'.cell? ⟨gc, oc, none⟩ = some (.string ⟨#[102]⟩) ∧ w'.cell? ⟨gl, ol, none⟩ = some (.string ⟨#[102]⟩) ∧ w'.cell? ⟨gl, ol + 1, none⟩ = some (.bool true) ∧ w'.cell? ⟨gl, ol + 2, none⟩ = some (.string ⟨#[49]⟩) ∧ w'.cell? ⟨gl, ol + 3, none⟩ = some (.int .i64 2) ∧ w'.cell? ⟨gl, ol + 4, none⟩ = some (.int .i64 0) ∧ w'.cell? ⟨gl, ol + 5, none⟩ = some (.string ⟨#[103]⟩) ∧ w'.cell? ⟨gl, ol + 5 + 1, none⟩ = some (.bool false) ∧ w'.cell? ⟨gl, ol + 5 + 2, none⟩ = some (.string ⟨#[]⟩) ∧ w'.cell? ⟨gl, ol + 5 + 3, none⟩ = some (.int .i64 1) ∧ w'.cell? ⟨gl, ol + 5 + 4, none⟩ = some (.int .i64 1) ∧ w'.cell? ⟨w.heap.size, 0, none⟩ = some (.string ⟨#[102]⟩) ∧ w'.cell? ⟨w.heap.size, 1, none⟩ = some (.bool true) ∧ w'.cell? ⟨w.heap.size, 2, none⟩ = some (.string ⟨#[49]⟩) ∧ w'.cell? ⟨w.heap.size, 3, none⟩ = some (.int .i64 2) ∧ w'.cell? ⟨w.heap.size, 4, none⟩ = some (.int .i64 0) ∧ w'.cell? ⟨w.heap.size + 1, 5, none⟩ = some (.string ⟨#[103]⟩) ∧ w'.cell? ⟨w.heap.size + 1, 6, none⟩ = some (.bool false) ∧ w'.cell? ⟨w.heap.size + 1, 7, none⟩ = some (.string ⟨#[]⟩) ∧ w'.cell? ⟨w.heap.size + 1, 8, none⟩ = some (.int .i64 1) ∧ w'.cell? ⟨w.heap.size + 1, 9, none⟩ = some (.int .i64 1) ∧ w'.cell? ⟨gs, os, none⟩ = some (.string ⟨#[102]⟩) ∧ w'.cell? ⟨gs, os + 1, none⟩ = some (.bool true) ∧ w'.cell? ⟨gs, os + 2, none⟩ = some (.string ⟨#[50]⟩) ∧ w'.cell? ⟨gs, os + 3, none⟩ = some (.int .i64 3) ∧ w'.cell? ⟨gs, os + 4, none⟩ = some (.int .i64 1) ∧ w'.cell? ⟨gp, op, none⟩ = some (.string ⟨#[103]⟩) ∧ w'.cell? ⟨gp, op + 1, none⟩ = some (.bool false) ∧ w'.cell? ⟨gp, op + 2, none⟩ = some (.string ⟨#[]⟩) ∧ w'.cell? ⟨gp, op + 3, none⟩ = some (.string ⟨#[104]⟩) ∧ w'.cell? ⟨gp, op + 3 + 1, none⟩ = some (.bool true) ∧ w'.cell? ⟨gp, op + 3 + 2, none⟩ = some (.string ⟨#[]⟩)) (by kernel_rfl) (HS.out _ (Below.refl _ _).drew) (fun hHeld => ?_)
  clear x0 l0 l1 l2 l3 l4 m0 m1 m2 m3 m4 a0 a1 a2 a3 a4 f0 f1 f2 f3 f4 s0 s1 s2 s3 s4 q0 q1 q2 q3 q4 q5
  refine wpAnyH_take (i := 0) (oi := ⟨_, _, _, _, _, _⟩) (v := ?_) rfl (by kernel_rfl) (by kernel_rfl) (by kernel_rfl) (fun _ _ _ h => h) (Or.inl ⟨by rfl, ?_⟩) (by assumption) ?_
  rotate_left
  · intro w hSw; (try dsimp only at hSw); go_simp; (try (with_reducible rfl))
  try simp only [Act.put, List.setIfInBounds_toArray, List.set_cons_zero, List.set_cons_succ]
  refine wpAnyH_take (i := 1) (oi := ⟨_, _, _, _, _, _⟩) (v := ?_) rfl (by kernel_rfl) (by kernel_rfl) (by kernel_rfl) (fun _ _ _ h => h) (Or.inl ⟨by rfl, ?_⟩) (by assumption) ?_
  rotate_left
  · intro w hSw; (try dsimp only at hSw); go_simp; (try (with_reducible rfl))
  try simp only [Act.put, List.setIfInBounds_toArray, List.set_cons_zero, List.set_cons_succ]
  refine wpAnyH_take (i := 2) (oi := ⟨_, _, _, _, _, _⟩) (v := ?_) rfl (by kernel_rfl) (by kernel_rfl) (by kernel_rfl) (fun _ _ _ h => h) (Or.inl ⟨by rfl, ?_⟩) (by assumption) ?_
  rotate_left
  · intro w hSw; (try dsimp only at hSw); go_simp; (try (with_reducible rfl))
  try simp only [Act.put, List.setIfInBounds_toArray, List.set_cons_zero, List.set_cons_succ]
  refine wpAnyH_take (i := 3) (oi := ⟨_, _, _, _, _, _⟩) (v := ?_) rfl (by kernel_rfl) (by kernel_rfl) (by kernel_rfl) (fun _ _ _ h => h) (Or.inl ⟨by rfl, ?_⟩) (by assumption) ?_
  rotate_left
  · intro w hSw; (try dsimp only at hSw); go_simp; (try (with_reducible rfl))
  try simp only [Act.put, List.setIfInBounds_toArray, List.set_cons_zero, List.set_cons_succ]
  refine wpAnyH_take (i := 4) (oi := ⟨_, _, _, _, _, _⟩) (v := ?_) rfl (by kernel_rfl) (by kernel_rfl) (by kernel_rfl) (fun _ _ _ h => h) (Or.inl ⟨by rfl, ?_⟩) (by assumption) ?_
  rotate_left
  · intro w hSw; (try dsimp only at hSw); go_simp; (try (with_reducible rfl))
  try simp only [Act.put, List.setIfInBounds_toArray, List.set_cons_zero, List.set_cons_succ]
  refine wpAnyH_take (i := 5) (oi := ⟨_, _, _, _, _, _⟩) (v := ?_) rfl (by kernel_rfl) (by kernel_rfl) (by kernel_rfl) (fun _ _ _ h => h) (Or.inl ⟨by rfl, ?_⟩) (by assumption) ?_
  rotate_left
  · intro w hSw; (try dsimp only at hSw); go_simp; (try (with_reducible rfl))
  try simp only [Act.put, List.setIfInBounds_toArray, List.set_cons_zero, List.set_cons_succ]
  refine wpAnyH_take (i := 6) (oi := ⟨_, _, _, _, _, _⟩) (v := ?_) rfl (by kernel_rfl) (by kernel_rfl) (by kernel_rfl) (fun _ _ _ h => h) (Or.inl ⟨by rfl, ?_⟩) (by assumption) ?_
  rotate_left
  · intro w hSw; (try dsimp only at hSw); go_simp; (try (with_reducible rfl))
  try simp only [Act.put, List.setIfInBounds_toArray, List.set_cons_zero, List.set_cons_succ]
  refine wpAnyH_take (i := 7) (oi := ⟨_, _, _, _, _, _⟩) (v := ?_) rfl (by kernel_rfl) (by kernel_rfl) (by kernel_rfl) (fun _ _ _ h => h) (Or.inl ⟨by rfl, ?_⟩) (by assumption) ?_
  rotate_left
  · intro w hSw; (try dsimp only at hSw); go_simp; (try (with_reducible rfl))
  try simp only [Act.put, List.setIfInBounds_toArray, List.set_cons_zero, List.set_cons_succ]
  refine wpAnyH_take (i := 8) (oi := ⟨_, _, _, _, _, _⟩) (v := ?_) rfl (by kernel_rfl) (by kernel_rfl) (by kernel_rfl) (fun _ _ _ h => h) (Or.inl ⟨by rfl, ?_⟩) (by assumption) ?_
  rotate_left
  · intro w hSw; (try dsimp only at hSw); go_simp; (try (with_reducible rfl))
  try simp only [Act.put, List.setIfInBounds_toArray, List.set_cons_zero, List.set_cons_succ]
  refine wpAnyH_take (i := 9) (oi := ⟨_, _, _, _, _, _⟩) (v := ?_) rfl (by kernel_rfl) (by kernel_rfl) (by kernel_rfl) (fun _ _ _ h => h) (Or.inl ⟨by rfl, ?_⟩) (by assumption) ?_
  rotate_left
  · intro w hSw; (try dsimp only at hSw); go_simp; (try (with_reducible rfl))
  try simp only [Act.put, List.setIfInBounds_toArray, List.set_cons_zero, List.set_cons_succ]
  refine wpAnyH_take (i := 10) (oi := ⟨_, _, _, _, _, _⟩) (v := ?_) rfl (by kernel_rfl) (by kernel_rfl) (by kernel_rfl) (fun _ _ _ h => h) (Or.inl ⟨by rfl, ?_⟩) (by assumption) ?_
  rotate_left
  · intro w hSw; (try dsimp only at hSw); go_simp; (try (with_reducible rfl))
  try simp only [Act.put, List.setIfInBounds_toArray, List.set_cons_zero, List.set_cons_succ]
  refine wpAnyH_take (i := 11) (oi := ⟨_, _, _, _, _, _⟩) (v := ?_) rfl (by kernel_rfl) (by kernel_rfl) (by kernel_rfl) (fun _ _ _ h => h) (Or.inl ⟨by rfl, ?_⟩) (by assumption) ?_
  rotate_left
  · intro w hSw; (try dsimp only at hSw); go_simp; (try (with_reducible rfl))
  try simp only [Act.put, List.setIfInBounds_toArray, List.set_cons_zero, List.set_cons_succ]
  refine wpAnyH_take (i := 12) (oi := ⟨_, _, _, _, _, _⟩) (v := ?_) rfl (by kernel_rfl) (by kernel_rfl) (by kernel_rfl) (fun _ _ _ h => h) (Or.inl ⟨by rfl, ?_⟩) (by assumption) ?_
  rotate_left
  · intro w hSw; (try dsimp only at hSw); go_simp; (try (with_reducible rfl))
  try simp only [Act.put, List.setIfInBounds_toArray, List.set_cons_zero, List.set_cons_succ]
  refine wpAnyH_take (i := 13) (oi := ⟨_, _, _, _, _, _⟩) (v := ?_) rfl (by kernel_rfl) (by kernel_rfl) (by kernel_rfl) (fun _ _ _ h => h) (Or.inl ⟨by rfl, ?_⟩) (by assumption) ?_
  rotate_left
  · intro w hSw; (try dsimp only at hSw); go_simp; (try (with_reducible rfl))
  try simp only [Act.put, List.setIfInBounds_toArray, List.set_cons_zero, List.set_cons_succ]
  refine wpAnyH_take (i := 14) (oi := ⟨_, _, _, _, _, _⟩) (v := ?_) rfl (by kernel_rfl) (by kernel_rfl) (by kernel_rfl) (fun _ _ _ h => h) (Or.inl ⟨by rfl, ?_⟩) (by assumption) ?_
  rotate_left
  · intro w hSw; (try dsimp only at hSw); go_simp; (try (with_reducible rfl))
  try simp only [Act.put, List.setIfInBounds_toArray, List.set_cons_zero, List.set_cons_succ]
  refine wpAnyH_take (i := 15) (oi := ⟨_, _, _, _, _, _⟩) (v := ?_) rfl (by kernel_rfl) (by kernel_rfl) (by kernel_rfl) (fun _ _ _ h => h) (Or.inl ⟨by rfl, ?_⟩) (by assumption) ?_
  rotate_left
  · intro w hSw; (try dsimp only at hSw); go_simp; (try (with_reducible rfl))
  try simp only [Act.put, List.setIfInBounds_toArray, List.set_cons_zero, List.set_cons_succ]
  refine wpAnyH_take (i := 16) (oi := ⟨_, _, _, _, _, _⟩) (v := ?_) rfl (by kernel_rfl) (by kernel_rfl) (by kernel_rfl) (fun _ _ _ h => h) (Or.inl ⟨by rfl, ?_⟩) (by assumption) ?_
  rotate_left
  · intro w hSw; (try dsimp only at hSw); go_simp; (try (with_reducible rfl))
  try simp only [Act.put, List.setIfInBounds_toArray, List.set_cons_zero, List.set_cons_succ]
  refine wpAnyH_take (i := 17) (oi := ⟨_, _, _, _, _, _⟩) (v := ?_) rfl (by kernel_rfl) (by kernel_rfl) (by kernel_rfl) (fun _ _ _ h => h) (Or.inl ⟨by rfl, ?_⟩) (by assumption) ?_
  rotate_left
  · intro w hSw; (try dsimp only at hSw); go_simp; (try (with_reducible rfl))
  try simp only [Act.put, List.setIfInBounds_toArray, List.set_cons_zero, List.set_cons_succ]
  refine wpAnyH_take (i := 18) (oi := ⟨_, _, _, _, _, _⟩) (v := ?_) rfl (by kernel_rfl) (by kernel_rfl) (by kernel_rfl) (fun _ _ _ h => h) (Or.inl ⟨by rfl, ?_⟩) (by assumption) ?_
  rotate_left
  · intro w hSw; (try dsimp only at hSw); go_simp; (try (with_reducible rfl))
  try simp only [Act.put, List.setIfInBounds_toArray, List.set_cons_zero, List.set_cons_succ]
  refine wpAnyH_take (i := 19) (oi := ⟨_, _, _, _, _, _⟩) (v := ?_) rfl (by kernel_rfl) (by kernel_rfl) (by kernel_rfl) (fun _ _ _ h => h) (Or.inl ⟨by rfl, ?_⟩) (by assumption) ?_
  rotate_left
  · intro w hSw; (try dsimp only at hSw); go_simp; (try (with_reducible rfl))
  try simp only [Act.put, List.setIfInBounds_toArray, List.set_cons_zero, List.set_cons_succ]
  refine wpAnyH_take (i := 20) (oi := ⟨_, _, _, _, _, _⟩) (v := ?_) rfl (by kernel_rfl) (by kernel_rfl) (by kernel_rfl) (fun _ _ _ h => h) (Or.inl ⟨by rfl, ?_⟩) (by assumption) ?_
  rotate_left
  · intro w hSw; (try dsimp only at hSw); go_simp; (try (with_reducible rfl))
  try simp only [Act.put, List.setIfInBounds_toArray, List.set_cons_zero, List.set_cons_succ]
  refine wpAnyH_take (i := 21) (oi := ⟨_, _, _, _, _, _⟩) (v := ?_) rfl (by kernel_rfl) (by kernel_rfl) (by kernel_rfl) (fun _ _ _ h => h) (Or.inl ⟨by rfl, ?_⟩) (by assumption) ?_
  rotate_left
  · intro w hSw; (try dsimp only at hSw); go_simp; (try (with_reducible rfl))
  try simp only [Act.put, List.setIfInBounds_toArray, List.set_cons_zero, List.set_cons_succ]
  refine wpAnyH_take (i := 22) (oi := ⟨_, _, _, _, _, _⟩) (v := ?_) rfl (by kernel_rfl) (by kernel_rfl) (by kernel_rfl) (fun _ _ _ h => h) (Or.inl ⟨by rfl, ?_⟩) (by assumption) ?_
  rotate_left
  · intro w hSw; (try dsimp only at hSw); go_simp; (try (with_reducible rfl))
  try simp only [Act.put, List.setIfInBounds_toArray, List.set_cons_zero, List.set_cons_succ]
  refine wpAnyH_take (i := 23) (oi := ⟨_, _, _, _, _, _⟩) (v := ?_) rfl (by kernel_rfl) (by kernel_rfl) (by kernel_rfl) (fun _ _ _ h => h) (Or.inl ⟨by rfl, ?_⟩) (by assumption) ?_
  rotate_left
  · intro w hSw; (try dsimp only at hSw); go_simp; (try (with_reducible rfl))
  try simp only [Act.put, List.setIfInBounds_toArray, List.set_cons_zero, List.set_cons_succ]
  refine wpAnyH_take (i := 24) (oi := ⟨_, _, _, _, _, _⟩) (v := ?_) rfl (by kernel_rfl) (by kernel_rfl) (by kernel_rfl) (fun _ _ _ h => h) (Or.inl ⟨by rfl, ?_⟩) (by assumption) ?_
  rotate_left
  · intro w hSw; (try dsimp only at hSw); go_simp; (try (with_reducible rfl))
  try simp only [Act.put, List.setIfInBounds_toArray, List.set_cons_zero, List.set_cons_succ]
  refine wpAnyH_take (i := 25) (oi := ⟨_, _, _, _, _, _⟩) (v := ?_) rfl (by kernel_rfl) (by kernel_rfl) (by kernel_rfl) (fun _ _ _ h => h) (Or.inl ⟨by rfl, ?_⟩) (by assumption) ?_
  rotate_left
  · intro w hSw; (try dsimp only at hSw); go_simp; (try (with_reducible rfl))
  try simp only [Act.put, List.setIfInBounds_toArray, List.set_cons_zero, List.set_cons_succ]
  refine wpAnyH_take (i := 26) (oi := ⟨_, _, _, _, _, _⟩) (v := ?_) rfl (by kernel_rfl) (by kernel_rfl) (by kernel_rfl) (fun _ _ _ h => h) (Or.inl ⟨by rfl, ?_⟩) (by assumption) ?_
  rotate_left
  · intro w hSw; (try dsimp only at hSw); go_simp; (try (with_reducible rfl))
  try simp only [Act.put, List.setIfInBounds_toArray, List.set_cons_zero, List.set_cons_succ]
  refine wpAnyH_take (i := 27) (oi := ⟨_, _, _, _, _, _⟩) (v := ?_) rfl (by kernel_rfl) (by kernel_rfl) (by kernel_rfl) (fun _ _ _ h => h) (Or.inl ⟨by rfl, ?_⟩) (by assumption) ?_
  rotate_left
  · intro w hSw; (try dsimp only at hSw); go_simp; (try (with_reducible rfl))
  try simp only [Act.put, List.setIfInBounds_toArray, List.set_cons_zero, List.set_cons_succ]
  refine wpAnyH_take (i := 28) (oi := ⟨_, _, _, _, _, _⟩) (v := ?_) rfl (by kernel_rfl) (by kernel_rfl) (by kernel_rfl) (fun _ _ _ h => h) (Or.inl ⟨by rfl, ?_⟩) (by assumption) ?_
  rotate_left
  · intro w hSw; (try dsimp only at hSw); go_simp; (try (with_reducible rfl))
  try simp only [Act.put, List.setIfInBounds_toArray, List.set_cons_zero, List.set_cons_succ]
  refine wpAnyH_take (i := 29) (oi := ⟨_, _, _, _, _, _⟩) (v := ?_) rfl (by kernel_rfl) (by kernel_rfl) (by kernel_rfl) (fun _ _ _ h => h) (Or.inl ⟨by rfl, ?_⟩) (by assumption) ?_
  rotate_left
  · intro w hSw; (try dsimp only at hSw); go_simp; (try (with_reducible rfl))
  try simp only [Act.put, List.setIfInBounds_toArray, List.set_cons_zero, List.set_cons_succ]
  refine wpAnyH_take (i := 30) (oi := ⟨_, _, _, _, _, _⟩) (v := ?_) rfl (by kernel_rfl) (by kernel_rfl) (by kernel_rfl) (fun _ _ _ h => h) (Or.inl ⟨by rfl, ?_⟩) (by assumption) ?_
  rotate_left
  · intro w hSw; (try dsimp only at hSw); go_simp; (try (with_reducible rfl))
  try simp only [Act.put, List.setIfInBounds_toArray, List.set_cons_zero, List.set_cons_succ]
  refine wpAnyH_take (i := 31) (oi := ⟨_, _, _, _, _, _⟩) (v := ?_) rfl (by kernel_rfl) (by kernel_rfl) (by kernel_rfl) (fun _ _ _ h => h) (Or.inl ⟨by rfl, ?_⟩) (by assumption) ?_
  rotate_left
  · intro w hSw; (try dsimp only at hSw); go_simp; (try (with_reducible rfl))
  try simp only [Act.put, List.setIfInBounds_toArray, List.set_cons_zero, List.set_cons_succ]
  refine wpAnyH_take (i := 32) (oi := ⟨_, _, _, _, _, _⟩) (v := ?_) rfl (by kernel_rfl) (by kernel_rfl) (by kernel_rfl) (fun _ _ _ h => h) (Or.inl ⟨by rfl, ?_⟩) (by assumption) ?_
  rotate_left
  · intro w hSw; (try dsimp only at hSw); go_simp; (try (with_reducible rfl))
  try simp only [Act.put, List.setIfInBounds_toArray, List.set_cons_zero, List.set_cons_succ]
  refine wpAnyH_take (i := 33) (oi := ⟨_, _, _, _, _, _⟩) (v := ?_) rfl (by kernel_rfl) (by kernel_rfl) (by kernel_rfl) (fun _ _ _ h => h) (Or.inl ⟨by rfl, ?_⟩) (by assumption) ?_
  rotate_left
  · intro w hSw; (try dsimp only at hSw); go_simp; (try (with_reducible rfl))
  try simp only [Act.put, List.setIfInBounds_toArray, List.set_cons_zero, List.set_cons_succ]
  refine wpAnyH_take (i := 34) (oi := ⟨_, _, _, _, _, _⟩) (v := ?_) rfl (by kernel_rfl) (by kernel_rfl) (by kernel_rfl) (fun _ _ _ h => h) (Or.inl ⟨by rfl, ?_⟩) (by assumption) ?_
  rotate_left
  · intro w hSw; (try dsimp only at hSw); go_simp; (try (with_reducible rfl))
  try simp only [Act.put, List.setIfInBounds_toArray, List.set_cons_zero, List.set_cons_succ]
  refine wpAnyH_take (i := 35) (oi := ⟨_, _, _, _, _, _⟩) (v := ?_) rfl (by kernel_rfl) (by kernel_rfl) (by kernel_rfl) (fun _ _ _ h => h) (Or.inl ⟨by rfl, ?_⟩) (by assumption) ?_
  rotate_left
  · intro w hSw; (try dsimp only at hSw); go_simp; (try (with_reducible rfl))
  try simp only [Act.put, List.setIfInBounds_toArray, List.set_cons_zero, List.set_cons_succ]
  refine wpAnyH_take (i := 36) (oi := ⟨_, _, _, _, _, _⟩) (v := ?_) rfl (by kernel_rfl) (by kernel_rfl) (by kernel_rfl) (fun _ _ _ h => h) (Or.inl ⟨by rfl, ?_⟩) (by assumption) ?_
  rotate_left
  · intro w hSw; (try dsimp only at hSw); go_simp; (try (with_reducible rfl))
  try simp only [Act.put, List.setIfInBounds_toArray, List.set_cons_zero, List.set_cons_succ]
  refine wpAnyH_take (i := 37) (oi := ⟨_, _, _, _, _, _⟩) (v := ?_) rfl (by kernel_rfl) (by kernel_rfl) (by kernel_rfl) (fun _ _ _ h => h) (Or.inl ⟨by rfl, ?_⟩) (by assumption) ?_
  rotate_left
  · intro w hSw; (try dsimp only at hSw); go_simp; (try (with_reducible rfl))
  try simp only [Act.put, List.setIfInBounds_toArray, List.set_cons_zero, List.set_cons_succ]
  refine wpAnyH_take (i := 38) (oi := ⟨_, _, _, _, _, _⟩) (v := ?_) rfl (by kernel_rfl) (by kernel_rfl) (by kernel_rfl) (fun _ _ _ h => h) (Or.inl ⟨by rfl, ?_⟩) (by assumption) ?_
  rotate_left
  · intro w hSw; (try dsimp only at hSw); go_simp; (try (with_reducible rfl))
  try simp only [Act.put, List.setIfInBounds_toArray, List.set_cons_zero, List.set_cons_succ]
  refine wpAnyH_take (i := 39) (oi := ⟨_, _, _, _, _, _⟩) (v := ?_) rfl (by kernel_rfl) (by kernel_rfl) (by kernel_rfl) (fun _ _ _ h => h) (Or.inl ⟨by rfl, ?_⟩) (by assumption) ?_
  rotate_left
  · intro w hSw; (try dsimp only at hSw); go_simp; (try (with_reducible rfl))
  try simp only [Act.put, List.setIfInBounds_toArray, List.set_cons_zero, List.set_cons_succ]
  refine wpAnyH_take (i := 40) (oi := ⟨_, _, _, _, _, _⟩) (v := ?_) rfl (by kernel_rfl) (by kernel_rfl) (by kernel_rfl) (fun _ _ _ h => h) (Or.inl ⟨by rfl, ?_⟩) (by assumption) ?_
  rotate_left
  · intro w hSw; (try dsimp only at hSw); go_simp; (try (with_reducible rfl))
  try simp only [Act.put, List.setIfInBounds_toArray, List.set_cons_zero, List.set_cons_succ]
  refine wpAnyH_take (i := 41) (oi := ⟨_, _, _, _, _, _⟩) (v := ?_) rfl (by kernel_rfl) (by kernel_rfl) (by kernel_rfl) (fun _ _ _ h => h) (Or.inl ⟨by rfl, ?_⟩) (by assumption) ?_
  rotate_left
  · intro w hSw; (try dsimp only at hSw); go_simp; (try (with_reducible rfl))
  try simp only [Act.put, List.setIfInBounds_toArray, List.set_cons_zero, List.set_cons_succ]
  refine wpAnyH_take (i := 42) (oi := ⟨_, _, _, _, _, _⟩) (v := ?_) rfl (by kernel_rfl) (by kernel_rfl) (by kernel_rfl) (fun _ _ _ h => h) (Or.inl ⟨by rfl, ?_⟩) (by assumption) ?_
  rotate_left
  · intro w hSw; (try dsimp only at hSw); go_simp; (try (with_reducible rfl))
  try simp only [Act.put, List.setIfInBounds_toArray, List.set_cons_zero, List.set_cons_succ]
  refine wpAnyH_take (i := 43) (oi := ⟨_, _, _, _, _, _⟩) (v := ?_) rfl (by kernel_rfl) (by kernel_rfl) (by kernel_rfl) (fun _ _ _ h => h) (Or.inl ⟨by rfl, ?_⟩) (by assumption) ?_
  rotate_left
  · intro w hSw; (try dsimp only at hSw); go_simp; (try (with_reducible rfl))
  try simp only [Act.put, List.setIfInBounds_toArray, List.set_cons_zero, List.set_cons_succ]
  refine wpAnyH_take (i := 44) (oi := ⟨_, _, _, _, _, _⟩) (v := ?_) rfl (by kernel_rfl) (by kernel_rfl) (by kernel_rfl) (fun _ _ _ h => h) (Or.inl ⟨by rfl, ?_⟩) (by assumption) ?_
  rotate_left
  · intro w hSw; (try dsimp only at hSw); go_simp; (try (with_reducible rfl))
  try simp only [Act.put, List.setIfInBounds_toArray, List.set_cons_zero, List.set_cons_succ]
  refine wpAnyH_take (i := 45) (oi := ⟨_, _, _, _, _, _⟩) (v := ?_) rfl (by kernel_rfl) (by kernel_rfl) (by kernel_rfl) (fun _ _ _ h => h) (Or.inl ⟨by rfl, ?_⟩) (by assumption) ?_
  rotate_left
  · intro w hSw; (try dsimp only at hSw); go_simp; (try (with_reducible rfl))
  try simp only [Act.put, List.setIfInBounds_toArray, List.set_cons_zero, List.set_cons_succ]
  refine wpAnyH_take (i := 46) (oi := ⟨_, _, _, _, _, _⟩) (v := ?_) rfl (by kernel_rfl) (by kernel_rfl) (by kernel_rfl) (fun _ _ _ h => h) (Or.inl ⟨by rfl, ?_⟩) (by assumption) ?_
  rotate_left
  · intro w hSw; (try dsimp only at hSw); go_simp; (try (with_reducible rfl))
  try simp only [Act.put, List.setIfInBounds_toArray, List.set_cons_zero, List.set_cons_succ]
  refine wpAnyH_take (i := 47) (oi := ⟨_, _, _, _, _, _⟩) (v := ?_) rfl (by kernel_rfl) (by kernel_rfl) (by kernel_rfl) (fun _ _ _ h => h) (Or.inl ⟨by rfl, ?_⟩) (by assumption) ?_
  rotate_left
  · intro w hSw; (try dsimp only at hSw); go_simp; (try (with_reducible rfl))
  try simp only [Act.put, List.setIfInBounds_toArray, List.set_cons_zero, List.set_cons_succ]
  refine wpAnyH_take (i := 48) (oi := ⟨_, _, _, _, _, _⟩) (v := ?_) rfl (by kernel_rfl) (by kernel_rfl) (by kernel_rfl) (fun _ _ _ h => h) (Or.inl ⟨by rfl, ?_⟩) (by assumption) ?_
  rotate_left
  · intro w hSw; (try dsimp only at hSw); go_simp; (try (with_reducible rfl))
  try simp only [Act.put, List.setIfInBounds_toArray, List.set_cons_zero, List.set_cons_succ]
  refine wpAnyH_take (i := 49) (oi := ⟨_, _, _, _, _, _⟩) (v := ?_) rfl (by kernel_rfl) (by kernel_rfl) (by kernel_rfl) (fun _ _ _ h => h) (Or.inl ⟨by rfl, ?_⟩) (by assumption) ?_
  rotate_left
  · intro w hSw; (try dsimp only at hSw); go_simp; (try (with_reducible rfl))
  try simp only [Act.put, List.setIfInBounds_toArray, List.set_cons_zero, List.set_cons_succ]
  refine wpAnyH_take (i := 50) (oi := ⟨_, _, _, _, _, _⟩) (v := ?_) rfl (by kernel_rfl) (by kernel_rfl) (by kernel_rfl) (fun _ _ _ h => h) (Or.inl ⟨by rfl, ?_⟩) (by assumption) ?_
  rotate_left
  · intro w hSw; (try dsimp only at hSw); go_simp; (try (with_reducible rfl))
  try simp only [Act.put, List.setIfInBounds_toArray, List.set_cons_zero, List.set_cons_succ]
  refine wpAnyH_take (i := 51) (oi := ⟨_, _, _, _, _, _⟩) (v := ?_) rfl (by kernel_rfl) (by kernel_rfl) (by kernel_rfl) (fun _ _ _ h => h) (Or.inl ⟨by rfl, ?_⟩) (by assumption) ?_
  rotate_left
  · intro w hSw; (try dsimp only at hSw); go_simp; (try (with_reducible rfl))
  try simp only [Act.put, List.setIfInBounds_toArray, List.set_cons_zero, List.set_cons_succ]
  refine wpAnyH_take (i := 52) (oi := ⟨_, _, _, _, _, _⟩) (v := ?_) rfl (by kernel_rfl) (by kernel_rfl) (by kernel_rfl) (fun _ _ _ h => h) (Or.inl ⟨by rfl, ?_⟩) (by assumption) ?_
  rotate_left
  · intro w hSw; (try dsimp only at hSw); go_simp; (try (with_reducible rfl))
  try simp only [Act.put, List.setIfInBounds_toArray, List.set_cons_zero, List.set_cons_succ]
  refine wpAnyH_take (i := 53) (oi := ⟨_, _, _, _, _, _⟩) (v := ?_) rfl (by kernel_rfl) (by kernel_rfl) (by kernel_rfl) (fun _ _ _ h => h) (Or.inl ⟨by rfl, ?_⟩) (by assumption) ?_
  rotate_left
  · intro w hSw; (try dsimp only at hSw); go_simp; (try (with_reducible rfl))
  try simp only [Act.put, List.setIfInBounds_toArray, List.set_cons_zero, List.set_cons_succ]
  refine wpAnyH_take (i := 54) (oi := ⟨_, _, _, _, _, _⟩) (v := ?_) rfl (by kernel_rfl) (by kernel_rfl) (by kernel_rfl) (fun _ _ _ h => h) (Or.inl ⟨by rfl, ?_⟩) (by assumption) ?_
  rotate_left
  · intro w hSw; (try dsimp only at hSw); go_simp; (try (with_reducible rfl))
  try simp only [Act.put, List.setIfInBounds_toArray, List.set_cons_zero, List.set_cons_succ]
  refine wpAnyH_take (i := 55) (oi := ⟨_, _, _, _, _, _⟩) (v := ?_) rfl (by kernel_rfl) (by kernel_rfl) (by kernel_rfl) (fun _ _ _ h => h) (Or.inl ⟨by rfl, ?_⟩) (by assumption) ?_
  rotate_left
  · intro w hSw; (try dsimp only at hSw); go_simp; (try (with_reducible rfl))
  try simp only [Act.put, List.setIfInBounds_toArray, List.set_cons_zero, List.set_cons_succ]
  refine wpAnyH_take (i := 56) (oi := ⟨_, _, _, _, _, _⟩) (v := ?_) rfl (by kernel_rfl) (by kernel_rfl) (by kernel_rfl) (fun _ _ _ h => h) (Or.inl ⟨by rfl, ?_⟩) (by assumption) ?_
  rotate_left
  · intro w hSw; (try dsimp only at hSw); go_simp; (try (with_reducible rfl))
  try simp only [Act.put, List.setIfInBounds_toArray, List.set_cons_zero, List.set_cons_succ]
  refine wpAnyH_take (i := 57) (oi := ⟨_, _, _, _, _, _⟩) (v := ?_) rfl (by kernel_rfl) (by kernel_rfl) (by kernel_rfl) (fun _ _ _ h => h) (Or.inl ⟨by rfl, ?_⟩) (by assumption) ?_
  rotate_left
  · intro w hSw; (try dsimp only at hSw); go_simp; (try (with_reducible rfl))
  try simp only [Act.put, List.setIfInBounds_toArray, List.set_cons_zero, List.set_cons_succ]
  refine wpAnyH_take (i := 58) (oi := ⟨_, _, _, _, _, _⟩) (v := ?_) rfl (by kernel_rfl) (by kernel_rfl) (by kernel_rfl) (fun _ _ _ h => h) (Or.inl ⟨by rfl, ?_⟩) (by assumption) ?_
  rotate_left
  · intro w hSw; (try dsimp only at hSw); go_simp; (try (with_reducible rfl))
  try simp only [Act.put, List.setIfInBounds_toArray, List.set_cons_zero, List.set_cons_succ]
  refine wpAnyH_take (i := 59) (oi := ⟨_, _, _, _, _, _⟩) (v := ?_) rfl (by kernel_rfl) (by kernel_rfl) (by kernel_rfl) (fun _ _ _ h => h) (Or.inl ⟨by rfl, ?_⟩) (by assumption) ?_
  rotate_left
  · intro w hSw; (try dsimp only at hSw); go_simp; (try (with_reducible rfl))
  try simp only [Act.put, List.setIfInBounds_toArray, List.set_cons_zero, List.set_cons_succ]
  refine wpAnyH_take (i := 60) (oi := ⟨_, _, _, _, _, _⟩) (v := ?_) rfl (by kernel_rfl) (by kernel_rfl) (by kernel_rfl) (fun _ _ _ h => h) (Or.inl ⟨by rfl, ?_⟩) (by assumption) ?_
  rotate_left
  · intro w hSw; (try dsimp only at hSw); go_simp; (try (with_reducible rfl))
  try simp only [Act.put, List.setIfInBounds_toArray, List.set_cons_zero, List.set_cons_succ]
  refine wpAnyH_take (i := 61) (oi := ⟨_, _, _, _, _, _⟩) (v := ?_) rfl (by kernel_rfl) (by kernel_rfl) (by kernel_rfl) (fun _ _ _ h => h) (Or.inl ⟨by rfl, ?_⟩) (by assumption) ?_
  rotate_left
  · intro w hSw; (try dsimp only at hSw); go_simp; (try (with_reducible rfl))
  try simp only [Act.put, List.setIfInBounds_toArray, List.set_cons_zero, List.set_cons_succ]
  refine wpAnyH_take (i := 62) (oi := ⟨_, _, _, _, _, _⟩) (v := ?_) rfl (by kernel_rfl) (by kernel_rfl) (by kernel_rfl) (fun _ _ _ h => h) (Or.inl ⟨by rfl, ?_⟩) (by assumption) ?_
  rotate_left
  · intro w hSw; (try dsimp only at hSw); go_simp; (try (with_reducible rfl))
  try simp only [Act.put, List.setIfInBounds_toArray, List.set_cons_zero, List.set_cons_succ]
  refine wpAnyH_ready (rs := [63]) (by kernel_rfl) (by simp) ?_
  refine AllReadyH.cons (o := ⟨_, _, _, _, _, _⟩) rfl (fun K hK => ?_) AllReadyH.nil
  go_simp
  clear hHeld
  have kk := agree_any (E5.below (show Below w5.heap.size w5 w5.drew from (Below.refl _ _).drew)) (EB5.below (show Below w5.heap.size w5 w5.drew from (Below.refl _ _).drew)) tg
  rw [sm_a1] at kk
  refine kk.mono ?_
  rintro e w6 ⟨rfl, hb6⟩
  clear kk
  have c6 : Below w5.heap.size w5 w6 := below2 (show Below w5.heap.size w5 w5.drew from (Below.refl _ _).drew) hb6
  refine hK.out _ _ (HS.out _ c6) (fun hHeld => ?_)
  clear hK K
  try simp only [Act.put, List.setIfInBounds_toArray, List.set_cons_zero, List.set_cons_succ]
  refine wpAnyH_take (i := 64) (oi := ⟨_, _, _, _, _, _⟩) (v := ?_) rfl (by kernel_rfl) (by kernel_rfl) (by kernel_rfl) (fun _ _ _ h => h) (Or.inl ⟨by rfl, ?_⟩) (by assumption) ?_
  rotate_left
  · intro w hSw; (try dsimp only at hSw); go_simp; (try (with_reducible rfl))
  try simp only [Act.put, List.setIfInBounds_toArray, List.set_cons_zero, List.set_cons_succ]
  refine wpAnyH_take (i := 65) (oi := ⟨_, _, _, _, _, _⟩) (v := ?_) rfl (by kernel_rfl) (by kernel_rfl) (by kernel_rfl) (fun _ _ _ h => h) (Or.inl ⟨by rfl, ?_⟩) (by assumption) ?_
  rotate_left
  · intro w hSw; (try dsimp only at hSw); go_simp; (try (with_reducible rfl))
  try simp only [Act.put, List.setIfInBounds_toArray, List.set_cons_zero, List.set_cons_succ]
  refine wpAnyH_take (i := 66) (oi := ⟨_, _, _, _, _, _⟩) (v := ?_) rfl (by kernel_rfl) (by kernel_rfl) (by kernel_rfl) (fun _ _ _ h => h) (Or.inl ⟨by rfl, ?_⟩) (by assumption) ?_
  rotate_left
  · intro w hSw; (try dsimp only at hSw); go_simp; (try (with_reducible rfl))
  try simp only [Act.put, List.setIfInBounds_toArray, List.set_cons_zero, List.set_cons_succ]
  refine wpAnyH_take (i := 67) (oi := ⟨_, _, _, _, _, _⟩) (v := ?_) rfl (by kernel_rfl) (by kernel_rfl) (by kernel_rfl) (fun _ _ _ h => h) (Or.inl ⟨by rfl, ?_⟩) (by assumption) ?_
  rotate_left
  · intro w hSw; (try dsimp only at hSw); go_simp; (try (with_reducible rfl))
  try simp only [Act.put, List.setIfInBounds_toArray, List.set_cons_zero, List.set_cons_succ]
  refine wpAnyH_ready (rs := [68]) (by kernel_rfl) (by simp) ?_
  refine AllReadyH.cons (o := ⟨_, _, _, _, _, _⟩) rfl (fun K hK => ?_) AllReadyH.nil
  go_simp
  clear hHeld
  have kk := agree_any (E5.below c6) (EB5.below c6) tf
  rw [sm_a2] at kk
  refine kk.mono ?_
  rintro e w7 ⟨rfl, hb7⟩
  clear kk
  have c7 : Below w5.heap.size w5 w7 := below2 c6 hb7
  refine hK.out _ _ (HS.out _ c7) (fun hHeld => ?_)
  clear hK K
  try simp only [Act.put, List.setIfInBounds_toArray, List.set_cons_zero, List.set_cons_succ]
  refine wpAnyH_take (i := 69) (oi := ⟨_, _, _, _, _, _⟩) (v := ?_) rfl (by kernel_rfl) (by kernel_rfl) (by kernel_rfl) (fun _ _ _ h => h) (Or.inl ⟨by rfl, ?_⟩) (by assumption) ?_
  rotate_left
  · intro w hSw; (try dsimp only at hSw); go_simp; (try (with_reducible rfl))
  try simp only [Act.put, List.setIfInBounds_toArray, List.set_cons_zero, List.set_cons_succ]
  refine wpAnyH_take (i := 70) (oi := ⟨_, _, _, _, _, _⟩) (v := ?_) rfl (by kernel_rfl) (by kernel_rfl) (by kernel_rfl) (fun _ _ _ h => h) (Or.inl ⟨by rfl, ?_⟩) (by assumption) ?_
  rotate_left
  · intro w hSw; (try dsimp only at hSw); go_simp; (try (with_reducible rfl))
  try simp only [Act.put, List.setIfInBounds_toArray, List.set_cons_zero, List.set_cons_succ]
  refine wpAnyH_take (i := 71) (oi := ⟨_, _, _, _, _, _⟩) (v := ?_) rfl (by kernel_rfl) (by kernel_rfl) (by kernel_rfl) (fun _ _ _ h => h) (Or.inl ⟨by rfl, ?_⟩) (by assumption) ?_
  rotate_left
  · intro w hSw; (try dsimp only at hSw); go_simp; (try (with_reducible rfl))
  try simp only [Act.put, List.setIfInBounds_toArray, List.set_cons_zero, List.set_cons_succ]
  refine wpAnyH_take (i := 72) (oi := ⟨_, _, _, _, _, _⟩) (v := ?_) rfl (by kernel_rfl) (by kernel_rfl) (by kernel_rfl) (fun _ _ _ h => h) (Or.inl ⟨by rfl, ?_⟩) (by assumption) ?_
  rotate_left
  · intro w hSw; (try dsimp only at hSw); go_simp; (try (with_reducible rfl))
  try simp only [Act.put, List.setIfInBounds_toArray, List.set_cons_zero, List.set_cons_succ]
  refine wpAnyH_take (i := 73) (oi := ⟨_, _, _, _, _, _⟩) (v := ?_) rfl (by kernel_rfl) (by kernel_rfl) (by kernel_rfl) (fun _ _ _ h => h) (Or.inl ⟨by rfl, ?_⟩) (by assumption) ?_
  rotate_left
  · intro w hSw; (try dsimp only at hSw); go_simp; (try (with_reducible rfl))
  try simp only [Act.put, List.setIfInBounds_toArray, List.set_cons_zero, List.set_cons_succ]
  refine wpAnyH_ready (rs := [74]) (by kernel_rfl) (by simp) ?_
  refine AllReadyH.cons (o := ⟨_, _, _, _, _, _⟩) rfl (fun K hK => ?_) AllReadyH.nil
  go_simp
  clear hHeld
  have kk := agree_any (E5.below c7) (EB5.below c7) tx
  rw [sm_a3] at kk
  refine kk.mono ?_
  rintro e w8 ⟨rfl, hb8⟩
  clear kk
  have c8 : Below w5.heap.size w5 w8 := below2 c7 hb8
  refine hK.out _ _ (HS.out _ c8) (fun hHeld => ?_)
  clear hK K
  try simp only [Act.put, List.setIfInBounds_toArray, List.set_cons_zero, List.set_cons_succ]
  refine wpAnyH_take (i := 75) (oi := ⟨_, _, _, _, _, _⟩) (v := ?_) rfl (by kernel_rfl) (by kernel_rfl) (by kernel_rfl) (fun _ _ _ h => h) (Or.inl ⟨by rfl, ?_⟩) (by assumption) ?_
  rotate_left
  · intro w hSw; (try dsimp only at hSw); go_simp; (try (with_reducible rfl))
  try simp only [Act.put, List.setIfInBounds_toArray, List.set_cons_zero, List.set_cons_succ]
  refine wpAnyH_take (i := 76) (oi := ⟨_, _, _, _, _, _⟩) (v := ?_) rfl (by kernel_rfl) (by kernel_rfl) (by kernel_rfl) (fun _ _ _ h => h) (Or.inl ⟨by rfl, ?_⟩) (by assumption) ?_
  rotate_left
  · intro w hSw; (try dsimp only at hSw); go_simp; (try (with_reducible rfl))
  try simp only [Act.put, List.setIfInBounds_toArray, List.set_cons_zero]
  refine wpAnyH_done (by kernel_rfl) ?_ _
  have b8 := below2 b5 c8
  clear hHeld HS
  go_wp2
  go_ret
  exact ⟨rfl, b8⟩
end Go.Proofs.YtlmccjdpmhancaaGreatDoor
namespace Go.Proofs.YtlmccjdpmhancaaGreatDoor
open Go.RowKit

theorem gone_same {e : Ent} (h1 : e.has = false) (h2 : e.data = noS) : gone e = e := Ent.same rfl h1.symm h2.symm rfl rfl
theorem kept_same {e : Ent} (h1 : e.has = true) : kept e e.data = e := Ent.same rfl h1.symm rfl rfl rfl
theorem both_same : ∀ {es : List Ent}, SrtE es → (∀ e ∈ es, e.has = true ∨ e.data = noS) → bothL es (filesOf es) = es.map fun e => (e, e)
  | [], _, _ => bothL_nil
  | e :: es, hs, hd => by
    have hs' := List.pairwise_cons.1 hs
    have ih := both_same hs'.2 fun x hx => hd x (List.mem_cons_of_mem _ hx)
    rw [filesOf_cons, List.map_cons]
    cases hh : e.has with
    | true => rw [if_pos rfl, bothL_eq rfl, ih, kept_same hh]
    | false =>
      have hg : gone e = e := gone_same hh ((hd e (by simp)).resolve_left (by simp [hh]))
      rw [if_neg (by simp)]
      cases hf : filesOf es with
      | nil => rw [hf] at ih; rw [bothL_l, ih, hg]
      | cons f t =>
        have hm : f ∈ filesOf es := by rw [hf]; simp
        obtain ⟨x, hx, -, rfl⟩ := mem_files.1 hm
        have hlt := hs'.1 x hx
        rw [hf] at ih
        have h1 : ¬ e.path = ((x.path, x.data) : Fil).1 := fun h => by
          have e1 : epth e = epth x := epth_inj.2 h
          rw [e1] at hlt; exact List.lt_irrefl _ hlt
        have h2 : Op.bytesLess (pth (x.path, x.data)) (epth e) = false := less_no fun h => List.lt_asymm hlt h
        rw [bothL_gt h1 h2, ih, hg]
theorem fine_data {es : List Ent} (h : RightA es) : ∀ e ∈ es, e.has = true ∨ e.data = noS := fun e he => ((fineE_iff e).1 (h.fine e he)).2.2
theorem scan_self {es : List Ent} (h : RightA es) (a : Int) : scanN es (filesOf es) a = 0 ∧ scanA es (filesOf es) a = es ∧ scanC es (filesOf es) a = [] := by
  have hb := both_same h.srt (fine_data h)
  have hn : scanN es (filesOf es) a = 0 := by
    refine scanN_ok.2 ⟨h, (treeR_iff _).1 h.tree, ?_⟩
    rw [hb, okP, List.length_map, decide_eq_true h.few, Bool.true_and, List.all_eq_true]
    intro p hp
    obtain ⟨e, -, rfl⟩ := List.mem_map.1 hp
    simp [stuck]
  refine ⟨hn, ?_, ?_⟩
  · rw [scanA, if_pos hn, hb, outP, List.map_map]
    conv => rhs; rw [← List.map_id es]
    refine List.map_congr_left fun e _ => ?_
    simp [newE]
  · rw [scanC, if_pos hn, hb, chgP, List.map_eq_nil_iff, List.filter_eq_nil_iff]
    intro p hp
    obtain ⟨e, -, rfl⟩ := List.mem_map.1 hp
    simp

/-! ### What was scanned is right -/
theorem newE_files (a : Int) (ps : List (Ent × Ent)) : filesOf (outP a ps) = filesOf (ps.map (·.2)) := by
  induction ps with
  | nil => rfl
  | cons p ps ih =>
    rw [outP, List.map_cons, List.map_cons, filesOf_cons, filesOf_cons, newE_has, newE_path, newE_data]
    rw [outP] at ih
    rw [ih]
theorem tick_rt (l r a : Int) : 0 ≤ (tickL l r a).1 ∧ (tickL l r a).1 ≤ 1073741824 ∧ 0 ≤ (tickL l r a).2 ∧ (tickL l r a).2 ≤ 1073741824 := by
  have := tkc_le l r a
  rw [tickL_eq]
  simp only
  omega
theorem tick_pos (l r a : Int) : ¬ ((tickL l r a).1 = 0 ∧ (tickL l r a).2 = 0) := by
  unfold tickL up
  split <;> simp only <;> omega
/-- What a pair is, of a right archive and a right tree. -/
theorem pair_right {es : List Ent} {fs : List Fil} (h : RightA es) (k : RightT fs) {p : Ent × Ent} (hp : p ∈ bothL es fs) : rightL (epth p.2) = true := by
  have hP := both_pair es fs p hp
  have hpath := (both_path (x := p.2.path)).1 (List.mem_map.2 ⟨p, hp, rfl⟩)
  rcases hpath with h1 | h1
  · obtain ⟨e, he, h2⟩ := List.mem_map.1 h1
    have := h.paths e he
    unfold epth at this ⊢
    rw [← h2]; exact this
  · obtain ⟨f, hf, h2⟩ := List.mem_map.1 h1
    have := k.paths f hf
    unfold pth at this
    unfold epth
    rw [← h2]; exact this
theorem pair_new {es : List Ent} {fs : List Fil} {p : Ent × Ent} (hp : p ∈ bothL es fs) (he : p.2 = p.1) : p.1 ∈ es := by
  have hP := both_pair es fs p hp
  rcases hP.was with h | ⟨h, h2⟩
  · exact h
  · rw [he, h] at h2; cases h2
theorem scan_right {es : List Ent} {fs : List Fil} {a : Int} (hn : scanN es fs a = 0) : RightA (scanA es fs a) := by
  obtain ⟨h, k, ho⟩ := scanN_ok.1 hn
  rw [scanA, if_pos hn]
  have hsrt := both_srt es fs h.srt k.srt
  refine ⟨?_, ?_, ?_, ?_, ?_⟩
  · rw [outP, List.length_map]; exact okP_len ho
  · refine List.pairwise_map.2 (hsrt.imp fun {p q} hpq => ?_)
    unfold epth
    rw [newE_path, newE_path]; exact hpq
  · intro e he
    obtain ⟨p, hp, rfl⟩ := List.mem_map.1 he
    have := pair_right h k hp
    unfold epth at this ⊢
    rw [newE_path]; exact this
  · intro e he
    obtain ⟨p, hp, rfl⟩ := List.mem_map.1 he
    have hP := both_pair es fs p hp
    by_cases heq : p.2 = p.1
    · rw [newE_eq heq, heq]
      exact h.fine _ (pair_new hp heq)
    · rw [fineE_iff]
      have h1 := tick_rt p.1.l p.1.r a
      have h2 := tick_pos p.1.l p.1.r a
      unfold newE
      rw [if_neg heq]
      refine ⟨h1, h2, ?_⟩
      cases hh : p.2.has with
      | true => exact .inl rfl
      | false => exact .inr (hP.none hh)
  · rw [newE_files, both_files]
    exact (treeR_iff _).2 k
theorem scan_files {es : List Ent} {fs : List Fil} {a : Int} (hn : scanN es fs a = 0) : filesOf (scanA es fs a) = fs := by rw [scanA, if_pos hn, newE_files, both_files]
theorem scan_tree {es : List Ent} {fs : List Fil} {a : Int} (hn : scanN es fs a = 0) : treeE (scanA es fs a) = fs := by rw [treeE, (archR_iff _).2 (scan_right hn), if_pos rfl, scan_files hn]
/-- Scanned again nothing changed. -/
theorem scan_again {es : List Ent} {fs : List Fil} {a : Int} (hn : scanN es fs a = 0) (b : Int) : scanN (scanA es fs a) fs b = 0 ∧ scanA (scanA es fs a) fs b = scanA es fs a ∧ scanC (scanA es fs a) fs b = [] := by
  have := scan_self (scan_right hn) b
  rw [scan_files hn] at this
  exact this
theorem scan_none {es : List Ent} {fs : List Fil} {a : Int} (hn : scanN es fs a ≠ 0) : scanA es fs a = [] ∧ scanC es fs a = [] := ⟨by rw [scanA, if_neg hn], by rw [scanC, if_neg hn]⟩
end Go.Proofs.YtlmccjdpmhancaaGreatDoor
namespace Go.Proofs.YtlmccjdpmhancaaGreatDoor
open Go.RowKit

theorem ord_self (a : Ent) : ordE a a = 0 := by unfold ordE ordI; rw [if_pos ⟨rfl, rfl⟩]
theorem like_self (a : Ent) : likeE a a = true := by unfold likeE; simp
theorem come_self (a : Ent) : comeE a a = (a, false) := by
  unfold comeE
  rw [ord_self, like_self, if_neg (by decide), if_neg (by decide), if_pos rfl, if_neg (by decide)]
theorem mrg_self : ∀ (a : List Ent), mrgL a a = a.map fun e => (e, false)
  | [] => by rw [mrgL]; rfl
  | x :: a => by rw [mrgL, if_pos rfl, come_self, mrg_self a]; rfl
theorem mrg_l : ∀ (a : List Ent), mrgL a [] = a.map fun e => (e, false)
  | [] => by rw [mrgL]; rfl
  | x :: a => by rw [mrgL, mrg_l a]; rfl
theorem mrg_r : ∀ (a : List Ent), mrgL [] a = a.map fun e => (e, false)
  | [] => by rw [mrgL]; rfl
  | x :: a => by rw [mrgL, mrg_r a]; rfl
theorem own_A {l m a : List Ent} (h : mrgL l m = a.map fun e => (e, false)) : mA l m = a ∧ mC l m = [] := by
  unfold mA mC
  rw [h]
  constructor
  · rw [List.map_map]; exact List.map_id a
  · have : ((a.map fun e => ((e, false) : Ent × Bool)).filter (·.2)) = [] := List.filter_eq_nil_iff.2 (by simp)
    rw [this]; rfl
theorem apt_tree {fs : List Fil} (h : RightT fs) : Apt (fs.map (·.1)) := by
  have key : ∀ (l : List Fil), (∀ f ∈ l, f ∈ fs) → Apt (l.map (·.1)) := by
    intro l
    induction l with
    | nil => intro _; exact List.Pairwise.nil
    | cons a l ih =>
      intro hl
      refine List.pairwise_cons.2 ⟨fun x hx => ?_, ih fun f hf => hl f (List.mem_cons_of_mem _ hf)⟩
      obtain ⟨g, hg, rfl⟩ := List.mem_map.1 hx
      have h1 := h.apart g (hl g (List.mem_cons_of_mem _ hg)) a (hl a List.mem_cons_self)
      have h2 := h.apart a (hl a List.mem_cons_self) g (hl g (List.mem_cons_of_mem _ hg))
      show clashL (pth g) (pth a) = false
      unfold clashL
      rw [h1, h2]; rfl
  exact key fs fun _ h => h
theorem fit_right {es : List Ent} (h : RightA es) : fitN es = 0 := by
  have ht := (treeR_iff _).1 h.tree
  unfold fitN
  rw [if_neg (by have h1 := h.few; have h2 := ht.few; omega), if_pos (show Apt (fpaths es) from apt_tree ht)]
theorem right_none : RightA ([] : List Ent) := (archR_iff _).1 (by decide +kernel)
theorem own_any {l m a : List Ent} (hl : RightA l) (hm : RightA m) (ha : RightA a) (h : mrgL l m = a.map fun e => (e, false)) : mrgN l m = 0 ∧ mrgA l m = a ∧ mrgC l m = [] := by
  have h1 := own_A h
  have h0 : mrgN l m = 0 := by rw [mrgN_fit ((archR_iff _).2 hl) ((archR_iff _).2 hm), h1.1]; exact fit_right ha
  exact ⟨h0, by rw [mrgA, if_pos h0, h1.1], by rw [mrgC, if_pos h0, h1.2]⟩

end Go.Proofs.YtlmccjdpmhancaaGreatDoor
namespace Go.Proofs.YtlmccjdpmhancaaGreatDoor
open Go.RowKit

/-! ### One path: counts, and values -/
def leE (a b : Ent) : Prop := cl a.l ≤ cl b.l ∧ cl a.r ≤ cl b.r
instance (a b : Ent) : Decidable (leE a b) := by unfold leE; exact inferInstance
def vlE (e : Ent) : Bool × ByteArray := (e.has, e.data)
def FnE (e : Ent) : Prop := ((cl e.l : Nat) : Int) = e.l ∧ ((cl e.r : Nat) : Int) = e.r
theorem fn_of {e : Ent} (h : fineE e = true) : FnE e := by
  have := ((fineE_iff e).1 h).1
  unfold FnE cl
  omega
theorem like_iff {a b : Ent} : likeE a b = true ↔ vlE a = vlE b := by
  unfold likeE vlE
  rw [Bool.and_eq_true, decide_eq_true_eq, decide_eq_true_eq, Prod.mk.injEq]
theorem ord0 {a b : Ent} : ordE a b = 0 ↔ leE a b ∧ leE b a := by
  unfold ordE ordI leE
  split
  · constructor
    · intro _; omega
    · intro _; rfl
  · split
    · constructor
      · intro h; cases h
      · intro _; omega
    · split
      · constructor
        · intro h; cases h
        · intro _; omega
      · constructor
        · intro h; cases h
        · intro _; omega
theorem ord1 {a b : Ent} : ordE a b = 1 ↔ leE a b ∧ ¬ leE b a := by
  unfold ordE ordI leE
  split
  · constructor
    · intro h; cases h
    · intro _; omega
  · split
    · constructor
      · intro _; omega
      · intro _; rfl
    · split
      · constructor
        · intro h; cases h
        · intro _; omega
      · constructor
        · intro h; cases h
        · intro _; omega
theorem ord2 {a b : Ent} : ordE a b = 2 ↔ ¬ leE a b ∧ leE b a := by
  unfold ordE ordI leE
  split
  · constructor
    · intro h; cases h
    · intro _; omega
  · split
    · constructor
      · intro h; cases h
      · intro _; omega
    · split
      · constructor
        · intro _; omega
        · intro _; rfl
      · constructor
        · intro h; cases h
        · intro _; omega
theorem come_1 {a b : Ent} (h : leE a b) (k : ¬ leE b a) : comeE a b = (b, false) := by unfold comeE; rw [if_pos (ord1.2 ⟨h, k⟩)]
theorem come_2 {a b : Ent} (h : ¬ leE a b) (k : leE b a) : comeE a b = (a, false) := by
  unfold comeE; rw [if_neg (fun e => h (ord1.1 e).1), if_pos (ord2.2 ⟨h, k⟩)]
theorem come_0 {a b : Ent} (h : leE a b) (k : leE b a) : comeE a b = (a, !likeE a b) := by
  have h0 := ord0.2 ⟨h, k⟩
  unfold comeE; rw [h0, if_neg (by decide), if_neg (by decide)]
  cases likeE a b <;> rfl
theorem come_3 {a b : Ent} (h : ¬ leE a b) (k : ¬ leE b a) : comeE a b = (if likeE a b then joinE a b else a, !likeE a b) := by
  have h1 : ordE a b ≠ 1 := fun e => h (ord1.1 e).1
  have h2 : ordE a b ≠ 2 := fun e => k (ord2.1 e).2
  have h3 : ordE a b = 3 := by
    have h0 : ordE a b ≠ 0 := fun e => h (ord0.1 e).1
    rcases ord_cases (cl a.l) (cl a.r) (cl b.l) (cl b.r) with e | e | e | e
    · exact absurd e h0
    · exact absurd e h1
    · exact absurd e h2
    · exact e
  unfold comeE; rw [if_neg h1, if_neg h2, h3]
  cases likeE a b <;> rfl
/-- Is it no conflict? -/
def ncE (a b : Ent) : Prop := (comeE a b).2 = false
theorem nc_iff {a b : Ent} : ncE a b ↔ vlE a = vlE b ∨ (leE a b ∧ ¬ leE b a) ∨ (leE b a ∧ ¬ leE a b) := by
  unfold ncE
  rw [← like_iff]
  by_cases h : leE a b <;> by_cases k : leE b a
  · rw [come_0 h k]; simp [h, k]
  · rw [come_1 h k]; simp [h, k]
  · rw [come_2 h k]; simp [h, k]
  · rw [come_3 h k]; simp [h, k]
theorem nc_flip {a b : Ent} : ncE a b ↔ ncE b a := by
  rw [nc_iff, nc_iff]
  constructor
  · rintro (h | h | h)
    · exact .inl h.symm
    · exact .inr (.inr h)
    · exact .inr (.inl h)
  · rintro (h | h | h)
    · exact .inl h.symm
    · exact .inr (.inr h)
    · exact .inr (.inl h)
theorem cl_cast {n : Nat} (h : n ≤ 1073741824) : cl (n : Int) = n := by unfold cl; omega
theorem come_val {a b : Ent} (ha : FnE a) (hb : FnE b) (hn : ncE a b) :
    vlE (comeE a b).1 = (if leE a b then vlE b else vlE a) ∧ (comeE a b).1.l = ((max (cl a.l) (cl b.l) : Nat) : Int) ∧ (comeE a b).1.r = ((max (cl a.r) (cl b.r) : Nat) : Int) := by
  obtain ⟨a1, a2⟩ := ha
  obtain ⟨b1, b2⟩ := hb
  by_cases h : leE a b <;> by_cases k : leE b a
  · rw [if_pos h, come_0 h k]
    have hl : vlE a = vlE b := by
      rcases nc_iff.1 hn with e | e | e
      · exact e
      · exact absurd k e.2
      · exact absurd h e.2
    unfold leE at h k
    exact ⟨hl, by simp only []; omega, by simp only []; omega⟩
  · rw [if_pos h, come_1 h k]
    unfold leE at h k
    exact ⟨rfl, by simp only []; omega, by simp only []; omega⟩
  · rw [if_neg h, come_2 h k]
    unfold leE at h k
    exact ⟨rfl, by simp only []; omega, by simp only []; omega⟩
  · have hl : vlE a = vlE b := by
      rcases nc_iff.1 hn with e | e | e
      · exact e
      · exact absurd e.1 h
      · exact absurd e.1 k
    rw [if_neg h, come_3 h k, if_pos (like_iff.2 hl)]
    exact ⟨rfl, rfl, rfl⟩
theorem come_cl {a b : Ent} (ha : FnE a) (hb : FnE b) (hn : ncE a b) : cl (comeE a b).1.l = max (cl a.l) (cl b.l) ∧ cl (comeE a b).1.r = max (cl a.r) (cl b.r) := by
  obtain ⟨-, h1, h2⟩ := come_val ha hb hn
  rw [h1, h2]
  exact ⟨cl_cast (by have := cl_le a.l; have := cl_le b.l; omega), cl_cast (by have := cl_le a.r; have := cl_le b.r; omega)⟩
theorem come_fn {a b : Ent} (ha : FnE a) (hb : FnE b) (hn : ncE a b) : FnE (comeE a b).1 := by
  have h := come_cl ha hb hn
  have k := come_val ha hb hn
  exact ⟨by rw [h.1, k.2.1], by rw [h.2, k.2.2]⟩
set_option maxHeartbeats 2000000 in
theorem come_assoc {a b c : Ent} (ha : FnE a) (hb : FnE b) (hc : FnE c) (hp : a.path = b.path) (hq : b.path = c.path) (n1 : ncE a b) (n2 : ncE b c) (n3 : ncE a c) (n4 : ncE (comeE a b).1 c) (n5 : ncE a (comeE b c).1) :
    (comeE (comeE a b).1 c).1 = (comeE a (comeE b c).1).1 := by
  have v1 := come_val ha hb n1
  have v2 := come_val hb hc n2
  have c1 := come_cl ha hb n1
  have c2 := come_cl hb hc n2
  have v3 := come_val (come_fn ha hb n1) hc n4
  have v4 := come_val ha (come_fn hb hc n2) n5
  have p1 : (comeE a b).1.path = c.path := by rw [comeE_path hp, hp, hq]
  have p2 : a.path = (comeE b c).1.path := by rw [comeE_path hq, hp]
  have hv : vlE (comeE (comeE a b).1 c).1 = vlE (comeE a (comeE b c).1).1 := by
    have L1 : leE (comeE a b).1 c ↔ (max (cl a.l) (cl b.l) ≤ cl c.l ∧ max (cl a.r) (cl b.r) ≤ cl c.r) := by unfold leE; rw [c1.1, c1.2]
    have L2 : leE a (comeE b c).1 ↔ (cl a.l ≤ max (cl b.l) (cl c.l) ∧ cl a.r ≤ max (cl b.r) (cl c.r)) := by unfold leE; rw [c2.1, c2.2]
    have L3 : leE (comeE b c).1 a ↔ (max (cl b.l) (cl c.l) ≤ cl a.l ∧ max (cl b.r) (cl c.r) ≤ cl a.r) := by unfold leE; rw [c2.1, c2.2]
    have L4 : ∀ x y : Ent, leE x y ↔ (cl x.l ≤ cl y.l ∧ cl x.r ≤ cl y.r) := fun _ _ => Iff.rfl
    have m1 := nc_iff.1 n1
    have m2 := nc_iff.1 n2
    have m3 := nc_iff.1 n3
    have m5 := nc_iff.1 n5
    rw [v2.1, L2, L3] at m5
    rw [L4 a b, L4 b a] at m1
    rw [L4 b c, L4 c b] at m2
    rw [L4 a c, L4 c a] at m3
    rw [v3.1, v4.1, v1.1, v2.1]
    clear v1 v2 v3 v4 c1 c2 p1 p2 n1 n2 n3 n4 n5 ha hb hc hp hq
    by_cases hT : leE (comeE a b).1 c
    · have hT' := L1.1 hT
      rw [if_pos hT, if_pos (L2.2 (by clear m1 m2 m3 m5; omega)), if_pos ((L4 b c).2 (by clear m1 m2 m3 m5; omega))]
    · have hT' : ¬ (max (cl a.l) (cl b.l) ≤ cl c.l ∧ max (cl a.r) (cl b.r) ≤ cl c.r) := fun e => hT (L1.2 e)
      by_cases hP : leE a b
      · have hP' := (L4 a b).1 hP
        rw [if_neg hT, if_pos hP, if_pos (L2.2 (by clear m1 m2 m3 m5; omega)), if_neg (fun e => by have := (L4 b c).1 e; clear m1 m2 m3 m5; omega)]
      · have hP' : ¬ (cl a.l ≤ cl b.l ∧ cl a.r ≤ cl b.r) := fun e => hP ((L4 a b).2 e)
        by_cases hS : leE a (comeE b c).1
        · have hS' := L2.1 hS
          have hQ' : ¬ (cl b.l ≤ cl c.l ∧ cl b.r ≤ cl c.r) := by clear m1 m2 m3 m5; omega
          have hQ : ¬ leE b c := fun e => hQ' ((L4 b c).1 e)
          rw [if_neg hT, if_neg hP, if_pos hS, if_neg hQ]
          rw [if_neg hQ] at m5
          rcases m1 with e | e | e
          · exact e
          · exact absurd e.1 hP'
          · rcases m5 with f | f | f
            · exact f
            · rcases m3 with g | g | g
              · rcases m2 with k | k | k
                · rw [g, k]
                · exact absurd k.1 hQ'
                · exfalso; omega
              · exfalso; omega
              · exfalso; omega
            · exact absurd hS' f.2
        · rw [if_neg hT, if_neg hP, if_neg hS]
  have h1 : (comeE (comeE a b).1 c).1.has = (comeE a (comeE b c).1).1.has := congrArg Prod.fst hv
  have h2 : (comeE (comeE a b).1 c).1.data = (comeE a (comeE b c).1).1.data := congrArg Prod.snd hv
  refine Ent.same ?_ h1 h2 ?_ ?_
  · rw [comeE_path p1, comeE_path p2, comeE_path hp]
  · rw [v3.2.1, v4.2.1, c1.1, c2.1]; omega
  · rw [v3.2.2, v4.2.2, c1.2, c2.2]; omega

/-! ### Archives -/
theorem cm_path {l m : List Ent} {p : ByteArray} {x : Ent × Bool} (h : cm (atE l p) (atE m p) = some x) : x.1.path = p := by
  cases h1 : atE l p with
  | some a =>
    have pa := (atE_mem h1).2
    cases h2 : atE m p with
    | some b =>
      have pb := (atE_mem h2).2
      rw [h1, h2] at h
      injection h with h
      rw [← h, comeE_path (by rw [pa, pb]), pa]
    | none => rw [h1, h2] at h; injection h with h; rw [← h]; exact pa
  | none =>
    cases h2 : atE m p with
    | some b => rw [h1, h2] at h; injection h with h; rw [← h]; exact (atE_mem h2).2
    | none => rw [h1, h2] at h; cases h
theorem right_fn {l : List Ent} (h : RightA l) {p : ByteArray} {e : Ent} (he : atE l p = some e) : FnE e := fn_of (h.fine e (atE_mem he).1)
theorem mC_nil {l m : List Ent} (hl : SrtE l) (hm : SrtE m) (h : mC l m = []) {p : ByteArray} {a b : Ent} (ha : atE l p = some a) (hb : atE m p = some b) : ncE a b := by
  unfold ncE
  cases hc : (comeE a b).2 with
  | false => rfl
  | true =>
    have : p ∈ mC l m := (mC_mem hl hm p).2 ⟨(comeE a b).1, by rw [ha, hb]; show some (comeE a b) = _; rw [← hc]⟩
    rw [h] at this
    cases this
theorem mrg_mA {l m : List Ent} (h : mrgN l m = 0) : mrgA l m = mA l m ∧ mrgC l m = mC l m := by
  unfold mrgA mrgC; rw [if_pos h, if_pos h]; exact ⟨rfl, rfl⟩
theorem three_same {a b c : List Ent} (h1 : mrgN a b = 0) (h2 : mrgN b c = 0) (h3 : mrgN a c = 0) (c1 : mrgC a b = []) (c2 : mrgC b c = []) (c3 : mrgC a c = [])
    (h4 : mrgN (mrgA a b) c = 0) (h5 : mrgN a (mrgA b c) = 0) (c4 : mrgC (mrgA a b) c = []) (c5 : mrgC a (mrgA b c) = []) : mrgA (mrgA a b) c = mrgA a (mrgA b c) := by
  have ra := (mrg_right h1).1
  have rb := (mrg_right h1).2
  have rc := (mrg_right h2).2
  have rx := (mrg_right h4).1
  have ry := (mrg_right h5).2
  rw [(mrg_mA h1).2] at c1
  rw [(mrg_mA h2).2] at c2
  rw [(mrg_mA h3).2] at c3
  rw [(mrg_mA h4).2] at c4
  rw [(mrg_mA h5).2] at c5
  rw [(mrg_mA h4).1, (mrg_mA h5).1]
  have sx : SrtE (mrgA a b) := rx.srt
  have sy : SrtE (mrgA b c) := ry.srt
  refine srtE_one (mA_srt sx rc.srt) (mA_srt ra.srt sy) fun p => ?_
  rw [mA_at sx rc.srt, mA_at ra.srt sy]
  have ex : atE (mrgA a b) p = (cm (atE a p) (atE b p)).map (·.1) := by rw [(mrg_mA h1).1, mA_at ra.srt rb.srt]
  have ey : atE (mrgA b c) p = (cm (atE b p) (atE c p)).map (·.1) := by rw [(mrg_mA h2).1, mA_at rb.srt rc.srt]
  cases e1 : atE a p with
  | none =>
    rw [e1] at ex
    cases e2 : atE b p with
    | none =>
      rw [e2] at ex ey
      cases e3 : atE c p with
      | none => rw [e3] at ey; rw [ex, ey]; rfl
      | some z => rw [e3] at ey; rw [ex, ey]; rfl
    | some y =>
      rw [e2] at ex ey
      cases e3 : atE c p with
      | none => rw [e3] at ey; rw [ex, ey]; rfl
      | some z => rw [e3] at ey; rw [ex, ey]; rfl
  | some x =>
    rw [e1] at ex
    cases e2 : atE b p with
    | none =>
      rw [e2] at ex ey
      cases e3 : atE c p with
      | none => rw [e3] at ey; rw [ex, ey]; rfl
      | some z => rw [e3] at ey; rw [ex, ey]; rfl
    | some y =>
      rw [e2] at ex ey
      cases e3 : atE c p with
      | none => rw [e3] at ey; rw [ex, ey]; rfl
      | some z =>
        rw [e3] at ey
        have fx := right_fn ra e1
        have fy := right_fn rb e2
        have fz := right_fn rc e3
        have px := (atE_mem e1).2
        have py := (atE_mem e2).2
        have pz := (atE_mem e3).2
        have k := come_assoc fx fy fz (by rw [px, py]) (by rw [py, pz]) (mC_nil ra.srt rb.srt c1 e1 e2) (mC_nil rb.srt rc.srt c2 e2 e3) (mC_nil ra.srt rc.srt c3 e1 e3) (mC_nil sx rc.srt c4 ex e3) (mC_nil ra.srt sy c5 e1 ey)
        rw [ex, ey]
        exact congrArg some k
end Go.Proofs.YtlmccjdpmhancaaGreatDoor
namespace Go.Proofs.YtlmccjdpmhancaaGreatDoor
open Go.RowKit

theorem le_join {x y : Ent} : leE x (joinE x y) ∧ leE y (joinE x y) := by
  have h1 := cl_le x.l
  have h2 := cl_le x.r
  have h3 := cl_le y.l
  have h4 := cl_le y.r
  have e1 : cl (joinE x y).l = max (cl x.l) (cl y.l) := cl_cast (by omega)
  have e2 : cl (joinE x y).r = max (cl x.r) (cl y.r) := cl_cast (by omega)
  unfold leE
  rw [e1, e2]
  omega
theorem join_le {x y z : Ent} (h : leE (joinE x y) z) : leE x z ∧ leE y z := by
  have h1 := (le_join (x := x) (y := y)).1
  have h2 := (le_join (x := x) (y := y)).2
  unfold leE at *
  omega
theorem come_again (x y : Ent) : comeE (comeE x y).1 y = comeE x y := by
  by_cases h : leE x y <;> by_cases k : leE y x
  · rw [come_0 h k]; exact come_0 h k
  · rw [come_1 h k]; exact come_self y
  · rw [come_2 h k]; exact come_2 h k
  · rw [come_3 h k]
    cases hl : likeE x y with
    | false => rw [if_neg (by decide)]; show comeE x y = _; rw [come_3 h k, hl, if_neg (by decide)]
    | true => rw [if_pos rfl]; exact come_2 (fun e => h (join_le e).1) le_join.2
theorem come_mine (x y : Ent) : comeE (comeE x y).1 x = ((comeE x y).1, false) := by
  by_cases h : leE x y <;> by_cases k : leE y x
  · rw [come_0 h k]; exact come_self x
  · rw [come_1 h k]; exact come_2 k h
  · rw [come_2 h k]; exact come_self x
  · rw [come_3 h k]
    cases hl : likeE x y with
    | false => rw [if_neg (by decide)]; exact come_self x
    | true => rw [if_pos rfl]; exact come_2 (fun e => k (join_le e).2) le_join.1
theorem come_turn {x y : Ent} (hx : FnE x) (hy : FnE y) (hp : x.path = y.path) (hn : ncE x y) : (comeE x y).1 = (comeE y x).1 := by
  have v1 := come_val hx hy hn
  have v2 := come_val hy hx (nc_flip.1 hn)
  have hv : vlE (comeE x y).1 = vlE (comeE y x).1 := by
    rw [v1.1, v2.1]
    by_cases h : leE x y <;> by_cases k : leE y x
    · rw [if_pos h, if_pos k]
      rcases nc_iff.1 hn with e | e | e
      · exact e.symm
      · exact absurd k e.2
      · exact absurd h e.2
    · rw [if_pos h, if_neg k]
    · rw [if_neg h, if_pos k]
    · rw [if_neg h, if_neg k]
      rcases nc_iff.1 hn with e | e | e
      · exact e
      · exact absurd e.1 h
      · exact absurd e.1 k
  refine Ent.same (by rw [comeE_path hp, comeE_path hp.symm, hp]) (congrArg Prod.fst hv) (congrArg Prod.snd hv) ?_ ?_
  · rw [v1.2.1, v2.2.1]; omega
  · rw [v1.2.2, v2.2.2]; omega
theorem cm_again (x y : Option Ent) : cm ((cm x y).map (·.1)) y = cm x y := by
  cases x with
  | none => cases y with
    | none => rfl
    | some y => show some (comeE y y) = some (y, false); rw [come_self]
  | some x => cases y with
    | none => rfl
    | some y => exact congrArg some (come_again x y)
theorem cm_mine (x y : Option Ent) : cm ((cm x y).map (·.1)) x = (cm x y).map fun z => (z.1, false) := by
  cases x with
  | none => cases y with
    | none => rfl
    | some y => rfl
  | some x => cases y with
    | none => show some (comeE x x) = some (x, false); rw [come_self]
    | some y => exact congrArg some (come_mine x y)

/-! ### What comes of two right archives is right -/
theorem come_of (a b : Ent) : vlE (comeE a b).1 = vlE a ∨ vlE (comeE a b).1 = vlE b := by
  by_cases h : leE a b <;> by_cases k : leE b a
  · rw [come_0 h k]; exact .inl rfl
  · rw [come_1 h k]; exact .inr rfl
  · rw [come_2 h k]; exact .inl rfl
  · rw [come_3 h k]; split <;> exact .inl rfl
theorem come_fine {a b : Ent} (ha : fineE a = true) (hb : fineE b = true) : fineE (comeE a b).1 = true := by
  by_cases h : leE a b <;> by_cases k : leE b a
  · rw [come_0 h k]; exact ha
  · rw [come_1 h k]; exact hb
  · rw [come_2 h k]; exact ha
  · rw [come_3 h k]
    split
    · have h1 := (fineE_iff a).1 ha
      have e1 := (fn_of ha).1
      have e2 := (fn_of ha).2
      have c1 := cl_le a.l
      have c2 := cl_le a.r
      have c3 := cl_le b.l
      have c4 := cl_le b.r
      refine (fineE_iff _).2 ⟨⟨?_, ?_, ?_, ?_⟩, ?_, h1.2.2⟩
      · show (0 : Int) ≤ ((max (cl a.l) (cl b.l) : Nat) : Int); omega
      · show ((max (cl a.l) (cl b.l) : Nat) : Int) ≤ 1073741824; omega
      · show (0 : Int) ≤ ((max (cl a.r) (cl b.r) : Nat) : Int); omega
      · show ((max (cl a.r) (cl b.r) : Nat) : Int) ≤ 1073741824; omega
      · have := h1.2.1
        show ¬ (((max (cl a.l) (cl b.l) : Nat) : Int) = 0 ∧ ((max (cl a.r) (cl b.r) : Nat) : Int) = 0)
        omega
    · exact ha
/-- Of each that comes: it is fine, its path is right, and its file is one of theirs. -/
theorem cm_each {l m : List Ent} (hl : RightA l) (hm : RightA m) {e : Ent} (he : e ∈ mA l m) : fineE e = true ∧ rightL (epth e) = true ∧ (e.has = true → e.data.size ≤ 600) := by
  have hat := (atE_iff (mA_srt hl.srt hm.srt)).1 he
  rw [mA_at hl.srt hm.srt] at hat
  have dl : ∀ x ∈ l, x.has = true → x.data.size ≤ 600 := fun x hx hh => ((treeR_iff _).1 hl.tree).datas (x.path, x.data) (mem_files.2 ⟨x, hx, hh, rfl⟩)
  have dm : ∀ x ∈ m, x.has = true → x.data.size ≤ 600 := fun x hx hh => ((treeR_iff _).1 hm.tree).datas (x.path, x.data) (mem_files.2 ⟨x, hx, hh, rfl⟩)
  cases h1 : atE l e.path with
  | none =>
    cases h2 : atE m e.path with
    | none => rw [h1, h2] at hat; cases hat
    | some y => rw [h1, h2] at hat; injection hat with hat; have hy := (atE_mem h2).1; have hat' : y = e := hat; subst hat'; exact ⟨hm.fine _ hy, hm.paths _ hy, dm _ hy⟩
  | some x =>
    have hx := (atE_mem h1).1
    cases h2 : atE m e.path with
    | none => rw [h1, h2] at hat; injection hat with hat; have hat' : x = e := hat; subst hat'; exact ⟨hl.fine _ hx, hl.paths _ hx, dl _ hx⟩
    | some y =>
      have hy := (atE_mem h2).1
      rw [h1, h2] at hat
      injection hat with hat
      have hat' : (comeE x y).1 = e := hat
      subst hat'
      have hp : x.path = y.path := by rw [(atE_mem h1).2, (atE_mem h2).2]
      refine ⟨come_fine (hl.fine _ hx) (hm.fine _ hy), ?_, fun hh => ?_⟩
      · have := hl.paths _ hx
        rw [epth, ← comeE_path hp] at this
        exact this
      · rcases come_of x y with e | e
        · have e1 : (comeE x y).1.has = x.has := congrArg Prod.fst e
          have e2 : (comeE x y).1.data = x.data := congrArg Prod.snd e
          rw [e2]; exact dl x hx (by rw [← e1]; exact hh)
        · have e1 : (comeE x y).1.has = y.has := congrArg Prod.fst e
          have e2 : (comeE x y).1.data = y.data := congrArg Prod.snd e
          rw [e2]; exact dm y hy (by rw [← e1]; exact hh)
theorem apt_under {l : List ByteArray} (h : Apt l) : ∀ a ∈ l, ∀ b ∈ l, underL a.data.toList b.data.toList = false := by
  induction l with
  | nil => intro a ha; cases ha
  | cons x l ih =>
    have hc := List.pairwise_cons.1 h
    have key : ∀ y ∈ l, underL y.data.toList x.data.toList = false ∧ underL x.data.toList y.data.toList = false := fun y hy => by
      have := hc.1 y hy
      unfold clB clashL at this
      simpa using this
    intro a ha b hb
    rcases List.mem_cons.1 ha with rfl | ha' <;> rcases List.mem_cons.1 hb with rfl | hb'
    · exact under_self _
    · exact (key b hb').2
    · exact (key a ha').1
    · exact ih hc.2 a ha' b hb'
theorem files_srt {l : List Ent} (h : SrtE l) : Srt (filesOf l) := by
  unfold filesOf Srt
  rw [List.pairwise_map]
  exact (h.filter _).imp fun h => h
theorem arch_of {l : List Ent} (hs : SrtE l) (hf : fitN l = 0) (h : ∀ e ∈ l, fineE e = true ∧ rightL (epth e) = true ∧ (e.has = true → e.data.size ≤ 600)) : RightA l := by
  have h1 : ¬ (32 < l.length ∨ 16 < (filesOf l).length) := fun e => by unfold fitN at hf; rw [if_pos e] at hf; cases hf
  have h2 : Apt (fpaths l) := by
    unfold fitN at hf
    rw [if_neg h1] at hf
    by_cases e : Apt (fpaths l)
    · exact e
    · rw [if_neg e] at hf; cases hf
  refine ⟨by omega, hs, fun e he => (h e he).2.1, fun e he => (h e he).1, (treeR_iff _).2 ⟨by omega, files_srt hs, ?_, ?_, ?_⟩⟩
  · intro f hf'
    obtain ⟨e, he, -, rfl⟩ := mem_files.1 hf'
    exact (h e he).2.1
  · intro f hf'
    obtain ⟨e, he, hh, rfl⟩ := mem_files.1 hf'
    exact (h e he).2.2 hh
  · intro f hf' g hg'
    exact apt_under h2 f.1 (List.mem_map.2 ⟨f, hf', rfl⟩) g.1 (List.mem_map.2 ⟨g, hg', rfl⟩)
theorem merge_right {l m : List Ent} (h : mrgN l m = 0) : RightA (mrgA l m) := by
  obtain ⟨hl, hm⟩ := mrg_right h
  rw [(mrg_mA h).1]
  refine arch_of (mA_srt hl.srt hm.srt) ?_ fun e he => cm_each hl hm he
  rw [mrgN_fit ((archR_iff _).2 hl) ((archR_iff _).2 hm)] at h
  exact h

/-! ### Turned, and again -/
theorem mC_turn {l m : List Ent} (hl : SrtE l) (hm : SrtE m) : mC l m = mC m l := by
  refine srtB_one (mC_srt hl hm) (mC_srt hm hl) fun p => ?_
  rw [mC_mem hl hm, mC_mem hm hl]
  have key : ∀ x y : Option Ent, (∃ e, cm x y = some (e, true)) → ∃ e, cm y x = some (e, true) := by
    intro x y
    rintro ⟨e, he⟩
    cases x with
    | none => cases y <;> cases he
    | some x => cases y with
      | none => cases he
      | some y =>
        have he' : comeE x y = (e, true) := Option.some.inj he
        refine ⟨(comeE y x).1, congrArg some ?_⟩
        have : (comeE y x).2 = true := by
          cases hc : (comeE y x).2 with
          | true => rfl
          | false => have := nc_flip.1 (show ncE y x from hc); unfold ncE at this; rw [he'] at this; cases this
        rw [← this]
  exact ⟨key _ _, key _ _⟩
theorem mA_paths {l m : List Ent} (hl : SrtE l) (hm : SrtE m) : (mA l m).map (·.path) = (mA m l).map (·.path) := by
  have e1 : (mA l m).map (·.path) = (mrgL l m).map (·.1.path) := by rw [mA, List.map_map]; rfl
  have e2 : (mA m l).map (·.path) = (mrgL m l).map (·.1.path) := by rw [mA, List.map_map]; rfl
  rw [e1, e2]
  refine mrg_paths hm hl (List.pairwise_map.2 (mrg_srt l m hl hm)) fun x => ?_
  rw [mrg_mem]; exact Or.comm
theorem mA_turn {l m : List Ent} (hl : RightA l) (hm : RightA m) {p : ByteArray} (h : ¬ p ∈ mC l m) : atE (mA l m) p = atE (mA m l) p := by
  rw [mA_at hl.srt hm.srt, mA_at hm.srt hl.srt]
  cases h1 : atE l p with
  | none => cases h2 : atE m p <;> rfl
  | some x => cases h2 : atE m p with
    | none => rfl
    | some y =>
      have hn : ncE x y := by
        unfold ncE
        cases hc : (comeE x y).2 with
        | false => rfl
        | true => exact absurd ((mC_mem hl.srt hm.srt p).2 ⟨(comeE x y).1, by rw [h1, h2]; show some (comeE x y) = _; rw [← hc]⟩) h
      exact congrArg some (come_turn (right_fn hl h1) (right_fn hm h2) (by rw [(atE_mem h1).2, (atE_mem h2).2]) hn)
theorem merge_again {l m : List Ent} (h : mrgN l m = 0) : mrgN (mrgA l m) m = 0 ∧ mrgA (mrgA l m) m = mrgA l m ∧ mrgC (mrgA l m) m = mrgC l m := by
  obtain ⟨hl, hm⟩ := mrg_right h
  have hR := merge_right h
  have hat : ∀ p, atE (mrgA l m) p = (cm (atE l p) (atE m p)).map (·.1) := fun p => by rw [(mrg_mA h).1, mA_at hl.srt hm.srt]
  have e1 : mA (mrgA l m) m = mrgA l m := srtE_one (mA_srt hR.srt hm.srt) hR.srt fun p => by rw [mA_at hR.srt hm.srt, hat, cm_again]
  have e2 : mC (mrgA l m) m = mC l m := srtB_one (mC_srt hR.srt hm.srt) (mC_srt hl.srt hm.srt) fun p => by rw [mC_mem hR.srt hm.srt, mC_mem hl.srt hm.srt, hat, cm_again]
  have h0 : mrgN (mrgA l m) m = 0 := by rw [mrgN_fit ((archR_iff _).2 hR) ((archR_iff _).2 hm), e1]; exact fit_right hR
  exact ⟨h0, by rw [(mrg_mA h0).1, e1], by rw [(mrg_mA h0).2, (mrg_mA h).2, e2]⟩
theorem merge_mine {l m : List Ent} (h : mrgN l m = 0) : mrgN (mrgA l m) l = 0 ∧ mrgA (mrgA l m) l = mrgA l m ∧ mrgC (mrgA l m) l = [] := by
  obtain ⟨hl, hm⟩ := mrg_right h
  have hR := merge_right h
  have hat : ∀ p, atE (mrgA l m) p = (cm (atE l p) (atE m p)).map (·.1) := fun p => by rw [(mrg_mA h).1, mA_at hl.srt hm.srt]
  have e1 : mA (mrgA l m) l = mrgA l m := srtE_one (mA_srt hR.srt hl.srt) hR.srt fun p => by
    rw [mA_at hR.srt hl.srt, hat, cm_mine, Option.map_map]
    rfl
  have e2 : mC (mrgA l m) l = [] := by
    cases hc : mC (mrgA l m) l with
    | nil => rfl
    | cons p ps =>
      have : p ∈ mC (mrgA l m) l := by rw [hc]; exact List.mem_cons_self
      obtain ⟨e, he⟩ := (mC_mem hR.srt hl.srt p).1 this
      rw [hat, cm_mine] at he
      cases hx : cm (atE l p) (atE m p) with
      | none => rw [hx] at he; cases he
      | some z => rw [hx] at he; injection he with he; injection he with he1 he2; cases he2
  have h0 : mrgN (mrgA l m) l = 0 := by rw [mrgN_fit ((archR_iff _).2 hR) ((archR_iff _).2 hl), e1]; exact fit_right hR
  exact ⟨h0, by rw [(mrg_mA h0).1, e1], by rw [(mrg_mA h0).2, e2]⟩
/-- One is told not to be right just if the other is. -/
theorem merge_arg (l m : List Ent) : (mrgN l m = 1) ↔ (mrgN m l = 1) := by
  have key : ∀ l m : List Ent, mrgN l m = 1 → mrgN m l = 1 := by
    intro l m h
    unfold mrgN at h ⊢
    rw [Bool.and_comm]
    split at h
    · exfalso
      unfold fitN at h
      split at h
      · cases h
      · split at h <;> cases h
    · rename_i hn
      rw [if_neg hn]
  exact ⟨key l m, key m l⟩
end Go.Proofs.YtlmccjdpmhancaaGreatDoor
namespace Go.Proofs.YtlmccjdpmhancaaGreatDoor
open Go.RowKit

theorem plan_mem {t u : List Fil} {x : Ac} : x ∈ planL t u ↔ (∃ f ∈ t, (∀ g ∈ u, g.1 ≠ f.1) ∧ x = (f.1, false, noS)) ∨ (∃ g ∈ u, ¬ g ∈ t ∧ x = (g.1, true, g.2)) := by
  unfold planL dropsL putsL
  rw [List.mem_append, List.mem_map, List.mem_map]
  constructor
  · rintro (⟨f, hf, rfl⟩ | ⟨g, hg, rfl⟩)
    · obtain ⟨h1, h2⟩ := List.mem_filter.1 hf
      refine .inl ⟨f, h1, fun g hg e => ?_, rfl⟩
      have : (u.any fun g => decide (g.1 = f.1)) = true := List.any_eq_true.2 ⟨g, hg, by simp [e]⟩
      rw [this] at h2
      cases h2
    · obtain ⟨h1, h2⟩ := List.mem_filter.1 hg
      refine .inr ⟨g, h1, fun e => ?_, rfl⟩
      have : (t.any fun f => decide (g = f)) = true := List.any_eq_true.2 ⟨g, e, by simp⟩
      rw [this] at h2
      cases h2
  · rintro (⟨f, hf, hn, rfl⟩ | ⟨g, hg, hn, rfl⟩)
    · refine .inl ⟨f, List.mem_filter.2 ⟨hf, ?_⟩, rfl⟩
      have : (u.any fun g => decide (g.1 = f.1)) = false := List.any_eq_false.2 fun g hg => by simp [hn g hg]
      rw [this]; rfl
    · refine .inr ⟨g, List.mem_filter.2 ⟨hg, ?_⟩, rfl⟩
      have : (t.any fun f => decide (g = f)) = false := List.any_eq_false.2 fun f hf => by
        have : g ≠ f := fun e => by subst e; exact hn hf
        simp [this]
      rw [this]; rfl
/-- What stands ahead of what. -/
def AhA (a b : Ac) : Prop := (a.2.1 = false ∧ b.2.1 = true) ∨ (a.2.1 = b.2.1 ∧ a.1.data.toList < b.1.data.toList)
theorem plan_srt {t u : List Fil} (ht : Srt t) (hu : Srt u) : (planL t u).Pairwise AhA := by
  unfold planL dropsL putsL
  rw [List.pairwise_append]
  refine ⟨?_, ?_, ?_⟩
  · rw [List.pairwise_map]; exact (ht.filter _).imp fun h => .inr ⟨rfl, h⟩
  · rw [List.pairwise_map]; exact (hu.filter _).imp fun h => .inr ⟨rfl, h⟩
  · intro a ha b hb
    obtain ⟨f, -, rfl⟩ := List.mem_map.1 ha
    obtain ⟨g, -, rfl⟩ := List.mem_map.1 hb
    exact .inl ⟨rfl, rfl⟩

/-! ### How many there are -/
def inF (l : List Fil) (p : ByteArray) : Bool := l.any fun g => decide (g.1 = p)
def hasF (l : List Fil) (f : Fil) : Bool := l.any fun g => decide (f = g)
theorem inF_iff {l : List Fil} {p : ByteArray} : inF l p = true ↔ ∃ g ∈ l, g.1 = p := by unfold inF; rw [List.any_eq_true]; simp
theorem hasF_iff {l : List Fil} {f : Fil} : hasF l f = true ↔ f ∈ l := by
  unfold hasF
  rw [List.any_eq_true]
  constructor
  · rintro ⟨x, hx, h⟩
    have := of_decide_eq_true h
    subst this
    exact hx
  · exact fun h => ⟨f, h, by simp⟩
theorem srt_one {l : List Fil} (h : Srt l) {f g : Fil} (hf : f ∈ l) (hg : g ∈ l) (e : f.1 = g.1) : f = g := by
  obtain ⟨i, hi, rfl⟩ := List.mem_iff_getElem.1 hf
  obtain ⟨j, hj, rfl⟩ := List.mem_iff_getElem.1 hg
  have key : ∀ a b (ha : a < l.length) (hb : b < l.length), a < b → l[a].1 ≠ l[b].1 := fun a b ha hb hab e => by
    have := List.pairwise_iff_getElem.1 h a b ha hb hab
    rw [show pth l[a] = pth l[b] by unfold pth; rw [e]] at this
    exact absurd this (List.lt_irrefl _)
  rcases Nat.lt_trichotomy i j with h1 | h1 | h1
  · exact absurd e (key i j hi hj h1)
  · subst h1; rfl
  · exact absurd e.symm (key j i hj hi h1)
theorem cnt_split (u : List Fil) : ∀ (t : List Fil), (t.filter fun f => !hasF u f).length = (t.filter fun f => !inF u f.1).length + (t.filter fun f => inF u f.1 && !hasF u f).length
  | [] => rfl
  | f :: t => by
    have ih := cnt_split u t
    have himp : hasF u f = true → inF u f.1 = true := fun h => inF_iff.2 ⟨f, hasF_iff.1 h, rfl⟩
    rw [List.filter_cons, List.filter_cons, List.filter_cons]
    cases h1 : hasF u f <;> cases h2 : inF u f.1 <;> simp [ih]
    · omega
    · omega
    · have := himp h1; rw [h2] at this; cases this
theorem cnt_same {t u : List Fil} (ht : Srt t) (hu : Srt u) : (t.filter fun f => inF u f.1 && !hasF u f).length = (u.filter fun g => inF t g.1 && !hasF t g).length := by
  have key : (t.filter fun f => inF u f.1 && !hasF u f).map (·.1) = (u.filter fun g => inF t g.1 && !hasF t g).map (·.1) := by
    have half : ∀ {t u : List Fil}, Srt t → ∀ x : ByteArray, x ∈ (t.filter fun f => inF u f.1 && !hasF u f).map (·.1) → x ∈ (u.filter fun g => inF t g.1 && !hasF t g).map (·.1) := by
      intro t u ht x hx
      obtain ⟨f, hf, rfl⟩ := List.mem_map.1 hx
      obtain ⟨h1, h2⟩ := List.mem_filter.1 hf
      rw [Bool.and_eq_true, Bool.not_eq_true'] at h2
      obtain ⟨g, hg, e⟩ := inF_iff.1 h2.1
      refine List.mem_map.2 ⟨g, List.mem_filter.2 ⟨hg, ?_⟩, e⟩
      rw [Bool.and_eq_true, Bool.not_eq_true']
      refine ⟨inF_iff.2 ⟨f, h1, e.symm⟩, not_true fun h3 => ?_⟩
      have := srt_one ht h1 (hasF_iff.1 h3) e.symm
      subst this
      rw [hasF_iff.2 hg] at h2
      cases h2.2
    refine srtB_one ?_ ?_ fun x => ⟨half ht x, half hu x⟩
    · exact List.pairwise_map.2 ((ht.filter _).imp fun h => h)
    · exact List.pairwise_map.2 ((hu.filter _).imp fun h => h)
  have := congrArg List.length key
  rwa [List.length_map, List.length_map] at this
theorem plan_count {t u : List Fil} (ht : Srt t) (hu : Srt u) : (t.filter fun f => !hasF u f).length + (u.filter fun g => !inF t g.1).length = (planL t u).length := by
  have e1 := cnt_split u t
  have e2 := cnt_split t u
  have e3 := cnt_same ht hu
  have e4 : (planL t u).length = (t.filter fun f => !inF u f.1).length + (u.filter fun g => !hasF t g).length := by
    unfold planL dropsL putsL
    rw [List.length_append, List.length_map, List.length_map]
    rfl
  omega

/-! ### What tree and archive have there -/
theorem gT_some {fs : List Fil} (h : RightT fs) {f : Fil} (hf : f ∈ fs) : getT fs f.1.data.toList = some f.2 := by
  have ht : thereT fs f.1.data.toList = true := there_iff.2 ⟨f, hf, rfl⟩
  obtain ⟨hl, e⟩ := get_of (p := f.1) ((treeR_iff fs).2 h) ht
  rw [e]
  obtain ⟨hl2, e2⟩ := (there_at h.srt).1 ht
  have : fs[(lowT fs f.1.data.toList).length] = f := h.srt.inj (List.getElem_mem _) hf e2
  rw [this]
theorem gT_none {fs : List Fil} {p : ByteArray} (h : ∀ f ∈ fs, f.1 ≠ p) : getT fs p.data.toList = none := by
  have ht : thereT fs p.data.toList = false := there_no.2 fun f hf e => h f hf (data_inj e)
  exact get_none (by rw [ht, Bool.and_false])
theorem gT_iff {fs : List Fil} (h : RightT fs) (f : Fil) : getT fs f.1.data.toList = some f.2 ↔ f ∈ fs := by
  constructor
  · intro e
    by_cases k : ∃ g ∈ fs, g.1 = f.1
    · obtain ⟨g, hg, hp⟩ := k
      have := gT_some h hg
      rw [hp, e] at this
      have hf : f = g := Prod.ext hp.symm (Option.some.inj this)
      rw [hf]; exact hg
    · rw [gT_none fun g hg hp => k ⟨g, hg, hp⟩] at e; cases e
  · exact gT_some h
theorem gT_in {fs : List Fil} (h : RightT fs) (p : ByteArray) : (getT fs p.data.toList).isSome = inF fs p := by
  cases k : inF fs p with
  | true => obtain ⟨g, hg, rfl⟩ := inF_iff.1 k; rw [gT_some h hg]; rfl
  | false =>
    rw [gT_none fun g hg hp => ?_]
    · rfl
    · rw [inF_iff.2 ⟨g, hg, hp⟩] at k; cases k
theorem find_in {fs : List Fil} (h : RightT fs) (p : ByteArray) : decide (findT fs p.data.toList < 0) = !inF fs p := by
  unfold findT
  rw [(treeR_iff fs).2 h, Bool.true_and]
  have e : thereT fs p.data.toList = inF fs p := by
    cases k : inF fs p with
    | true => obtain ⟨g, hg, rfl⟩ := inF_iff.1 k; exact there_iff.2 ⟨g, hg, rfl⟩
    | false => exact there_no.2 fun f hf e => by rw [inF_iff.2 ⟨f, hf, data_inj e⟩] at k; cases k
  rw [e]
  cases inF fs p
  · rfl
  · rw [if_pos rfl]; simp
/-- What a plan says of a path. -/
theorem plan_at {t u : List Fil} (ht : RightT t) (hu : RightT u) {x : Ac} (hx : x ∈ planL t u) :
    getT t x.1.data.toList ≠ getT u x.1.data.toList ∧ x.2.1 = (getT u x.1.data.toList).isSome ∧ x.2.2 = (getT u x.1.data.toList).getD noS := by
  rcases plan_mem.1 hx with ⟨f, hf, hn, rfl⟩ | ⟨g, hg, hn, rfl⟩
  · dsimp only
    rw [gT_some ht hf, gT_none hn]
    exact ⟨by simp, rfl, rfl⟩
  · dsimp only
    rw [gT_some hu hg]
    exact ⟨fun e => hn ((gT_iff ht g).1 e), rfl, rfl⟩
end Go.Proofs.YtlmccjdpmhancaaGreatDoor
