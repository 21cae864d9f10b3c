/- The texts Jn, Sm, Rs, So, Su, in one. -/
import Derived.Test.YtlmccjdpmhancaaGreatDoorK10
import Derived.Deep.QuietTactic
import Derived.BigQuiet
namespace Go.Proofs.YtlmccjdpmhancaaGreatDoor
open Go.RowKit

set_option maxHeartbeats 1000000 in
theorem has_any (B : Option Addr) (c : Nat) (l : List ByteArray) (p : ByteArray) (w : World) (hr : Rd w B (strV l)) (hn : l.length ≤ 1000000) :
    Calls Tryz.prog 25 #[.slice B l.length c, .string p] w fun e w' => e = .returned (.bool (inB p l)) ∧ w' = w := by
  go_enter Tryz.func25, Tryz.ntmps25
  go_wp2_with fail
  go_loop [5] (fun i => ∃ j : Nat, j ≤ l.length ∧ i = .int .i64 j ∧ Hid (inB p (l.take j) = false)) (fun i => l.length - (intOf i).toNat)
  case atStart => exact ⟨0, by omega, rfl, by simp [Hid, inB]⟩
  case round =>
    obtain ⟨j, hj, rfl, HO⟩ := hrel
    by_cases hjn : j < l.length
    · obtain ⟨g, o, rfl, h1, -⟩ := str_at hr hjn
      have HK : Hid (inB p (l.take (j + 1)) = (inB p (l.take j) || decide (p = l[j]))) := any_take_step (fun s => decide (p = s)) l j hjn
      have HM := hid (List.getElem_mem hjn)
      have hsq := str_eqb l[j] p
      generalize l[j] = s at *
      have hz : (0 : Int) ≤ j := by omega
      have hlt : (j : Int) < l.length := by omega
      by_cases hq : p = s
      · rw [decide_eq_true hq.symm] at hsq
        have HQ : Hid (inB p l = true) := inB_iff.2 (by rw [hq]; exact HM.out)
        clear HK HM HO hq
        go_wp2
        go_ret
        exact ⟨ret_bool HQ.out.symm, rfl⟩
      · rw [decide_eq_false (fun e => hq e.symm)] at hsq
        have HK2 : Hid (inB p (l.take (j + 1)) = false) := by show _ = _; rw [HK.out, HO.out, decide_eq_false hq]; rfl
        clear HK HM HO hq
        go_wp2
        go_round
        case rel => exact ⟨j + 1, by omega, by go_num, HK2⟩
        case measure => simp [intOf]; omega
    · have HE := hid (show j = l.length by omega)
      have hnlt : ¬ (j : Int) < l.length := by omega
      have HQ : Hid (inB p l = false) := by have ho := HO.out; rw [HE.out, List.take_length] at ho; exact ho
      go_wp2
      go_ret
      exact ⟨ret_bool HQ.out.symm, rfl⟩

set_option maxRecDepth 20000 in
set_option maxHeartbeats 4000000 in
theorem small_any (w : World) : Calls Tryz.prog 9 #[] w fun e w' => e = .returned (.bool true) ∧ Below w.heap.size w w' := by
  have hal : ∀ (W : World) (o : Obj), Below W.heap.size W (W.alloc o) := fun W o => (Below.refl _ _).alloc (Nat.le_refl _) o
  have EA : Et ((w.alloc (.cells #[.string ⟨#[102]⟩, .bool true, .string ⟨#[49]⟩, .int .i64 2, .int .i64 0, .string ⟨#[103]⟩, .bool true, .string ⟨#[49]⟩, .int .i64 1, .int .i64 0] 34)).alloc (.cells #[.string ⟨#[102]⟩, .bool true, .string ⟨#[50]⟩, .int .i64 1, .int .i64 1, .string ⟨#[103]⟩, .bool false, .string ⟨#[]⟩, .int .i64 1, .int .i64 1, .string ⟨#[104]⟩, .bool true, .string ⟨#[]⟩, .int .i64 0, .int .i64 1] 34)) (some ⟨w.heap.size, 0, none⟩) 2 2 SA :=
    ⟨rfl, (Blk.below (Blk.new w (entV SA) 34) (hal _ _)).rd, Nat.le_refl _, by omega, by omega, by decide⟩
  have EB : Et ((w.alloc (.cells #[.string ⟨#[102]⟩, .bool true, .string ⟨#[49]⟩, .int .i64 2, .int .i64 0, .string ⟨#[103]⟩, .bool true, .string ⟨#[49]⟩, .int .i64 1, .int .i64 0] 34)).alloc (.cells #[.string ⟨#[102]⟩, .bool true, .string ⟨#[50]⟩, .int .i64 1, .int .i64 1, .string ⟨#[103]⟩, .bool false, .string ⟨#[]⟩, .int .i64 1, .int .i64 1, .string ⟨#[104]⟩, .bool true, .string ⟨#[]⟩, .int .i64 0, .int .i64 1] 34)) (some ⟨w.heap.size + 1, 0, none⟩) 3 3 SB := by
    have hs : (w.alloc (.cells #[.string ⟨#[102]⟩, .bool true, .string ⟨#[49]⟩, .int .i64 2, .int .i64 0, .string ⟨#[103]⟩, .bool true, .string ⟨#[49]⟩, .int .i64 1, .int .i64 0] 34)).heap.size = w.heap.size + 1 := by simp
    refine ⟨rfl, ?_, Nat.le_refl _, by omega, by omega, by decide⟩
    rw [← hs]
    exact (Blk.new (w.alloc (.cells #[.string ⟨#[102]⟩, .bool true, .string ⟨#[49]⟩, .int .i64 2, .int .i64 0, .string ⟨#[103]⟩, .bool true, .string ⟨#[49]⟩, .int .i64 1, .int .i64 0] 34)) (entV SB) 34).rd
  have b0 := below2 (hal w (.cells #[.string ⟨#[102]⟩, .bool true, .string ⟨#[49]⟩, .int .i64 2, .int .i64 0, .string ⟨#[103]⟩, .bool true, .string ⟨#[49]⟩, .int .i64 1, .int .i64 0] 34)) (hal _ (.cells #[.string ⟨#[102]⟩, .bool true, .string ⟨#[50]⟩, .int .i64 1, .int .i64 1, .string ⟨#[103]⟩, .bool false, .string ⟨#[]⟩, .int .i64 1, .int .i64 1, .string ⟨#[104]⟩, .bool true, .string ⟨#[]⟩, .int .i64 0, .int .i64 1] 34))
  go_enter Tryz.func9, Tryz.ntmps9
  go_wp2_with fail
  generalize (w.alloc (.cells #[.string ⟨#[102]⟩, .bool true, .string ⟨#[49]⟩, .int .i64 2, .int .i64 0, .string ⟨#[103]⟩, .bool true, .string ⟨#[49]⟩, .int .i64 1, .int .i64 0] 34)).alloc (.cells #[.string ⟨#[102]⟩, .bool true, .string ⟨#[50]⟩, .int .i64 1, .int .i64 1, .string ⟨#[103]⟩, .bool false, .string ⟨#[]⟩, .int .i64 1, .int .i64 1, .string ⟨#[104]⟩, .bool true, .string ⟨#[]⟩, .int .i64 0, .int .i64 1] 34) = W0 at *
  refine (merge_val EA EB sm_mA sm_mC (show _ = 3 from rfl) (show _ = 1 from rfl) (show _ = 0 by rw [sm_mN]; rfl)).mono ?_
  rintro e w1 ⟨A1, c1, B1, d1, rfl, E1, r1, hb1⟩
  have EA1 := EA.below hb1
  have EB1 := EB.below hb1
  have b1 := below2 b0 hb1
  clear EA EB b0 hb1
  have kt := treeE_any EA1
  rw [sm_t] at kt
  go_wp2_with fail
  refine kt.mono ?_
  rintro e w2 ⟨U, du, rfl, T2, hb2⟩
  have EA2 := EA1.below hb2
  have EB2 := EB1.below hb2
  have E2 := E1.below hb2
  have r2 := r1.below hb2
  have b2 := below2 b1 hb2
  clear EA1 EB1 E1 r1 b1 hb2 kt
  go_wp2_with fail
  refine (plan_val T2 E2 (by simp) (by omega) sm_pA (show _ = 2 from rfl) (show _ = 0 by rw [sm_pN]; rfl)).mono ?_
  rintro e w3 ⟨A3, c3, rfl, p3, hb3⟩
  have EA3 := EA2.below hb3
  have EB3 := EB2.below hb3
  have E3 := E2.below hb3
  have r3 := r2.below hb3
  have b3 := below2 b2 hb3
  clear EA2 EB2 E2 r2 b2 hb3 T2
  go_wp2_with fail
  refine (settle_val E3 EB3 tf true 0 sm_sA (show _ = 3 from rfl) (show _ = 0 by rw [sm_sN]; rfl)).mono ?_
  rintro e w4 ⟨A4, c4, rfl, S4, hb4⟩
  have EA4 := EA3.below hb4
  have EB4 := EB3.below hb4
  have E4 := E3.below hb4
  have r4 := r3.below hb4
  have p4 := p3.below hb4
  have b4 := below2 b3 hb4
  clear EA3 EB3 E3 r3 b3 hb4 p3
  go_wp2_with fail
  refine (settle_val E4 EB4 tg true 0 sm_sA2 (show _ = 0 from rfl) (show _ = 3 by rw [sm_sN2]; rfl)).mono ?_
  rintro e w5 ⟨A5, c5, rfl, -, hb5⟩
  have EA5 := EA4.below hb5
  have EB5 := EB4.below hb5
  have E5 := E4.below hb5
  have r5 := r4.below hb5
  have p5 := p4.below hb5
  have S5 := S4.below hb5
  have b5 := below2 b4 hb5
  clear EA4 EB4 E4 r4 b4 hb5 p4 S4
  obtain ⟨gc, oc, rfl, x0, -⟩ := str_at r5 (j := 0) (by decide)
  obtain ⟨gl, ol, rfl, l0, l1, l2, l3, l4, -⟩ := E5.rd.ent (j := 0) (by decide)
  obtain ⟨g, o, e0, m0, m1, m2, m3, m4, -⟩ := E5.rd.ent (j := 1) (by decide)
  injection e0 with e0; injection e0 with e0 e0'; subst e0 e0'
  obtain ⟨ga, oa, ea, a0, a1, a2, a3, a4, -⟩ := EA5.rd.ent (j := 0) (by decide)
  injection ea with ea; injection ea with ea ea'; subst ea ea'
  obtain ⟨ga, oa, ea, f0, f1, f2, f3, f4, -⟩ := EB5.rd.ent (j := 1) (by decide)
  injection ea with ea; injection ea with ea ea'; subst ea ea'
  obtain ⟨gs, os, rfl, s0, s1, s2, s3, s4, -⟩ := S5.rd.ent (j := 0) (by decide)
  obtain ⟨gp, op, rfl, q0, q1, q2, -⟩ := p5.act (j := 0) (by decide)
  obtain ⟨g, o, e0, q3, q4, q5, -⟩ := p5.act (j := 1) (by decide)
  injection e0 with e0; injection e0 with e0 e0'; subst e0 e0'
  simp only [List.getElem_cons_zero, List.getElem_cons_succ, Nat.zero_mul, Nat.one_mul, Nat.add_zero, Nat.zero_add, Nat.reduceAdd] at x0 l0 l1 l2 l3 l4 m0 m1 m2 m3 m4 a0 a1 a2 a3 a4 f0 f1 f2 f3 f4 s0 s1 s2 s3 s4 q0 q1 q2 q3 q4 q5
  have Q1 := eqE e1f e1f
  have Q2 := eqE e2g e2g
  have Q3 := eqAc (tg, false, noS) (tg, false, noS)
  have Q4 := eqAc (th, true, noS) (th, true, noS)
  have Q5 := eqE e3f e3f
  rw [decide_eq_true rfl] at Q1 Q2 Q3 Q4 Q5
  have HS : Hid (∀ W, Below w5.heap.size w5 W → (fun w' => w'.cell? ⟨gc, oc, none⟩ = some (.string ⟨#[102]⟩) ∧ w'.cell? ⟨gl, ol, none⟩ = some (.string ⟨#[102]⟩) ∧ w'.cell? ⟨gl, ol + 1, none⟩ = some (.bool true) ∧ w'.cell? ⟨gl, ol + 2, none⟩ = some (.string ⟨#[49]⟩) ∧ w'.cell? ⟨gl, ol + 3, none⟩ = some (.int .i64 2) ∧ w'.cell? ⟨gl, ol + 4, none⟩ = some (.int .i64 0) ∧ w'.cell? ⟨gl, ol + 5, none⟩ = some (.string ⟨#[103]⟩) ∧ w'.cell? ⟨gl, ol + 5 + 1, none⟩ = some (.bool false) ∧ w'.cell? ⟨gl, ol + 5 + 2, none⟩ = some (.string ⟨#[]⟩) ∧ w'.cell? ⟨gl, ol + 5 + 3, none⟩ = some (.int .i64 1) ∧ w'.cell? ⟨gl, ol + 5 + 4, none⟩ = some (.int .i64 1) ∧ w'.cell? ⟨w.heap.size, 0, none⟩ = some (.string ⟨#[102]⟩) ∧ w'.cell? ⟨w.heap.size, 1, none⟩ = some (.bool true) ∧ w'.cell? ⟨w.heap.size, 2, none⟩ = some (.string ⟨#[49]⟩) ∧ w'.cell? ⟨w.heap.size, 3, none⟩ = some (.int .i64 2) ∧ w'.cell? ⟨w.heap.size, 4, none⟩ = some (.int .i64 0) ∧ w'.cell? ⟨w.heap.size + 1, 5, none⟩ = some (.string ⟨#[103]⟩) ∧ w'.cell? ⟨w.heap.size + 1, 6, none⟩ = some (.bool false) ∧ w'.cell? ⟨w.heap.size + 1, 7, none⟩ = some (.string ⟨#[]⟩) ∧ w'.cell? ⟨w.heap.size + 1, 8, none⟩ = some (.int .i64 1) ∧ w'.cell? ⟨w.heap.size + 1, 9, none⟩ = some (.int .i64 1) ∧ w'.cell? ⟨gs, os, none⟩ = some (.string ⟨#[102]⟩) ∧ w'.cell? ⟨gs, os + 1, none⟩ = some (.bool true) ∧ w'.cell? ⟨gs, os + 2, none⟩ = some (.string ⟨#[50]⟩) ∧ w'.cell? ⟨gs, os + 3, none⟩ = some (.int .i64 3) ∧ w'.cell? ⟨gs, os + 4, none⟩ = some (.int .i64 1) ∧ w'.cell? ⟨gp, op, none⟩ = some (.string ⟨#[103]⟩) ∧ w'.cell? ⟨gp, op + 1, none⟩ = some (.bool false) ∧ w'.cell? ⟨gp, op + 2, none⟩ = some (.string ⟨#[]⟩) ∧ w'.cell? ⟨gp, op + 3, none⟩ = some (.string ⟨#[104]⟩) ∧ w'.cell? ⟨gp, op + 3 + 1, none⟩ = some (.bool true) ∧ w'.cell? ⟨gp, op + 3 + 2, none⟩ = some (.string ⟨#[]⟩)) W) := fun W hb => by
    refine ⟨?_, ?_, ?_, ?_, ?_, ?_, ?_, ?_, ?_, ?_, ?_, ?_, ?_, ?_, ?_, ?_, ?_, ?_, ?_, ?_, ?_, ?_, ?_, ?_, ?_, ?_, ?_, ?_, ?_, ?_, ?_, ?_⟩
    · exact (hb.cell (p := ⟨gc, oc, none⟩) (World.block_lt_of_cell? _ _ x0)).trans x0
    · exact (hb.cell (p := ⟨gl, ol, none⟩) (World.block_lt_of_cell? _ _ l0)).trans l0
    · exact (hb.cell (p := ⟨gl, ol + 1, none⟩) (World.block_lt_of_cell? _ _ l1)).trans l1
    · exact (hb.cell (p := ⟨gl, ol + 2, none⟩) (World.block_lt_of_cell? _ _ l2)).trans l2
    · exact (hb.cell (p := ⟨gl, ol + 3, none⟩) (World.block_lt_of_cell? _ _ l3)).trans l3
    · exact (hb.cell (p := ⟨gl, ol + 4, none⟩) (World.block_lt_of_cell? _ _ l4)).trans l4
    · exact (hb.cell (p := ⟨gl, ol + 5, none⟩) (World.block_lt_of_cell? _ _ m0)).trans m0
    · exact (hb.cell (p := ⟨gl, ol + 5 + 1, none⟩) (World.block_lt_of_cell? _ _ m1)).trans m1
    · exact (hb.cell (p := ⟨gl, ol + 5 + 2, none⟩) (World.block_lt_of_cell? _ _ m2)).trans m2
    · exact (hb.cell (p := ⟨gl, ol + 5 + 3, none⟩) (World.block_lt_of_cell? _ _ m3)).trans m3
    · exact (hb.cell (p := ⟨gl, ol + 5 + 4, none⟩) (World.block_lt_of_cell? _ _ m4)).trans m4
    · exact (hb.cell (p := ⟨w.heap.size, 0, none⟩) (World.block_lt_of_cell? _ _ a0)).trans a0
    · exact (hb.cell (p := ⟨w.heap.size, 1, none⟩) (World.block_lt_of_cell? _ _ a1)).trans a1
    · exact (hb.cell (p := ⟨w.heap.size, 2, none⟩) (World.block_lt_of_cell? _ _ a2)).trans a2
    · exact (hb.cell (p := ⟨w.heap.size, 3, none⟩) (World.block_lt_of_cell? _ _ a3)).trans a3
    · exact (hb.cell (p := ⟨w.heap.size, 4, none⟩) (World.block_lt_of_cell? _ _ a4)).trans a4
    · exact (hb.cell (p := ⟨w.heap.size + 1, 5, none⟩) (World.block_lt_of_cell? _ _ f0)).trans f0
    · exact (hb.cell (p := ⟨w.heap.size + 1, 6, none⟩) (World.block_lt_of_cell? _ _ f1)).trans f1
    · exact (hb.cell (p := ⟨w.heap.size + 1, 7, none⟩) (World.block_lt_of_cell? _ _ f2)).trans f2
    · exact (hb.cell (p := ⟨w.heap.size + 1, 8, none⟩) (World.block_lt_of_cell? _ _ f3)).trans f3
    · exact (hb.cell (p := ⟨w.heap.size + 1, 9, none⟩) (World.block_lt_of_cell? _ _ f4)).trans f4
    · exact (hb.cell (p := ⟨gs, os, none⟩) (World.block_lt_of_cell? _ _ s0)).trans s0
    · exact (hb.cell (p := ⟨gs, os + 1, none⟩) (World.block_lt_of_cell? _ _ s1)).trans s1
    · exact (hb.cell (p := ⟨gs, os + 2, none⟩) (World.block_lt_of_cell? _ _ s2)).trans s2
    · exact (hb.cell (p := ⟨gs, os + 3, none⟩) (World.block_lt_of_cell? _ _ s3)).trans s3
    · exact (hb.cell (p := ⟨gs, os + 4, none⟩) (World.block_lt_of_cell? _ _ s4)).trans s4
    · exact (hb.cell (p := ⟨gp, op, none⟩) (World.block_lt_of_cell? _ _ q0)).trans q0
    · exact (hb.cell (p := ⟨gp, op + 1, none⟩) (World.block_lt_of_cell? _ _ q1)).trans q1
    · exact (hb.cell (p := ⟨gp, op + 2, none⟩) (World.block_lt_of_cell? _ _ q2)).trans q2
    · exact (hb.cell (p := ⟨gp, op + 3, none⟩) (World.block_lt_of_cell? _ _ q3)).trans q3
    · exact (hb.cell (p := ⟨gp, op + 3 + 1, none⟩) (World.block_lt_of_cell? _ _ q4)).trans q4
    · exact (hb.cell (p := ⟨gp, op + 3 + 2, none⟩) (World.block_lt_of_cell? _ _ q5)).trans q5
  clear r5 p5 S5 EA5
  go_wp2_with fail
  refine wp_region_held_drew (S := fun w' => w'.cell? ⟨gc, oc, none⟩ = some (.string ⟨#[102]⟩) ∧ w'.cell? ⟨gl, ol, none⟩ = some (.string ⟨#[102]⟩) ∧ w'.cell? ⟨gl, ol + 1, none⟩ = some (.bool true) ∧ w'.cell? ⟨gl, ol + 2, none⟩ = some (.string ⟨#[49]⟩) ∧ w'.cell? ⟨gl, ol + 3, none⟩ = some (.int .i64 2) ∧ w'.cell? ⟨gl, ol + 4, none⟩ = some (.int .i64 0) ∧ w'.cell? ⟨gl, ol + 5, none⟩ = some (.string ⟨#[103]⟩) ∧ w'.cell? ⟨gl, ol + 5 + 1, none⟩ = some (.bool false) ∧ w'.cell? ⟨gl, ol + 5 + 2, none⟩ = some (.string ⟨#[]⟩) ∧ w'.cell? ⟨gl, ol + 5 + 3, none⟩ = some (.int .i64 1) ∧ w'.cell? ⟨gl, ol + 5 + 4, none⟩ = some (.int .i64 1) ∧ w'.cell? ⟨w.heap.size, 0, none⟩ = some (.string ⟨#[102]⟩) ∧ w'.cell? ⟨w.heap.size, 1, none⟩ = some (.bool true) ∧ w'.cell? ⟨w.heap.size, 2, none⟩ = some (.string ⟨#[49]⟩) ∧ w'.cell? ⟨w.heap.size, 3, none⟩ = some (.int .i64 2) ∧ w'.cell? ⟨w.heap.size, 4, none⟩ = some (.int .i64 0) ∧ w'.cell? ⟨w.heap.size + 1, 5, none⟩ = some (.string ⟨#[103]⟩) ∧ w'.cell? ⟨w.heap.size + 1, 6, none⟩ = some (.bool false) ∧ w'.cell? ⟨w.heap.size + 1, 7, none⟩ = some (.string ⟨#[]⟩) ∧ w'.cell? ⟨w.heap.size + 1, 8, none⟩ = some (.int .i64 1) ∧ w'.cell? ⟨w.heap.size + 1, 9, none⟩ = some (.int .i64 1) ∧ w'.cell? ⟨gs, os, none⟩ = some (.string ⟨#[102]⟩) ∧ w'.cell? ⟨gs, os + 1, none⟩ = some (.bool true) ∧ w'.cell? ⟨gs, os + 2, none⟩ = some (.string ⟨#[50]⟩) ∧ w'.cell? ⟨gs, os + 3, none⟩ = some (.int .i64 3) ∧ w'.cell? ⟨gs, os + 4, none⟩ = some (.int .i64 1) ∧ w'.cell? ⟨gp, op, none⟩ = some (.string ⟨#[103]⟩) ∧ w'.cell? ⟨gp, op + 1, none⟩ = some (.bool false) ∧ w'.cell? ⟨gp, op + 2, none⟩ = some (.string ⟨#[]⟩) ∧ w'.cell? ⟨gp, op + 3, none⟩ = some (.string ⟨#[104]⟩) ∧ w'.cell? ⟨gp, op + 3 + 1, none⟩ = some (.bool true) ∧ w'.cell? ⟨gp, op + 3 + 2, none⟩ = some (.string ⟨#[]⟩)) (by kernel_rfl) (HS.out _ (Below.refl _ _).drew) (fun hHeld => ?_)
  clear x0 l0 l1 l2 l3 l4 m0 m1 m2 m3 m4 a0 a1 a2 a3 a4 f0 f1 f2 f3 f4 s0 s1 s2 s3 s4 q0 q1 q2 q3 q4 q5
  refine wpAnyH_take (i := 0) (oi := ⟨_, _, _, _, _, _⟩) (v := ?_) rfl (by kernel_rfl) (by kernel_rfl) (by kernel_rfl) (fun _ _ _ h => h) (Or.inl ⟨by rfl, ?_⟩) (by assumption) ?_
  rotate_left
  · intro w hSw; (try dsimp only at hSw); go_simp; (try (with_reducible rfl))
  try simp only [Act.put, List.setIfInBounds_toArray, List.set_cons_zero, List.set_cons_succ]
  refine wpAnyH_take (i := 1) (oi := ⟨_, _, _, _, _, _⟩) (v := ?_) rfl (by kernel_rfl) (by kernel_rfl) (by kernel_rfl) (fun _ _ _ h => h) (Or.inl ⟨by rfl, ?_⟩) (by assumption) ?_
  rotate_left
  · intro w hSw; (try dsimp only at hSw); go_simp; (try (with_reducible rfl))
  try simp only [Act.put, List.setIfInBounds_toArray, List.set_cons_zero, List.set_cons_succ]
  refine wpAnyH_take (i := 2) (oi := ⟨_, _, _, _, _, _⟩) (v := ?_) rfl (by kernel_rfl) (by kernel_rfl) (by kernel_rfl) (fun _ _ _ h => h) (Or.inl ⟨by rfl, ?_⟩) (by assumption) ?_
  rotate_left
  · intro w hSw; (try dsimp only at hSw); go_simp; (try (with_reducible rfl))
  try simp only [Act.put, List.setIfInBounds_toArray, List.set_cons_zero, List.set_cons_succ]
  refine wpAnyH_take (i := 3) (oi := ⟨_, _, _, _, _, _⟩) (v := ?_) rfl (by kernel_rfl) (by kernel_rfl) (by kernel_rfl) (fun _ _ _ h => h) (Or.inl ⟨by rfl, ?_⟩) (by assumption) ?_
  rotate_left
  · intro w hSw; (try dsimp only at hSw); go_simp; (try (with_reducible rfl))
  try simp only [Act.put, List.setIfInBounds_toArray, List.set_cons_zero, List.set_cons_succ]
  refine wpAnyH_take (i := 4) (oi := ⟨_, _, _, _, _, _⟩) (v := ?_) rfl (by kernel_rfl) (by kernel_rfl) (by kernel_rfl) (fun _ _ _ h => h) (Or.inl ⟨by rfl, ?_⟩) (by assumption) ?_
  rotate_left
  · intro w hSw; (try dsimp only at hSw); go_simp; (try (with_reducible rfl))
  try simp only [Act.put, List.setIfInBounds_toArray, List.set_cons_zero, List.set_cons_succ]
  refine wpAnyH_take (i := 5) (oi := ⟨_, _, _, _, _, _⟩) (v := ?_) rfl (by kernel_rfl) (by kernel_rfl) (by kernel_rfl) (fun _ _ _ h => h) (Or.inl ⟨by rfl, ?_⟩) (by assumption) ?_
  rotate_left
  · intro w hSw; (try dsimp only at hSw); go_simp; (try (with_reducible rfl))
  try simp only [Act.put, List.setIfInBounds_toArray, List.set_cons_zero, List.set_cons_succ]
  refine wpAnyH_take (i := 6) (oi := ⟨_, _, _, _, _, _⟩) (v := ?_) rfl (by kernel_rfl) (by kernel_rfl) (by kernel_rfl) (fun _ _ _ h => h) (Or.inl ⟨by rfl, ?_⟩) (by assumption) ?_
  rotate_left
  · intro w hSw; (try dsimp only at hSw); go_simp; (try (with_reducible rfl))
  try simp only [Act.put, List.setIfInBounds_toArray, List.set_cons_zero, List.set_cons_succ]
  refine wpAnyH_take (i := 7) (oi := ⟨_, _, _, _, _, _⟩) (v := ?_) rfl (by kernel_rfl) (by kernel_rfl) (by kernel_rfl) (fun _ _ _ h => h) (Or.inl ⟨by rfl, ?_⟩) (by assumption) ?_
  rotate_left
  · intro w hSw; (try dsimp only at hSw); go_simp; (try (with_reducible rfl))
  try simp only [Act.put, List.setIfInBounds_toArray, List.set_cons_zero, List.set_cons_succ]
  refine wpAnyH_take (i := 8) (oi := ⟨_, _, _, _, _, _⟩) (v := ?_) rfl (by kernel_rfl) (by kernel_rfl) (by kernel_rfl) (fun _ _ _ h => h) (Or.inl ⟨by rfl, ?_⟩) (by assumption) ?_
  rotate_left
  · intro w hSw; (try dsimp only at hSw); go_simp; (try (with_reducible rfl))
  try simp only [Act.put, List.setIfInBounds_toArray, List.set_cons_zero, List.set_cons_succ]
  refine wpAnyH_take (i := 9) (oi := ⟨_, _, _, _, _, _⟩) (v := ?_) rfl (by kernel_rfl) (by kernel_rfl) (by kernel_rfl) (fun _ _ _ h => h) (Or.inl ⟨by rfl, ?_⟩) (by assumption) ?_
  rotate_left
  · intro w hSw; (try dsimp only at hSw); go_simp; (try (with_reducible rfl))
  try simp only [Act.put, List.setIfInBounds_toArray, List.set_cons_zero, List.set_cons_succ]
  refine wpAnyH_take (i := 10) (oi := ⟨_, _, _, _, _, _⟩) (v := ?_) rfl (by kernel_rfl) (by kernel_rfl) (by kernel_rfl) (fun _ _ _ h => h) (Or.inl ⟨by rfl, ?_⟩) (by assumption) ?_
  rotate_left
  · intro w hSw; (try dsimp only at hSw); go_simp; (try (with_reducible rfl))
  try simp only [Act.put, List.setIfInBounds_toArray, List.set_cons_zero, List.set_cons_succ]
  refine wpAnyH_take (i := 11) (oi := ⟨_, _, _, _, _, _⟩) (v := ?_) rfl (by kernel_rfl) (by kernel_rfl) (by kernel_rfl) (fun _ _ _ h => h) (Or.inl ⟨by rfl, ?_⟩) (by assumption) ?_
  rotate_left
  · intro w hSw; (try dsimp only at hSw); go_simp; (try (with_reducible rfl))
  try simp only [Act.put, List.setIfInBounds_toArray, List.set_cons_zero, List.set_cons_succ]
  refine wpAnyH_take (i := 12) (oi := ⟨_, _, _, _, _, _⟩) (v := ?_) rfl (by kernel_rfl) (by kernel_rfl) (by kernel_rfl) (fun _ _ _ h => h) (Or.inl ⟨by rfl, ?_⟩) (by assumption) ?_
  rotate_left
  · intro w hSw; (try dsimp only at hSw); go_simp; (try (with_reducible rfl))
  try simp only [Act.put, List.setIfInBounds_toArray, List.set_cons_zero, List.set_cons_succ]
  refine wpAnyH_take (i := 13) (oi := ⟨_, _, _, _, _, _⟩) (v := ?_) rfl (by kernel_rfl) (by kernel_rfl) (by kernel_rfl) (fun _ _ _ h => h) (Or.inl ⟨by rfl, ?_⟩) (by assumption) ?_
  rotate_left
  · intro w hSw; (try dsimp only at hSw); go_simp; (try (with_reducible rfl))
  try simp only [Act.put, List.setIfInBounds_toArray, List.set_cons_zero, List.set_cons_succ]
  refine wpAnyH_take (i := 14) (oi := ⟨_, _, _, _, _, _⟩) (v := ?_) rfl (by kernel_rfl) (by kernel_rfl) (by kernel_rfl) (fun _ _ _ h => h) (Or.inl ⟨by rfl, ?_⟩) (by assumption) ?_
  rotate_left
  · intro w hSw; (try dsimp only at hSw); go_simp; (try (with_reducible rfl))
  try simp only [Act.put, List.setIfInBounds_toArray, List.set_cons_zero, List.set_cons_succ]
  refine wpAnyH_take (i := 15) (oi := ⟨_, _, _, _, _, _⟩) (v := ?_) rfl (by kernel_rfl) (by kernel_rfl) (by kernel_rfl) (fun _ _ _ h => h) (Or.inl ⟨by rfl, ?_⟩) (by assumption) ?_
  rotate_left
  · intro w hSw; (try dsimp only at hSw); go_simp; (try (with_reducible rfl))
  try simp only [Act.put, List.setIfInBounds_toArray, List.set_cons_zero, List.set_cons_succ]
  refine wpAnyH_take (i := 16) (oi := ⟨_, _, _, _, _, _⟩) (v := ?_) rfl (by kernel_rfl) (by kernel_rfl) (by kernel_rfl) (fun _ _ _ h => h) (Or.inl ⟨by rfl, ?_⟩) (by assumption) ?_
  rotate_left
  · intro w hSw; (try dsimp only at hSw); go_simp; (try (with_reducible rfl))
  try simp only [Act.put, List.setIfInBounds_toArray, List.set_cons_zero, List.set_cons_succ]
  refine wpAnyH_take (i := 17) (oi := ⟨_, _, _, _, _, _⟩) (v := ?_) rfl (by kernel_rfl) (by kernel_rfl) (by kernel_rfl) (fun _ _ _ h => h) (Or.inl ⟨by rfl, ?_⟩) (by assumption) ?_
  rotate_left
  · intro w hSw; (try dsimp only at hSw); go_simp; (try (with_reducible rfl))
  try simp only [Act.put, List.setIfInBounds_toArray, List.set_cons_zero, List.set_cons_succ]
  refine wpAnyH_take (i := 18) (oi := ⟨_, _, _, _, _, _⟩) (v := ?_) rfl (by kernel_rfl) (by kernel_rfl) (by kernel_rfl) (fun _ _ _ h => h) (Or.inl ⟨by rfl, ?_⟩) (by assumption) ?_
  rotate_left
  · intro w hSw; (try dsimp only at hSw); go_simp; (try (with_reducible rfl))
  try simp only [Act.put, List.setIfInBounds_toArray, List.set_cons_zero, List.set_cons_succ]
  refine wpAnyH_take (i := 19) (oi := ⟨_, _, _, _, _, _⟩) (v := ?_) rfl (by kernel_rfl) (by kernel_rfl) (by kernel_rfl) (fun _ _ _ h => h) (Or.inl ⟨by rfl, ?_⟩) (by assumption) ?_
  rotate_left
  · intro w hSw; (try dsimp only at hSw); go_simp; (try (with_reducible rfl))
  try simp only [Act.put, List.setIfInBounds_toArray, List.set_cons_zero, List.set_cons_succ]
  refine wpAnyH_take (i := 20) (oi := ⟨_, _, _, _, _, _⟩) (v := ?_) rfl (by kernel_rfl) (by kernel_rfl) (by kernel_rfl) (fun _ _ _ h => h) (Or.inl ⟨by rfl, ?_⟩) (by assumption) ?_
  rotate_left
  · intro w hSw; (try dsimp only at hSw); go_simp; (try (with_reducible rfl))
  try simp only [Act.put, List.setIfInBounds_toArray, List.set_cons_zero, List.set_cons_succ]
  refine wpAnyH_take (i := 21) (oi := ⟨_, _, _, _, _, _⟩) (v := ?_) rfl (by kernel_rfl) (by kernel_rfl) (by kernel_rfl) (fun _ _ _ h => h) (Or.inl ⟨by rfl, ?_⟩) (by assumption) ?_
  rotate_left
  · intro w hSw; (try dsimp only at hSw); go_simp; (try (with_reducible rfl))
  try simp only [Act.put, List.setIfInBounds_toArray, List.set_cons_zero, List.set_cons_succ]
  refine wpAnyH_take (i := 22) (oi := ⟨_, _, _, _, _, _⟩) (v := ?_) rfl (by kernel_rfl) (by kernel_rfl) (by kernel_rfl) (fun _ _ _ h => h) (Or.inl ⟨by rfl, ?_⟩) (by assumption) ?_
  rotate_left
  · intro w hSw; (try dsimp only at hSw); go_simp; (try (with_reducible rfl))
  try simp only [Act.put, List.setIfInBounds_toArray, List.set_cons_zero, List.set_cons_succ]
  refine wpAnyH_take (i := 23) (oi := ⟨_, _, _, _, _, _⟩) (v := ?_) rfl (by kernel_rfl) (by kernel_rfl) (by kernel_rfl) (fun _ _ _ h => h) (Or.inl ⟨by rfl, ?_⟩) (by assumption) ?_
  rotate_left
  · intro w hSw; (try dsimp only at hSw); go_simp; (try (with_reducible rfl))
  try simp only [Act.put, List.setIfInBounds_toArray, List.set_cons_zero, List.set_cons_succ]
  refine wpAnyH_take (i := 24) (oi := ⟨_, _, _, _, _, _⟩) (v := ?_) rfl (by kernel_rfl) (by kernel_rfl) (by kernel_rfl) (fun _ _ _ h => h) (Or.inl ⟨by rfl, ?_⟩) (by assumption) ?_
  rotate_left
  · intro w hSw; (try dsimp only at hSw); go_simp; (try (with_reducible rfl))
  try simp only [Act.put, List.setIfInBounds_toArray, List.set_cons_zero, List.set_cons_succ]
  refine wpAnyH_take (i := 25) (oi := ⟨_, _, _, _, _, _⟩) (v := ?_) rfl (by kernel_rfl) (by kernel_rfl) (by kernel_rfl) (fun _ _ _ h => h) (Or.inl ⟨by rfl, ?_⟩) (by assumption) ?_
  rotate_left
  · intro w hSw; (try dsimp only at hSw); go_simp; (try (with_reducible rfl))
  try simp only [Act.put, List.setIfInBounds_toArray, List.set_cons_zero, List.set_cons_succ]
  refine wpAnyH_take (i := 26) (oi := ⟨_, _, _, _, _, _⟩) (v := ?_) rfl (by kernel_rfl) (by kernel_rfl) (by kernel_rfl) (fun _ _ _ h => h) (Or.inl ⟨by rfl, ?_⟩) (by assumption) ?_
  rotate_left
  · intro w hSw; (try dsimp only at hSw); go_simp; (try (with_reducible rfl))
  try simp only [Act.put, List.setIfInBounds_toArray, List.set_cons_zero, List.set_cons_succ]
  refine wpAnyH_take (i := 27) (oi := ⟨_, _, _, _, _, _⟩) (v := ?_) rfl (by kernel_rfl) (by kernel_rfl) (by kernel_rfl) (fun _ _ _ h => h) (Or.inl ⟨by rfl, ?_⟩) (by assumption) ?_
  rotate_left
  · intro w hSw; (try dsimp only at hSw); go_simp; (try (with_reducible rfl))
  try simp only [Act.put, List.setIfInBounds_toArray, List.set_cons_zero, List.set_cons_succ]
  refine wpAnyH_take (i := 28) (oi := ⟨_, _, _, _, _, _⟩) (v := ?_) rfl (by kernel_rfl) (by kernel_rfl) (by kernel_rfl) (fun _ _ _ h => h) (Or.inl ⟨by rfl, ?_⟩) (by assumption) ?_
  rotate_left
  · intro w hSw; (try dsimp only at hSw); go_simp; (try (with_reducible rfl))
  try simp only [Act.put, List.setIfInBounds_toArray, List.set_cons_zero, List.set_cons_succ]
  refine wpAnyH_take (i := 29) (oi := ⟨_, _, _, _, _, _⟩) (v := ?_) rfl (by kernel_rfl) (by kernel_rfl) (by kernel_rfl) (fun _ _ _ h => h) (Or.inl ⟨by rfl, ?_⟩) (by assumption) ?_
  rotate_left
  · intro w hSw; (try dsimp only at hSw); go_simp; (try (with_reducible rfl))
  try simp only [Act.put, List.setIfInBounds_toArray, List.set_cons_zero, List.set_cons_succ]
  refine wpAnyH_take (i := 30) (oi := ⟨_, _, _, _, _, _⟩) (v := ?_) rfl (by kernel_rfl) (by kernel_rfl) (by kernel_rfl) (fun _ _ _ h => h) (Or.inl ⟨by rfl, ?_⟩) (by assumption) ?_
  rotate_left
  · intro w hSw; (try dsimp only at hSw); go_simp; (try (with_reducible rfl))
  try simp only [Act.put, List.setIfInBounds_toArray, List.set_cons_zero, List.set_cons_succ]
  refine wpAnyH_take (i := 31) (oi := ⟨_, _, _, _, _, _⟩) (v := ?_) rfl (by kernel_rfl) (by kernel_rfl) (by kernel_rfl) (fun _ _ _ h => h) (Or.inl ⟨by rfl, ?_⟩) (by assumption) ?_
  rotate_left
  · intro w hSw; (try dsimp only at hSw); go_simp; (try (with_reducible rfl))
  try simp only [Act.put, List.setIfInBounds_toArray, List.set_cons_zero, List.set_cons_succ]
  refine wpAnyH_take (i := 32) (oi := ⟨_, _, _, _, _, _⟩) (v := ?_) rfl (by kernel_rfl) (by kernel_rfl) (by kernel_rfl) (fun _ _ _ h => h) (Or.inl ⟨by rfl, ?_⟩) (by assumption) ?_
  rotate_left
  · intro w hSw; (try dsimp only at hSw); go_simp; (try (with_reducible rfl))
  try simp only [Act.put, List.setIfInBounds_toArray, List.set_cons_zero, List.set_cons_succ]
  refine wpAnyH_take (i := 33) (oi := ⟨_, _, _, _, _, _⟩) (v := ?_) rfl (by kernel_rfl) (by kernel_rfl) (by kernel_rfl) (fun _ _ _ h => h) (Or.inl ⟨by rfl, ?_⟩) (by assumption) ?_
  rotate_left
  · intro w hSw; (try dsimp only at hSw); go_simp; (try (with_reducible rfl))
  try simp only [Act.put, List.setIfInBounds_toArray, List.set_cons_zero, List.set_cons_succ]
  refine wpAnyH_take (i := 34) (oi := ⟨_, _, _, _, _, _⟩) (v := ?_) rfl (by kernel_rfl) (by kernel_rfl) (by kernel_rfl) (fun _ _ _ h => h) (Or.inl ⟨by rfl, ?_⟩) (by assumption) ?_
  rotate_left
  · intro w hSw; (try dsimp only at hSw); go_simp; (try (with_reducible rfl))
  try simp only [Act.put, List.setIfInBounds_toArray, List.set_cons_zero, List.set_cons_succ]
  refine wpAnyH_take (i := 35) (oi := ⟨_, _, _, _, _, _⟩) (v := ?_) rfl (by kernel_rfl) (by kernel_rfl) (by kernel_rfl) (fun _ _ _ h => h) (Or.inl ⟨by rfl, ?_⟩) (by assumption) ?_
  rotate_left
  · intro w hSw; (try dsimp only at hSw); go_simp; (try (with_reducible rfl))
  try simp only [Act.put, List.setIfInBounds_toArray, List.set_cons_zero, List.set_cons_succ]
  refine wpAnyH_take (i := 36) (oi := ⟨_, _, _, _, _, _⟩) (v := ?_) rfl (by kernel_rfl) (by kernel_rfl) (by kernel_rfl) (fun _ _ _ h => h) (Or.inl ⟨by rfl, ?_⟩) (by assumption) ?_
  rotate_left
  · intro w hSw; (try dsimp only at hSw); go_simp; (try (with_reducible rfl))
  try simp only [Act.put, List.setIfInBounds_toArray, List.set_cons_zero, List.set_cons_succ]
  refine wpAnyH_take (i := 37) (oi := ⟨_, _, _, _, _, _⟩) (v := ?_) rfl (by kernel_rfl) (by kernel_rfl) (by kernel_rfl) (fun _ _ _ h => h) (Or.inl ⟨by rfl, ?_⟩) (by assumption) ?_
  rotate_left
  · intro w hSw; (try dsimp only at hSw); go_simp; (try (with_reducible rfl))
  try simp only [Act.put, List.setIfInBounds_toArray, List.set_cons_zero, List.set_cons_succ]
  refine wpAnyH_take (i := 38) (oi := ⟨_, _, _, _, _, _⟩) (v := ?_) rfl (by kernel_rfl) (by kernel_rfl) (by kernel_rfl) (fun _ _ _ h => h) (Or.inl ⟨by rfl, ?_⟩) (by assumption) ?_
  rotate_left
  · intro w hSw; (try dsimp only at hSw); go_simp; (try (with_reducible rfl))
  try simp only [Act.put, List.setIfInBounds_toArray, List.set_cons_zero, List.set_cons_succ]
  refine wpAnyH_take (i := 39) (oi := ⟨_, _, _, _, _, _⟩) (v := ?_) rfl (by kernel_rfl) (by kernel_rfl) (by kernel_rfl) (fun _ _ _ h => h) (Or.inl ⟨by rfl, ?_⟩) (by assumption) ?_
  rotate_left
  · intro w hSw; (try dsimp only at hSw); go_simp; (try (with_reducible rfl))
  try simp only [Act.put, List.setIfInBounds_toArray, List.set_cons_zero, List.set_cons_succ]
  refine wpAnyH_take (i := 40) (oi := ⟨_, _, _, _, _, _⟩) (v := ?_) rfl (by kernel_rfl) (by kernel_rfl) (by kernel_rfl) (fun _ _ _ h => h) (Or.inl ⟨by rfl, ?_⟩) (by assumption) ?_
  rotate_left
  · intro w hSw; (try dsimp only at hSw); go_simp; (try (with_reducible rfl))
  try simp only [Act.put, List.setIfInBounds_toArray, List.set_cons_zero, List.set_cons_succ]
  refine wpAnyH_take (i := 41) (oi := ⟨_, _, _, _, _, _⟩) (v := ?_) rfl (by kernel_rfl) (by kernel_rfl) (by kernel_rfl) (fun _ _ _ h => h) (Or.inl ⟨by rfl, ?_⟩) (by assumption) ?_
  rotate_left
  · intro w hSw; (try dsimp only at hSw); go_simp; (try (with_reducible rfl))
  try simp only [Act.put, List.setIfInBounds_toArray, List.set_cons_zero, List.set_cons_succ]
  refine wpAnyH_take (i := 42) (oi := ⟨_, _, _, _, _, _⟩) (v := ?_) rfl (by kernel_rfl) (by kernel_rfl) (by kernel_rfl) (fun _ _ _ h => h) (Or.inl ⟨by rfl, ?_⟩) (by assumption) ?_
  rotate_left
  · intro w hSw; (try dsimp only at hSw); go_simp; (try (with_reducible rfl))
  try simp only [Act.put, List.setIfInBounds_toArray, List.set_cons_zero, List.set_cons_succ]
  refine wpAnyH_take (i := 43) (oi := ⟨_, _, _, _, _, _⟩) (v := ?_) rfl (by kernel_rfl) (by kernel_rfl) (by kernel_rfl) (fun _ _ _ h => h) (Or.inl ⟨by rfl, ?_⟩) (by assumption) ?_
  rotate_left
  · intro w hSw; (try dsimp only at hSw); go_simp; (try (with_reducible rfl))
  try simp only [Act.put, List.setIfInBounds_toArray, List.set_cons_zero, List.set_cons_succ]
  refine wpAnyH_take (i := 44) (oi := ⟨_, _, _, _, _, _⟩) (v := ?_) rfl (by kernel_rfl) (by kernel_rfl) (by kernel_rfl) (fun _ _ _ h => h) (Or.inl ⟨by rfl, ?_⟩) (by assumption) ?_
  rotate_left
  · intro w hSw; (try dsimp only at hSw); go_simp; (try (with_reducible rfl))
  try simp only [Act.put, List.setIfInBounds_toArray, List.set_cons_zero, List.set_cons_succ]
  refine wpAnyH_take (i := 45) (oi := ⟨_, _, _, _, _, _⟩) (v := ?_) rfl (by kernel_rfl) (by kernel_rfl) (by kernel_rfl) (fun _ _ _ h => h) (Or.inl ⟨by rfl, ?_⟩) (by assumption) ?_
  rotate_left
  · intro w hSw; (try dsimp only at hSw); go_simp; (try (with_reducible rfl))
  try simp only [Act.put, List.setIfInBounds_toArray, List.set_cons_zero, List.set_cons_succ]
  refine wpAnyH_take (i := 46) (oi := ⟨_, _, _, _, _, _⟩) (v := ?_) rfl (by kernel_rfl) (by kernel_rfl) (by kernel_rfl) (fun _ _ _ h => h) (Or.inl ⟨by rfl, ?_⟩) (by assumption) ?_
  rotate_left
  · intro w hSw; (try dsimp only at hSw); go_simp; (try (with_reducible rfl))
  try simp only [Act.put, List.setIfInBounds_toArray, List.set_cons_zero, List.set_cons_succ]
  refine wpAnyH_take (i := 47) (oi := ⟨_, _, _, _, _, _⟩) (v := ?_) rfl (by kernel_rfl) (by kernel_rfl) (by kernel_rfl) (fun _ _ _ h => h) (Or.inl ⟨by rfl, ?_⟩) (by assumption) ?_
  rotate_left
  · intro w hSw; (try dsimp only at hSw); go_simp; (try (with_reducible rfl))
  try simp only [Act.put, List.setIfInBounds_toArray, List.set_cons_zero, List.set_cons_succ]
  refine wpAnyH_take (i := 48) (oi := ⟨_, _, _, _, _, _⟩) (v := ?_) rfl (by kernel_rfl) (by kernel_rfl) (by kernel_rfl) (fun _ _ _ h => h) (Or.inl ⟨by rfl, ?_⟩) (by assumption) ?_
  rotate_left
  · intro w hSw; (try dsimp only at hSw); go_simp; (try (with_reducible rfl))
  try simp only [Act.put, List.setIfInBounds_toArray, List.set_cons_zero, List.set_cons_succ]
  refine wpAnyH_take (i := 49) (oi := ⟨_, _, _, _, _, _⟩) (v := ?_) rfl (by kernel_rfl) (by kernel_rfl) (by kernel_rfl) (fun _ _ _ h => h) (Or.inl ⟨by rfl, ?_⟩) (by assumption) ?_
  rotate_left
  · intro w hSw; (try dsimp only at hSw); go_simp; (try (with_reducible rfl))
  try simp only [Act.put, List.setIfInBounds_toArray, List.set_cons_zero, List.set_cons_succ]
  refine wpAnyH_take (i := 50) (oi := ⟨_, _, _, _, _, _⟩) (v := ?_) rfl (by kernel_rfl) (by kernel_rfl) (by kernel_rfl) (fun _ _ _ h => h) (Or.inl ⟨by rfl, ?_⟩) (by assumption) ?_
  rotate_left
  · intro w hSw; (try dsimp only at hSw); go_simp; (try (with_reducible rfl))
  try simp only [Act.put, List.setIfInBounds_toArray, List.set_cons_zero, List.set_cons_succ]
  refine wpAnyH_take (i := 51) (oi := ⟨_, _, _, _, _, _⟩) (v := ?_) rfl (by kernel_rfl) (by kernel_rfl) (by kernel_rfl) (fun _ _ _ h => h) (Or.inl ⟨by rfl, ?_⟩) (by assumption) ?_
  rotate_left
  · intro w hSw; (try dsimp only at hSw); go_simp; (try (with_reducible rfl))
  try simp only [Act.put, List.setIfInBounds_toArray, List.set_cons_zero, List.set_cons_succ]
  refine wpAnyH_take (i := 52) (oi := ⟨_, _, _, _, _, _⟩) (v := ?_) rfl (by kernel_rfl) (by kernel_rfl) (by kernel_rfl) (fun _ _ _ h => h) (Or.inl ⟨by rfl, ?_⟩) (by assumption) ?_
  rotate_left
  · intro w hSw; (try dsimp only at hSw); go_simp; (try (with_reducible rfl))
  try simp only [Act.put, List.setIfInBounds_toArray, List.set_cons_zero, List.set_cons_succ]
  refine wpAnyH_take (i := 53) (oi := ⟨_, _, _, _, _, _⟩) (v := ?_) rfl (by kernel_rfl) (by kernel_rfl) (by kernel_rfl) (fun _ _ _ h => h) (Or.inl ⟨by rfl, ?_⟩) (by assumption) ?_
  rotate_left
  · intro w hSw; (try dsimp only at hSw); go_simp; (try (with_reducible rfl))
  try simp only [Act.put, List.setIfInBounds_toArray, List.set_cons_zero, List.set_cons_succ]
  refine wpAnyH_take (i := 54) (oi := ⟨_, _, _, _, _, _⟩) (v := ?_) rfl (by kernel_rfl) (by kernel_rfl) (by kernel_rfl) (fun _ _ _ h => h) (Or.inl ⟨by rfl, ?_⟩) (by assumption) ?_
  rotate_left
  · intro w hSw; (try dsimp only at hSw); go_simp; (try (with_reducible rfl))
  try simp only [Act.put, List.setIfInBounds_toArray, List.set_cons_zero, List.set_cons_succ]
  refine wpAnyH_take (i := 55) (oi := ⟨_, _, _, _, _, _⟩) (v := ?_) rfl (by kernel_rfl) (by kernel_rfl) (by kernel_rfl) (fun _ _ _ h => h) (Or.inl ⟨by rfl, ?_⟩) (by assumption) ?_
  rotate_left
  · intro w hSw; (try dsimp only at hSw); go_simp; (try (with_reducible rfl))
  try simp only [Act.put, List.setIfInBounds_toArray, List.set_cons_zero, List.set_cons_succ]
  refine wpAnyH_take (i := 56) (oi := ⟨_, _, _, _, _, _⟩) (v := ?_) rfl (by kernel_rfl) (by kernel_rfl) (by kernel_rfl) (fun _ _ _ h => h) (Or.inl ⟨by rfl, ?_⟩) (by assumption) ?_
  rotate_left
  · intro w hSw; (try dsimp only at hSw); go_simp; (try (with_reducible rfl))
  try simp only [Act.put, List.setIfInBounds_toArray, List.set_cons_zero, List.set_cons_succ]
  refine wpAnyH_take (i := 57) (oi := ⟨_, _, _, _, _, _⟩) (v := ?_) rfl (by kernel_rfl) (by kernel_rfl) (by kernel_rfl) (fun _ _ _ h => h) (Or.inl ⟨by rfl, ?_⟩) (by assumption) ?_
  rotate_left
  · intro w hSw; (try dsimp only at hSw); go_simp; (try (with_reducible rfl))
  try simp only [Act.put, List.setIfInBounds_toArray, List.set_cons_zero, List.set_cons_succ]
  refine wpAnyH_take (i := 58) (oi := ⟨_, _, _, _, _, _⟩) (v := ?_) rfl (by kernel_rfl) (by kernel_rfl) (by kernel_rfl) (fun _ _ _ h => h) (Or.inl ⟨by rfl, ?_⟩) (by assumption) ?_
  rotate_left
  · intro w hSw; (try dsimp only at hSw); go_simp; (try (with_reducible rfl))
  try simp only [Act.put, List.setIfInBounds_toArray, List.set_cons_zero, List.set_cons_succ]
  refine wpAnyH_take (i := 59) (oi := ⟨_, _, _, _, _, _⟩) (v := ?_) rfl (by kernel_rfl) (by kernel_rfl) (by kernel_rfl) (fun _ _ _ h => h) (Or.inl ⟨by rfl, ?_⟩) (by assumption) ?_
  rotate_left
  · intro w hSw; (try dsimp only at hSw); go_simp; (try (with_reducible rfl))
  try simp only [Act.put, List.setIfInBounds_toArray, List.set_cons_zero, List.set_cons_succ]
  refine wpAnyH_take (i := 60) (oi := ⟨_, _, _, _, _, _⟩) (v := ?_) rfl (by kernel_rfl) (by kernel_rfl) (by kernel_rfl) (fun _ _ _ h => h) (Or.inl ⟨by rfl, ?_⟩) (by assumption) ?_
  rotate_left
  · intro w hSw; (try dsimp only at hSw); go_simp; (try (with_reducible rfl))
  try simp only [Act.put, List.setIfInBounds_toArray, List.set_cons_zero, List.set_cons_succ]
  refine wpAnyH_take (i := 61) (oi := ⟨_, _, _, _, _, _⟩) (v := ?_) rfl (by kernel_rfl) (by kernel_rfl) (by kernel_rfl) (fun _ _ _ h => h) (Or.inl ⟨by rfl, ?_⟩) (by assumption) ?_
  rotate_left
  · intro w hSw; (try dsimp only at hSw); go_simp; (try (with_reducible rfl))
  try simp only [Act.put, List.setIfInBounds_toArray, List.set_cons_zero, List.set_cons_succ]
  refine wpAnyH_take (i := 62) (oi := ⟨_, _, _, _, _, _⟩) (v := ?_) rfl (by kernel_rfl) (by kernel_rfl) (by kernel_rfl) (fun _ _ _ h => h) (Or.inl ⟨by rfl, ?_⟩) (by assumption) ?_
  rotate_left
  · intro w hSw; (try dsimp only at hSw); go_simp; (try (with_reducible rfl))
  try simp only [Act.put, List.setIfInBounds_toArray, List.set_cons_zero, List.set_cons_succ]
  refine wpAnyH_ready (rs := [63]) (by kernel_rfl) (by simp) ?_
  refine AllReadyH.cons (o := ⟨_, _, _, _, _, _⟩) rfl (fun K hK => ?_) AllReadyH.nil
  go_simp
  clear hHeld
  have kk := agree_any (E5.below (show Below w5.heap.size w5 w5.drew from (Below.refl _ _).drew)) (EB5.below (show Below w5.heap.size w5 w5.drew from (Below.refl _ _).drew)) tg
  rw [sm_a1] at kk
  refine kk.mono ?_
  rintro e w6 ⟨rfl, hb6⟩
  clear kk
  have c6 : Below w5.heap.size w5 w6 := below2 (show Below w5.heap.size w5 w5.drew from (Below.refl _ _).drew) hb6
  refine hK.out _ _ (HS.out _ c6) (fun hHeld => ?_)
  clear hK K
  try simp only [Act.put, List.setIfInBounds_toArray, List.set_cons_zero, List.set_cons_succ]
  refine wpAnyH_take (i := 64) (oi := ⟨_, _, _, _, _, _⟩) (v := ?_) rfl (by kernel_rfl) (by kernel_rfl) (by kernel_rfl) (fun _ _ _ h => h) (Or.inl ⟨by rfl, ?_⟩) (by assumption) ?_
  rotate_left
  · intro w hSw; (try dsimp only at hSw); go_simp; (try (with_reducible rfl))
  try simp only [Act.put, List.setIfInBounds_toArray, List.set_cons_zero, List.set_cons_succ]
  refine wpAnyH_take (i := 65) (oi := ⟨_, _, _, _, _, _⟩) (v := ?_) rfl (by kernel_rfl) (by kernel_rfl) (by kernel_rfl) (fun _ _ _ h => h) (Or.inl ⟨by rfl, ?_⟩) (by assumption) ?_
  rotate_left
  · intro w hSw; (try dsimp only at hSw); go_simp; (try (with_reducible rfl))
  try simp only [Act.put, List.setIfInBounds_toArray, List.set_cons_zero, List.set_cons_succ]
  refine wpAnyH_take (i := 66) (oi := ⟨_, _, _, _, _, _⟩) (v := ?_) rfl (by kernel_rfl) (by kernel_rfl) (by kernel_rfl) (fun _ _ _ h => h) (Or.inl ⟨by rfl, ?_⟩) (by assumption) ?_
  rotate_left
  · intro w hSw; (try dsimp only at hSw); go_simp; (try (with_reducible rfl))
  try simp only [Act.put, List.setIfInBounds_toArray, List.set_cons_zero, List.set_cons_succ]
  refine wpAnyH_take (i := 67) (oi := ⟨_, _, _, _, _, _⟩) (v := ?_) rfl (by kernel_rfl) (by kernel_rfl) (by kernel_rfl) (fun _ _ _ h => h) (Or.inl ⟨by rfl, ?_⟩) (by assumption) ?_
  rotate_left
  · intro w hSw; (try dsimp only at hSw); go_simp; (try (with_reducible rfl))
  try simp only [Act.put, List.setIfInBounds_toArray, List.set_cons_zero, List.set_cons_succ]
  refine wpAnyH_ready (rs := [68]) (by kernel_rfl) (by simp) ?_
  refine AllReadyH.cons (o := ⟨_, _, _, _, _, _⟩) rfl (fun K hK => ?_) AllReadyH.nil
  go_simp
  clear hHeld
  have kk := agree_any (E5.below c6) (EB5.below c6) tf
  rw [sm_a2] at kk
  refine kk.mono ?_
  rintro e w7 ⟨rfl, hb7⟩
  clear kk
  have c7 : Below w5.heap.size w5 w7 := below2 c6 hb7
  refine hK.out _ _ (HS.out _ c7) (fun hHeld => ?_)
  clear hK K
  try simp only [Act.put, List.setIfInBounds_toArray, List.set_cons_zero, List.set_cons_succ]
  refine wpAnyH_take (i := 69) (oi := ⟨_, _, _, _, _, _⟩) (v := ?_) rfl (by kernel_rfl) (by kernel_rfl) (by kernel_rfl) (fun _ _ _ h => h) (Or.inl ⟨by rfl, ?_⟩) (by assumption) ?_
  rotate_left
  · intro w hSw; (try dsimp only at hSw); go_simp; (try (with_reducible rfl))
  try simp only [Act.put, List.setIfInBounds_toArray, List.set_cons_zero, List.set_cons_succ]
  refine wpAnyH_take (i := 70) (oi := ⟨_, _, _, _, _, _⟩) (v := ?_) rfl (by kernel_rfl) (by kernel_rfl) (by kernel_rfl) (fun _ _ _ h => h) (Or.inl ⟨by rfl, ?_⟩) (by assumption) ?_
  rotate_left
  · intro w hSw; (try dsimp only at hSw); go_simp; (try (with_reducible rfl))
  try simp only [Act.put, List.setIfInBounds_toArray, List.set_cons_zero, List.set_cons_succ]
  refine wpAnyH_take (i := 71) (oi := ⟨_, _, _, _, _, _⟩) (v := ?_) rfl (by kernel_rfl) (by kernel_rfl) (by kernel_rfl) (fun _ _ _ h => h) (Or.inl ⟨by rfl, ?_⟩) (by assumption) ?_
  rotate_left
  · intro w hSw; (try dsimp only at hSw); go_simp; (try (with_reducible rfl))
  try simp only [Act.put, List.setIfInBounds_toArray, List.set_cons_zero, List.set_cons_succ]
  refine wpAnyH_take (i := 72) (oi := ⟨_, _, _, _, _, _⟩) (v := ?_) rfl (by kernel_rfl) (by kernel_rfl) (by kernel_rfl) (fun _ _ _ h => h) (Or.inl ⟨by rfl, ?_⟩) (by assumption) ?_
  rotate_left
  · intro w hSw; (try dsimp only at hSw); go_simp; (try (with_reducible rfl))
  try simp only [Act.put, List.setIfInBounds_toArray, List.set_cons_zero, List.set_cons_succ]
  refine wpAnyH_take (i := 73) (oi := ⟨_, _, _, _, _, _⟩) (v := ?_) rfl (by kernel_rfl) (by kernel_rfl) (by kernel_rfl) (fun _ _ _ h => h) (Or.inl ⟨by rfl, ?_⟩) (by assumption) ?_
  rotate_left
  · intro w hSw; (try dsimp only at hSw); go_simp; (try (with_reducible rfl))
  try simp only [Act.put, List.setIfInBounds_toArray, List.set_cons_zero, List.set_cons_succ]
  refine wpAnyH_ready (rs := [74]) (by kernel_rfl) (by simp) ?_
  refine AllReadyH.cons (o := ⟨_, _, _, _, _, _⟩) rfl (fun K hK => ?_) AllReadyH.nil
  go_simp
  clear hHeld
  have kk := agree_any (E5.below c7) (EB5.below c7) tx
  rw [sm_a3] at kk
  refine kk.mono ?_
  rintro e w8 ⟨rfl, hb8⟩
  clear kk
  have c8 : Below w5.heap.size w5 w8 := below2 c7 hb8
  refine hK.out _ _ (HS.out _ c8) (fun hHeld => ?_)
  clear hK K
  try simp only [Act.put, List.setIfInBounds_toArray, List.set_cons_zero, List.set_cons_succ]
  refine wpAnyH_take (i := 75) (oi := ⟨_, _, _, _, _, _⟩) (v := ?_) rfl (by kernel_rfl) (by kernel_rfl) (by kernel_rfl) (fun _ _ _ h => h) (Or.inl ⟨by rfl, ?_⟩) (by assumption) ?_
  rotate_left
  · intro w hSw; (try dsimp only at hSw); go_simp; (try (with_reducible rfl))
  try simp only [Act.put, List.setIfInBounds_toArray, List.set_cons_zero, List.set_cons_succ]
  refine wpAnyH_take (i := 76) (oi := ⟨_, _, _, _, _, _⟩) (v := ?_) rfl (by kernel_rfl) (by kernel_rfl) (by kernel_rfl) (fun _ _ _ h => h) (Or.inl ⟨by rfl, ?_⟩) (by assumption) ?_
  rotate_left
  · intro w hSw; (try dsimp only at hSw); go_simp; (try (with_reducible rfl))
  try simp only [Act.put, List.setIfInBounds_toArray, List.set_cons_zero]
  refine wpAnyH_done (by kernel_rfl) ?_ _
  have b8 := below2 b5 c8
  clear hHeld HS
  go_wp2
  go_ret
  exact ⟨rfl, b8⟩
end Go.Proofs.YtlmccjdpmhancaaGreatDoor
namespace Go.Proofs.YtlmccjdpmhancaaGreatDoor
open Go.RowKit

theorem gone_same {e : Ent} (h1 : e.has = false) (h2 : e.data = noS) : gone e = e := Ent.same rfl h1.symm h2.symm rfl rfl
theorem kept_same {e : Ent} (h1 : e.has = true) : kept e e.data = e := Ent.same rfl h1.symm rfl rfl rfl
theorem both_same : ∀ {es : List Ent}, SrtE es → (∀ e ∈ es, e.has = true ∨ e.data = noS) → bothL es (filesOf es) = es.map fun e => (e, e)
  | [], _, _ => bothL_nil
  | e :: es, hs, hd => by
    have hs' := List.pairwise_cons.1 hs
    have ih := both_same hs'.2 fun x hx => hd x (List.mem_cons_of_mem _ hx)
    rw [filesOf_cons, List.map_cons]
    cases hh : e.has with
    | true => rw [if_pos rfl, bothL_eq rfl, ih, kept_same hh]
    | false =>
      have hg : gone e = e := gone_same hh ((hd e (by simp)).resolve_left (by simp [hh]))
      rw [if_neg (by simp)]
      cases hf : filesOf es with
      | nil => rw [hf] at ih; rw [bothL_l, ih, hg]
      | cons f t =>
        have hm : f ∈ filesOf es := by rw [hf]; simp
        obtain ⟨x, hx, -, rfl⟩ := mem_files.1 hm
        have hlt := hs'.1 x hx
        rw [hf] at ih
        have h1 : ¬ e.path = ((x.path, x.data) : Fil).1 := fun h => by
          have e1 : epth e = epth x := epth_inj.2 h
          rw [e1] at hlt; exact List.lt_irrefl _ hlt
        have h2 : Op.bytesLess (pth (x.path, x.data)) (epth e) = false := less_no fun h => List.lt_asymm hlt h
        rw [bothL_gt h1 h2, ih, hg]
theorem fine_data {es : List Ent} (h : RightA es) : ∀ e ∈ es, e.has = true ∨ e.data = noS := fun e he => ((fineE_iff e).1 (h.fine e he)).2.2
theorem scan_self {es : List Ent} (h : RightA es) (a : Int) : scanN es (filesOf es) a = 0 ∧ scanA es (filesOf es) a = es ∧ scanC es (filesOf es) a = [] := by
  have hb := both_same h.srt (fine_data h)
  have hn : scanN es (filesOf es) a = 0 := by
    refine scanN_ok.2 ⟨h, (treeR_iff _).1 h.tree, ?_⟩
    rw [hb, okP, List.length_map, decide_eq_true h.few, Bool.true_and, List.all_eq_true]
    intro p hp
    obtain ⟨e, -, rfl⟩ := List.mem_map.1 hp
    simp [stuck]
  refine ⟨hn, ?_, ?_⟩
  · rw [scanA, if_pos hn, hb, outP, List.map_map]
    conv => rhs; rw [← List.map_id es]
    refine List.map_congr_left fun e _ => ?_
    simp [newE]
  · rw [scanC, if_pos hn, hb, chgP, List.map_eq_nil_iff, List.filter_eq_nil_iff]
    intro p hp
    obtain ⟨e, -, rfl⟩ := List.mem_map.1 hp
    simp

/-! ### What was scanned is right -/
theorem newE_files (a : Int) (ps : List (Ent × Ent)) : filesOf (outP a ps) = filesOf (ps.map (·.2)) := by
  induction ps with
  | nil => rfl
  | cons p ps ih =>
    rw [outP, List.map_cons, List.map_cons, filesOf_cons, filesOf_cons, newE_has, newE_path, newE_data]
    rw [outP] at ih
    rw [ih]
theorem tick_rt (l r a : Int) : 0 ≤ (tickL l r a).1 ∧ (tickL l r a).1 ≤ 1073741824 ∧ 0 ≤ (tickL l r a).2 ∧ (tickL l r a).2 ≤ 1073741824 := by
  have := tkc_le l r a
  rw [tickL_eq]
  simp only
  omega
theorem tick_pos (l r a : Int) : ¬ ((tickL l r a).1 = 0 ∧ (tickL l r a).2 = 0) := by
  unfold tickL up
  split <;> simp only <;> omega
/-- What a pair is, of a right archive and a right tree. -/
theorem pair_right {es : List Ent} {fs : List Fil} (h : RightA es) (k : RightT fs) {p : Ent × Ent} (hp : p ∈ bothL es fs) : rightL (epth p.2) = true := by
  have hP := both_pair es fs p hp
  have hpath := (both_path (x := p.2.path)).1 (List.mem_map.2 ⟨p, hp, rfl⟩)
  rcases hpath with h1 | h1
  · obtain ⟨e, he, h2⟩ := List.mem_map.1 h1
    have := h.paths e he
    unfold epth at this ⊢
    rw [← h2]; exact this
  · obtain ⟨f, hf, h2⟩ := List.mem_map.1 h1
    have := k.paths f hf
    unfold pth at this
    unfold epth
    rw [← h2]; exact this
theorem pair_new {es : List Ent} {fs : List Fil} {p : Ent × Ent} (hp : p ∈ bothL es fs) (he : p.2 = p.1) : p.1 ∈ es := by
  have hP := both_pair es fs p hp
  rcases hP.was with h | ⟨h, h2⟩
  · exact h
  · rw [he, h] at h2; cases h2
theorem scan_right {es : List Ent} {fs : List Fil} {a : Int} (hn : scanN es fs a = 0) : RightA (scanA es fs a) := by
  obtain ⟨h, k, ho⟩ := scanN_ok.1 hn
  rw [scanA, if_pos hn]
  have hsrt := both_srt es fs h.srt k.srt
  refine ⟨?_, ?_, ?_, ?_, ?_⟩
  · rw [outP, List.length_map]; exact okP_len ho
  · refine List.pairwise_map.2 (hsrt.imp fun {p q} hpq => ?_)
    unfold epth
    rw [newE_path, newE_path]; exact hpq
  · intro e he
    obtain ⟨p, hp, rfl⟩ := List.mem_map.1 he
    have := pair_right h k hp
    unfold epth at this ⊢
    rw [newE_path]; exact this
  · intro e he
    obtain ⟨p, hp, rfl⟩ := List.mem_map.1 he
    have hP := both_pair es fs p hp
    by_cases heq : p.2 = p.1
    · rw [newE_eq heq, heq]
      exact h.fine _ (pair_new hp heq)
    · rw [fineE_iff]
      have h1 := tick_rt p.1.l p.1.r a
      have h2 := tick_pos p.1.l p.1.r a
      unfold newE
      rw [if_neg heq]
      refine ⟨h1, h2, ?_⟩
      cases hh : p.2.has with
      | true => exact .inl rfl
      | false => exact .inr (hP.none hh)
  · rw [newE_files, both_files]
    exact (treeR_iff _).2 k
theorem scan_files {es : List Ent} {fs : List Fil} {a : Int} (hn : scanN es fs a = 0) : filesOf (scanA es fs a) = fs := by rw [scanA, if_pos hn, newE_files, both_files]
theorem scan_tree {es : List Ent} {fs : List Fil} {a : Int} (hn : scanN es fs a = 0) : treeE (scanA es fs a) = fs := by rw [treeE, (archR_iff _).2 (scan_right hn), if_pos rfl, scan_files hn]
/-- Scanned again nothing changed. -/
theorem scan_again {es : List Ent} {fs : List Fil} {a : Int} (hn : scanN es fs a = 0) (b : Int) : scanN (scanA es fs a) fs b = 0 ∧ scanA (scanA es fs a) fs b = scanA es fs a ∧ scanC (scanA es fs a) fs b = [] := by
  have := scan_self (scan_right hn) b
  rw [scan_files hn] at this
  exact this
theorem scan_none {es : List Ent} {fs : List Fil} {a : Int} (hn : scanN es fs a ≠ 0) : scanA es fs a = [] ∧ scanC es fs a = [] := ⟨by rw [scanA, if_neg hn], by rw [scanC, if_neg hn]⟩
end Go.Proofs.YtlmccjdpmhancaaGreatDoor
namespace Go.Proofs.YtlmccjdpmhancaaGreatDoor
open Go.RowKit

set_option maxHeartbeats 400000 in
theorem rows_same (A B : Option Addr) (n c d : Nat) (ls : List ByteArray) (w : World) (hl : ls.length = n) (hn : n ≤ 140737488355328) (ha : Rd w A (strV ls)) (hb : Rd w B (strV ls)) :
    Calls Tryz.prog 14 #[.slice A n c, .slice B n d] w fun e w' => e = .returned (.bool true) ∧ Below w.heap.size w w' := by
  have HL := hid hl
  clear hl
  go_enter Tryz.func14, Tryz.ntmps14
  go_wp2
  go_loopw [5] (fun i wr => ∃ j : Nat, j ≤ n ∧ i = .int .i64 j ∧ ∃ k, wr = w.drewN k) (fun i _ => n - (intOf i).toNat)
  case atStart => exact ⟨0, by omega, rfl, 0, rfl⟩
  case round =>
    obtain ⟨j, hj, rfl, k, rfl⟩ := hrel
    by_cases hjn : j < n
    · have hjl : j < ls.length := by rw [HL.out]; exact hjn
      obtain ⟨b, off, rfl, hc, -⟩ := ha.at_ (k := j) (by rw [strV_length]; exact hjl)
      obtain ⟨b', off', rfl, hc', -⟩ := hb.at_ (k := j) (by rw [strV_length]; exact hjl)
      have h1 : w.cell? ⟨b, off + j, none⟩ = some (.string ls[j]) := by rw [hc]; simp [strV]
      have h2 : w.cell? ⟨b', off' + j, none⟩ = some (.string ls[j]) := by rw [hc']; simp [strV]
      clear hc hc'
      generalize ls[j] = x at *
      have hz : (0 : Int) ≤ j := by omega
      have hlt : (j : Int) < n := by omega
      go_wp2_with fail
      go_quiet (fail)
      go_wp2
      go_roundw
      case rel => exact ⟨j + 1, by omega, by go_num, _, rfl⟩
      case measure => simp [intOf]; omega
    · have e : n = j := by omega
      subst e
      go_wp2
      go_ret
      exact ⟨rfl, by exact ⟨rfl, rfl, rfl, Nat.le_refl _, fun _ _ => rfl⟩⟩
end Go.Proofs.YtlmccjdpmhancaaGreatDoor
namespace Go.Proofs.YtlmccjdpmhancaaGreatDoor
open Go.RowKit

theorem odd_succ (a : Int) : odd (wrap64 (a + 1)) = !odd a := by
  rw [Bool.eq_iff_iff]
  unfold odd wrap64
  simp only [bne_iff_ne, Bool.not_eq_true', bne_eq_false_iff_eq]
  omega
def mineE (au : Int) (e : Ent) : Int := mineI (cl e.l) (cl e.r) au
def sumM (au : Int) (es : List Ent) : Int := es.foldr (fun e s => mineE au e + s) 0
theorem sumM_cons (au : Int) (e : Ent) (es : List Ent) : sumM au (e :: es) = mineE au e + sumM au es := rfl
theorem sumM_append (au : Int) (a b : List Ent) : sumM au (a ++ b) = sumM au a + sumM au b := by
  induction a with
  | nil => simp [sumM]
  | cons e a ih => rw [List.cons_append, sumM_cons, sumM_cons, ih]; omega
theorem sumM_more (au : Int) (es : List Ent) (j : Nat) (h : j < es.length) : sumM au (es.take (j + 1)) = sumM au (es.take j) + mineE au es[j] := by
  rw [List.take_add_one, List.getElem?_eq_getElem h, sumM_append]
  simp [sumM]
theorem mineE_le (au : Int) (e : Ent) : 0 ≤ mineE au e ∧ mineE au e ≤ 1073741824 := by
  unfold mineE mineI
  have := cl_le e.l
  have := cl_le e.r
  split <;> omega
theorem sumM_le (au : Int) (es : List Ent) : 0 ≤ sumM au es ∧ sumM au es ≤ es.length * 1073741824 := by
  induction es with
  | nil => simp [sumM]
  | cons e es ih => rw [sumM_cons]; have := mineE_le au e; simp only [List.length_cons]; omega
theorem mine_new {a au : Int} {p : Ent × Ent} (h4 : 0 ≤ p.1.l ∧ p.1.l ≤ 1073741824 ∧ 0 ≤ p.1.r ∧ p.1.r ≤ 1073741824) (hs : stuck a p = false) :
    mineE au (newE a p) = mineE au p.1 + (if p.2 = p.1 then 0 else if odd au = odd a then 1 else 0) := by
  by_cases he : p.2 = p.1
  · rw [newE_eq he, he, if_pos rfl]; omega
  · rw [if_neg he]
    unfold stuck at hs
    rw [decide_eq_false he] at hs
    simp only [Bool.not_false, Bool.true_and, decide_eq_false_iff_not] at hs
    have hs' : (tickL p.1.l p.1.r a).1 = p.1.l → (tickL p.1.l p.1.r a).2 ≠ p.1.r := fun h1 h2 => hs (Prod.ext h1 h2)
    clear hs
    unfold newE mineE mineI
    rw [if_neg he]
    unfold tickL at hs' ⊢
    generalize odd a = oa at *
    generalize odd au = ob at *
    cases oa <;> cases ob <;> simp only [if_true, if_false, Bool.false_eq_true, reduceCtorEq] at hs' ⊢ <;> unfold up cl at * <;> omega
theorem sum_new {a au : Int} {ps : List (Ent × Ent)} (h4 : ∀ p ∈ ps, 0 ≤ p.1.l ∧ p.1.l ≤ 1073741824 ∧ 0 ≤ p.1.r ∧ p.1.r ≤ 1073741824) (hs : ∀ p ∈ ps, stuck a p = false) :
    sumM au (outP a ps) = sumM au (ps.map (·.1)) + (if odd au = odd a then ((chgP ps).length : Int) else 0) := by
  induction ps with
  | nil => simp [outP, chgP, sumM]
  | cons p ps ih =>
    have ih := ih (fun x hx => h4 x (List.mem_cons_of_mem _ hx)) (fun x hx => hs x (List.mem_cons_of_mem _ hx))
    have h1 := mine_new (au := au) (h4 p (by simp)) (hs p (by simp))
    have e1 : outP a (p :: ps) = newE a p :: outP a ps := rfl
    have e2 : ((chgP (p :: ps)).length : Int) = (if p.2 = p.1 then 0 else 1) + ((chgP ps).length : Int) := by
      unfold chgP
      rw [List.filter_cons]
      by_cases he : p.2 = p.1
      · simp [he]
      · simp [he]; omega
    rw [e1, sumM_cons, ih, h1, List.map_cons, sumM_cons, e2]
    by_cases he : p.2 = p.1 <;> by_cases ho : odd au = odd a <;> simp only [he, ho, if_true, if_false] <;> omega
theorem sum_old (au : Int) (es : List Ent) : sumM au (es.filter fun e => !newB e) = sumM au es := by
  induction es with
  | nil => rfl
  | cons e es ih =>
    rw [List.filter_cons]
    cases hn : newB e with
    | false => simp only [Bool.not_false, if_true]; rw [sumM_cons, sumM_cons, ih]
    | true =>
      simp only [Bool.not_true, Bool.false_eq_true, if_false]
      rw [sumM_cons, ih]
      unfold newB at hn
      rw [Bool.and_eq_true, decide_eq_true_eq, decide_eq_true_eq] at hn
      unfold mineE mineI
      rw [hn.1, hn.2, show cl 0 = 0 from rfl]
      split <;> omega
theorem fine_new {e : Ent} (h : fineE e = true) : newB e = false := by
  have := ((fineE_iff e).1 h).2.1
  unfold newB
  rw [Bool.and_eq_false_iff, decide_eq_false_iff_not, decide_eq_false_iff_not]
  omega
theorem pair_range {es : List Ent} {fs : List Fil} (h : RightA es) {p : Ent × Ent} (hp : p ∈ bothL es fs) : 0 ≤ p.1.l ∧ p.1.l ≤ 1073741824 ∧ 0 ≤ p.1.r ∧ p.1.r ≤ 1073741824 := by
  rcases (both_pair es fs p hp).was with h1 | ⟨h1, -⟩
  · exact ((fineE_iff _).1 (h.fine _ h1)).1
  · rw [h1]; simp [fresh]
theorem okP_free {a : Int} {ps : List (Ent × Ent)} (h : okP a ps = true) : ∀ p ∈ ps, stuck a p = false := by
  unfold okP at h
  rw [Bool.and_eq_true, List.all_eq_true] at h
  intro p hp
  simpa using h.2 p hp
theorem scan_sums {es : List Ent} {fs : List Fil} {a : Int} (hn : scanN es fs a = 0) (au : Int) : sumM au (scanA es fs a) - sumM au es = if odd au = odd a then ((scanC es fs a).length : Int) else 0 := by
  obtain ⟨h, k, ho⟩ := scanN_ok.1 hn
  have h1 := sum_new (au := au) (fun p hp => pair_range h hp) (okP_free ho)
  have h2 := both_was es fs fun e he => fine_new (h.fine e he)
  have h3 := sum_old au ((bothL es fs).map (·.1))
  rw [h2] at h3
  rw [scanA, scanC, if_pos hn, if_pos hn, h1, h3]
  omega
end Go.Proofs.YtlmccjdpmhancaaGreatDoor
namespace Go.Proofs.YtlmccjdpmhancaaGreatDoor
open Go.RowKit

theorem SrtP.one {ps : List (Ent × Ent)} (h : SrtP ps) {p q : Ent × Ent} (hp : p ∈ ps) (hq : q ∈ ps) (e : p.2.path = q.2.path) : p = q := by
  obtain ⟨i, hi, rfl⟩ := List.mem_iff_getElem.1 hp
  obtain ⟨k, hk, rfl⟩ := List.mem_iff_getElem.1 hq
  have hh := List.pairwise_iff_getElem.1 h
  rcases Nat.lt_trichotomy i k with h1 | h1 | h1
  · have := hh i k hi hk h1
    unfold epth at this
    rw [e] at this; exact absurd this (List.lt_irrefl _)
  · subst h1; rfl
  · have := hh k i hk hi h1
    unfold epth at this
    rw [e] at this; exact absurd this (List.lt_irrefl _)
theorem mem_chg {ps : List (Ent × Ent)} (h : SrtP ps) {p : Ent × Ent} (hp : p ∈ ps) : p.2.path ∈ chgP ps ↔ ¬ p.2 = p.1 := by
  unfold chgP
  rw [List.mem_map]
  constructor
  · rintro ⟨q, hq, e⟩
    rw [List.mem_filter] at hq
    obtain rfl := h.one hq.1 hp e
    simpa using hq.2
  · intro hne
    exact ⟨p, List.mem_filter.2 ⟨hp, by simpa using hne⟩, rfl⟩
theorem up_lt {x : Nat} (h : x < 1073741824) : up x = x + 1 := by unfold up; omega
theorem up_max {x : Nat} (h : ¬ x < 1073741824) (h2 : x ≤ 1073741824) : up x = x := by unfold up; omega
theorem ord_tick {l r a : Int} (h : 0 ≤ l ∧ l ≤ 1073741824 ∧ 0 ≤ r ∧ r ≤ 1073741824) (hs : (tickL l r a).1 = l → (tickL l r a).2 ≠ r) : ordI (cl l) (cl r) (cl (tickL l r a).1) (cl (tickL l r a).2) = 1 := by
  obtain ⟨x, rfl⟩ : ∃ x : Nat, l = x := ⟨l.toNat, by omega⟩
  obtain ⟨y, rfl⟩ : ∃ y : Nat, r = y := ⟨r.toNat, by omega⟩
  have hx : x ≤ 1073741824 := by omega
  have hy : y ≤ 1073741824 := by omega
  unfold tickL at hs ⊢
  rw [cl_nat hx, cl_nat hy] at *
  cases ho : odd a with
  | true =>
    rw [ho] at hs
    simp only [if_true] at hs ⊢
    rw [cl_nat hx, cl_nat (up_le y)]
    by_cases hlt : y < 1073741824
    · rw [up_lt hlt]; unfold ordI; rw [if_neg (by omega), if_pos (by omega)]
    · rw [up_max hlt hy] at hs; exact absurd rfl (hs trivial)
  | false =>
    rw [ho] at hs
    simp only [Bool.false_eq_true, if_false] at hs ⊢
    rw [cl_nat hy, cl_nat (up_le x)]
    by_cases hlt : x < 1073741824
    · rw [up_lt hlt]; unfold ordI; rw [if_neg (by omega), if_pos (by omega)]
    · rw [up_max hlt hx] at hs; exact absurd rfl (hs rfl)
def inC (p : ByteArray) (l : List ByteArray) : Bool := l.any fun s => decide (s = p)
theorem inC_iff {p : ByteArray} {l : List ByteArray} : inC p l = true ↔ p ∈ l := by
  unfold inC
  rw [List.any_eq_true]
  constructor
  · rintro ⟨s, hs, h⟩
    rw [decide_eq_true_eq] at h
    rw [← h]; exact hs
  · exact fun h => ⟨p, h, decide_eq_true rfl⟩
theorem inC_no {p : ByteArray} {l : List ByteArray} (h : ¬ p ∈ l) : inC p l = false := not_true fun e => h (inC_iff.1 e)
/-- What a scan did at the i-th path. -/
inductive KeepsAt (es : List Ent) (e : Ent) (ch : Bool) (k : Int) : Prop
  | same (hc : ch = false) (j : Nat) (hj : j < es.length) (hk : k = j) (he : es[j] = e)
  | fresh (hc : ch = true) (hk : k = -1)
  | turned (hc : ch = true) (j : Nat) (hj : j < es.length) (hk : k = j) (hd : ¬ (es[j].has = e.has ∧ es[j].data = e.data)) (ho : ordI (cl es[j].l) (cl es[j].r) (cl e.l) (cl e.r) = 1)
theorem scan_at {es : List Ent} {fs : List Fil} {a : Int} (hn : scanN es fs a = 0) {i : Nat} (hi : i < (scanA es fs a).length) :
    KeepsAt es (scanA es fs a)[i] (inC (scanA es fs a)[i].path (scanC es fs a)) (findE es (scanA es fs a)[i].path) := by
  obtain ⟨h, k, ho⟩ := scanN_ok.1 hn
  have hsrt := both_srt es fs h.srt k.srt
  have hA : scanA es fs a = (bothL es fs).map (newE a) := by rw [scanA, if_pos hn]; rfl
  have hC : scanC es fs a = chgP (bothL es fs) := by rw [scanC, if_pos hn]
  have hi' : i < (bothL es fs).length := by rw [hA, List.length_map] at hi; exact hi
  obtain ⟨p, hpe⟩ : ∃ p, (bothL es fs)[i] = p := ⟨_, rfl⟩
  have hp : p ∈ bothL es fs := by rw [← hpe]; exact List.getElem_mem hi'
  have he : (scanA es fs a)[i] = newE a p := by
    simp only [hA, List.getElem_map, hpe]
  rw [he, hC, newE_path]
  have hP := both_pair es fs p hp
  have hF : findE es p.2.path = idxE es p.2.path := by unfold findE; rw [(archR_iff es).2 h]; rfl
  rw [hF]
  -- whatever the archive has at that path was there
  have hwas : ∀ (j : Nat) (hj : j < es.length), es[j].path = p.2.path → es[j] = p.1 := by
    intro j hj hpj
    have hm : es[j] ∈ ((bothL es fs).map (·.1)).filter (fun e => !newB e) := by
      rw [both_was es fs fun e he => fine_new (h.fine e he)]; exact List.getElem_mem hj
    obtain ⟨q, hq, e⟩ := List.mem_map.1 (List.mem_filter.1 hm).1
    have hQ := both_pair es fs q hq
    have : q = p := hsrt.one hq hp (by rw [hQ.path, e]; exact hpj)
    rw [← e, this]
  by_cases heq : p.2 = p.1
  · have hin := pair_new hp heq
    obtain ⟨j, hj, hje⟩ := List.mem_iff_getElem.1 hin
    have hk := idxE_srt h.srt hj
    rw [hje, ← hP.path] at hk
    exact .same (inC_no fun hm => (mem_chg hsrt hp).1 hm heq) j hj hk (by rw [newE_eq heq, hje, heq])
  · have hch : inC p.2.path (chgP (bothL es fs)) = true := inC_iff.2 ((mem_chg hsrt hp).2 heq)
    rcases idxE_cases es p.2.path with ⟨h1, -⟩ | ⟨j, hj, h1, h2⟩
    · exact .fresh hch h1
    · have hjp := hwas j hj h2
      refine .turned hch j hj h1 ?_ ?_
      · rw [hjp, newE_has, newE_data]
        rintro ⟨x1, x2⟩
        exact heq (Ent.same hP.path x1.symm x2.symm hP.cl hP.cr)
      · rw [hjp]
        have hr := pair_range h hp
        have hs := okP_free ho p hp
        unfold stuck at hs
        rw [decide_eq_false heq] at hs
        simp only [Bool.not_false, Bool.true_and, decide_eq_false_iff_not] at hs
        have hs' : (tickL p.1.l p.1.r a).1 = p.1.l → (tickL p.1.l p.1.r a).2 ≠ p.1.r := fun h1 h2 => hs (Prod.ext h1 h2)
        clear hs
        unfold newE
        rw [if_neg heq]
        exact ord_tick hr hs'
theorem scan_more {es : List Ent} {fs : List Fil} {a : Int} (hn : scanN es fs a = 0) : es.length ≤ (scanA es fs a).length := by
  obtain ⟨h, -, -⟩ := scanN_ok.1 hn
  have := both_was es fs fun e he => fine_new (h.fine e he)
  rw [scanA, if_pos hn, outP, List.length_map]
  have h1 : (((bothL es fs).map (·.1)).filter (fun e => !newB e)).length ≤ ((bothL es fs).map (·.1)).length := List.length_filter_le _ _
  rw [this, List.length_map] at h1
  exact h1
theorem scan_chgs {es : List Ent} {fs : List Fil} {a : Int} (hn : scanN es fs a = 0) : sortedL (lst (scanC es fs a)) = true := by
  obtain ⟨h, k, ho⟩ := scanN_ok.1 hn
  have hsrt := both_srt es fs h.srt k.srt
  rw [scanC, if_pos hn]
  have e : lst (chgP (bothL es fs)) = ((bothL es fs).filter fun p => !decide (p.2 = p.1)).map fun p => epth p.2 := by
    unfold lst chgP
    rw [List.map_map]
    rfl
  rw [e]
  refine srt_mk ?_ ?_
  · intro s hs
    obtain ⟨p, hp, rfl⟩ := List.mem_map.1 hs
    exact pair_right h k (List.mem_filter.1 hp).1
  · exact List.pairwise_map.2 (List.Pairwise.filter _ hsrt)
theorem scanC_sz {es : List Ent} {fs : List Fil} (a : Int) (h1 : ∀ e ∈ es, SzE e) (h2 : ∀ f ∈ fs, SzF f) : ∀ s ∈ scanC es fs a, s.size < 4294967281 := by
  intro s hs
  unfold scanC at hs
  split at hs
  · unfold chgP at hs
    obtain ⟨p, hp, rfl⟩ := List.mem_map.1 hs
    exact (both_sz h1 h2 p (List.mem_filter.1 hp).1).1
  · cases hs
end Go.Proofs.YtlmccjdpmhancaaGreatDoor
