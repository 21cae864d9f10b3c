/- The small case. -/
import Derived.Test.YtnkkjedckehoaaaDoorSk
namespace Go.Proofs.YtnkkjedckehoaaaDoor
open Go.RowKit

set_option maxRecDepth 20000 in
set_option maxHeartbeats 4000000 in
theorem small_any (w : World) : Calls Tryd.prog 9 #[] w fun e w' => e = .returned (.bool true) ∧ Below w.heap.size w w' := by
  have k1 : ∀ w, _ := fun w => scan_val (et_nil (w.alloc (.cells #[.string sa, .string s1] 53))) (ft_one w sa s1 (by decide) (by decide)) 0 smA1 (show L1.length = 1 from rfl) smC1 (show _ = 1 from rfl) (show _ = 0 by rw [smN1]; rfl)
  go_enter Tryd.func9, Tryd.ntmps9
  go_wp2_with fail
  refine (k1 _).mono ?_
  rintro e w1 ⟨A1, c1, B1, d1, rfl, E1, -, hb1⟩
  have b1 := below_new _ hb1
  clear hb1 k1
  have k2 := scan_val (E1.below ((Below.refl _ _).alloc (Nat.le_refl _) _)) (ft_one w1 sb noS (by decide) (by decide)) 1 smA2 (show L2.length = 2 from rfl) smC2 (show _ = 2 from rfl) (show _ = 0 by rw [smN2]; rfl)
  go_wp2_with fail
  refine k2.mono ?_
  rintro e w2 ⟨A2, c2, B2, d2, rfl, E2, -, hb2⟩
  have E1' := (E1.below ((Below.refl _ _).alloc (Nat.le_refl _) _)).below hb2
  have b2 := below2 b1 (below_new _ hb2)
  clear hb2 k2 E1 b1
  have k3 := scan_val (E2.below ((Below.refl _ _).alloc (Nat.le_refl _) _)) (ft_one w2 sb noS (by decide) (by decide)) 0 smA3 (show L2.length = 2 from rfl) smC3 (show _ = 0 from rfl) (show _ = 0 by rw [smN3]; rfl)
  go_wp2_with fail
  refine k3.mono ?_
  rintro e w3 ⟨A3, c3, B3, d3, rfl, E3, -, hb3⟩
  have E1 := (E1'.below ((Below.refl _ _).alloc (Nat.le_refl _) _)).below hb3
  have E2' := (E2.below ((Below.refl _ _).alloc (Nat.le_refl _) _)).below hb3
  have b3 := below2 b2 (below_new _ hb3)
  clear hb3 k3 E1' E2 b2
  obtain ⟨g1, o1, rfl, x0, x1, x2, x3, x4, -⟩ := E1.rd.ent (j := 0) (by decide)
  obtain ⟨g2, o2, rfl, y0, y1, y2, y3, y4, -⟩ := E2'.rd.ent (j := 0) (by decide)
  simp only [List.getElem_cons_zero, Nat.zero_mul, Nat.add_zero] at x0 x1 x2 x3 x4 y0 y1 y2 y3 y4
  have q1 := eqE ⟨sa, true, s1, 1, 0⟩ ⟨sa, true, s1, 1, 0⟩
  have q2 := eqE ⟨sa, false, noS, 1, 1⟩ ⟨sa, false, noS, 1, 1⟩
  rw [decide_eq_true rfl] at q1 q2
  have hsm := sameE_any (c := c2) (d := c3) E2'.len E2'.rd E3.len E3.rd (by omega)
  rw [decide_eq_true rfl] at hsm
  go_wp2_with fail
  refine hsm.mono ?_
  rintro e w4 ⟨rfl, hb4⟩
  have E4 := E2'.below hb4
  have b4 := below2 b3 hb4
  clear hb4 hsm E2' b3 x0 x1 x2 x3 x4 y0 y1 y2 y3 y4 E1 E3
  have k5 := findE_any E4 sb
  rw [smF2] at k5
  go_wp2_with fail
  refine k5.mono ?_
  rintro e w5 ⟨rfl, hb5⟩
  have E5 := E4.below hb5
  have b5 := below2 b4 hb5
  clear k5 hb5 E4 b4
  have k6 := treeE_any E5
  rw [smT2] at k6
  go_wp2_with fail
  refine k6.mono ?_
  rintro e w6 ⟨B6, d6, rfl, -, hb6⟩
  have E6 := E5.below hb6
  have b6 := below2 b5 hb6
  clear k6 hb6 E5 b5
  have k7 := archR_any E6
  rw [smR2] at k7
  go_wp2_with fail
  refine k7.mono ?_
  rintro e w7 ⟨rfl, hb7⟩
  have E7 := E6.below hb7
  have b7 := below2 b6 hb7
  clear k7 hb7 E6 b6
  have E8 : Et (w7.alloc (.cells #[.string sa, .bool true, .string ⟨#[]⟩, .int .i64 0, .int .i64 0] 37)) (some ⟨w7.heap.size, 0, none⟩) 1 1 [⟨sa, true, noS, 0, 0⟩] := ⟨rfl, (Blk.new w7 [.string sa, .bool true, .string ⟨#[]⟩, .int .i64 0, .int .i64 0] 37).rd, Nat.le_refl _, by omega, by omega, by simp; decide⟩
  have k8 := archR_any E8
  rw [smR4] at k8
  go_wp2_with fail
  refine k8.mono ?_
  rintro e w8 ⟨rfl, hb8⟩
  have E9 := (E7.below ((Below.refl _ _).alloc (Nat.le_refl _) _)).below hb8
  have b8 := below2 b7 (below_new _ hb8)
  clear k8 hb8 E7 b7
  go_wp2_with fail
  refine (copy_any E9).mono ?_
  rintro e w9 ⟨rfl, -, hb9⟩
  have b9 := below2 b8 hb9
  go_wp2
  go_ret
  exact ⟨rfl, b9⟩
end Go.Proofs.YtnkkjedckehoaaaDoor
