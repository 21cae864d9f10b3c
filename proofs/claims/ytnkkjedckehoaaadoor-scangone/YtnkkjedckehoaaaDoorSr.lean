/- ScanGone: the walk. -/
import Derived.Test.YtnkkjedckehoaaaDoorSl
import Derived.Test.YtnkkjedckehoaaaDoorSq
import Derived.Test.YtnkkjedckehoaaaDoorRs
namespace Go.Proofs.YtnkkjedckehoaaaDoor
open Go.RowKit

theorem mine_at {au : Int} {k : Nat} {h : Bool} {f : Fil} (hk : k ≤ 100) : mineI (cl (entG au k h f).l) (cl (entG au k h f).r) au = k := mine_vv (e := entG au k h f) hk rfl rfl

set_option maxRecDepth 20000 in
set_option maxHeartbeats 8000000 in
theorem scanGone_walk (B : Option Addr) (d : Nat) (fs : List Fil) (a : Int) (w : World) (hr2 : Rd w B (filV fs)) (hlc2 : fs.length ≤ d) (hc2 : d ≤ maxLen) (_ : True) (_ : (Lit.int .i64 a).wf = true) :
    Calls Tryd.prog 6 #[.slice B fs.length d, .int .i64 a] w fun e w' => e = .returned (.bool true) ∧ Below w.heap.size w w' := by
  generalize hl2 : fs.length = m at *
  go_enter Tryd.func6, Tryd.ntmps6
  go_wp2_with fail
  refine (small_any _).mono ?_
  rintro e w1 ⟨rfl, b1⟩
  go_wp2_with fail
  refine (few_any B m d fs _ hl2 (hr2.below b1)).mono ?_
  rintro e wx ⟨rfl, rfl⟩
  cases hf2 : fewB fs
  · go_wp2
    go_ret
    exact ⟨rfl, b1⟩
  have F1 := few_ft hf2 hl2 (hr2.below b1) hlc2 hc2
  clear hf2 hr2
  have k1 := tree_any F1
  cases hT : treeR fs
  · rw [hT] at k1
    go_wp2_with fail
    refine k1.mono ?_
    rintro e w2 ⟨rfl, hb2⟩
    have b2 := below2 b1 hb2
    go_wp2
    go_ret
    exact ⟨rfl, b2⟩
  rw [hT] at k1
  have hR := (treeR_iff fs).1 hT
  have HR := hid hR
  have hm16 : m ≤ 16 := by rw [← hl2]; exact hR.few
  clear hT hR
  go_wp2_with fail
  refine k1.mono ?_
  rintro e w2 ⟨rfl, hb2⟩
  have F2 := F1.below hb2
  have b2 := below2 b1 hb2
  clear hb2 b1 F1 k1
  have k2 := scan_val (et_nil w2) F2 a (gone1 HR.out a).2.1 (show _ = m by rw [List.length_map]; exact hl2) (gone1 HR.out a).2.2 (show _ = m by rw [List.length_map]; exact hl2) (show _ = 0 by rw [(gone1 HR.out a).1]; rfl)
  go_wp2_with fail
  refine k2.mono ?_
  rintro e w3 ⟨A3, c3, B3, d3, rfl, E3, R3, hb3⟩
  have F3 := F2.below hb3
  have b3 := below2 b2 hb3
  clear hb3 k2 F2 b2
  have k3 := scan_val E3 (ft_nil w3) a (gone2 HR.out a).2.1 (show _ = m by rw [List.length_map]; exact hl2) (gone2 HR.out a).2.2 (show _ = m by rw [List.length_map]; exact hl2) (show _ = 0 by rw [(gone2 HR.out a).1]; rfl)
  go_wp2_with fail
  refine k3.mono ?_
  rintro e w4 ⟨A4, c4, B4, d4, rfl, E4, R4, hb4⟩
  have F4 := F3.below hb4
  have E3' := E3.below hb4
  have R3' := R3.below hb4
  have b4 := below2 b3 hb4
  clear hb4 k3 F3 b3 E3 R3
  have k4 := scan_val E4 F4 a (gone3 HR.out a).2.1 (show _ = m by rw [List.length_map]; exact hl2) (gone3 HR.out a).2.2 (show _ = m by rw [List.length_map]; exact hl2) (show _ = 0 by rw [(gone3 HR.out a).1]; rfl)
  go_wp2_with fail
  refine k4.mono ?_
  rintro e w5 ⟨A5, c5, B5, d5, rfl, E5, R5, hb5⟩
  have F5 := F4.below hb5
  have E3 := E3'.below hb5
  have R3 := R3'.below hb5
  have E4' := E4.below hb5
  have R4' := R4.below hb5
  have b5 := below2 b4 hb5
  clear hb5 k4 F4 b4 E3' R3' E4 R4
  have k5 := treeE_any E4'
  rw [gone2_tree HR.out a] at k5
  go_wp2_with fail
  refine k5.mono ?_
  rintro e w6 ⟨B6, d6, rfl, -, hb6⟩
  have F6 := F5.below hb6
  have E36 := E3.below hb6
  have R36 := R3.below hb6
  have E46 := E4'.below hb6
  have R46 := R4'.below hb6
  have E56 := E5.below hb6
  have R56 := R5.below hb6
  have b6 := below2 b5 hb6
  clear hb6 k5 F5 b5 E3 R3 E4' R4' E5 R5
  have r3 := E36.rd
  have r4 := E46.rd
  have r5 := E56.rd
  have HLm := hid hl2
  clear hl2
  go_wp2_with fail
  go_loopw [16] (fun i wr => ∃ j : Nat, j ≤ m ∧ i = .int .i64 j ∧ Below w6.heap.size w6 wr) (fun i _ => m - (intOf i).toNat)
  case atStart => exact ⟨0, by omega, rfl, Below.refl _ _⟩
  case round =>
    obtain ⟨j, hj, rfl, hb⟩ := hrel
    by_cases hjn : j < m
    · have hjl : j < fs.length := by rw [HLm.out]; exact hjn
      obtain ⟨ba, oa, rfl, -, -, x2, -⟩ := (r3.below hb).ent (j := j) (by rw [List.length_map]; exact hjl)
      obtain ⟨bb, ob, rfl, -, y1, y2, y3, y4, hbb⟩ := (r4.below hb).ent (j := j) (by rw [List.length_map]; exact hjl)
      obtain ⟨bc, oc, rfl, -, -, z2, z3, z4, hbc⟩ := (r5.below hb).ent (j := j) (by rw [List.length_map]; exact hjl)
      have hba := World.block_lt_of_cell? _ _ x2
      simp only [List.getElem_map] at x2 y1 y2 y3 y4 z2 z3 z4
      have HK2 := hid (@mine_at a 2 false fs[j] (by omega))
      have HK3 := hid (@mine_at a 3 true fs[j] (by omega))
      have c2 := fun W => mine_any (cl_le (entG a 2 false fs[j]).l) (cl_le (entG a 2 false fs[j]).r) a W
      have c3' := fun W => mine_any (cl_le (entG a 3 true fs[j]).l) (cl_le (entG a 3 true fs[j]).r) a W
      rw [HK2.out] at c2
      rw [HK3.out] at c3'
      rw [show (entG a 1 true fs[j]).data = fs[j].2 from rfl] at x2
      rw [show (entG a 3 true fs[j]).data = fs[j].2 from rfl] at z2
      rw [show (entG a 2 false fs[j]).has = false from rfl] at y1
      rw [show (entG a 2 false fs[j]).data = noS from rfl] at y2
      generalize (entG a 2 false fs[j]).l = l2 at *
      generalize (entG a 2 false fs[j]).r = q2 at *
      generalize (entG a 3 true fs[j]).l = l3 at *
      generalize (entG a 3 true fs[j]).r = q3 at *
      generalize fs[j].2 = dat at *
      clear HK2 HK3
      have hz : (0 : Int) ≤ j := by omega
      have hlt : (j : Int) < m := by omega
      go_wp2_with fail
      have b0' : Below wr.heap.size wr wr.drew := ⟨rfl, rfl, rfl, Nat.le_refl _, fun _ _ => rfl⟩
      refine wp_region_held_drew (S := fun w' => w'.cell? ⟨ba, oa + j * 5 + 2, none⟩ = some (.string dat) ∧ w'.cell? ⟨bb, ob + j * 5 + 1, none⟩ = some (.bool false) ∧ w'.cell? ⟨bb, ob + j * 5 + 2, none⟩ = some (.string noS) ∧ w'.cell? ⟨bb, ob + j * 5 + 3, none⟩ = some (.int .i64 l2) ∧ w'.cell? ⟨bb, ob + j * 5 + 4, none⟩ = some (.int .i64 q2) ∧ w'.cell? ⟨bc, oc + j * 5 + 2, none⟩ = some (.string dat) ∧ w'.cell? ⟨bc, oc + j * 5 + 3, none⟩ = some (.int .i64 l3) ∧ w'.cell? ⟨bc, oc + j * 5 + 4, none⟩ = some (.int .i64 q3)) (by kernel_rfl) ⟨(b0'.cell (p := ⟨ba, oa + j * 5 + 2, none⟩) hba).trans x2, (b0'.cell (p := ⟨bb, ob + j * 5 + 1, none⟩) hbb).trans y1, (b0'.cell (p := ⟨bb, ob + j * 5 + 2, none⟩) hbb).trans y2, (b0'.cell (p := ⟨bb, ob + j * 5 + 3, none⟩) hbb).trans y3, (b0'.cell (p := ⟨bb, ob + j * 5 + 4, none⟩) hbb).trans y4, (b0'.cell (p := ⟨bc, oc + j * 5 + 2, none⟩) hbc).trans z2, (b0'.cell (p := ⟨bc, oc + j * 5 + 3, none⟩) hbc).trans z3, (b0'.cell (p := ⟨bc, oc + j * 5 + 4, none⟩) hbc).trans z4⟩ (fun hHeld => ?_)
      refine wpAnyH_take (i := 0) (oi := ⟨_, _, _, _, _, _⟩) (v := ?_) rfl (by kernel_rfl) (by kernel_rfl) (by kernel_rfl) (fun _ _ _ h => h) (Or.inl ⟨by rfl, ?_⟩) (by assumption) ?_
      rotate_left
      · intro w hSw; (try dsimp only at hSw); go_simp; (try (with_reducible rfl))
      try simp only [Act.put, List.setIfInBounds_toArray, List.set_cons_zero, List.set_cons_succ]
      refine wpAnyH_take (i := 1) (oi := ⟨_, _, _, _, _, _⟩) (v := ?_) rfl (by kernel_rfl) (by kernel_rfl) (by kernel_rfl) (fun _ _ _ h => h) (Or.inl ⟨by rfl, ?_⟩) (by assumption) ?_
      rotate_left
      · intro w hSw; (try dsimp only at hSw); go_simp; (try (with_reducible rfl))
      try simp only [Act.put, List.setIfInBounds_toArray, List.set_cons_zero, List.set_cons_succ]
      refine wpAnyH_take (i := 2) (oi := ⟨_, _, _, _, _, _⟩) (v := ?_) rfl (by kernel_rfl) (by kernel_rfl) (by kernel_rfl) (fun _ _ _ h => h) (Or.inl ⟨by rfl, ?_⟩) (by assumption) ?_
      rotate_left
      · intro w hSw; (try dsimp only at hSw); go_simp; (try (with_reducible rfl))
      try simp only [Act.put, List.setIfInBounds_toArray, List.set_cons_zero, List.set_cons_succ]
      refine wpAnyH_take (i := 3) (oi := ⟨_, _, _, _, _, _⟩) (v := ?_) rfl (by kernel_rfl) (by kernel_rfl) (by kernel_rfl) (fun _ _ _ h => h) (Or.inl ⟨by rfl, ?_⟩) (by assumption) ?_
      rotate_left
      · intro w hSw; (try dsimp only at hSw); go_simp; (try (with_reducible rfl))
      try simp only [Act.put, List.setIfInBounds_toArray, List.set_cons_zero, List.set_cons_succ]
      refine wpAnyH_take (i := 4) (oi := ⟨_, _, _, _, _, _⟩) (v := ?_) rfl (by kernel_rfl) (by kernel_rfl) (by kernel_rfl) (fun _ _ _ h => h) (Or.inl ⟨by rfl, ?_⟩) (by assumption) ?_
      rotate_left
      · intro w hSw; (try dsimp only at hSw); go_simp; (try (with_reducible rfl))
      try simp only [Act.put, List.setIfInBounds_toArray, List.set_cons_zero, List.set_cons_succ]
      refine wpAnyH_take (i := 5) (oi := ⟨_, _, _, _, _, _⟩) (v := ?_) rfl (by kernel_rfl) (by kernel_rfl) (by kernel_rfl) (fun _ _ _ h => h) (Or.inl ⟨by rfl, ?_⟩) (by assumption) ?_
      rotate_left
      · intro w hSw; (try dsimp only at hSw); go_simp; (try (with_reducible rfl))
      try simp only [Act.put, List.setIfInBounds_toArray, List.set_cons_zero, List.set_cons_succ]
      refine wpAnyH_take (i := 6) (oi := ⟨_, _, _, _, _, _⟩) (v := ?_) rfl (by kernel_rfl) (by kernel_rfl) (by kernel_rfl) (fun _ _ _ h => h) (Or.inl ⟨by rfl, ?_⟩) (by assumption) ?_
      rotate_left
      · intro w hSw; (try dsimp only at hSw); go_simp; (try (with_reducible rfl))
      try simp only [Act.put, List.setIfInBounds_toArray, List.set_cons_zero, List.set_cons_succ]
      refine wpAnyH_take (i := 7) (oi := ⟨_, _, _, _, _, _⟩) (v := ?_) rfl (by kernel_rfl) (by kernel_rfl) (by kernel_rfl) (fun _ _ _ h => h) (Or.inl ⟨by rfl, ?_⟩) (by assumption) ?_
      rotate_left
      · intro w hSw; (try dsimp only at hSw); go_simp; (try (with_reducible rfl))
      try simp only [Act.put, List.setIfInBounds_toArray, List.set_cons_zero, List.set_cons_succ]
      refine wpAnyH_take (i := 8) (oi := ⟨_, _, _, _, _, _⟩) (v := ?_) rfl (by kernel_rfl) (by kernel_rfl) (by kernel_rfl) (fun _ _ _ h => h) (Or.inl ⟨by rfl, ?_⟩) (by assumption) ?_
      rotate_left
      · intro w hSw; (try dsimp only at hSw); go_simp; (try (with_reducible rfl))
      try simp only [Act.put, List.setIfInBounds_toArray, List.set_cons_zero, List.set_cons_succ]
      refine wpAnyH_take (i := 9) (oi := ⟨_, _, _, _, _, _⟩) (v := ?_) rfl (by kernel_rfl) (by kernel_rfl) (by kernel_rfl) (fun _ _ _ h => h) (Or.inl ⟨by rfl, ?_⟩) (by assumption) ?_
      rotate_left
      · intro w hSw; (try dsimp only at hSw); go_simp; (try (with_reducible rfl))
      try simp only [Act.put, List.setIfInBounds_toArray, List.set_cons_zero, List.set_cons_succ]
      refine wpAnyH_take (i := 10) (oi := ⟨_, _, _, _, _, _⟩) (v := ?_) rfl (by kernel_rfl) (by kernel_rfl) (by kernel_rfl) (fun _ _ _ h => h) (Or.inl ⟨by rfl, ?_⟩) (by assumption) ?_
      rotate_left
      · intro w hSw; (try dsimp only at hSw); go_simp; (try (with_reducible rfl))
      try simp only [Act.put, List.setIfInBounds_toArray, List.set_cons_zero, List.set_cons_succ]
      refine wpAnyH_take (i := 11) (oi := ⟨_, _, _, _, _, _⟩) (v := ?_) rfl (by kernel_rfl) (by kernel_rfl) (by kernel_rfl) (fun _ _ _ h => h) (Or.inl ⟨by rfl, ?_⟩) (by assumption) ?_
      rotate_left
      · intro w hSw; (try dsimp only at hSw); go_simp; (try (with_reducible rfl))
      try simp only [Act.put, List.setIfInBounds_toArray, List.set_cons_zero, List.set_cons_succ]
      refine wpAnyH_take (i := 12) (oi := ⟨_, _, _, _, _, _⟩) (v := ?_) rfl (by kernel_rfl) (by kernel_rfl) (by kernel_rfl) (fun _ _ _ h => h) (Or.inl ⟨by rfl, ?_⟩) (by assumption) ?_
      rotate_left
      · intro w hSw; (try dsimp only at hSw); go_simp; (try (with_reducible rfl))
      try simp only [Act.put, List.setIfInBounds_toArray, List.set_cons_zero, List.set_cons_succ]
      refine wpAnyH_take (i := 13) (oi := ⟨_, _, _, _, _, _⟩) (v := ?_) rfl (by kernel_rfl) (by kernel_rfl) (by kernel_rfl) (fun _ _ _ h => h) (Or.inl ⟨by rfl, ?_⟩) (by assumption) ?_
      rotate_left
      · intro w hSw; (try dsimp only at hSw); go_simp; (try (with_reducible rfl))
      try simp only [Act.put, List.setIfInBounds_toArray, List.set_cons_zero, List.set_cons_succ]
      refine wpAnyH_take (i := 14) (oi := ⟨_, _, _, _, _, _⟩) (v := ?_) rfl (by kernel_rfl) (by kernel_rfl) (by kernel_rfl) (fun _ _ _ h => h) (Or.inl ⟨by rfl, ?_⟩) (by assumption) ?_
      rotate_left
      · intro w hSw; (try dsimp only at hSw); go_simp; (try (with_reducible rfl))
      try simp only [Act.put, List.setIfInBounds_toArray, List.set_cons_zero, List.set_cons_succ]
      refine wpAnyH_take (i := 15) (oi := ⟨_, _, _, _, _, _⟩) (v := ?_) rfl (by kernel_rfl) (by kernel_rfl) (by kernel_rfl) (fun _ _ _ h => h) (Or.inl ⟨by rfl, ?_⟩) (by assumption) ?_
      rotate_left
      · intro w hSw; (try dsimp only at hSw); go_simp; (try (with_reducible rfl))
      try simp only [Act.put, List.setIfInBounds_toArray, List.set_cons_zero, List.set_cons_succ]
      refine wpAnyH_take (i := 16) (oi := ⟨_, _, _, _, _, _⟩) (v := ?_) rfl (by kernel_rfl) (by kernel_rfl) (by kernel_rfl) (fun _ _ _ h => h) (Or.inl ⟨by rfl, ?_⟩) (by assumption) ?_
      rotate_left
      · intro w hSw; (try dsimp only at hSw); go_simp; (try (with_reducible rfl))
      try simp only [Act.put, List.setIfInBounds_toArray, List.set_cons_zero, List.set_cons_succ]
      refine wpAnyH_take (i := 17) (oi := ⟨_, _, _, _, _, _⟩) (v := ?_) rfl (by kernel_rfl) (by kernel_rfl) (by kernel_rfl) (fun _ _ _ h => h) (Or.inl ⟨by rfl, ?_⟩) (by assumption) ?_
      rotate_left
      · intro w hSw; (try dsimp only at hSw); go_simp; (try (with_reducible rfl))
      try simp only [Act.put, List.setIfInBounds_toArray, List.set_cons_zero, List.set_cons_succ]
      refine wpAnyH_take (i := 18) (oi := ⟨_, _, _, _, _, _⟩) (v := ?_) rfl (by kernel_rfl) (by kernel_rfl) (by kernel_rfl) (fun _ _ _ h => h) (Or.inl ⟨by rfl, ?_⟩) (by assumption) ?_
      rotate_left
      · intro w hSw; (try dsimp only at hSw); go_simp; (try (with_reducible rfl))
      try simp only [Act.put, List.setIfInBounds_toArray, List.set_cons_zero, List.set_cons_succ]
      refine wpAnyH_take (i := 20) (oi := ⟨_, _, _, _, _, _⟩) (v := ?_) rfl (by kernel_rfl) (by kernel_rfl) (by kernel_rfl) (fun _ _ _ h => h) (Or.inl ⟨by rfl, ?_⟩) (by assumption) ?_
      rotate_left
      · intro w hSw; (try dsimp only at hSw); go_simp; (try (with_reducible rfl))
      try simp only [Act.put, List.setIfInBounds_toArray, List.set_cons_zero, List.set_cons_succ]
      refine wpAnyH_ready (rs := [19]) (by kernel_rfl) (by simp) ?_
      refine AllReadyH.cons (o := ⟨_, _, _, _, _, _⟩) rfl (fun K hK => ?_) AllReadyH.nil
      go_simp
      refine (of_any l2 q2 _).mono ?_
      rintro e wa ⟨rfl, hba'⟩
      have b1' := below_undrew hba'
      refine hK.out _ _ ⟨(b1'.cell (p := ⟨ba, oa + j * 5 + 2, none⟩) hba).trans x2, (b1'.cell (p := ⟨bb, ob + j * 5 + 1, none⟩) hbb).trans y1, (b1'.cell (p := ⟨bb, ob + j * 5 + 2, none⟩) hbb).trans y2, (b1'.cell (p := ⟨bb, ob + j * 5 + 3, none⟩) hbb).trans y3, (b1'.cell (p := ⟨bb, ob + j * 5 + 4, none⟩) hbb).trans y4, (b1'.cell (p := ⟨bc, oc + j * 5 + 2, none⟩) hbc).trans z2, (b1'.cell (p := ⟨bc, oc + j * 5 + 3, none⟩) hbc).trans z3, (b1'.cell (p := ⟨bc, oc + j * 5 + 4, none⟩) hbc).trans z4⟩ (fun hHeld => ?_)
      clear hK K
      try simp only [Act.put, List.setIfInBounds_toArray, List.set_cons_zero, List.set_cons_succ]
      refine wpAnyH_ready (rs := [21]) (by kernel_rfl) (by simp) ?_
      refine AllReadyH.cons (o := ⟨_, _, _, _, _, _⟩) rfl (fun K hK => ?_) AllReadyH.nil
      go_simp
      refine (c2 _).mono ?_
      rintro e wb ⟨rfl, hbb'⟩
      have b1' := below2 b1' hbb'
      refine hK.out _ _ ⟨(b1'.cell (p := ⟨ba, oa + j * 5 + 2, none⟩) hba).trans x2, (b1'.cell (p := ⟨bb, ob + j * 5 + 1, none⟩) hbb).trans y1, (b1'.cell (p := ⟨bb, ob + j * 5 + 2, none⟩) hbb).trans y2, (b1'.cell (p := ⟨bb, ob + j * 5 + 3, none⟩) hbb).trans y3, (b1'.cell (p := ⟨bb, ob + j * 5 + 4, none⟩) hbb).trans y4, (b1'.cell (p := ⟨bc, oc + j * 5 + 2, none⟩) hbc).trans z2, (b1'.cell (p := ⟨bc, oc + j * 5 + 3, none⟩) hbc).trans z3, (b1'.cell (p := ⟨bc, oc + j * 5 + 4, none⟩) hbc).trans z4⟩ (fun hHeld => ?_)
      clear hK K
      try simp only [Act.put, List.setIfInBounds_toArray, List.set_cons_zero, List.set_cons_succ]
      refine wpAnyH_take (i := 22) (oi := ⟨_, _, _, _, _, _⟩) (v := ?_) rfl (by kernel_rfl) (by kernel_rfl) (by kernel_rfl) (fun _ _ _ h => h) (Or.inl ⟨by rfl, ?_⟩) (by assumption) ?_
      rotate_left
      · intro w hSw; (try dsimp only at hSw); go_simp; (try (with_reducible rfl))
      try simp only [Act.put, List.setIfInBounds_toArray, List.set_cons_zero, List.set_cons_succ]
      refine wpAnyH_take (i := 23) (oi := ⟨_, _, _, _, _, _⟩) (v := ?_) rfl (by kernel_rfl) (by kernel_rfl) (by kernel_rfl) (fun _ _ _ h => h) (Or.inl ⟨by rfl, ?_⟩) (by assumption) ?_
      rotate_left
      · intro w hSw; (try dsimp only at hSw); go_simp; (try (with_reducible rfl))
      try simp only [Act.put, List.setIfInBounds_toArray, List.set_cons_zero, List.set_cons_succ]
      refine wpAnyH_take (i := 24) (oi := ⟨_, _, _, _, _, _⟩) (v := ?_) rfl (by kernel_rfl) (by kernel_rfl) (by kernel_rfl) (fun _ _ _ h => h) (Or.inl ⟨by rfl, ?_⟩) (by assumption) ?_
      rotate_left
      · intro w hSw; (try dsimp only at hSw); go_simp; (try (with_reducible rfl))
      try simp only [Act.put, List.setIfInBounds_toArray, List.set_cons_zero, List.set_cons_succ]
      refine wpAnyH_take (i := 25) (oi := ⟨_, _, _, _, _, _⟩) (v := ?_) rfl (by kernel_rfl) (by kernel_rfl) (by kernel_rfl) (fun _ _ _ h => h) (Or.inl ⟨by rfl, ?_⟩) (by assumption) ?_
      rotate_left
      · intro w hSw; (try dsimp only at hSw); go_simp; (try (with_reducible rfl))
      try simp only [Act.put, List.setIfInBounds_toArray, List.set_cons_zero, List.set_cons_succ]
      refine wpAnyH_take (i := 26) (oi := ⟨_, _, _, _, _, _⟩) (v := ?_) rfl (by kernel_rfl) (by kernel_rfl) (by kernel_rfl) (fun _ _ _ h => h) (Or.inl ⟨by rfl, ?_⟩) (by assumption) ?_
      rotate_left
      · intro w hSw; (try dsimp only at hSw); go_simp; (try (with_reducible rfl))
      try simp only [Act.put, List.setIfInBounds_toArray, List.set_cons_zero, List.set_cons_succ]
      refine wpAnyH_take (i := 27) (oi := ⟨_, _, _, _, _, _⟩) (v := ?_) rfl (by kernel_rfl) (by kernel_rfl) (by kernel_rfl) (fun _ _ _ h => h) (Or.inl ⟨by rfl, ?_⟩) (by assumption) ?_
      rotate_left
      · intro w hSw; (try dsimp only at hSw); go_simp; (try (with_reducible rfl))
      try simp only [Act.put, List.setIfInBounds_toArray, List.set_cons_zero, List.set_cons_succ]
      refine wpAnyH_take (i := 28) (oi := ⟨_, _, _, _, _, _⟩) (v := ?_) rfl (by kernel_rfl) (by kernel_rfl) (by kernel_rfl) (fun _ _ _ h => h) (Or.inl ⟨by rfl, ?_⟩) (by assumption) ?_
      rotate_left
      · intro w hSw; (try dsimp only at hSw); go_simp; (try (with_reducible rfl))
      try simp only [Act.put, List.setIfInBounds_toArray, List.set_cons_zero, List.set_cons_succ]
      refine wpAnyH_take (i := 29) (oi := ⟨_, _, _, _, _, _⟩) (v := ?_) rfl (by kernel_rfl) (by kernel_rfl) (by kernel_rfl) (fun _ _ _ h => h) (Or.inl ⟨by rfl, ?_⟩) (by assumption) ?_
      rotate_left
      · intro w hSw; (try dsimp only at hSw); go_simp; (try (with_reducible rfl))
      try simp only [Act.put, List.setIfInBounds_toArray, List.set_cons_zero, List.set_cons_succ]
      refine wpAnyH_take (i := 31) (oi := ⟨_, _, _, _, _, _⟩) (v := ?_) rfl (by kernel_rfl) (by kernel_rfl) (by kernel_rfl) (fun _ _ _ h => h) (Or.inl ⟨by rfl, ?_⟩) (by assumption) ?_
      rotate_left
      · intro w hSw; (try dsimp only at hSw); go_simp; (try (with_reducible rfl))
      try simp only [Act.put, List.setIfInBounds_toArray, List.set_cons_zero, List.set_cons_succ]
      refine wpAnyH_ready (rs := [30]) (by kernel_rfl) (by simp) ?_
      refine AllReadyH.cons (o := ⟨_, _, _, _, _, _⟩) rfl (fun K hK => ?_) AllReadyH.nil
      go_simp
      refine (of_any l3 q3 _).mono ?_
      rintro e wc ⟨rfl, hbc'⟩
      have b2' := below2 b1' hbc'
      refine hK.out _ _ ⟨(b2'.cell (p := ⟨ba, oa + j * 5 + 2, none⟩) hba).trans x2, (b2'.cell (p := ⟨bb, ob + j * 5 + 1, none⟩) hbb).trans y1, (b2'.cell (p := ⟨bb, ob + j * 5 + 2, none⟩) hbb).trans y2, (b2'.cell (p := ⟨bb, ob + j * 5 + 3, none⟩) hbb).trans y3, (b2'.cell (p := ⟨bb, ob + j * 5 + 4, none⟩) hbb).trans y4, (b2'.cell (p := ⟨bc, oc + j * 5 + 2, none⟩) hbc).trans z2, (b2'.cell (p := ⟨bc, oc + j * 5 + 3, none⟩) hbc).trans z3, (b2'.cell (p := ⟨bc, oc + j * 5 + 4, none⟩) hbc).trans z4⟩ (fun hHeld => ?_)
      clear hK K
      try simp only [Act.put, List.setIfInBounds_toArray, List.set_cons_zero, List.set_cons_succ]
      refine wpAnyH_ready (rs := [32]) (by kernel_rfl) (by simp) ?_
      refine AllReadyH.cons (o := ⟨_, _, _, _, _, _⟩) rfl (fun K hK => ?_) AllReadyH.nil
      go_simp
      refine (c3' _).mono ?_
      rintro e wd ⟨rfl, hbd'⟩
      have b3' := below2 b2' hbd'
      refine hK.out _ _ ⟨(b3'.cell (p := ⟨ba, oa + j * 5 + 2, none⟩) hba).trans x2, (b3'.cell (p := ⟨bb, ob + j * 5 + 1, none⟩) hbb).trans y1, (b3'.cell (p := ⟨bb, ob + j * 5 + 2, none⟩) hbb).trans y2, (b3'.cell (p := ⟨bb, ob + j * 5 + 3, none⟩) hbb).trans y3, (b3'.cell (p := ⟨bb, ob + j * 5 + 4, none⟩) hbb).trans y4, (b3'.cell (p := ⟨bc, oc + j * 5 + 2, none⟩) hbc).trans z2, (b3'.cell (p := ⟨bc, oc + j * 5 + 3, none⟩) hbc).trans z3, (b3'.cell (p := ⟨bc, oc + j * 5 + 4, none⟩) hbc).trans z4⟩ (fun hHeld => ?_)
      clear hK K
      try simp only [Act.put, List.setIfInBounds_toArray, List.set_cons_zero, List.set_cons_succ]
      refine wpAnyH_take (i := 33) (oi := ⟨_, _, _, _, _, _⟩) (v := ?_) rfl (by kernel_rfl) (by kernel_rfl) (by kernel_rfl) (fun _ _ _ h => h) (Or.inl ⟨by rfl, ?_⟩) (by assumption) ?_
      rotate_left
      · intro w hSw; (try dsimp only at hSw); go_simp; (try (with_reducible rfl))
      try simp only [Act.put, List.setIfInBounds_toArray, List.set_cons_zero, List.set_cons_succ]
      refine wpAnyH_take (i := 34) (oi := ⟨_, _, _, _, _, _⟩) (v := ?_) rfl (by kernel_rfl) (by kernel_rfl) (by kernel_rfl) (fun _ _ _ h => h) (Or.inl ⟨by rfl, ?_⟩) (by assumption) ?_
      rotate_left
      · intro w hSw; (try dsimp only at hSw); go_simp; (try (with_reducible rfl))
      try simp only [Act.put, List.setIfInBounds_toArray, List.set_cons_zero, List.set_cons_succ]
      refine wpAnyH_take (i := 35) (oi := ⟨_, _, _, _, _, _⟩) (v := ?_) rfl (by kernel_rfl) (by kernel_rfl) (by kernel_rfl) (fun _ _ _ h => h) (Or.inl ⟨by rfl, ?_⟩) (by assumption) ?_
      rotate_left
      · intro w hSw; (try dsimp only at hSw); go_simp; (try (with_reducible rfl))
      try simp only [Act.put, List.setIfInBounds_toArray, List.set_cons_zero, List.set_cons_succ]
      refine wpAnyH_take (i := 36) (oi := ⟨_, _, _, _, _, _⟩) (v := ?_) rfl (by kernel_rfl) (by kernel_rfl) (by kernel_rfl) (fun _ _ _ h => h) (Or.inl ⟨by rfl, ?_⟩) (by assumption) ?_
      rotate_left
      · intro w hSw; (try dsimp only at hSw); go_simp; (try (with_reducible rfl))
      try simp only [Act.put, List.setIfInBounds_toArray, List.set_cons_zero, List.set_cons_succ]
      refine wpAnyH_take (i := 37) (oi := ⟨_, _, _, _, _, _⟩) (v := ?_) rfl (by kernel_rfl) (by kernel_rfl) (by kernel_rfl) (fun _ _ _ h => h) (Or.inl ⟨by rfl, ?_⟩) (by assumption) ?_
      rotate_left
      · intro w hSw; (try dsimp only at hSw); go_simp; (try (with_reducible rfl))
      try simp only [Act.put, List.setIfInBounds_toArray, List.set_cons_zero, List.set_cons_succ]
      refine wpAnyH_take (i := 38) (oi := ⟨_, _, _, _, _, _⟩) (v := ?_) rfl (by kernel_rfl) (by kernel_rfl) (by kernel_rfl) (fun _ _ _ h => h) (Or.inl ⟨by rfl, ?_⟩) (by assumption) ?_
      rotate_left
      · intro w hSw; (try dsimp only at hSw); go_simp; (try (with_reducible rfl))
      try simp only [Act.put, List.setIfInBounds_toArray, List.set_cons_zero, List.set_cons_succ]
      refine wpAnyH_take (i := 39) (oi := ⟨_, _, _, _, _, _⟩) (v := ?_) rfl (by kernel_rfl) (by kernel_rfl) (by kernel_rfl) (fun _ _ _ h => h) (Or.inl ⟨by rfl, ?_⟩) (by assumption) ?_
      rotate_left
      · intro w hSw; (try dsimp only at hSw); go_simp; (try (with_reducible rfl))
      try simp only [Act.put, List.setIfInBounds_toArray, List.set_cons_zero, List.set_cons_succ]
      refine wpAnyH_take (i := 40) (oi := ⟨_, _, _, _, _, _⟩) (v := ?_) rfl (by kernel_rfl) (by kernel_rfl) (by kernel_rfl) (fun _ _ _ h => h) (Or.inl ⟨by rfl, ?_⟩) (by assumption) ?_
      rotate_left
      · intro w hSw; (try dsimp only at hSw); go_simp; (try (with_reducible rfl))
      try simp only [Act.put, List.setIfInBounds_toArray, List.set_cons_zero, List.set_cons_succ]
      refine wpAnyH_take (i := 41) (oi := ⟨_, _, _, _, _, _⟩) (v := ?_) rfl (by kernel_rfl) (by kernel_rfl) (by kernel_rfl) (fun _ _ _ h => h) (Or.inl ⟨by rfl, ?_⟩) (by assumption) ?_
      rotate_left
      · intro w hSw; (try dsimp only at hSw); go_simp; (try (with_reducible rfl))
      try simp only [Act.put, List.setIfInBounds_toArray, List.set_cons_zero, List.set_cons_succ]
      refine wpAnyH_take (i := 42) (oi := ⟨_, _, _, _, _, _⟩) (v := ?_) rfl (by kernel_rfl) (by kernel_rfl) (by kernel_rfl) (fun _ _ _ h => h) (Or.inl ⟨by rfl, ?_⟩) (by assumption) ?_
      rotate_left
      · intro w hSw; (try dsimp only at hSw); go_simp; (try (with_reducible rfl))
      try simp only [Act.put, List.setIfInBounds_toArray, List.set_cons_zero, List.set_cons_succ]
      refine wpAnyH_take (i := 43) (oi := ⟨_, _, _, _, _, _⟩) (v := ?_) rfl (by kernel_rfl) (by kernel_rfl) (by kernel_rfl) (fun _ _ _ h => h) (Or.inl ⟨by rfl, ?_⟩) (by assumption) ?_
      rotate_left
      · intro w hSw; (try dsimp only at hSw); go_simp; (try (with_reducible rfl))
      try simp only [Act.put, List.setIfInBounds_toArray, List.set_cons_zero, List.set_cons_succ]
      refine wpAnyH_take (i := 44) (oi := ⟨_, _, _, _, _, _⟩) (v := ?_) rfl (by kernel_rfl) (by kernel_rfl) (by kernel_rfl) (fun _ _ _ h => h) (Or.inl ⟨by rfl, ?_⟩) (by assumption) ?_
      rotate_left
      · intro w hSw; (try dsimp only at hSw); go_simp; (try (with_reducible rfl))
      try simp only [Act.put, List.setIfInBounds_toArray, List.set_cons_zero, List.set_cons_succ]
      refine wpAnyH_take (i := 45) (oi := ⟨_, _, _, _, _, _⟩) (v := ?_) rfl (by kernel_rfl) (by kernel_rfl) (by kernel_rfl) (fun _ _ _ h => h) (Or.inl ⟨by rfl, ?_⟩) (by assumption) ?_
      rotate_left
      · intro w hSw; (try dsimp only at hSw); go_simp; (try (with_reducible rfl))
      try simp only [Act.put, List.setIfInBounds_toArray, List.set_cons_zero, List.set_cons_succ]
      refine wpAnyH_take (i := 46) (oi := ⟨_, _, _, _, _, _⟩) (v := ?_) rfl (by kernel_rfl) (by kernel_rfl) (by kernel_rfl) (fun _ _ _ h => h) (Or.inl ⟨by rfl, ?_⟩) (by assumption) ?_
      rotate_left
      · intro w hSw; (try dsimp only at hSw); go_simp; (try (with_reducible rfl))
      try simp only [Act.put, List.setIfInBounds_toArray, List.set_cons_zero, List.set_cons_succ]
      refine wpAnyH_take (i := 47) (oi := ⟨_, _, _, _, _, _⟩) (v := ?_) rfl (by kernel_rfl) (by kernel_rfl) (by kernel_rfl) (fun _ _ _ h => h) (Or.inl ⟨by rfl, ?_⟩) (by assumption) ?_
      rotate_left
      · intro w hSw; (try dsimp only at hSw); go_simp; (try (with_reducible rfl))
      try simp only [Act.put, List.setIfInBounds_toArray, List.set_cons_zero, List.set_cons_succ]
      refine wpAnyH_done (by kernel_rfl) ?_ _
      have hbz := hb.trans (b3'.mono hb.size)
      clear hHeld b1' b2' b3' b0'
      go_wp2
      go_roundw
      case rel => exact ⟨j + 1, by omega, by go_num, hbz⟩
      case measure => simp [intOf]; omega
    · have hnlt : ¬ (j : Int) < m := by omega
      have b7 := below2 b6 hb
      have R37 := R36.below hb
      have R47 := R46.below hb
      have R57 := R56.below hb
      have E57 := E56.below hb
      have F7 := F6.below hb
      clear hb R36 R46 R56 E36 E46 E56 F6 r3 r4 r5 b6
      have k7 := rows_same B3 B4 m d3 d4 _ wr (by rw [List.length_map]; exact HLm.out) (by omega) R37 R47
      go_wp2_with fail
      refine k7.mono ?_
      rintro e w8 ⟨rfl, hb8⟩
      have k8 := rows_same B3 B5 m d3 d5 _ w8 (by rw [List.length_map]; exact HLm.out) (by omega) (R37.below hb8) (R57.below hb8)
      go_wp2_with fail
      refine k8.mono ?_
      rintro e w9 ⟨rfl, hb9⟩
      have E59 := (E57.below hb8).below hb9
      have F9 := (F7.below hb8).below hb9
      have b9 := below2 (below2 b7 hb8) hb9
      clear hb8 hb9 k7 k8 R37 R47 R57 E57 F7 b7
      have k9 := treeE_any E59
      rw [gone3_tree HR.out a, HLm.out] at k9
      go_wp2_with fail
      refine k9.mono ?_
      rintro e w10 ⟨B10, d10, rfl, F10, hb10⟩
      have b10 := below2 b9 hb10
      have k10 := same_any F10 (F9.below hb10)
      rw [decide_eq_true rfl] at k10
      clear k9
      go_wp2_with fail
      refine k10.mono ?_
      rintro e w11 ⟨rfl, hb11⟩
      have b11 := below2 b10 hb11
      go_wp2
      go_ret
      exact ⟨rfl, b11⟩
end Go.Proofs.YtnkkjedckehoaaaDoor
