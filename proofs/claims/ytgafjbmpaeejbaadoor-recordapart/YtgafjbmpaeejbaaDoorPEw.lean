/- The text Ew. -/
import Derived.Test.YtgafjbmpaeejbaaDoorP3
namespace Go.Proofs.YtgafjbmpaeejbaaDoor
open Go.RowKit

set_option maxHeartbeats 4000000 in
set_option maxRecDepth 20000 in
theorem recordApart_walk (A : Option Addr) (c : Nat) (m : Man) (B : Option Addr) (d : Nat) (o : Man) (w : World) (hm : Mt w A c m) (ho : Mt w B d o) :
    Calls Tryd.prog 7 #[manV m A c, manV o B d] w fun e w' => e = .returned (.bool true) ∧ Below w.heap.size w w' := by
  have hal : ∀ (W : World) (o : Obj), Below W.heap.size W (W.alloc o) := fun W o => (Below.refl _ _).alloc (Nat.le_refl _) o
  obtain ⟨a1, a2, a3, a4, a5, a6, a7, ps⟩ := m
  obtain ⟨e1, e2, e3, e4, e5, e6, e7, qs⟩ := o
  unfold manV
  dsimp only
  go_enter Tryd.func7, Tryd.ntmps7
  have bx := hal w (.cells #[.int .i64 a1, .int .i64 a2, .int .i64 a3, .int .i64 a4, .int .i64 a5, .int .i64 a6, .int .i64 a7, .slice A ps.length c] 24)
  have pm := Blk.new w [.int .i64 a1, .int .i64 a2, .int .i64 a3, .int .i64 a4, .int .i64 a5, .int .i64 a6, .int .i64 a7, .slice A ps.length c] 24
  replace hm := hm.below bx
  replace ho := ho.below bx
  have by' := hal (w.alloc (.cells #[.int .i64 a1, .int .i64 a2, .int .i64 a3, .int .i64 a4, .int .i64 a5, .int .i64 a6, .int .i64 a7, .slice A ps.length c] 24)) (.cells #[.int .i64 e1, .int .i64 e2, .int .i64 e3, .int .i64 e4, .int .i64 e5, .int .i64 e6, .int .i64 e7, .slice B qs.length d] 24)
  have po := Blk.new (w.alloc (.cells #[.int .i64 a1, .int .i64 a2, .int .i64 a3, .int .i64 a4, .int .i64 a5, .int .i64 a6, .int .i64 a7, .slice A ps.length c] 24)) [.int .i64 e1, .int .i64 e2, .int .i64 e3, .int .i64 e4, .int .i64 e5, .int .i64 e6, .int .i64 e7, .slice B qs.length d] 24
  simp only [World.size_alloc] at po
  replace hm := hm.below by'
  replace ho := ho.below by'
  replace pm := pm.below by'
  replace bx := below2 bx by'
  clear by'
  have cc := small12_any ((w.alloc (.cells #[.int .i64 a1, .int .i64 a2, .int .i64 a3, .int .i64 a4, .int .i64 a5, .int .i64 a6, .int .i64 a7, .slice A ps.length c] 24)).alloc (.cells #[.int .i64 e1, .int .i64 e2, .int .i64 e3, .int .i64 e4, .int .i64 e5, .int .i64 e6, .int .i64 e7, .slice B qs.length d] 24))
  go_wp2_with fail
  refine cc.mono ?_
  clear cc
  have b1 := bx
  clear bx
  generalize (w.alloc (.cells #[.int .i64 a1, .int .i64 a2, .int .i64 a3, .int .i64 a4, .int .i64 a5, .int .i64 a6, .int .i64 a7, .slice A ps.length c] 24)).alloc (.cells #[.int .i64 e1, .int .i64 e2, .int .i64 e3, .int .i64 e4, .int .i64 e5, .int .i64 e6, .int .i64 e7, .slice B qs.length d] 24) = w1 at *
  rintro e w2 ⟨rfl, bx⟩
  simp only
  replace hm := hm.below bx
  replace ho := ho.below bx
  replace pm := pm.below bx
  replace po := po.below bx
  have b2 := below2 b1 bx
  clear bx b1
  have q0 := pm.cell 0
  have q1 := pm.cell 1
  have q2 := pm.cell 2
  have q3 := pm.cell 3
  have q4 := pm.cell 4
  have q5 := pm.cell 5
  have q6 := pm.cell 6
  have q7 := pm.cell 7
  simp only [List.getElem?_cons_zero, List.getElem?_cons_succ] at q0 q1 q2 q3 q4 q5 q6 q7
  have cc := fewM_any hm
  go_wp2_with fail
  refine cc.mono ?_
  clear cc q0 q1 q2 q3 q4 q5 q6 q7
  rintro e w3 ⟨rfl, bx⟩
  simp only
  replace hm := hm.below bx
  replace ho := ho.below bx
  replace pm := pm.below bx
  replace po := po.below bx
  have b3 := below2 b2 bx
  clear bx b2
  have q0 := po.cell 0
  have q1 := po.cell 1
  have q2 := po.cell 2
  have q3 := po.cell 3
  have q4 := po.cell 4
  have q5 := po.cell 5
  have q6 := po.cell 6
  have q7 := po.cell 7
  simp only [List.getElem?_cons_zero, List.getElem?_cons_succ] at q0 q1 q2 q3 q4 q5 q6 q7
  have cc := fewM_any ho
  go_wp2_with fail
  refine cc.mono ?_
  clear cc q0 q1 q2 q3 q4 q5 q6 q7
  rintro e w4 ⟨rfl, bx⟩
  simp only
  replace hm := hm.below bx
  replace ho := ho.below bx
  replace pm := pm.below bx
  replace po := po.below bx
  have b4 := below2 b3 bx
  clear bx b3
  cases hq : fewM (⟨a1, a2, a3, a4, a5, a6, a7, ps⟩ : Man)
  · clear hq
    go_wp2
    go_ret
    exact ⟨rfl, b4⟩
  have hqr := few_paths hq
  have hqb := few_bytes hq
  have hqp := few_pcs hq
  clear hq
  cases hq : fewM (⟨e1, e2, e3, e4, e5, e6, e7, qs⟩ : Man)
  · clear hq
    go_wp2
    go_ret
    exact ⟨rfl, b4⟩
  have hor := few_paths hq
  have hob := few_bytes hq
  have hop := few_pcs hq
  clear hq
  have q0 := pm.cell 0
  have q1 := pm.cell 1
  have q2 := pm.cell 2
  have q3 := pm.cell 3
  have q4 := pm.cell 4
  have q5 := pm.cell 5
  have q6 := pm.cell 6
  have q7 := pm.cell 7
  simp only [List.getElem?_cons_zero, List.getElem?_cons_succ] at q0 q1 q2 q3 q4 q5 q6 q7
  have cc := right12_any hm hqr
  go_wp2_with fail
  refine cc.mono ?_
  clear cc q0 q1 q2 q3 q4 q5 q6 q7
  rintro e w5 ⟨rfl, bx⟩
  simp only
  replace hm := hm.below bx
  replace ho := ho.below bx
  replace pm := pm.below bx
  replace po := po.below bx
  have b5 := below2 b4 bx
  clear bx b4
  cases hR : manR (⟨a1, a2, a3, a4, a5, a6, a7, ps⟩ : Man)
  · clear hR
    go_wp2
    go_ret
    exact ⟨rfl, b5⟩
  have HR := hid ((manR_iff _).1 hR)
  clear hR
  have q0 := po.cell 0
  have q1 := po.cell 1
  have q2 := po.cell 2
  have q3 := po.cell 3
  have q4 := po.cell 4
  have q5 := po.cell 5
  have q6 := po.cell 6
  have q7 := po.cell 7
  simp only [List.getElem?_cons_zero, List.getElem?_cons_succ] at q0 q1 q2 q3 q4 q5 q6 q7
  have cc := right12_any ho hor
  go_wp2_with fail
  refine cc.mono ?_
  clear cc q0 q1 q2 q3 q4 q5 q6 q7
  rintro e w6 ⟨rfl, bx⟩
  simp only
  replace hm := hm.below bx
  replace ho := ho.below bx
  replace pm := pm.below bx
  replace po := po.below bx
  have b6 := below2 b5 bx
  clear bx b5
  cases hR : manR (⟨e1, e2, e3, e4, e5, e6, e7, qs⟩ : Man)
  · clear hR
    go_wp2
    go_ret
    exact ⟨rfl, b6⟩
  have HO := hid ((manR_iff _).1 hR)
  clear hR
  obtain ⟨sA, hsA⟩ : ∃ s, toS (manB (⟨a1, a2, a3, a4, a5, a6, a7, ps⟩ : Man)) = s := ⟨_, rfl⟩
  obtain ⟨sB, hsB⟩ : ∃ s, toS (manB (⟨e1, e2, e3, e4, e5, e6, e7, qs⟩ : Man)) = s := ⟨_, rfl⟩
  have HEQ : Hid (decide (sA = sB) = decide ((⟨a1, a2, a3, a4, a5, a6, a7, ps⟩ : Man) = (⟨e1, e2, e3, e4, e5, e6, e7, qs⟩ : Man))) := by
    show _ = _
    rw [← hsA, ← hsB]
    by_cases h : (⟨a1, a2, a3, a4, a5, a6, a7, ps⟩ : Man) = (⟨e1, e2, e3, e4, e5, e6, e7, qs⟩ : Man)
    · rw [h, decide_eq_true rfl, decide_eq_true rfl]
    · rw [decide_eq_false h, decide_eq_false fun e => h (man_inj HR.out HO.out ?_)]
      have e2 := congrArg (fun x : ByteArray => x.data.toList) e
      simpa [toS] using e2
  have HS : Hid (∀ W, Below w6.heap.size w6 W → (fun W => W.cell? ⟨w.heap.size, 0, none⟩ = some (.int .i64 a1) ∧ W.cell? ⟨w.heap.size, 1, none⟩ = some (.int .i64 a2) ∧ W.cell? ⟨w.heap.size, 2, none⟩ = some (.int .i64 a3) ∧ W.cell? ⟨w.heap.size, 3, none⟩ = some (.int .i64 a4) ∧ W.cell? ⟨w.heap.size, 4, none⟩ = some (.int .i64 a5) ∧ W.cell? ⟨w.heap.size, 5, none⟩ = some (.int .i64 a6) ∧ W.cell? ⟨w.heap.size, 6, none⟩ = some (.int .i64 a7) ∧ W.cell? ⟨w.heap.size, 7, none⟩ = some (.slice A ps.length c) ∧ W.cell? ⟨w.heap.size + 1, 0, none⟩ = some (.int .i64 e1) ∧ W.cell? ⟨w.heap.size + 1, 1, none⟩ = some (.int .i64 e2) ∧ W.cell? ⟨w.heap.size + 1, 2, none⟩ = some (.int .i64 e3) ∧ W.cell? ⟨w.heap.size + 1, 3, none⟩ = some (.int .i64 e4) ∧ W.cell? ⟨w.heap.size + 1, 4, none⟩ = some (.int .i64 e5) ∧ W.cell? ⟨w.heap.size + 1, 5, none⟩ = some (.int .i64 e6) ∧ W.cell? ⟨w.heap.size + 1, 6, none⟩ = some (.int .i64 e7) ∧ W.cell? ⟨w.heap.size + 1, 7, none⟩ = some (.slice B qs.length d)) W) := hid fun W hb => by
    have k1 := pm.below hb
    have k2 := po.below hb
    exact ⟨k1.cell 0, k1.cell 1, k1.cell 2, k1.cell 3, k1.cell 4, k1.cell 5, k1.cell 6, k1.cell 7, k2.cell 0, k2.cell 1, k2.cell 2, k2.cell 3, k2.cell 4, k2.cell 5, k2.cell 6, k2.cell 7⟩
  have bd : Below w6.heap.size w6 w6.drew := (Below.refl _ _).drew
  have hS0 := HS.out _ bd
  have cA := bytes12_any (hm.below bd) hqp hqb
  rw [hsA] at cA
  go_wp2_with fail
  refine wp_region_held_drew (S := fun W => W.cell? ⟨w.heap.size, 0, none⟩ = some (.int .i64 a1) ∧ W.cell? ⟨w.heap.size, 1, none⟩ = some (.int .i64 a2) ∧ W.cell? ⟨w.heap.size, 2, none⟩ = some (.int .i64 a3) ∧ W.cell? ⟨w.heap.size, 3, none⟩ = some (.int .i64 a4) ∧ W.cell? ⟨w.heap.size, 4, none⟩ = some (.int .i64 a5) ∧ W.cell? ⟨w.heap.size, 5, none⟩ = some (.int .i64 a6) ∧ W.cell? ⟨w.heap.size, 6, none⟩ = some (.int .i64 a7) ∧ W.cell? ⟨w.heap.size, 7, none⟩ = some (.slice A ps.length c) ∧ W.cell? ⟨w.heap.size + 1, 0, none⟩ = some (.int .i64 e1) ∧ W.cell? ⟨w.heap.size + 1, 1, none⟩ = some (.int .i64 e2) ∧ W.cell? ⟨w.heap.size + 1, 2, none⟩ = some (.int .i64 e3) ∧ W.cell? ⟨w.heap.size + 1, 3, none⟩ = some (.int .i64 e4) ∧ W.cell? ⟨w.heap.size + 1, 4, none⟩ = some (.int .i64 e5) ∧ W.cell? ⟨w.heap.size + 1, 5, none⟩ = some (.int .i64 e6) ∧ W.cell? ⟨w.heap.size + 1, 6, none⟩ = some (.int .i64 e7) ∧ W.cell? ⟨w.heap.size + 1, 7, none⟩ = some (.slice B qs.length d)) (by kernel_rfl) hS0 (fun hHeld => ?_)
  refine wpAnyH_take (i := 0) (oi := ⟨_, _, _, _, _, _⟩) (v := ?_) rfl (by kernel_rfl) (by kernel_rfl) (by kernel_rfl) (fun _ _ _ h => h) (Or.inl ⟨by rfl, ?_⟩) (by assumption) ?_
  rotate_left
  · intro w hSw; (try dsimp only at hSw); go_simp; (try (with_reducible rfl))
  try simp only [Act.put, List.setIfInBounds_toArray, List.set_cons_zero, List.set_cons_succ]
  refine wpAnyH_take (i := 1) (oi := ⟨_, _, _, _, _, _⟩) (v := ?_) rfl (by kernel_rfl) (by kernel_rfl) (by kernel_rfl) (fun _ _ _ h => h) (Or.inl ⟨by rfl, ?_⟩) (by assumption) ?_
  rotate_left
  · intro w hSw; (try dsimp only at hSw); go_simp; (try (with_reducible rfl))
  try simp only [Act.put, List.setIfInBounds_toArray, List.set_cons_zero, List.set_cons_succ]
  refine wpAnyH_take (i := 2) (oi := ⟨_, _, _, _, _, _⟩) (v := ?_) rfl (by kernel_rfl) (by kernel_rfl) (by kernel_rfl) (fun _ _ _ h => h) (Or.inl ⟨by rfl, ?_⟩) (by assumption) ?_
  rotate_left
  · intro w hSw; (try dsimp only at hSw); go_simp; (try (with_reducible rfl))
  try simp only [Act.put, List.setIfInBounds_toArray, List.set_cons_zero, List.set_cons_succ]
  refine wpAnyH_take (i := 4) (oi := ⟨_, _, _, _, _, _⟩) (v := ?_) rfl (by kernel_rfl) (by kernel_rfl) (by kernel_rfl) (fun _ _ _ h => h) (Or.inl ⟨by rfl, ?_⟩) (by assumption) ?_
  rotate_left
  · intro w hSw; (try dsimp only at hSw); go_simp; (try (with_reducible rfl))
  try simp only [Act.put, List.setIfInBounds_toArray, List.set_cons_zero, List.set_cons_succ]
  refine wpAnyH_take (i := 7) (oi := ⟨_, _, _, _, _, _⟩) (v := ?_) rfl (by kernel_rfl) (by kernel_rfl) (by kernel_rfl) (fun _ _ _ h => h) (Or.inl ⟨by rfl, ?_⟩) (by assumption) ?_
  rotate_left
  · intro w hSw; (try dsimp only at hSw); go_simp; (try (with_reducible rfl))
  try simp only [Act.put, List.setIfInBounds_toArray, List.set_cons_zero, List.set_cons_succ]
  refine wpAnyH_take (i := 8) (oi := ⟨_, _, _, _, _, _⟩) (v := ?_) rfl (by kernel_rfl) (by kernel_rfl) (by kernel_rfl) (fun _ _ _ h => h) (Or.inl ⟨by rfl, ?_⟩) (by assumption) ?_
  rotate_left
  · intro w hSw; (try dsimp only at hSw); go_simp; (try (with_reducible rfl))
  try simp only [Act.put, List.setIfInBounds_toArray, List.set_cons_zero, List.set_cons_succ]
  refine wpAnyH_ready (rs := [3]) (by kernel_rfl) (by simp) ?_
  refine AllReadyH.cons (o := ⟨_, _, _, _, _, _⟩) rfl (fun K hK => ?_) AllReadyH.nil
  go_simp
  refine (cA).mono ?_
  rintro e x1 ⟨rfl, bx1⟩
  have dx1 := below2 bd bx1
  have hSx1 := HS.out _ dx1
  refine hK.out _ _ hSx1 (fun hHeld => ?_)
  clear hK K
  try simp only [Act.put, List.setIfInBounds_toArray, List.set_cons_zero, List.set_cons_succ]
  have cB := bytes12_any (ho.below dx1) hop hob
  rw [hsB] at cB
  refine wpAnyH_ready (rs := [5]) (by kernel_rfl) (by simp) ?_
  refine AllReadyH.cons (o := ⟨_, _, _, _, _, _⟩) rfl (fun K hK => ?_) AllReadyH.nil
  go_simp
  refine (cB).mono ?_
  rintro e x2 ⟨rfl, bx2⟩
  have dx2 := below2 dx1 bx2
  have hSx2 := HS.out _ dx2
  refine hK.out _ _ hSx2 (fun hHeld => ?_)
  clear hK K
  try simp only [Act.put, List.setIfInBounds_toArray, List.set_cons_zero, List.set_cons_succ]
  have hsq := str_eqb1 sA sB
  rw [HEQ.out] at hsq
  have cS := same12_any (hm.below dx2) (ho.below dx2)
  generalize decide ((⟨a1, a2, a3, a4, a5, a6, a7, ps⟩ : Man) = (⟨e1, e2, e3, e4, e5, e6, e7, qs⟩ : Man)) = dz at *
  refine wpAnyH_take (i := 6) (oi := ⟨_, _, _, _, _, _⟩) (v := ?_) rfl (by kernel_rfl) (by kernel_rfl) (by kernel_rfl) (fun _ _ _ h => h) (Or.inl ⟨by rfl, ?_⟩) (by assumption) ?_
  rotate_left
  · intro w hSw; (try dsimp only at hSw); go_simp; (try (with_reducible rfl))
  try simp only [Act.put, List.setIfInBounds_toArray, List.set_cons_zero, List.set_cons_succ]
  refine wpAnyH_ready (rs := [9]) (by kernel_rfl) (by simp) ?_
  refine AllReadyH.cons (o := ⟨_, _, _, _, _, _⟩) rfl (fun K hK => ?_) AllReadyH.nil
  go_simp
  refine (cS).mono ?_
  rintro e x3 ⟨rfl, bx3⟩
  have dx3 := below2 dx2 bx3
  have hSx3 := HS.out _ dx3
  refine hK.out _ _ hSx3 (fun hHeld => ?_)
  clear hK K
  try simp only [Act.put, List.setIfInBounds_toArray, List.set_cons_zero, List.set_cons_succ]
  have hdz : (dz == dz) = true := by cases dz <;> rfl
  refine wpAnyH_take (i := 10) (oi := ⟨_, _, _, _, _, _⟩) (v := ?_) rfl (by kernel_rfl) (by kernel_rfl) (by kernel_rfl) (fun _ _ _ h => h) (Or.inl ⟨by rfl, ?_⟩) (by assumption) ?_
  rotate_left
  · intro w hSw; (try dsimp only at hSw); go_simp; (try (with_reducible rfl))
  try simp only [Act.put, List.setIfInBounds_toArray, List.set_cons_zero, List.set_cons_succ]
  refine wpAnyH_take (i := 11) (oi := ⟨_, _, _, _, _, _⟩) (v := ?_) rfl (by kernel_rfl) (by kernel_rfl) (by kernel_rfl) (fun _ _ _ h => h) (Or.inl ⟨by rfl, ?_⟩) (by assumption) ?_
  rotate_left
  · intro w hSw; (try dsimp only at hSw); go_simp; (try (with_reducible rfl))
  try simp only [Act.put, List.setIfInBounds_toArray, List.set_cons_zero, List.set_cons_succ]
  refine wpAnyH_take (i := 12) (oi := ⟨_, _, _, _, _, _⟩) (v := ?_) rfl (by kernel_rfl) (by kernel_rfl) (by kernel_rfl) (fun _ _ _ h => h) (Or.inl ⟨by rfl, ?_⟩) (by assumption) ?_
  rotate_left
  · intro w hSw; (try dsimp only at hSw); go_simp; (try (with_reducible rfl))
  try simp only [Act.put, List.setIfInBounds_toArray, List.set_cons_zero, List.set_cons_succ]
  refine wpAnyH_done (by kernel_rfl) ?_ _
  clear hHeld
  have bz := below2 b6 dx3
  go_wp2
  go_ret
  exact ⟨rfl, bz⟩
end Go.Proofs.YtgafjbmpaeejbaaDoor
