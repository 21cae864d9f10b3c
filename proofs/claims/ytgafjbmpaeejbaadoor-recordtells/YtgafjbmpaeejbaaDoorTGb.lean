/- The text Gb. -/
import Derived.Test.YtgafjbmpaeejbaaDoorT0
namespace Go.Proofs.YtgafjbmpaeejbaaDoor
open Go.RowKit

set_option maxHeartbeats 8000000 in
set_option maxRecDepth 20000 in
theorem recordTells_walk (A : Option Addr) (c : Nat) (m : Man) (B : Option Addr) (d : Nat) (o : Man) (w : World) (hm : Mt w A c m) (ho : Mt w B d o) :
    Calls Tryd.prog 3 #[manV m A c, manV o B d] w fun e w' => e = .returned (.bool true) ∧ Below w.heap.size w w' := by
  have hal : ∀ (W : World) (o : Obj), Below W.heap.size W (W.alloc o) := fun W o => (Below.refl _ _).alloc (Nat.le_refl _) o
  obtain ⟨a1, a2, a3, a4, a5, a6, a7, ps⟩ := m
  obtain ⟨e1, e2, e3, e4, e5, e6, e7, qs⟩ := o
  unfold manV
  dsimp only
  go_enter Tryd.func3, Tryd.ntmps3
  have hm0 := hm
  have bx := hal w (.cells #[.int .i64 a1, .int .i64 a2, .int .i64 a3, .int .i64 a4, .int .i64 a5, .int .i64 a6, .int .i64 a7, .slice A ps.length c] 24)
  have pm := Blk.new w [.int .i64 a1, .int .i64 a2, .int .i64 a3, .int .i64 a4, .int .i64 a5, .int .i64 a6, .int .i64 a7, .slice A ps.length c] 24
  replace hm := hm.below bx
  replace ho := ho.below bx
  have by' := hal (w.alloc (.cells #[.int .i64 a1, .int .i64 a2, .int .i64 a3, .int .i64 a4, .int .i64 a5, .int .i64 a6, .int .i64 a7, .slice A ps.length c] 24)) (.cells #[.int .i64 e1, .int .i64 e2, .int .i64 e3, .int .i64 e4, .int .i64 e5, .int .i64 e6, .int .i64 e7, .slice B qs.length d] 24)
  have po := Blk.new (w.alloc (.cells #[.int .i64 a1, .int .i64 a2, .int .i64 a3, .int .i64 a4, .int .i64 a5, .int .i64 a6, .int .i64 a7, .slice A ps.length c] 24)) [.int .i64 e1, .int .i64 e2, .int .i64 e3, .int .i64 e4, .int .i64 e5, .int .i64 e6, .int .i64 e7, .slice B qs.length d] 24
  simp only [World.size_alloc] at po
  replace hm := hm.below by'
  replace ho := ho.below by'
  replace pm := pm.below by'
  replace bx := below2 bx by'
  clear by'
  have cc := small12_any ((w.alloc (.cells #[.int .i64 a1, .int .i64 a2, .int .i64 a3, .int .i64 a4, .int .i64 a5, .int .i64 a6, .int .i64 a7, .slice A ps.length c] 24)).alloc (.cells #[.int .i64 e1, .int .i64 e2, .int .i64 e3, .int .i64 e4, .int .i64 e5, .int .i64 e6, .int .i64 e7, .slice B qs.length d] 24))
  go_wp2_with fail
  refine cc.mono ?_
  clear cc
  have b1 := bx
  clear bx
  generalize (w.alloc (.cells #[.int .i64 a1, .int .i64 a2, .int .i64 a3, .int .i64 a4, .int .i64 a5, .int .i64 a6, .int .i64 a7, .slice A ps.length c] 24)).alloc (.cells #[.int .i64 e1, .int .i64 e2, .int .i64 e3, .int .i64 e4, .int .i64 e5, .int .i64 e6, .int .i64 e7, .slice B qs.length d] 24) = w1 at *
  rintro e w2 ⟨rfl, bx⟩
  simp only
  replace hm := hm.below bx
  replace ho := ho.below bx
  replace pm := pm.below bx
  replace po := po.below bx
  have b2 := below2 b1 bx
  clear bx b1
  have q0 := pm.cell 0
  have q1 := pm.cell 1
  have q2 := pm.cell 2
  have q3 := pm.cell 3
  have q4 := pm.cell 4
  have q5 := pm.cell 5
  have q6 := pm.cell 6
  have q7 := pm.cell 7
  simp only [List.getElem?_cons_zero, List.getElem?_cons_succ] at q0 q1 q2 q3 q4 q5 q6 q7
  have cc := fewM_any hm
  go_wp2_with fail
  refine cc.mono ?_
  clear cc q0 q1 q2 q3 q4 q5 q6 q7
  rintro e w3 ⟨rfl, bx⟩
  simp only
  replace hm := hm.below bx
  replace ho := ho.below bx
  replace pm := pm.below bx
  replace po := po.below bx
  have b3 := below2 b2 bx
  clear bx b2
  have q0 := po.cell 0
  have q1 := po.cell 1
  have q2 := po.cell 2
  have q3 := po.cell 3
  have q4 := po.cell 4
  have q5 := po.cell 5
  have q6 := po.cell 6
  have q7 := po.cell 7
  simp only [List.getElem?_cons_zero, List.getElem?_cons_succ] at q0 q1 q2 q3 q4 q5 q6 q7
  have cc := fewM_any ho
  go_wp2_with fail
  refine cc.mono ?_
  clear cc q0 q1 q2 q3 q4 q5 q6 q7
  rintro e w4 ⟨rfl, bx⟩
  simp only
  replace hm := hm.below bx
  replace ho := ho.below bx
  replace pm := pm.below bx
  replace po := po.below bx
  have b4 := below2 b3 bx
  clear bx b3
  cases hq : fewM (⟨a1, a2, a3, a4, a5, a6, a7, ps⟩ : Man)
  · clear hq
    go_wp2
    go_ret
    exact ⟨rfl, b4⟩
  have hqr := few_paths hq
  have hqb := few_bytes hq
  have hqp := few_pcs hq
  have hqc := few_copy hq
  clear hq
  cases hq : fewM (⟨e1, e2, e3, e4, e5, e6, e7, qs⟩ : Man)
  · clear hq
    go_wp2
    go_ret
    exact ⟨rfl, b4⟩
  clear hq
  have hbs := hid b4.size
  have q0 := pm.cell 0
  have q1 := pm.cell 1
  have q2 := pm.cell 2
  have q3 := pm.cell 3
  have q4 := pm.cell 4
  have q5 := pm.cell 5
  have q6 := pm.cell 6
  have q7 := pm.cell 7
  simp only [List.getElem?_cons_zero, List.getElem?_cons_succ] at q0 q1 q2 q3 q4 q5 q6 q7
  have cc := copy12_any hm hqp hqc
  go_wp2_with fail
  refine cc.mono ?_
  clear cc q0 q1 q2 q3 q4 q5 q6 q7
  rintro e w5 ⟨g, xs, rfl, hxs, kc, oc, ap, hgb, bx⟩
  simp only
  replace hm := hm.below bx
  replace ho := ho.below bx
  replace pm := pm.below bx
  replace po := po.below bx
  have b5 := below2 b4 bx
  clear bx b4
  have hbg : Hid (w.heap.size ≤ g) := by show _ ≤ _; have := hbs.out; omega
  dsimp only at hxs
  rw [show manV (⟨a1, a2, a3, a4, a5, a6, a7, ps⟩ : Man) (some ⟨g, 0, none⟩) ((⟨a1, a2, a3, a4, a5, a6, a7, ps⟩ : Man)).pieces.length = .agg #[.int .i64 a1, .int .i64 a2, .int .i64 a3, .int .i64 a4, .int .i64 a5, .int .i64 a6, .int .i64 a7, .slice (some ⟨g, 0, none⟩) ps.length ps.length] from rfl]
  have bx := hal w5 (.cells #[.int .i64 a1, .int .i64 a2, .int .i64 a3, .int .i64 a4, .int .i64 a5, .int .i64 a6, .int .i64 a7, .slice (some ⟨g, 0, none⟩) ps.length ps.length] 24)
  have pc := Blk.new w5 [.int .i64 a1, .int .i64 a2, .int .i64 a3, .int .i64 a4, .int .i64 a5, .int .i64 a6, .int .i64 a7, .slice (some ⟨g, 0, none⟩) ps.length ps.length] 24
  replace hm := hm.below bx
  replace ho := ho.below bx
  replace pm := pm.below bx
  replace po := po.below bx
  replace kc := kc.below bx
  have oc := hid fun x hx => own_below1 (oc.out x hx) bx
  go_upto_region 7 with (fail)
  have b6 := below2 b5 bx
  clear bx b5
  generalize hgz : w5.heap.size = zc at *
  generalize w5.alloc (.cells #[.int .i64 a1, .int .i64 a2, .int .i64 a3, .int .i64 a4, .int .i64 a5, .int .i64 a6, .int .i64 a7, .slice (some ⟨g, 0, none⟩) ps.length ps.length] 24) = w6 at *
  clear hgz
  have mc := mt_copy hxs kc oc.out hqp a1 a2 a3 a4 a5 a6 a7
  obtain ⟨CL, hCL⟩ : ∃ l, chunksM (⟨a1, a2, a3, a4, a5, a6, a7, ps⟩ : Man) = l := ⟨_, rfl⟩
  have HCL := hid hCL
  have hcl : CL.length ≤ 1000000 := by rw [← hCL]; have h1 := chunks_le ps fun p hp => (hqb p hp).2; have h2 : ps.length ≤ 1000 := hqp; show (ps.flatMap (·.chunks)).length ≤ _; omega
  clear hCL
  obtain ⟨dz, hdz⟩ : ∃ x, decide ((⟨a1, a2, a3, a4, a5, a6, a7, ps⟩ : Man) = (⟨e1, e2, e3, e4, e5, e6, e7, qs⟩ : Man)) = x := ⟨_, rfl⟩
  have HDZ := hid hdz
  clear hdz
  have hdd : (dz == dz) = true := by cases dz <;> rfl
  have HS : Hid (∀ W, Below w6.heap.size w6 W → (fun W => W.cell? ⟨w.heap.size, 0, none⟩ = some (.int .i64 a1) ∧ W.cell? ⟨w.heap.size, 1, none⟩ = some (.int .i64 a2) ∧ W.cell? ⟨w.heap.size, 2, none⟩ = some (.int .i64 a3) ∧ W.cell? ⟨w.heap.size, 3, none⟩ = some (.int .i64 a4) ∧ W.cell? ⟨w.heap.size, 4, none⟩ = some (.int .i64 a5) ∧ W.cell? ⟨w.heap.size, 5, none⟩ = some (.int .i64 a6) ∧ W.cell? ⟨w.heap.size, 6, none⟩ = some (.int .i64 a7) ∧ W.cell? ⟨w.heap.size, 7, none⟩ = some (.slice A ps.length c) ∧ W.cell? ⟨w.heap.size + 1, 0, none⟩ = some (.int .i64 e1) ∧ W.cell? ⟨w.heap.size + 1, 1, none⟩ = some (.int .i64 e2) ∧ W.cell? ⟨w.heap.size + 1, 2, none⟩ = some (.int .i64 e3) ∧ W.cell? ⟨w.heap.size + 1, 3, none⟩ = some (.int .i64 e4) ∧ W.cell? ⟨w.heap.size + 1, 4, none⟩ = some (.int .i64 e5) ∧ W.cell? ⟨w.heap.size + 1, 5, none⟩ = some (.int .i64 e6) ∧ W.cell? ⟨w.heap.size + 1, 6, none⟩ = some (.int .i64 e7) ∧ W.cell? ⟨w.heap.size + 1, 7, none⟩ = some (.slice B qs.length d) ∧ W.cell? ⟨zc, 0, none⟩ = some (.int .i64 a1) ∧ W.cell? ⟨zc, 1, none⟩ = some (.int .i64 a2) ∧ W.cell? ⟨zc, 2, none⟩ = some (.int .i64 a3) ∧ W.cell? ⟨zc, 3, none⟩ = some (.int .i64 a4) ∧ W.cell? ⟨zc, 4, none⟩ = some (.int .i64 a5) ∧ W.cell? ⟨zc, 5, none⟩ = some (.int .i64 a6) ∧ W.cell? ⟨zc, 6, none⟩ = some (.int .i64 a7) ∧ W.cell? ⟨zc, 7, none⟩ = some (.slice (some ⟨g, 0, none⟩) ps.length ps.length)) W) := hid fun W hb => by
    have k1 := pm.below hb
    have k2 := po.below hb
    have k3 := pc.below hb
    exact ⟨k1.cell 0, k1.cell 1, k1.cell 2, k1.cell 3, k1.cell 4, k1.cell 5, k1.cell 6, k1.cell 7, k2.cell 0, k2.cell 1, k2.cell 2, k2.cell 3, k2.cell 4, k2.cell 5, k2.cell 6, k2.cell 7, k3.cell 0, k3.cell 1, k3.cell 2, k3.cell 3, k3.cell 4, k3.cell 5, k3.cell 6, k3.cell 7⟩
  have bd : Below w6.heap.size w6 w6.drew := (Below.refl _ _).drew
  have hS0 := HS.out _ bd
  refine wp_region_held_drew (S := fun W => W.cell? ⟨w.heap.size, 0, none⟩ = some (.int .i64 a1) ∧ W.cell? ⟨w.heap.size, 1, none⟩ = some (.int .i64 a2) ∧ W.cell? ⟨w.heap.size, 2, none⟩ = some (.int .i64 a3) ∧ W.cell? ⟨w.heap.size, 3, none⟩ = some (.int .i64 a4) ∧ W.cell? ⟨w.heap.size, 4, none⟩ = some (.int .i64 a5) ∧ W.cell? ⟨w.heap.size, 5, none⟩ = some (.int .i64 a6) ∧ W.cell? ⟨w.heap.size, 6, none⟩ = some (.int .i64 a7) ∧ W.cell? ⟨w.heap.size, 7, none⟩ = some (.slice A ps.length c) ∧ W.cell? ⟨w.heap.size + 1, 0, none⟩ = some (.int .i64 e1) ∧ W.cell? ⟨w.heap.size + 1, 1, none⟩ = some (.int .i64 e2) ∧ W.cell? ⟨w.heap.size + 1, 2, none⟩ = some (.int .i64 e3) ∧ W.cell? ⟨w.heap.size + 1, 3, none⟩ = some (.int .i64 e4) ∧ W.cell? ⟨w.heap.size + 1, 4, none⟩ = some (.int .i64 e5) ∧ W.cell? ⟨w.heap.size + 1, 5, none⟩ = some (.int .i64 e6) ∧ W.cell? ⟨w.heap.size + 1, 6, none⟩ = some (.int .i64 e7) ∧ W.cell? ⟨w.heap.size + 1, 7, none⟩ = some (.slice B qs.length d) ∧ W.cell? ⟨zc, 0, none⟩ = some (.int .i64 a1) ∧ W.cell? ⟨zc, 1, none⟩ = some (.int .i64 a2) ∧ W.cell? ⟨zc, 2, none⟩ = some (.int .i64 a3) ∧ W.cell? ⟨zc, 3, none⟩ = some (.int .i64 a4) ∧ W.cell? ⟨zc, 4, none⟩ = some (.int .i64 a5) ∧ W.cell? ⟨zc, 5, none⟩ = some (.int .i64 a6) ∧ W.cell? ⟨zc, 6, none⟩ = some (.int .i64 a7) ∧ W.cell? ⟨zc, 7, none⟩ = some (.slice (some ⟨g, 0, none⟩) ps.length ps.length)) (by kernel_rfl) hS0 (fun hHeld => ?_)
  refine wpAnyH_take (i := 0) (oi := ⟨_, _, _, _, _, _⟩) (v := ?_) rfl (by kernel_rfl) (by kernel_rfl) (by kernel_rfl) (fun _ _ _ h => h) (Or.inl ⟨by rfl, ?_⟩) (by assumption) ?_
  rotate_left
  · intro w hSw; (try dsimp only at hSw); go_simp; (try (with_reducible rfl))
  try simp only [Act.put, List.setIfInBounds_toArray, List.set_cons_zero, List.set_cons_succ]
  refine wpAnyH_take (i := 1) (oi := ⟨_, _, _, _, _, _⟩) (v := ?_) rfl (by kernel_rfl) (by kernel_rfl) (by kernel_rfl) (fun _ _ _ h => h) (Or.inl ⟨by rfl, ?_⟩) (by assumption) ?_
  rotate_left
  · intro w hSw; (try dsimp only at hSw); go_simp; (try (with_reducible rfl))
  try simp only [Act.put, List.setIfInBounds_toArray, List.set_cons_zero, List.set_cons_succ]
  refine wpAnyH_ready (rs := [2]) (by kernel_rfl) (by simp) ?_
  refine AllReadyH.cons (o := ⟨_, _, _, _, _, _⟩) rfl (fun K hK => ?_) AllReadyH.nil
  go_simp
  have cA := rsame_any (mc.below bd) (hm.below bd)
  rw [decide_eq_true rfl] at cA
  refine (cA).mono ?_
  rintro e x1 ⟨rfl, bx1⟩
  have dx1 := below2 bd bx1
  have hSx1 := HS.out _ dx1
  clear cA
  refine hK.out _ _ hSx1 (fun hHeld => ?_)
  clear hK K
  try simp only [Act.put, List.setIfInBounds_toArray, List.set_cons_zero, List.set_cons_succ]
  refine wpAnyH_take (i := 3) (oi := ⟨_, _, _, _, _, _⟩) (v := ?_) rfl (by kernel_rfl) (by kernel_rfl) (by kernel_rfl) (fun _ _ _ h => h) (Or.inl ⟨by rfl, ?_⟩) (by assumption) ?_
  rotate_left
  · intro w hSw; (try dsimp only at hSw); go_simp; (try (with_reducible rfl))
  try simp only [Act.put, List.setIfInBounds_toArray, List.set_cons_zero, List.set_cons_succ]
  refine wpAnyH_take (i := 4) (oi := ⟨_, _, _, _, _, _⟩) (v := ?_) rfl (by kernel_rfl) (by kernel_rfl) (by kernel_rfl) (fun _ _ _ h => h) (Or.inl ⟨by rfl, ?_⟩) (by assumption) ?_
  rotate_left
  · intro w hSw; (try dsimp only at hSw); go_simp; (try (with_reducible rfl))
  try simp only [Act.put, List.setIfInBounds_toArray, List.set_cons_zero, List.set_cons_succ]
  refine wpAnyH_take (i := 5) (oi := ⟨_, _, _, _, _, _⟩) (v := ?_) rfl (by kernel_rfl) (by kernel_rfl) (by kernel_rfl) (fun _ _ _ h => h) (Or.inl ⟨by rfl, ?_⟩) (by assumption) ?_
  rotate_left
  · intro w hSw; (try dsimp only at hSw); go_simp; (try (with_reducible rfl))
  try simp only [Act.put, List.setIfInBounds_toArray, List.set_cons_zero, List.set_cons_succ]
  refine wpAnyH_take (i := 7) (oi := ⟨_, _, _, _, _, _⟩) (v := ?_) rfl (by kernel_rfl) (by kernel_rfl) (by kernel_rfl) (fun _ _ _ h => h) (Or.inl ⟨by rfl, ?_⟩) (by assumption) ?_
  rotate_left
  · intro w hSw; (try dsimp only at hSw); go_simp; (try (with_reducible rfl))
  try simp only [Act.put, List.setIfInBounds_toArray, List.set_cons_zero, List.set_cons_succ]
  refine wpAnyH_take (i := 8) (oi := ⟨_, _, _, _, _, _⟩) (v := ?_) rfl (by kernel_rfl) (by kernel_rfl) (by kernel_rfl) (fun _ _ _ h => h) (Or.inl ⟨by rfl, ?_⟩) (by assumption) ?_
  rotate_left
  · intro w hSw; (try dsimp only at hSw); go_simp; (try (with_reducible rfl))
  try simp only [Act.put, List.setIfInBounds_toArray, List.set_cons_zero, List.set_cons_succ]
  refine wpAnyH_ready (rs := [6]) (by kernel_rfl) (by simp) ?_
  refine AllReadyH.cons (o := ⟨_, _, _, _, _, _⟩) rfl (fun K hK => ?_) AllReadyH.nil
  go_simp
  have cB := same12_any (hm.below dx1) (ho.below dx1)
  rw [HDZ.out] at cB
  refine (cB).mono ?_
  rintro e x2 ⟨rfl, bx2⟩
  have dx2 := below2 dx1 bx2
  have hSx2 := HS.out _ dx2
  clear cB
  refine hK.out _ _ hSx2 (fun hHeld => ?_)
  clear hK K
  try simp only [Act.put, List.setIfInBounds_toArray, List.set_cons_zero, List.set_cons_succ]
  refine wpAnyH_ready (rs := [9]) (by kernel_rfl) (by simp) ?_
  refine AllReadyH.cons (o := ⟨_, _, _, _, _, _⟩) rfl (fun K hK => ?_) AllReadyH.nil
  go_simp
  have cC := rsame_any (hm.below dx2) (ho.below dx2)
  rw [HDZ.out] at cC
  refine (cC).mono ?_
  rintro e x3 ⟨rfl, bx3⟩
  have dx3 := below2 dx2 bx3
  have hSx3 := HS.out _ dx3
  clear cC
  refine hK.out _ _ hSx3 (fun hHeld => ?_)
  clear hK K
  try simp only [Act.put, List.setIfInBounds_toArray, List.set_cons_zero, List.set_cons_succ]
  refine wpAnyH_take (i := 10) (oi := ⟨_, _, _, _, _, _⟩) (v := ?_) rfl (by kernel_rfl) (by kernel_rfl) (by kernel_rfl) (fun _ _ _ h => h) (Or.inl ⟨by rfl, ?_⟩) (by assumption) ?_
  rotate_left
  · intro w hSw; (try dsimp only at hSw); go_simp; (try (with_reducible rfl))
  try simp only [Act.put, List.setIfInBounds_toArray, List.set_cons_zero, List.set_cons_succ]
  refine wpAnyH_take (i := 11) (oi := ⟨_, _, _, _, _, _⟩) (v := ?_) rfl (by kernel_rfl) (by kernel_rfl) (by kernel_rfl) (fun _ _ _ h => h) (Or.inl ⟨by rfl, ?_⟩) (by assumption) ?_
  rotate_left
  · intro w hSw; (try dsimp only at hSw); go_simp; (try (with_reducible rfl))
  try simp only [Act.put, List.setIfInBounds_toArray, List.set_cons_zero, List.set_cons_succ]
  refine wpAnyH_take (i := 12) (oi := ⟨_, _, _, _, _, _⟩) (v := ?_) rfl (by kernel_rfl) (by kernel_rfl) (by kernel_rfl) (fun _ _ _ h => h) (Or.inl ⟨by rfl, ?_⟩) (by assumption) ?_
  rotate_left
  · intro w hSw; (try dsimp only at hSw); go_simp; (try (with_reducible rfl))
  try simp only [Act.put, List.setIfInBounds_toArray, List.set_cons_zero, List.set_cons_succ]
  refine wpAnyH_take (i := 13) (oi := ⟨_, _, _, _, _, _⟩) (v := ?_) rfl (by kernel_rfl) (by kernel_rfl) (by kernel_rfl) (fun _ _ _ h => h) (Or.inl ⟨by rfl, ?_⟩) (by assumption) ?_
  rotate_left
  · intro w hSw; (try dsimp only at hSw); go_simp; (try (with_reducible rfl))
  try simp only [Act.put, List.setIfInBounds_toArray, List.set_cons_zero, List.set_cons_succ]
  refine wpAnyH_take (i := 15) (oi := ⟨_, _, _, _, _, _⟩) (v := ?_) rfl (by kernel_rfl) (by kernel_rfl) (by kernel_rfl) (fun _ _ _ h => h) (Or.inl ⟨by rfl, ?_⟩) (by assumption) ?_
  rotate_left
  · intro w hSw; (try dsimp only at hSw); go_simp; (try (with_reducible rfl))
  try simp only [Act.put, List.setIfInBounds_toArray, List.set_cons_zero, List.set_cons_succ]
  refine wpAnyH_ready (rs := [14]) (by kernel_rfl) (by simp) ?_
  refine AllReadyH.cons (o := ⟨_, _, _, _, _, _⟩) rfl (fun K hK => ?_) AllReadyH.nil
  go_simp
  have cD := chunks12_any (hm.below dx3) hqp (fun p hp => (hqb p hp).2)
  rw [HCL.out] at cD
  refine (cD).mono ?_
  rintro e x4 ⟨B1, q1, rfl, own1, bx4⟩
  have dx4 := below2 dx3 bx4
  have hSx4 := HS.out _ dx4
  clear cD
  refine hK.out _ _ hSx4 (fun hHeld => ?_)
  clear hK K
  try simp only [Act.put, List.setIfInBounds_toArray, List.set_cons_zero, List.set_cons_succ]
  refine wpAnyH_ready (rs := [16]) (by kernel_rfl) (by simp) ?_
  refine AllReadyH.cons (o := ⟨_, _, _, _, _, _⟩) rfl (fun K hK => ?_) AllReadyH.nil
  go_simp
  have cE := rchunks_any (hm.below dx4) hqp (fun p hp => (hqb p hp).2)
  rw [HCL.out] at cE
  refine (cE).mono ?_
  rintro e x5 ⟨B2, q2, rfl, own2, bx5⟩
  have dx5 := below2 dx4 bx5
  have hSx5 := HS.out _ dx5
  clear cE
  have own1' := own_below1 own1 bx5
  refine hK.out _ _ hSx5 (fun hHeld => ?_)
  clear hK K
  try simp only [Act.put, List.setIfInBounds_toArray, List.set_cons_zero, List.set_cons_succ]
  refine wpAnyH_ready (rs := [17]) (by kernel_rfl) (by simp) ?_
  refine AllReadyH.cons (o := ⟨_, _, _, _, _, _⟩) rfl (fun K hK => ?_) AllReadyH.nil
  go_simp
  have cF := rints_any B1 B2 _ _ q1 q2 CL CL x5 rfl rfl (Rd.of_own own1') (Rd.of_own own2) (by omega)
  rw [decide_eq_true rfl] at cF
  refine (cF).mono ?_
  rintro e x6 ⟨rfl, bx6⟩
  have dx6 := below2 dx5 bx6
  have hSx6 := HS.out _ dx6
  clear cF
  refine hK.out _ _ hSx6 (fun hHeld => ?_)
  clear hK K
  try simp only [Act.put, List.setIfInBounds_toArray, List.set_cons_zero, List.set_cons_succ]
  refine wpAnyH_take (i := 18) (oi := ⟨_, _, _, _, _, _⟩) (v := ?_) rfl (by kernel_rfl) (by kernel_rfl) (by kernel_rfl) (fun _ _ _ h => h) (Or.inl ⟨by rfl, ?_⟩) (by assumption) ?_
  rotate_left
  · intro w hSw; (try dsimp only at hSw); go_simp; (try (with_reducible rfl))
  try simp only [Act.put, List.setIfInBounds_toArray, List.set_cons_zero, List.set_cons_succ]
  refine wpAnyH_take (i := 19) (oi := ⟨_, _, _, _, _, _⟩) (v := ?_) rfl (by kernel_rfl) (by kernel_rfl) (by kernel_rfl) (fun _ _ _ h => h) (Or.inl ⟨by rfl, ?_⟩) (by assumption) ?_
  rotate_left
  · intro w hSw; (try dsimp only at hSw); go_simp; (try (with_reducible rfl))
  try simp only [Act.put, List.setIfInBounds_toArray, List.set_cons_zero, List.set_cons_succ]
  refine wpAnyH_done (by kernel_rfl) ?_ _
  clear hHeld
  have hxl : xs.length = ps.length := by rw [← hxs, pcesOf_length]
  have HW0 : Hid (SpW w w4.heap.size x6 g ps.length zc [.int .i64 a1, .int .i64 a2, .int .i64 a3, .int .i64 a4, .int .i64 a5, .int .i64 a6, .int .i64 a7, .slice (some ⟨g, 0, none⟩) ps.length ps.length] [.int .i64 a1, .int .i64 a2, .int .i64 a3, .int .i64 a4, .int .i64 a5, .int .i64 a6, .int .i64 a7, .slice A ps.length c]) := hid ⟨xs, ⟨hxl, kc.below dx6, fun x hx => own_below1 (oc.out x hx) dx6, ap.out⟩, pc.below dx6, pm.below dx6, below2 b6 dx6⟩
  clear hxl hS0 hSx1 hSx2 hSx3 hSx4 hSx5 hSx6 dx1 dx2 dx3 dx4 dx5 dx6 bx1 bx2 bx3 bx4 bx5 bx6 own1 own1' own2 kc oc ap pc pm po hm ho mc bd HS HCL HDZ hdd hcl b6
  have HBASE : Hid (w.heap.size ≤ w4.heap.size) := hbs
  clear hbs
  go_wp2_with fail
  go_loopw [10] (fun i W => ∃ j : Nat, j ≤ ps.length ∧ i = .int .i64 j ∧ Hid (SpW w w4.heap.size W g ps.length zc [.int .i64 a1, .int .i64 a2, .int .i64 a3, .int .i64 a4, .int .i64 a5, .int .i64 a6, .int .i64 a7, .slice (some ⟨g, 0, none⟩) ps.length ps.length] [.int .i64 a1, .int .i64 a2, .int .i64 a3, .int .i64 a4, .int .i64 a5, .int .i64 a6, .int .i64 a7, .slice A ps.length c])) (fun i _ => ps.length - (intOf i).toNat)
  case atStart => exact ⟨0, by omega, rfl, HW0⟩
  case round =>
    clear HW0
    rename World => W
    obtain ⟨j, hj, rfl, HW⟩ := hrel
    obtain ⟨p7, m0, m1, m2, m3, m4, m5, m6, m7⟩ : W.cell? ⟨zc, 7, none⟩ = some (.slice (some ⟨g, 0, none⟩) ps.length ps.length) ∧ W.cell? ⟨w.heap.size, 0, none⟩ = some (.int .i64 a1) ∧ W.cell? ⟨w.heap.size, 1, none⟩ = some (.int .i64 a2) ∧ W.cell? ⟨w.heap.size, 2, none⟩ = some (.int .i64 a3) ∧ W.cell? ⟨w.heap.size, 3, none⟩ = some (.int .i64 a4) ∧ W.cell? ⟨w.heap.size, 4, none⟩ = some (.int .i64 a5) ∧ W.cell? ⟨w.heap.size, 5, none⟩ = some (.int .i64 a6) ∧ W.cell? ⟨w.heap.size, 6, none⟩ = some (.int .i64 a7) ∧ W.cell? ⟨w.heap.size, 7, none⟩ = some (.slice A ps.length c) := by
      obtain ⟨ys, -, hc, hk, -⟩ := HW.out
      exact ⟨hc.cell 7, hk.cell 0, hk.cell 1, hk.cell 2, hk.cell 3, hk.cell 4, hk.cell 5, hk.cell 6, hk.cell 7⟩
    by_cases hjn : j < ps.length
    · clear m0 m1 m2 m3 m4 m5 m6 m7
      have hz : (0 : Int) ≤ j := by omega
      have hlt : (j : Int) < ps.length := by omega
      have HJ := hid hjn
      obtain ⟨⟨v0, hv0⟩, hf0, L, HI⟩ := HW.out.path hbg.out hjn ⟨#[115, 112, 111, 105, 108, 116]⟩
      have HI0 := hid HI
      have hLm : L ≤ 9223372036854775807 := HI.len
      obtain ⟨hc1, C1, c1, c31⟩ := HI.cells
      have p71 := hc1.cell 7
      simp only [List.getElem?_cons_zero, List.getElem?_cons_succ] at p71
      clear HI hc1
      go_wp2_with fail
      go_loopw [11] (fun i W => ∃ t : Nat, t ≤ L ∧ i = .int .i64 t ∧ Hid (SpI w w4.heap.size W g ps.length zc [.int .i64 a1, .int .i64 a2, .int .i64 a3, .int .i64 a4, .int .i64 a5, .int .i64 a6, .int .i64 a7, .slice (some ⟨g, 0, none⟩) ps.length ps.length] [.int .i64 a1, .int .i64 a2, .int .i64 a3, .int .i64 a4, .int .i64 a5, .int .i64 a6, .int .i64 a7, .slice A ps.length c] j L)) (fun i _ => L - (intOf i).toNat)
      case atStart => exact ⟨0, by omega, rfl, HI0⟩
      case round =>
        clear HI0 p7 hv0 hf0 c31 p71 HW hjn
        rename World => V
        obtain ⟨t, ht, rfl, HI⟩ := hrel
        by_cases htl : t < L
        · have htz : (0 : Int) ≤ t := by omega
          have htl2 : (t : Int) < L := by omega
          have HT := hid htl
          obtain ⟨b, cc, c3, ⟨v1, hv1⟩, hf1, HI2⟩ := HI.out.chunk HBASE.out htl (-7)
          have HF := hid HI2
          obtain ⟨hc2, -⟩ := HI.out.cells
          have p72 := hc2.cell 7
          simp only [List.getElem?_cons_zero, List.getElem?_cons_succ] at p72
          clear HI2 hc2 HI htl
          go_wp2
          go_roundw
          case rel => exact ⟨t + 1, HT.out, by go_num, HF⟩
          case measure => have := HT.out; simp [intOf]; omega
        · have htz2 : t = L := by omega
          have hnl : ¬ (t : Int) < L := by omega
          have HF := hid HI.out.out
          obtain ⟨hc2, C3, c3', c3⟩ := HI.out.cells
          have p72 := hc2.cell 7
          simp only [List.getElem?_cons_zero, List.getElem?_cons_succ] at p72
          clear hc2 HI ht
          have HTZ := hid htz2
          clear htz2
          go_wp2
          go_roundw
          case rel => exact ⟨j + 1, HJ.out, by go_num, HF⟩
          case measure => have := HJ.out; simp [intOf]; omega
    · have hjn2 : j = ps.length := by omega
      have hnl : ¬ (j : Int) < ps.length := by omega
      have HJN := hid hjn2
      clear hjn2 hj hjn
      have HB : Hid (Below w.heap.size w W) := by obtain ⟨ys, -, -, -, hb⟩ := HW.out; exact hid hb
      have hmW := hm0.below HB.out
      have HS : Hid (∀ V, Below W.heap.size W V → (fun W => W.cell? ⟨w.heap.size, 0, none⟩ = some (.int .i64 a1) ∧ W.cell? ⟨w.heap.size, 1, none⟩ = some (.int .i64 a2) ∧ W.cell? ⟨w.heap.size, 2, none⟩ = some (.int .i64 a3) ∧ W.cell? ⟨w.heap.size, 3, none⟩ = some (.int .i64 a4) ∧ W.cell? ⟨w.heap.size, 4, none⟩ = some (.int .i64 a5) ∧ W.cell? ⟨w.heap.size, 5, none⟩ = some (.int .i64 a6) ∧ W.cell? ⟨w.heap.size, 6, none⟩ = some (.int .i64 a7) ∧ W.cell? ⟨w.heap.size, 7, none⟩ = some (.slice A ps.length c)) V) := hid fun V hb => by
        obtain ⟨ys, -, -, hk, -⟩ := HW.out
        have k1 := hk.below hb
        exact ⟨k1.cell 0, k1.cell 1, k1.cell 2, k1.cell 3, k1.cell 4, k1.cell 5, k1.cell 6, k1.cell 7⟩
      obtain ⟨rb, hrb⟩ : ∃ x, manR (⟨a1, a2, a3, a4, a5, a6, a7, ps⟩ : Man) = x := ⟨_, rfl⟩
      have HRB := hid hrb
      clear hrb
      have hrr : (rb == rb) = true := by cases rb <;> rfl
      obtain ⟨sB, hsB⟩ : ∃ s, toS (manB (⟨a1, a2, a3, a4, a5, a6, a7, ps⟩ : Man)) = s := ⟨_, rfl⟩
      have HSB := hid hsB
      clear hsB
      have hss := str_eqb1 sB sB
      rw [decide_eq_true rfl] at hss
      have bd : Below W.heap.size W W.drew := (Below.refl _ _).drew
      have hS0 := HS.out _ bd
      go_wp2_with fail
      refine wp_region_held_drew (S := fun W => W.cell? ⟨w.heap.size, 0, none⟩ = some (.int .i64 a1) ∧ W.cell? ⟨w.heap.size, 1, none⟩ = some (.int .i64 a2) ∧ W.cell? ⟨w.heap.size, 2, none⟩ = some (.int .i64 a3) ∧ W.cell? ⟨w.heap.size, 3, none⟩ = some (.int .i64 a4) ∧ W.cell? ⟨w.heap.size, 4, none⟩ = some (.int .i64 a5) ∧ W.cell? ⟨w.heap.size, 5, none⟩ = some (.int .i64 a6) ∧ W.cell? ⟨w.heap.size, 6, none⟩ = some (.int .i64 a7) ∧ W.cell? ⟨w.heap.size, 7, none⟩ = some (.slice A ps.length c)) (by kernel_rfl) hS0 (fun hHeld => ?_)
      refine wpAnyH_take (i := 0) (oi := ⟨_, _, _, _, _, _⟩) (v := ?_) rfl (by kernel_rfl) (by kernel_rfl) (by kernel_rfl) (fun _ _ _ h => h) (Or.inl ⟨by rfl, ?_⟩) (by assumption) ?_
      rotate_left
      · intro w hSw; (try dsimp only at hSw); go_simp; (try (with_reducible rfl))
      try simp only [Act.put, List.setIfInBounds_toArray, List.set_cons_zero, List.set_cons_succ]
      refine wpAnyH_take (i := 1) (oi := ⟨_, _, _, _, _, _⟩) (v := ?_) rfl (by kernel_rfl) (by kernel_rfl) (by kernel_rfl) (fun _ _ _ h => h) (Or.inl ⟨by rfl, ?_⟩) (by assumption) ?_
      rotate_left
      · intro w hSw; (try dsimp only at hSw); go_simp; (try (with_reducible rfl))
      try simp only [Act.put, List.setIfInBounds_toArray, List.set_cons_zero, List.set_cons_succ]
      refine wpAnyH_take (i := 2) (oi := ⟨_, _, _, _, _, _⟩) (v := ?_) rfl (by kernel_rfl) (by kernel_rfl) (by kernel_rfl) (fun _ _ _ h => h) (Or.inl ⟨by rfl, ?_⟩) (by assumption) ?_
      rotate_left
      · intro w hSw; (try dsimp only at hSw); go_simp; (try (with_reducible rfl))
      try simp only [Act.put, List.setIfInBounds_toArray, List.set_cons_zero, List.set_cons_succ]
      refine wpAnyH_take (i := 3) (oi := ⟨_, _, _, _, _, _⟩) (v := ?_) rfl (by kernel_rfl) (by kernel_rfl) (by kernel_rfl) (fun _ _ _ h => h) (Or.inl ⟨by rfl, ?_⟩) (by assumption) ?_
      rotate_left
      · intro w hSw; (try dsimp only at hSw); go_simp; (try (with_reducible rfl))
      try simp only [Act.put, List.setIfInBounds_toArray, List.set_cons_zero, List.set_cons_succ]
      refine wpAnyH_take (i := 4) (oi := ⟨_, _, _, _, _, _⟩) (v := ?_) rfl (by kernel_rfl) (by kernel_rfl) (by kernel_rfl) (fun _ _ _ h => h) (Or.inl ⟨by rfl, ?_⟩) (by assumption) ?_
      rotate_left
      · intro w hSw; (try dsimp only at hSw); go_simp; (try (with_reducible rfl))
      try simp only [Act.put, List.setIfInBounds_toArray, List.set_cons_zero, List.set_cons_succ]
      refine wpAnyH_take (i := 5) (oi := ⟨_, _, _, _, _, _⟩) (v := ?_) rfl (by kernel_rfl) (by kernel_rfl) (by kernel_rfl) (fun _ _ _ h => h) (Or.inl ⟨by rfl, ?_⟩) (by assumption) ?_
      rotate_left
      · intro w hSw; (try dsimp only at hSw); go_simp; (try (with_reducible rfl))
      try simp only [Act.put, List.setIfInBounds_toArray, List.set_cons_zero, List.set_cons_succ]
      refine wpAnyH_take (i := 7) (oi := ⟨_, _, _, _, _, _⟩) (v := ?_) rfl (by kernel_rfl) (by kernel_rfl) (by kernel_rfl) (fun _ _ _ h => h) (Or.inl ⟨by rfl, ?_⟩) (by assumption) ?_
      rotate_left
      · intro w hSw; (try dsimp only at hSw); go_simp; (try (with_reducible rfl))
      try simp only [Act.put, List.setIfInBounds_toArray, List.set_cons_zero, List.set_cons_succ]
      refine wpAnyH_ready (rs := [6]) (by kernel_rfl) (by simp) ?_
      refine AllReadyH.cons (o := ⟨_, _, _, _, _, _⟩) rfl (fun K hK => ?_) AllReadyH.nil
      go_simp
      have cA := right12_any (hmW.below bd) hqr
      rw [HRB.out] at cA
      refine (cA).mono ?_
      rintro e x1 ⟨rfl, bx1⟩
      have dx1 := below2 bd bx1
      have hSx1 := HS.out _ dx1
      clear cA
      refine hK.out _ _ hSx1 (fun hHeld => ?_)
      clear hK K
      try simp only [Act.put, List.setIfInBounds_toArray, List.set_cons_zero, List.set_cons_succ]
      refine wpAnyH_ready (rs := [8]) (by kernel_rfl) (by simp) ?_
      refine AllReadyH.cons (o := ⟨_, _, _, _, _, _⟩) rfl (fun K hK => ?_) AllReadyH.nil
      go_simp
      have cB := rright12_any (hmW.below dx1) hqr
      rw [HRB.out] at cB
      refine (cB).mono ?_
      rintro e x2 ⟨rfl, bx2⟩
      have dx2 := below2 dx1 bx2
      have hSx2 := HS.out _ dx2
      clear cB
      refine hK.out _ _ hSx2 (fun hHeld => ?_)
      clear hK K
      try simp only [Act.put, List.setIfInBounds_toArray, List.set_cons_zero, List.set_cons_succ]
      refine wpAnyH_take (i := 9) (oi := ⟨_, _, _, _, _, _⟩) (v := ?_) rfl (by kernel_rfl) (by kernel_rfl) (by kernel_rfl) (fun _ _ _ h => h) (Or.inl ⟨by rfl, ?_⟩) (by assumption) ?_
      rotate_left
      · intro w hSw; (try dsimp only at hSw); go_simp; (try (with_reducible rfl))
      try simp only [Act.put, List.setIfInBounds_toArray, List.set_cons_zero, List.set_cons_succ]
      refine wpAnyH_take (i := 10) (oi := ⟨_, _, _, _, _, _⟩) (v := ?_) rfl (by kernel_rfl) (by kernel_rfl) (by kernel_rfl) (fun _ _ _ h => h) (Or.inl ⟨by rfl, ?_⟩) (by assumption) ?_
      rotate_left
      · intro w hSw; (try dsimp only at hSw); go_simp; (try (with_reducible rfl))
      try simp only [Act.put, List.setIfInBounds_toArray, List.set_cons_zero, List.set_cons_succ]
      refine wpAnyH_take (i := 11) (oi := ⟨_, _, _, _, _, _⟩) (v := ?_) rfl (by kernel_rfl) (by kernel_rfl) (by kernel_rfl) (fun _ _ _ h => h) (Or.inl ⟨by rfl, ?_⟩) (by assumption) ?_
      rotate_left
      · intro w hSw; (try dsimp only at hSw); go_simp; (try (with_reducible rfl))
      try simp only [Act.put, List.setIfInBounds_toArray, List.set_cons_zero, List.set_cons_succ]
      refine wpAnyH_take (i := 12) (oi := ⟨_, _, _, _, _, _⟩) (v := ?_) rfl (by kernel_rfl) (by kernel_rfl) (by kernel_rfl) (fun _ _ _ h => h) (Or.inl ⟨by rfl, ?_⟩) (by assumption) ?_
      rotate_left
      · intro w hSw; (try dsimp only at hSw); go_simp; (try (with_reducible rfl))
      try simp only [Act.put, List.setIfInBounds_toArray, List.set_cons_zero, List.set_cons_succ]
      refine wpAnyH_take (i := 14) (oi := ⟨_, _, _, _, _, _⟩) (v := ?_) rfl (by kernel_rfl) (by kernel_rfl) (by kernel_rfl) (fun _ _ _ h => h) (Or.inl ⟨by rfl, ?_⟩) (by assumption) ?_
      rotate_left
      · intro w hSw; (try dsimp only at hSw); go_simp; (try (with_reducible rfl))
      try simp only [Act.put, List.setIfInBounds_toArray, List.set_cons_zero, List.set_cons_succ]
      refine wpAnyH_ready (rs := [13]) (by kernel_rfl) (by simp) ?_
      refine AllReadyH.cons (o := ⟨_, _, _, _, _, _⟩) rfl (fun K hK => ?_) AllReadyH.nil
      go_simp
      have cC := bytes12_any (hmW.below dx2) hqp hqb
      rw [HSB.out] at cC
      refine (cC).mono ?_
      rintro e x3 ⟨rfl, bx3⟩
      have dx3 := below2 dx2 bx3
      have hSx3 := HS.out _ dx3
      clear cC
      refine hK.out _ _ hSx3 (fun hHeld => ?_)
      clear hK K
      try simp only [Act.put, List.setIfInBounds_toArray, List.set_cons_zero, List.set_cons_succ]
      refine wpAnyH_ready (rs := [15]) (by kernel_rfl) (by simp) ?_
      refine AllReadyH.cons (o := ⟨_, _, _, _, _, _⟩) rfl (fun K hK => ?_) AllReadyH.nil
      go_simp
      have cD := rbytes12_any (hmW.below dx3) hqp hqb
      rw [HSB.out] at cD
      refine (cD).mono ?_
      rintro e x4 ⟨rfl, bx4⟩
      have dx4 := below2 dx3 bx4
      have hSx4 := HS.out _ dx4
      clear cD
      refine hK.out _ _ hSx4 (fun hHeld => ?_)
      clear hK K
      try simp only [Act.put, List.setIfInBounds_toArray, List.set_cons_zero, List.set_cons_succ]
      refine wpAnyH_take (i := 16) (oi := ⟨_, _, _, _, _, _⟩) (v := ?_) rfl (by kernel_rfl) (by kernel_rfl) (by kernel_rfl) (fun _ _ _ h => h) (Or.inl ⟨by rfl, ?_⟩) (by assumption) ?_
      rotate_left
      · intro w hSw; (try dsimp only at hSw); go_simp; (try (with_reducible rfl))
      try simp only [Act.put, List.setIfInBounds_toArray, List.set_cons_zero, List.set_cons_succ]
      refine wpAnyH_take (i := 17) (oi := ⟨_, _, _, _, _, _⟩) (v := ?_) rfl (by kernel_rfl) (by kernel_rfl) (by kernel_rfl) (fun _ _ _ h => h) (Or.inl ⟨by rfl, ?_⟩) (by assumption) ?_
      rotate_left
      · intro w hSw; (try dsimp only at hSw); go_simp; (try (with_reducible rfl))
      try simp only [Act.put, List.setIfInBounds_toArray, List.set_cons_zero, List.set_cons_succ]
      refine wpAnyH_take (i := 18) (oi := ⟨_, _, _, _, _, _⟩) (v := ?_) rfl (by kernel_rfl) (by kernel_rfl) (by kernel_rfl) (fun _ _ _ h => h) (Or.inl ⟨by rfl, ?_⟩) (by assumption) ?_
      rotate_left
      · intro w hSw; (try dsimp only at hSw); go_simp; (try (with_reducible rfl))
      try simp only [Act.put, List.setIfInBounds_toArray, List.set_cons_zero, List.set_cons_succ]
      refine wpAnyH_done (by kernel_rfl) ?_ _
      clear hHeld
      have bz := below2 HB.out dx4
      go_wp2
      go_ret
      exact ⟨rfl, bz⟩
end Go.Proofs.YtgafjbmpaeejbaaDoor
