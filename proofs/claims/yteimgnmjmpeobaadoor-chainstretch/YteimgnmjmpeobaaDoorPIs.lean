/- The text Is. -/
import Derived.Test.YteimgnmjmpeobaaDoorPIq
import Derived.BigQuiet
namespace Go.Proofs.YteimgnmjmpeobaaDoor
open Go.RowKit

set_option maxHeartbeats 8000000 in
set_option maxRecDepth 20000 in
theorem chainStretch_walk (u : Cur) (au : Int) (A : Option Addr) (c : Nat) (ms : List Man) (H : Option Addr) (kh : Nat) (hd : List Int) (O : Option Addr) (k : Nat) (own : List Int) (w : World)
    (hu : CurI u) (_ : (Lit.int .i64 au).wf = true) (hms : MsAt w A ms) (hmc : ms.length ≤ c) (hmc2 : c ≤ maxLen) (_ : True) (hhr : Rd w H (hd.map (Value.int .i64))) (hhk : hd.length ≤ kh) (hhb : kh * Tryd.prog.bytesOf 3 ≤ reachBytes) (_ : ∀ n ∈ hd, (Lit.int .i64 n).wf = true)
    (hor : Rd w O (own.map (Value.int .i64))) (hok : own.length ≤ k) (hkb : k * Tryd.prog.bytesOf 3 ≤ reachBytes) (_ : ∀ n ∈ own, (Lit.int .i64 n).wf = true) :
    Calls Tryd.prog 5 #[curV u, .int .i64 au, .slice A ms.length c, .slice H hd.length kh, .slice O own.length k] w fun e w' => e = .returned (.bool true) ∧ Below w.heap.size w w' := by
  have hal : ∀ (W : World) (o : Obj), Below W.heap.size W (W.alloc o) := fun W o => (Below.refl _ _).alloc (Nat.le_refl _) o
  have hon := own_le1 hok hkb (by kernel_rfl)
  have hhn := own_le1 hhk hhb (by kernel_rfl)
  replace hor : Rd w O (intV own) := hor
  replace hhr : Rd w H (intV hd) := hhr
  have hor0 := hor
  have hhr0 := hhr
  have hms0 := hms
  obtain ⟨n, hn⟩ : ∃ n, own.length = n := ⟨_, rfl⟩
  obtain ⟨n2, hn2⟩ : ∃ n2, hd.length = n2 := ⟨_, rfl⟩
  obtain ⟨N, hN⟩ : ∃ N, ms.length = N := ⟨_, rfl⟩
  rw [hn] at hon ⊢
  rw [hn2] at hhn ⊢
  rw [hN]
  have HOL := hid hn
  have HHL := hid hn2
  have HN := hid hN
  have HMC := hid hmc
  have hNb : N ≤ 9223372036854775807 := by unfold maxLen at hmc2; omega
  have HCV := hid hu.v.1
  clear hn hn2 hN hok hkb hhk hhb hu hmc
  obtain ⟨v0, h0, e0, a0⟩ := u
  dsimp only at HCV
  go_enter Tryd.func5, Tryd.ntmps5
  have bx := hal w (.cells #[.int .i64 v0, .int .i64 h0, .int .i64 e0, .int .i64 a0] 23)
  have pc := Blk.new w [.int .i64 v0, .int .i64 h0, .int .i64 e0, .int .i64 a0] 23
  replace hor := hor.below bx
  replace hhr := hhr.below bx
  replace hms := hms.below bx
  have bw := bx
  clear bx
  have cc := small13_any (w.alloc (.cells #[.int .i64 v0, .int .i64 h0, .int .i64 e0, .int .i64 a0] 23))
  go_wp2_with fail
  refine cc.mono ?_
  clear  cc
  generalize (w.alloc (.cells #[.int .i64 v0, .int .i64 h0, .int .i64 e0, .int .i64 a0] 23)) = wg1 at *
  rintro _ w1 ⟨rfl, bx⟩
  simp only
  replace pc := pc.below bx
  replace hor := hor.below bx
  replace hhr := hhr.below bx
  replace hms := hms.below bx
  replace bw := below2 bw bx
  clear bx
  have lpc := pc.lt
  have pc_0 := pc.cell 0
  have pc_1 := pc.cell 1
  have pc_2 := pc.cell 2
  have pc_3 := pc.cell 3
  simp only [List.getElem?_cons_zero, List.getElem?_cons_succ] at pc_0 pc_1 pc_2 pc_3
  have cc := few13_any hms HMC.out hmc2
  rw [HN.out] at cc
  go_wp2_with fail
  refine cc.mono ?_
  clear lpc pc_0 pc_1 pc_2 pc_3 cc
  rintro _ w2 ⟨rfl, bx⟩
  simp only
  replace pc := pc.below bx
  replace hor := hor.below bx
  replace hhr := hhr.below bx
  replace hms := hms.below bx
  replace bw := below2 bw bx
  clear bx
  have hwz : w.heap.size ≤ w2.heap.size := bw.size
  cases hq : fewMs ms
  · clear hq
    go_wp2
    go_ret
    exact ⟨rfl, bw⟩
  have HSZ := hid (fun m hm => few_paths13 ((fewMs_sz hq).2 m hm))
  clear hq
  by_cases h300 : (300 : Int) < n
  · go_wp2
    go_ret
    exact ⟨rfl, bw⟩
  by_cases hnn : n2 = N
  rotate_left
  · have hb : ((n2 : Int) != (N : Int)) = true := by simp; omega
    go_wp2
    go_ret
    exact ⟨rfl, bw⟩
  subst hnn
  have lpc := pc.lt
  have pc_0 := pc.cell 0
  have pc_1 := pc.cell 1
  have pc_2 := pc.cell 2
  have pc_3 := pc.cell 3
  simp only [List.getElem?_cons_zero, List.getElem?_cons_succ] at pc_0 pc_1 pc_2 pc_3
  have bx := hal w2 (.cells #[.int .i64 v0, .int .i64 h0, .int .i64 e0, .int .i64 a0] 23)
  have pa := Blk.new w2 [.int .i64 v0, .int .i64 h0, .int .i64 e0, .int .i64 a0] 23
  replace pc := pc.below bx
  replace hor := hor.below bx
  replace hhr := hhr.below bx
  replace hms := hms.below bx
  replace bw := below2 bw bx
  clear bx
  have HCL := hid (curAt_low (u := (⟨v0, h0, e0, a0⟩ : Cur)) (au := au) (l := ms) (hd := hd) (own := own) HCV.out)
  go_wp2_with fail
  clear lpc pc_0 pc_1 pc_2 pc_3 pc
  generalize (w2.alloc (.cells #[.int .i64 v0, .int .i64 h0, .int .i64 e0, .int .i64 a0] 23)) = wg at *
  have hga : w.heap.size ≤ w2.heap.size := hwz
  generalize w2.heap.size = ga at *
  have horW := fun {W : World} (hb : Below w.heap.size w W) => hor0.below hb
  have hhrW := fun {W : World} (hb : Below w.heap.size w W) => hhr0.below hb
  have hmsW := fun {W : World} (hb : Below w.heap.size w W) => hms0.below hb
  clear hor hhr hms
  go_loopw [14] (fun i wr => ∃ j : Nat, j ≤ n2 ∧ i = .int .i64 j ∧ Blk wr ga (curL (curAt (⟨v0, h0, e0, a0⟩ : Cur) au ms hd own j)) 23 ∧ Below w.heap.size w wr) (fun i _ => n2 - (intOf i).toNat)
  case atStart => exact ⟨0, by omega, rfl, pa, bw⟩
  case round =>
    clear pa bw
    obtain ⟨j, hj, rfl, pa, bw⟩ := hrel
    have hor := horW bw
    have hhr := hhrW bw
    have hms := hmsW bw
    have la := pa.lt
    have hz : (0 : Int) ≤ j := by omega
    by_cases hjn : j < n2
    · have hjl : j < ms.length := by rw [HN.out]; exact hjn
      have hjh : j < hd.length := by rw [HHL.out]; exact hjn
      have hlt : (j : Int) < n2 := by omega
      have HLO := hid (HCL.out j)
      have HSU := hid (curAt_succ (c := (⟨v0, h0, e0, a0⟩ : Cur)) (au := au) (hd := hd) (own := own) hjl)
      have HJ := hid hjn
      obtain ⟨b, og, B, mc, rfl, m0, m1, m2, m3, m4, m5, m6, m7, hmj, -⟩ := hms.man hjl
      obtain ⟨bh, oh, rfl, y0, lh⟩ := int_at hhr hjh
      rw [show hd.getD j 0 = hd[j] by rw [List.getD_eq_getElem?_getD, List.getElem?_eq_getElem hjh]; rfl] at HSU
      have hsj := HSZ.out ms[j] (List.getElem_mem hjl)
      generalize hX1 : curAt (⟨v0, h0, e0, a0⟩ : Cur) au ms hd own (j + 1) = X1 at *
      have HX1 := hid hX1
      clear hX1
      generalize curAt (⟨v0, h0, e0, a0⟩ : Cur) au ms hd own j = X at *
      generalize ms[j] = M at *
      generalize hd[j] = hv at *
      obtain ⟨a1, a2, a3, a4, a5, a6, a7, ps⟩ := M
      obtain ⟨x1, x2, x3, x4⟩ := X
      dsimp only at m0 m1 m2 m3 m4 m5 m6 m7 hsj HLO
      have lm : b < wr.heap.size := World.block_lt_of_cell? _ _ m0
      have q0 := pa.cell 0
      have q1 := pa.cell 1
      have q2 := pa.cell 2
      have q3 := pa.cell 3
      simp only [List.getElem?_cons_zero, List.getElem?_cons_succ] at q0 q1 q2 q3
      have HAI := hid (acc_iff (c := (⟨x1, x2, x3, x4⟩ : Cur)) (au := au) (m := (⟨a1, a2, a3, a4, a5, a6, a7, ps⟩ : Man)) (own := own))
      have HYES := hid (fun hh => accC_yes (c := (⟨x1, x2, x3, x4⟩ : Cur)) (au := au) (m := (⟨a1, a2, a3, a4, a5, a6, a7, ps⟩ : Man)) (head := hv) (own := own) hh)
      have HNO := hid (fun hh => accC_no (c := (⟨x1, x2, x3, x4⟩ : Cur)) (au := au) (m := (⟨a1, a2, a3, a4, a5, a6, a7, ps⟩ : Man)) (head := hv) (own := own) hh)
      rw [← HSU.out] at HYES HNO
      have hmW := fun {W : World} (hb : Below wr.heap.size wr W) => hmj.below hb
      have hoW := fun {W : World} (hb : Below wr.heap.size wr W) => hor.below hb
      have hcc := fun {W : World} (hb : Below wr.heap.size wr W) => accept_any (k := k) (u := (⟨x1, x2, x3, x4⟩ : Cur)) au hv (hmW hb) hsj HLO.out HOL.out (hoW hb) hon
      have HS : ∀ W, Below wr.heap.size wr W → (fun w' => w'.cell? ⟨ga, 0, none⟩ = some (.int .i64 x1) ∧ w'.cell? ⟨ga, 1, none⟩ = some (.int .i64 x2) ∧ w'.cell? ⟨ga, 2, none⟩ = some (.int .i64 x3) ∧ w'.cell? ⟨ga, 3, none⟩ = some (.int .i64 x4) ∧ w'.cell? ⟨b, og + j * 8, none⟩ = some (.int .i64 a1) ∧ w'.cell? ⟨b, og + j * 8 + 1, none⟩ = some (.int .i64 a2) ∧ w'.cell? ⟨b, og + j * 8 + 2, none⟩ = some (.int .i64 a3) ∧ w'.cell? ⟨b, og + j * 8 + 3, none⟩ = some (.int .i64 a4) ∧ w'.cell? ⟨b, og + j * 8 + 4, none⟩ = some (.int .i64 a5) ∧ w'.cell? ⟨b, og + j * 8 + 5, none⟩ = some (.int .i64 a6) ∧ w'.cell? ⟨b, og + j * 8 + 6, none⟩ = some (.int .i64 a7) ∧ w'.cell? ⟨b, og + j * 8 + 7, none⟩ = some (.slice B ps.length mc) ∧ w'.cell? ⟨bh, oh + j, none⟩ = some (.int .i64 hv)) W := fun W h => ⟨(h.cell la).trans q0, (h.cell la).trans q1, (h.cell la).trans q2, (h.cell la).trans q3, (h.cell lm).trans m0, (h.cell lm).trans m1, (h.cell lm).trans m2, (h.cell lm).trans m3, (h.cell lm).trans m4, (h.cell lm).trans m5, (h.cell lm).trans m6, (h.cell lm).trans m7, (h.cell lh).trans y0⟩
      go_wp2_with fail
      refine wp_region_held_drew (S := fun w' => w'.cell? ⟨ga, 0, none⟩ = some (.int .i64 x1) ∧ w'.cell? ⟨ga, 1, none⟩ = some (.int .i64 x2) ∧ w'.cell? ⟨ga, 2, none⟩ = some (.int .i64 x3) ∧ w'.cell? ⟨ga, 3, none⟩ = some (.int .i64 x4) ∧ w'.cell? ⟨b, og + j * 8, none⟩ = some (.int .i64 a1) ∧ w'.cell? ⟨b, og + j * 8 + 1, none⟩ = some (.int .i64 a2) ∧ w'.cell? ⟨b, og + j * 8 + 2, none⟩ = some (.int .i64 a3) ∧ w'.cell? ⟨b, og + j * 8 + 3, none⟩ = some (.int .i64 a4) ∧ w'.cell? ⟨b, og + j * 8 + 4, none⟩ = some (.int .i64 a5) ∧ w'.cell? ⟨b, og + j * 8 + 5, none⟩ = some (.int .i64 a6) ∧ w'.cell? ⟨b, og + j * 8 + 6, none⟩ = some (.int .i64 a7) ∧ w'.cell? ⟨b, og + j * 8 + 7, none⟩ = some (.slice B ps.length mc) ∧ w'.cell? ⟨bh, oh + j, none⟩ = some (.int .i64 hv)) (by kernel_rfl) (HS _ (Below.refl wr.heap.size wr).drew) (fun hHeld => ?_)
      refine wpAnyH_take (i := 0) (oi := ⟨_, _, _, _, _, _⟩) (v := ?_) rfl (by kernel_rfl) (by kernel_rfl) (by kernel_rfl) (fun _ _ _ h => h) (Or.inl ⟨by rfl, ?_⟩) (by assumption) ?_
      rotate_left
      · intro w hSw; (try dsimp only at hSw); go_simp; (try (with_reducible rfl))
      try simp only [Act.put, List.setIfInBounds_toArray, List.set_cons_zero, List.set_cons_succ]
      refine wpAnyH_take (i := 1) (oi := ⟨_, _, _, _, _, _⟩) (v := ?_) rfl (by kernel_rfl) (by kernel_rfl) (by kernel_rfl) (fun _ _ _ h => h) (Or.inl ⟨by rfl, ?_⟩) (by assumption) ?_
      rotate_left
      · intro w hSw; (try dsimp only at hSw); go_simp; (try (with_reducible rfl))
      try simp only [Act.put, List.setIfInBounds_toArray, List.set_cons_zero, List.set_cons_succ]
      refine wpAnyH_take (i := 2) (oi := ⟨_, _, _, _, _, _⟩) (v := ?_) rfl (by kernel_rfl) (by kernel_rfl) (by kernel_rfl) (fun _ _ _ h => h) (Or.inl ⟨by rfl, ?_⟩) (by assumption) ?_
      rotate_left
      · intro w hSw; (try dsimp only at hSw); go_simp; (try (with_reducible rfl))
      try simp only [Act.put, List.setIfInBounds_toArray, List.set_cons_zero, List.set_cons_succ]
      refine wpAnyH_take (i := 3) (oi := ⟨_, _, _, _, _, _⟩) (v := ?_) rfl (by kernel_rfl) (by kernel_rfl) (by kernel_rfl) (fun _ _ _ h => h) (Or.inl ⟨by rfl, ?_⟩) (by assumption) ?_
      rotate_left
      · intro w hSw; (try dsimp only at hSw); go_simp; (try (with_reducible rfl))
      try simp only [Act.put, List.setIfInBounds_toArray, List.set_cons_zero, List.set_cons_succ]
      refine wpAnyH_take (i := 4) (oi := ⟨_, _, _, _, _, _⟩) (v := ?_) rfl (by kernel_rfl) (by kernel_rfl) (by kernel_rfl) (fun _ _ _ h => h) (Or.inl ⟨by rfl, ?_⟩) (by assumption) ?_
      rotate_left
      · intro w hSw; (try dsimp only at hSw); go_simp; (try (with_reducible rfl))
      try simp only [Act.put, List.setIfInBounds_toArray, List.set_cons_zero, List.set_cons_succ]
      refine wpAnyH_take (i := 5) (oi := ⟨_, _, _, _, _, _⟩) (v := ?_) rfl (by kernel_rfl) (by kernel_rfl) (by kernel_rfl) (fun _ _ _ h => h) (Or.inl ⟨by rfl, ?_⟩) (by assumption) ?_
      rotate_left
      · intro w hSw; (try dsimp only at hSw); go_simp; (try (with_reducible rfl))
      try simp only [Act.put, List.setIfInBounds_toArray, List.set_cons_zero, List.set_cons_succ]
      refine wpAnyH_take (i := 6) (oi := ⟨_, _, _, _, _, _⟩) (v := ?_) rfl (by kernel_rfl) (by kernel_rfl) (by kernel_rfl) (fun _ _ _ h => h) (Or.inl ⟨by rfl, ?_⟩) (by assumption) ?_
      rotate_left
      · intro w hSw; (try dsimp only at hSw); go_simp; (try (with_reducible rfl))
      try simp only [Act.put, List.setIfInBounds_toArray, List.set_cons_zero, List.set_cons_succ]
      refine wpAnyH_take (i := 7) (oi := ⟨_, _, _, _, _, _⟩) (v := ?_) rfl (by kernel_rfl) (by kernel_rfl) (by kernel_rfl) (fun _ _ _ h => h) (Or.inl ⟨by rfl, ?_⟩) (by assumption) ?_
      rotate_left
      · intro w hSw; (try dsimp only at hSw); go_simp; (try (with_reducible rfl))
      try simp only [Act.put, List.setIfInBounds_toArray, List.set_cons_zero, List.set_cons_succ]
      refine wpAnyH_take (i := 8) (oi := ⟨_, _, _, _, _, _⟩) (v := ?_) rfl (by kernel_rfl) (by kernel_rfl) (by kernel_rfl) (fun _ _ _ h => h) (Or.inl ⟨by rfl, ?_⟩) (by assumption) ?_
      rotate_left
      · intro w hSw; (try dsimp only at hSw); go_simp; (try (with_reducible rfl))
      try simp only [Act.put, List.setIfInBounds_toArray, List.set_cons_zero, List.set_cons_succ]
      refine wpAnyH_take (i := 9) (oi := ⟨_, _, _, _, _, _⟩) (v := ?_) rfl (by kernel_rfl) (by kernel_rfl) (by kernel_rfl) (fun _ _ _ h => h) (Or.inl ⟨by rfl, ?_⟩) (by assumption) ?_
      rotate_left
      · intro w hSw; (try dsimp only at hSw); go_simp; (try (with_reducible rfl))
      try simp only [Act.put, List.setIfInBounds_toArray, List.set_cons_zero, List.set_cons_succ]
      refine wpAnyH_take (i := 10) (oi := ⟨_, _, _, _, _, _⟩) (v := ?_) rfl (by kernel_rfl) (by kernel_rfl) (by kernel_rfl) (fun _ _ _ h => h) (Or.inl ⟨by rfl, ?_⟩) (by assumption) ?_
      rotate_left
      · intro w hSw; (try dsimp only at hSw); go_simp; (try (with_reducible rfl))
      try simp only [Act.put, List.setIfInBounds_toArray, List.set_cons_zero, List.set_cons_succ]
      have d := (Below.refl wr.heap.size wr).drew
      have hds : wr.drew.heap.size = wr.heap.size := rfl
      generalize wr.drew = wd at *
      have hcd := hcc d
      refine wpAnyH_ready (rs := [11, 15]) (by kernel_rfl) (by simp) ?_
      refine AllReadyH.cons (o := ⟨_, _, _, _, _, _⟩) rfl (fun K hK => ?_) (AllReadyH.cons (o := ⟨_, _, _, _, _, _⟩) rfl (fun K hK => ?_) (AllReadyH.nil))
      · go_simp
        refine hcd.mono ?_
        rintro _ w3 ⟨rfl, b3⟩
        have b' := below2 d b3
        refine hK.out _ _ (HS _ b') (fun hHeld => ?_)
        clear hK K
        try simp only [Act.put, List.setIfInBounds_toArray, List.set_cons_zero, List.set_cons_succ]
        rw [← HSU.out]
        generalize accN (⟨x1, x2, x3, x4⟩ : Cur) au (⟨a1, a2, a3, a4, a5, a6, a7, ps⟩ : Man) own = E at *
        obtain ⟨v1, h1, e1, a1'⟩ := X1
        refine wpAnyH_take (i := 12) (oi := ⟨_, _, _, _, _, _⟩) (v := ?_) rfl (by kernel_rfl) (by kernel_rfl) (by kernel_rfl) (fun _ _ _ h => h) (Or.inl ⟨by rfl, ?_⟩) (by assumption) ?_
        rotate_left
        · intro w hSw; (try dsimp only at hSw); go_simp; (try (with_reducible rfl))
        try simp only [Act.put, List.setIfInBounds_toArray, List.set_cons_zero, List.set_cons_succ]
        refine wpAnyH_take (i := 13) (oi := ⟨_, _, _, _, _, _⟩) (v := ?_) rfl (by kernel_rfl) (by kernel_rfl) (by kernel_rfl) (fun _ _ _ h => h) (Or.inl ⟨by rfl, ?_⟩) (by assumption) ?_
        rotate_left
        · intro w hSw; (try dsimp only at hSw); go_simp; (try (with_reducible rfl))
        try simp only [Act.put, List.setIfInBounds_toArray, List.set_cons_zero, List.set_cons_succ]
        refine wpAnyH_take (i := 14) (oi := ⟨_, _, _, _, _, _⟩) (v := ?_) rfl (by kernel_rfl) (by kernel_rfl) (by kernel_rfl) (fun _ _ _ h => h) (Or.inl ⟨by rfl, ?_⟩) (by assumption) ?_
        rotate_left
        · intro w hSw; (try dsimp only at hSw); go_simp; (try (with_reducible rfl))
        try simp only [Act.put, List.setIfInBounds_toArray, List.set_cons_zero, List.set_cons_succ]
        refine wpAnyH_ready (rs := [15]) (by kernel_rfl) (by simp) ?_
        refine AllReadyH.cons (o := ⟨_, _, _, _, _, _⟩) rfl (fun K hK => ?_) (AllReadyH.nil)
        go_simp
        have pq := Blk.new w3 [.int .i64 0, .int .i64 0, .int .i64 0, .int .i64 0] 23
        have bx := hal w3 (.cells #[.int .i64 0, .int .i64 0, .int .i64 0, .int .i64 0] 23)
        have hgq : ga < w3.heap.size := Nat.lt_of_lt_of_le la b'.size
        have hgq2 : wr.heap.size ≤ w3.heap.size := b'.size
        replace pa := (pa.below b').below bx
        replace bw := below2 (bw.trans (b'.mono bw.size)) bx
        replace b' := below2 b' bx
        clear hcd hcc HSU d hds b3 bx
        generalize w3.alloc (.cells #[.int .i64 0, .int .i64 0, .int .i64 0, .int .i64 0] 23) = wz at *
        generalize w3.heap.size = gq at *
        refine hK.out _ _ (HS _ b') (fun hHeld => ?_)
        clear hK K
        try simp only [Act.put, List.setIfInBounds_toArray, List.set_cons_zero, List.set_cons_succ]
        have z0 := pq.cell 0
        have z1 := pq.cell 1
        have z2 := pq.cell 2
        have z3 := pq.cell 3
        have f0 := pq.frozen 0
        have f1 := pq.frozen 1
        have f2 := pq.frozen 2
        have f3 := pq.frozen 3
        have pqS := ((((pq.set_ 0 (.int .i64 v1)).set_ 1 (.int .i64 h1)).set_ 2 (.int .i64 e1)).set_ 3 (.int .i64 a1'))
        simp only [List.getElem?_cons_zero, List.getElem?_cons_succ, List.set_cons_zero, List.set_cons_succ] at z0 z1 z2 z3 pqS
        have gs := sets4 wz gq (.int .i64 v1) (.int .i64 h1) (.int .i64 e1) (.int .i64 a1')
        have bwS := bw.trans (below_grown bw.size (far13 (by omega)) gs)
        have paS := pa.grown gs (by intro e; injection e with e; omega)
        have bS : Below wr.heap.size wr ((((wz.setCell ⟨gq, 0, none⟩ (.int .i64 v1)).setCell ⟨gq, 1, none⟩ (.int .i64 h1)).setCell ⟨gq, 2, none⟩ (.int .i64 e1)).setCell ⟨gq, 3, none⟩ (.int .i64 a1')) := b'.trans (below_grown b'.size (far13 (by omega)) gs)
        refine wpAnyH_ready (rs := [16]) (by kernel_rfl) (by simp) ?_
        refine AllReadyH.cons (o := ⟨_, _, _, _, _, _⟩) rfl (fun K hK => ?_) AllReadyH.nil
        go_simp
        refine hK.out _ _ (HS _ bS) (fun hHeld => ?_)
        clear hK K
        try simp only [Act.put, List.setIfInBounds_toArray, List.set_cons_zero, List.set_cons_succ]
        refine wpAnyH_ready (rs := [17]) (by kernel_rfl) (by simp) ?_
        refine AllReadyH.cons (o := ⟨_, _, _, _, _, _⟩) rfl (fun K hK => ?_) AllReadyH.nil
        go_simp
        refine hK.out _ _ hHeld (fun hHeld => ?_)
        clear hK K
        try simp only [Act.put, List.setIfInBounds_toArray, List.set_cons_zero, List.set_cons_succ]
        refine wpAnyH_done (by kernel_rfl) ?_ _
        clear pq pa b' bw z0 z1 z2 z3 f0 f1 f2 f3 gs hHeld
        have pq := pqS
        have pa := paS
        have bw := bwS
        have b' := bS
        clear pqS paS bwS bS
        generalize ((((wz.setCell ⟨gq, 0, none⟩ (.int .i64 v1)).setCell ⟨gq, 1, none⟩ (.int .i64 h1)).setCell ⟨gq, 2, none⟩ (.int .i64 e1)).setCell ⟨gq, 3, none⟩ (.int .i64 a1')) = wE at *
        clear q0 q1 q2 q3
        by_cases hE : E = 0
        rotate_left
        · have hx := HNO.out hE
          injection hx with i1 i2 i3 i4
          subst i1 i2 i3 i4
          have hEb : (E != 0) = true := by simp [hE]
          have hne := neqC v1 h1 e1 a1' v1 h1 e1 a1'
          have q0 := pa.cell 0
          have q1 := pa.cell 1
          have q2 := pa.cell 2
          have q3 := pa.cell 3
          have y0 := pq.cell 0
          have y1 := pq.cell 1
          have y2 := pq.cell 2
          have y3 := pq.cell 3
          simp only [List.getElem?_cons_zero, List.getElem?_cons_succ] at q0 q1 q2 q3 y0 y1 y2 y3
          clear HAI HYES HNO HS pq
          go_wp2
          go_roundw
          case rel => exact ⟨j + 1, HJ.out, by go_num, by rw [HX1.out]; exact pa, bw⟩
          case measure => have := HJ.out; simp [intOf]; omega
        · subst hE
          obtain ⟨hrt, i1, i2, i3, i4, hse, -⟩ := HAI.out.1 rfl
          dsimp only at i1 i2 i3 i4 hse
          have hx := HYES.out rfl
          injection hx with i5 i6 i7 i8
          subst i1 i2 i3 i4 i5 i6 i7 i8
          have hv1 := hrt.v0
          have hv2 := hrt.v1
          have he1 := hrt.e0
          have he2 := hrt.e1
          have hn1 := hrt.ne
          dsimp only at hv1 hv2 he1 he2 hn1
          have HRR := hid ((manR_iff _).2 hrt)
          have hea : e1 ≥ a4 := by omega
          clear HAI HYES HNO hrt
          have hwr : IntKind.i64.wrap (x1 + 1) = x1 + 1 := by rw [IntKind.wrap_i64]; omega
          have hwr2 : IntKind.i64.wrap (a4 + 1) = a4 + 1 := by rw [IntKind.wrap_i64]; omega
          have hb0 : (x1 + 1 != x1 + 1) = false := by simp
          have hb1 : (a3 != a3) = false := by simp
          have hb2 : (a4 != a4) = false := by simp
          have hb3 : (a1 != a1) = false := by simp
          have hb4 : (h1 != h1) = false := by simp
          have hb5 : (a1' != a1') = false := by simp
          have hd1 : decide (e1 < a4) = false := decide_eq_false (by omega)
          have hd2 : decide (a4 + 1 < e1) = false := decide_eq_false (by omega)
          have hd3 : decide (a1' < x4) = false := decide_eq_false (by omega)
          clear hn1 hse hea HS
          have la2 := pa.lt
          have lm2 : b < wE.heap.size := Nat.lt_of_lt_of_le lm b'.size
          have q0 := pa.cell 0
          have q1 := pa.cell 1
          have q2 := pa.cell 2
          have q3 := pa.cell 3
          simp only [List.getElem?_cons_zero, List.getElem?_cons_succ] at q0 q1 q2 q3
          have HS2 : ∀ W, Below wE.heap.size wE W → (fun w' => w'.cell? ⟨ga, 0, none⟩ = some (.int .i64 x1) ∧ w'.cell? ⟨ga, 1, none⟩ = some (.int .i64 a3) ∧ w'.cell? ⟨ga, 2, none⟩ = some (.int .i64 a4) ∧ w'.cell? ⟨ga, 3, none⟩ = some (.int .i64 x4) ∧ w'.cell? ⟨b, og + j * 8, none⟩ = some (.int .i64 a1) ∧ w'.cell? ⟨b, og + j * 8 + 1, none⟩ = some (.int .i64 (x1 + 1)) ∧ w'.cell? ⟨b, og + j * 8 + 2, none⟩ = some (.int .i64 a3) ∧ w'.cell? ⟨b, og + j * 8 + 3, none⟩ = some (.int .i64 a4) ∧ w'.cell? ⟨b, og + j * 8 + 4, none⟩ = some (.int .i64 e1) ∧ w'.cell? ⟨b, og + j * 8 + 5, none⟩ = some (.int .i64 a1') ∧ w'.cell? ⟨b, og + j * 8 + 6, none⟩ = some (.int .i64 a7) ∧ w'.cell? ⟨b, og + j * 8 + 7, none⟩ = some (.slice B ps.length mc)) W := fun W h => ⟨(h.cell la2).trans q0, (h.cell la2).trans q1, (h.cell la2).trans q2, (h.cell la2).trans q3, (h.cell lm2).trans ((b'.cell lm).trans m0), (h.cell lm2).trans ((b'.cell lm).trans m1), (h.cell lm2).trans ((b'.cell lm).trans m2), (h.cell lm2).trans ((b'.cell lm).trans m3), (h.cell lm2).trans ((b'.cell lm).trans m4), (h.cell lm2).trans ((b'.cell lm).trans m5), (h.cell lm2).trans ((b'.cell lm).trans m6), (h.cell lm2).trans ((b'.cell lm).trans m7)⟩
          go_wp2_with fail
          refine wp_region_held_drew (S := fun w' => w'.cell? ⟨ga, 0, none⟩ = some (.int .i64 x1) ∧ w'.cell? ⟨ga, 1, none⟩ = some (.int .i64 a3) ∧ w'.cell? ⟨ga, 2, none⟩ = some (.int .i64 a4) ∧ w'.cell? ⟨ga, 3, none⟩ = some (.int .i64 x4) ∧ w'.cell? ⟨b, og + j * 8, none⟩ = some (.int .i64 a1) ∧ w'.cell? ⟨b, og + j * 8 + 1, none⟩ = some (.int .i64 (x1 + 1)) ∧ w'.cell? ⟨b, og + j * 8 + 2, none⟩ = some (.int .i64 a3) ∧ w'.cell? ⟨b, og + j * 8 + 3, none⟩ = some (.int .i64 a4) ∧ w'.cell? ⟨b, og + j * 8 + 4, none⟩ = some (.int .i64 e1) ∧ w'.cell? ⟨b, og + j * 8 + 5, none⟩ = some (.int .i64 a1') ∧ w'.cell? ⟨b, og + j * 8 + 6, none⟩ = some (.int .i64 a7) ∧ w'.cell? ⟨b, og + j * 8 + 7, none⟩ = some (.slice B ps.length mc)) (by kernel_rfl) (HS2 _ (Below.refl wE.heap.size wE).drew) (fun hHeld => ?_)
          refine wpAnyH_take (i := 0) (oi := ⟨_, _, _, _, _, _⟩) (v := ?_) rfl (by kernel_rfl) (by kernel_rfl) (by kernel_rfl) (fun _ _ _ h => h) (Or.inl ⟨by rfl, ?_⟩) (by assumption) ?_
          rotate_left
          · intro w hSw; (try dsimp only at hSw); go_simp; (try (with_reducible rfl))
          try simp only [Act.put, List.setIfInBounds_toArray, List.set_cons_zero, List.set_cons_succ]
          refine wpAnyH_take (i := 1) (oi := ⟨_, _, _, _, _, _⟩) (v := ?_) rfl (by kernel_rfl) (by kernel_rfl) (by kernel_rfl) (fun _ _ _ h => h) (Or.inl ⟨by rfl, ?_⟩) (by assumption) ?_
          rotate_left
          · intro w hSw; (try dsimp only at hSw); go_simp; (try (with_reducible rfl))
          try simp only [Act.put, List.setIfInBounds_toArray, List.set_cons_zero, List.set_cons_succ]
          refine wpAnyH_take (i := 2) (oi := ⟨_, _, _, _, _, _⟩) (v := ?_) rfl (by kernel_rfl) (by kernel_rfl) (by kernel_rfl) (fun _ _ _ h => h) (Or.inl ⟨by rfl, ?_⟩) (by assumption) ?_
          rotate_left
          · intro w hSw; (try dsimp only at hSw); go_simp; (try (with_reducible rfl))
          try simp only [Act.put, List.setIfInBounds_toArray, List.set_cons_zero, List.set_cons_succ]
          refine wpAnyH_take (i := 3) (oi := ⟨_, _, _, _, _, _⟩) (v := ?_) rfl (by kernel_rfl) (by kernel_rfl) (by kernel_rfl) (fun _ _ _ h => h) (Or.inl ⟨by rfl, ?_⟩) (by assumption) ?_
          rotate_left
          · intro w hSw; (try dsimp only at hSw); go_simp; (try (with_reducible rfl))
          try simp only [Act.put, List.setIfInBounds_toArray, List.set_cons_zero, List.set_cons_succ]
          refine wpAnyH_take (i := 4) (oi := ⟨_, _, _, _, _, _⟩) (v := ?_) rfl (by kernel_rfl) (by kernel_rfl) (by kernel_rfl) (fun _ _ _ h => h) (Or.inl ⟨by rfl, ?_⟩) (by assumption) ?_
          rotate_left
          · intro w hSw; (try dsimp only at hSw); go_simp; (try (with_reducible rfl))
          try simp only [Act.put, List.setIfInBounds_toArray, List.set_cons_zero, List.set_cons_succ]
          refine wpAnyH_take (i := 5) (oi := ⟨_, _, _, _, _, _⟩) (v := ?_) rfl (by kernel_rfl) (by kernel_rfl) (by kernel_rfl) (fun _ _ _ h => h) (Or.inl ⟨by rfl, ?_⟩) (by assumption) ?_
          rotate_left
          · intro w hSw; (try dsimp only at hSw); go_simp; (try (with_reducible rfl))
          try simp only [Act.put, List.setIfInBounds_toArray, List.set_cons_zero, List.set_cons_succ]
          refine wpAnyH_take (i := 6) (oi := ⟨_, _, _, _, _, _⟩) (v := ?_) rfl (by kernel_rfl) (by kernel_rfl) (by kernel_rfl) (fun _ _ _ h => h) (Or.inl ⟨by rfl, ?_⟩) (by assumption) ?_
          rotate_left
          · intro w hSw; (try dsimp only at hSw); go_simp; (try (with_reducible rfl))
          try simp only [Act.put, List.setIfInBounds_toArray, List.set_cons_zero, List.set_cons_succ]
          refine wpAnyH_take (i := 7) (oi := ⟨_, _, _, _, _, _⟩) (v := ?_) rfl (by kernel_rfl) (by kernel_rfl) (by kernel_rfl) (fun _ _ _ h => h) (Or.inl ⟨by rfl, ?_⟩) (by assumption) ?_
          rotate_left
          · intro w hSw; (try dsimp only at hSw); go_simp; (try (with_reducible rfl))
          try simp only [Act.put, List.setIfInBounds_toArray, List.set_cons_zero, List.set_cons_succ]
          refine wpAnyH_take (i := 8) (oi := ⟨_, _, _, _, _, _⟩) (v := ?_) rfl (by kernel_rfl) (by kernel_rfl) (by kernel_rfl) (fun _ _ _ h => h) (Or.inl ⟨by rfl, ?_⟩) (by assumption) ?_
          rotate_left
          · intro w hSw; (try dsimp only at hSw); go_simp; (try (with_reducible rfl))
          try simp only [Act.put, List.setIfInBounds_toArray, List.set_cons_zero, List.set_cons_succ]
          refine wpAnyH_take (i := 9) (oi := ⟨_, _, _, _, _, _⟩) (v := ?_) rfl (by kernel_rfl) (by kernel_rfl) (by kernel_rfl) (fun _ _ _ h => h) (Or.inl ⟨by rfl, ?_⟩) (by assumption) ?_
          rotate_left
          · intro w hSw; (try dsimp only at hSw); go_simp; (try (with_reducible rfl))
          try simp only [Act.put, List.setIfInBounds_toArray, List.set_cons_zero, List.set_cons_succ]
          refine wpAnyH_take (i := 10) (oi := ⟨_, _, _, _, _, _⟩) (v := ?_) rfl (by kernel_rfl) (by kernel_rfl) (by kernel_rfl) (fun _ _ _ h => h) (Or.inl ⟨by rfl, ?_⟩) (by assumption) ?_
          rotate_left
          · intro w hSw; (try dsimp only at hSw); go_simp; (try (with_reducible rfl))
          try simp only [Act.put, List.setIfInBounds_toArray, List.set_cons_zero, List.set_cons_succ]
          refine wpAnyH_take (i := 11) (oi := ⟨_, _, _, _, _, _⟩) (v := ?_) rfl (by kernel_rfl) (by kernel_rfl) (by kernel_rfl) (fun _ _ _ h => h) (Or.inl ⟨by rfl, ?_⟩) (by assumption) ?_
          rotate_left
          · intro w hSw; (try dsimp only at hSw); go_simp; (try (with_reducible rfl))
          try simp only [Act.put, List.setIfInBounds_toArray, List.set_cons_zero, List.set_cons_succ]
          refine wpAnyH_take (i := 12) (oi := ⟨_, _, _, _, _, _⟩) (v := ?_) rfl (by kernel_rfl) (by kernel_rfl) (by kernel_rfl) (fun _ _ _ h => h) (Or.inl ⟨by rfl, ?_⟩) (by assumption) ?_
          rotate_left
          · intro w hSw; (try dsimp only at hSw); go_simp; (try (with_reducible rfl))
          try simp only [Act.put, List.setIfInBounds_toArray, List.set_cons_zero, List.set_cons_succ]
          refine wpAnyH_take (i := 13) (oi := ⟨_, _, _, _, _, _⟩) (v := ?_) rfl (by kernel_rfl) (by kernel_rfl) (by kernel_rfl) (fun _ _ _ h => h) (Or.inl ⟨by rfl, ?_⟩) (by assumption) ?_
          rotate_left
          · intro w hSw; (try dsimp only at hSw); go_simp; (try (with_reducible rfl))
          try simp only [Act.put, List.setIfInBounds_toArray, List.set_cons_zero, List.set_cons_succ]
          refine wpAnyH_take (i := 14) (oi := ⟨_, _, _, _, _, _⟩) (v := ?_) rfl (by kernel_rfl) (by kernel_rfl) (by kernel_rfl) (fun _ _ _ h => h) (Or.inl ⟨by rfl, ?_⟩) (by assumption) ?_
          rotate_left
          · intro w hSw; (try dsimp only at hSw); go_simp; (try (with_reducible rfl))
          try simp only [Act.put, List.setIfInBounds_toArray, List.set_cons_zero, List.set_cons_succ]
          refine wpAnyH_take (i := 15) (oi := ⟨_, _, _, _, _, _⟩) (v := ?_) rfl (by kernel_rfl) (by kernel_rfl) (by kernel_rfl) (fun _ _ _ h => h) (Or.inl ⟨by rfl, ?_⟩) (by assumption) ?_
          rotate_left
          · intro w hSw; (try dsimp only at hSw); go_simp; (try (with_reducible rfl))
          try simp only [Act.put, List.setIfInBounds_toArray, List.set_cons_zero, List.set_cons_succ]
          refine wpAnyH_take (i := 16) (oi := ⟨_, _, _, _, _, _⟩) (v := ?_) rfl (by kernel_rfl) (by kernel_rfl) (by kernel_rfl) (fun _ _ _ h => h) (Or.inl ⟨by rfl, ?_⟩) (by assumption) ?_
          rotate_left
          · intro w hSw; (try dsimp only at hSw); go_simp; (try (with_reducible rfl))
          try simp only [Act.put, List.setIfInBounds_toArray, List.set_cons_zero, List.set_cons_succ]
          refine wpAnyH_take (i := 17) (oi := ⟨_, _, _, _, _, _⟩) (v := ?_) rfl (by kernel_rfl) (by kernel_rfl) (by kernel_rfl) (fun _ _ _ h => h) (Or.inl ⟨by rfl, ?_⟩) (by assumption) ?_
          rotate_left
          · intro w hSw; (try dsimp only at hSw); go_simp; (try (with_reducible rfl))
          try simp only [Act.put, List.setIfInBounds_toArray, List.set_cons_zero, List.set_cons_succ]
          refine wpAnyH_take (i := 18) (oi := ⟨_, _, _, _, _, _⟩) (v := ?_) rfl (by kernel_rfl) (by kernel_rfl) (by kernel_rfl) (fun _ _ _ h => h) (Or.inl ⟨by rfl, ?_⟩) (by assumption) ?_
          rotate_left
          · intro w hSw; (try dsimp only at hSw); go_simp; (try (with_reducible rfl))
          try simp only [Act.put, List.setIfInBounds_toArray, List.set_cons_zero, List.set_cons_succ]
          refine wpAnyH_take (i := 19) (oi := ⟨_, _, _, _, _, _⟩) (v := ?_) rfl (by kernel_rfl) (by kernel_rfl) (by kernel_rfl) (fun _ _ _ h => h) (Or.inl ⟨by rfl, ?_⟩) (by assumption) ?_
          rotate_left
          · intro w hSw; (try dsimp only at hSw); go_simp; (try (with_reducible rfl))
          try simp only [Act.put, List.setIfInBounds_toArray, List.set_cons_zero, List.set_cons_succ]
          refine wpAnyH_take (i := 20) (oi := ⟨_, _, _, _, _, _⟩) (v := ?_) rfl (by kernel_rfl) (by kernel_rfl) (by kernel_rfl) (fun _ _ _ h => h) (Or.inl ⟨by rfl, ?_⟩) (by assumption) ?_
          rotate_left
          · intro w hSw; (try dsimp only at hSw); go_simp; (try (with_reducible rfl))
          try simp only [Act.put, List.setIfInBounds_toArray, List.set_cons_zero, List.set_cons_succ]
          refine wpAnyH_take (i := 21) (oi := ⟨_, _, _, _, _, _⟩) (v := ?_) rfl (by kernel_rfl) (by kernel_rfl) (by kernel_rfl) (fun _ _ _ h => h) (Or.inl ⟨by rfl, ?_⟩) (by assumption) ?_
          rotate_left
          · intro w hSw; (try dsimp only at hSw); go_simp; (try (with_reducible rfl))
          try simp only [Act.put, List.setIfInBounds_toArray, List.set_cons_zero, List.set_cons_succ]
          refine wpAnyH_take (i := 22) (oi := ⟨_, _, _, _, _, _⟩) (v := ?_) rfl (by kernel_rfl) (by kernel_rfl) (by kernel_rfl) (fun _ _ _ h => h) (Or.inl ⟨by rfl, ?_⟩) (by assumption) ?_
          rotate_left
          · intro w hSw; (try dsimp only at hSw); go_simp; (try (with_reducible rfl))
          try simp only [Act.put, List.setIfInBounds_toArray, List.set_cons_zero, List.set_cons_succ]
          refine wpAnyH_take (i := 23) (oi := ⟨_, _, _, _, _, _⟩) (v := ?_) rfl (by kernel_rfl) (by kernel_rfl) (by kernel_rfl) (fun _ _ _ h => h) (Or.inl ⟨by rfl, ?_⟩) (by assumption) ?_
          rotate_left
          · intro w hSw; (try dsimp only at hSw); go_simp; (try (with_reducible rfl))
          try simp only [Act.put, List.setIfInBounds_toArray, List.set_cons_zero, List.set_cons_succ]
          refine wpAnyH_take (i := 24) (oi := ⟨_, _, _, _, _, _⟩) (v := ?_) rfl (by kernel_rfl) (by kernel_rfl) (by kernel_rfl) (fun _ _ _ h => h) (Or.inl ⟨by rfl, ?_⟩) (by assumption) ?_
          rotate_left
          · intro w hSw; (try dsimp only at hSw); go_simp; (try (with_reducible rfl))
          try simp only [Act.put, List.setIfInBounds_toArray, List.set_cons_zero, List.set_cons_succ]
          refine wpAnyH_take (i := 25) (oi := ⟨_, _, _, _, _, _⟩) (v := ?_) rfl (by kernel_rfl) (by kernel_rfl) (by kernel_rfl) (fun _ _ _ h => h) (Or.inl ⟨by rfl, ?_⟩) (by assumption) ?_
          rotate_left
          · intro w hSw; (try dsimp only at hSw); go_simp; (try (with_reducible rfl))
          try simp only [Act.put, List.setIfInBounds_toArray, List.set_cons_zero, List.set_cons_succ]
          refine wpAnyH_take (i := 26) (oi := ⟨_, _, _, _, _, _⟩) (v := ?_) rfl (by kernel_rfl) (by kernel_rfl) (by kernel_rfl) (fun _ _ _ h => h) (Or.inl ⟨by rfl, ?_⟩) (by assumption) ?_
          rotate_left
          · intro w hSw; (try dsimp only at hSw); go_simp; (try (with_reducible rfl))
          try simp only [Act.put, List.setIfInBounds_toArray, List.set_cons_zero, List.set_cons_succ]
          refine wpAnyH_take (i := 27) (oi := ⟨_, _, _, _, _, _⟩) (v := ?_) rfl (by kernel_rfl) (by kernel_rfl) (by kernel_rfl) (fun _ _ _ h => h) (Or.inl ⟨by rfl, ?_⟩) (by assumption) ?_
          rotate_left
          · intro w hSw; (try dsimp only at hSw); go_simp; (try (with_reducible rfl))
          try simp only [Act.put, List.setIfInBounds_toArray, List.set_cons_zero, List.set_cons_succ]
          refine wpAnyH_take (i := 28) (oi := ⟨_, _, _, _, _, _⟩) (v := ?_) rfl (by kernel_rfl) (by kernel_rfl) (by kernel_rfl) (fun _ _ _ h => h) (Or.inl ⟨by rfl, ?_⟩) (by assumption) ?_
          rotate_left
          · intro w hSw; (try dsimp only at hSw); go_simp; (try (with_reducible rfl))
          try simp only [Act.put, List.setIfInBounds_toArray, List.set_cons_zero, List.set_cons_succ]
          refine wpAnyH_take (i := 29) (oi := ⟨_, _, _, _, _, _⟩) (v := ?_) rfl (by kernel_rfl) (by kernel_rfl) (by kernel_rfl) (fun _ _ _ h => h) (Or.inl ⟨by rfl, ?_⟩) (by assumption) ?_
          rotate_left
          · intro w hSw; (try dsimp only at hSw); go_simp; (try (with_reducible rfl))
          try simp only [Act.put, List.setIfInBounds_toArray, List.set_cons_zero, List.set_cons_succ]
          refine wpAnyH_take (i := 30) (oi := ⟨_, _, _, _, _, _⟩) (v := ?_) rfl (by kernel_rfl) (by kernel_rfl) (by kernel_rfl) (fun _ _ _ h => h) (Or.inl ⟨by rfl, ?_⟩) (by assumption) ?_
          rotate_left
          · intro w hSw; (try dsimp only at hSw); go_simp; (try (with_reducible rfl))
          try simp only [Act.put, List.setIfInBounds_toArray, List.set_cons_zero, List.set_cons_succ]
          refine wpAnyH_take (i := 31) (oi := ⟨_, _, _, _, _, _⟩) (v := ?_) rfl (by kernel_rfl) (by kernel_rfl) (by kernel_rfl) (fun _ _ _ h => h) (Or.inl ⟨by rfl, ?_⟩) (by assumption) ?_
          rotate_left
          · intro w hSw; (try dsimp only at hSw); go_simp; (try (with_reducible rfl))
          try simp only [Act.put, List.setIfInBounds_toArray, List.set_cons_zero, List.set_cons_succ]
          refine wpAnyH_take (i := 32) (oi := ⟨_, _, _, _, _, _⟩) (v := ?_) rfl (by kernel_rfl) (by kernel_rfl) (by kernel_rfl) (fun _ _ _ h => h) (Or.inl ⟨by rfl, ?_⟩) (by assumption) ?_
          rotate_left
          · intro w hSw; (try dsimp only at hSw); go_simp; (try (with_reducible rfl))
          try simp only [Act.put, List.setIfInBounds_toArray, List.set_cons_zero, List.set_cons_succ]
          refine wpAnyH_take (i := 33) (oi := ⟨_, _, _, _, _, _⟩) (v := ?_) rfl (by kernel_rfl) (by kernel_rfl) (by kernel_rfl) (fun _ _ _ h => h) (Or.inl ⟨by rfl, ?_⟩) (by assumption) ?_
          rotate_left
          · intro w hSw; (try dsimp only at hSw); go_simp; (try (with_reducible rfl))
          try simp only [Act.put, List.setIfInBounds_toArray, List.set_cons_zero, List.set_cons_succ]
          refine wpAnyH_take (i := 34) (oi := ⟨_, _, _, _, _, _⟩) (v := ?_) rfl (by kernel_rfl) (by kernel_rfl) (by kernel_rfl) (fun _ _ _ h => h) (Or.inl ⟨by rfl, ?_⟩) (by assumption) ?_
          rotate_left
          · intro w hSw; (try dsimp only at hSw); go_simp; (try (with_reducible rfl))
          try simp only [Act.put, List.setIfInBounds_toArray, List.set_cons_zero, List.set_cons_succ]
          refine wpAnyH_take (i := 35) (oi := ⟨_, _, _, _, _, _⟩) (v := ?_) rfl (by kernel_rfl) (by kernel_rfl) (by kernel_rfl) (fun _ _ _ h => h) (Or.inl ⟨by rfl, ?_⟩) (by assumption) ?_
          rotate_left
          · intro w hSw; (try dsimp only at hSw); go_simp; (try (with_reducible rfl))
          try simp only [Act.put, List.setIfInBounds_toArray, List.set_cons_zero, List.set_cons_succ]
          refine wpAnyH_take (i := 36) (oi := ⟨_, _, _, _, _, _⟩) (v := ?_) rfl (by kernel_rfl) (by kernel_rfl) (by kernel_rfl) (fun _ _ _ h => h) (Or.inl ⟨by rfl, ?_⟩) (by assumption) ?_
          rotate_left
          · intro w hSw; (try dsimp only at hSw); go_simp; (try (with_reducible rfl))
          try simp only [Act.put, List.setIfInBounds_toArray, List.set_cons_zero, List.set_cons_succ]
          refine wpAnyH_take (i := 37) (oi := ⟨_, _, _, _, _, _⟩) (v := ?_) rfl (by kernel_rfl) (by kernel_rfl) (by kernel_rfl) (fun _ _ _ h => h) (Or.inl ⟨by rfl, ?_⟩) (by assumption) ?_
          rotate_left
          · intro w hSw; (try dsimp only at hSw); go_simp; (try (with_reducible rfl))
          try simp only [Act.put, List.setIfInBounds_toArray, List.set_cons_zero, List.set_cons_succ]
          refine wpAnyH_take (i := 38) (oi := ⟨_, _, _, _, _, _⟩) (v := ?_) rfl (by kernel_rfl) (by kernel_rfl) (by kernel_rfl) (fun _ _ _ h => h) (Or.inl ⟨by rfl, ?_⟩) (by assumption) ?_
          rotate_left
          · intro w hSw; (try dsimp only at hSw); go_simp; (try (with_reducible rfl))
          try simp only [Act.put, List.setIfInBounds_toArray, List.set_cons_zero, List.set_cons_succ]
          refine wpAnyH_take (i := 39) (oi := ⟨_, _, _, _, _, _⟩) (v := ?_) rfl (by kernel_rfl) (by kernel_rfl) (by kernel_rfl) (fun _ _ _ h => h) (Or.inl ⟨by rfl, ?_⟩) (by assumption) ?_
          rotate_left
          · intro w hSw; (try dsimp only at hSw); go_simp; (try (with_reducible rfl))
          try simp only [Act.put, List.setIfInBounds_toArray, List.set_cons_zero, List.set_cons_succ]
          refine wpAnyH_take (i := 40) (oi := ⟨_, _, _, _, _, _⟩) (v := ?_) rfl (by kernel_rfl) (by kernel_rfl) (by kernel_rfl) (fun _ _ _ h => h) (Or.inl ⟨by rfl, ?_⟩) (by assumption) ?_
          rotate_left
          · intro w hSw; (try dsimp only at hSw); go_simp; (try (with_reducible rfl))
          try simp only [Act.put, List.setIfInBounds_toArray, List.set_cons_zero, List.set_cons_succ]
          refine wpAnyH_take (i := 41) (oi := ⟨_, _, _, _, _, _⟩) (v := ?_) rfl (by kernel_rfl) (by kernel_rfl) (by kernel_rfl) (fun _ _ _ h => h) (Or.inl ⟨by rfl, ?_⟩) (by assumption) ?_
          rotate_left
          · intro w hSw; (try dsimp only at hSw); go_simp; (try (with_reducible rfl))
          try simp only [Act.put, List.setIfInBounds_toArray, List.set_cons_zero, List.set_cons_succ]
          refine wpAnyH_take (i := 42) (oi := ⟨_, _, _, _, _, _⟩) (v := ?_) rfl (by kernel_rfl) (by kernel_rfl) (by kernel_rfl) (fun _ _ _ h => h) (Or.inl ⟨by rfl, ?_⟩) (by assumption) ?_
          rotate_left
          · intro w hSw; (try dsimp only at hSw); go_simp; (try (with_reducible rfl))
          try simp only [Act.put, List.setIfInBounds_toArray, List.set_cons_zero, List.set_cons_succ]
          refine wpAnyH_take (i := 43) (oi := ⟨_, _, _, _, _, _⟩) (v := ?_) rfl (by kernel_rfl) (by kernel_rfl) (by kernel_rfl) (fun _ _ _ h => h) (Or.inl ⟨by rfl, ?_⟩) (by assumption) ?_
          rotate_left
          · intro w hSw; (try dsimp only at hSw); go_simp; (try (with_reducible rfl))
          try simp only [Act.put, List.setIfInBounds_toArray, List.set_cons_zero, List.set_cons_succ]
          refine wpAnyH_take (i := 44) (oi := ⟨_, _, _, _, _, _⟩) (v := ?_) rfl (by kernel_rfl) (by kernel_rfl) (by kernel_rfl) (fun _ _ _ h => h) (Or.inl ⟨by rfl, ?_⟩) (by assumption) ?_
          rotate_left
          · intro w hSw; (try dsimp only at hSw); go_simp; (try (with_reducible rfl))
          try simp only [Act.put, List.setIfInBounds_toArray, List.set_cons_zero, List.set_cons_succ]
          refine wpAnyH_take (i := 45) (oi := ⟨_, _, _, _, _, _⟩) (v := ?_) rfl (by kernel_rfl) (by kernel_rfl) (by kernel_rfl) (fun _ _ _ h => h) (Or.inl ⟨by rfl, ?_⟩) (by assumption) ?_
          rotate_left
          · intro w hSw; (try dsimp only at hSw); go_simp; (try (with_reducible rfl))
          try simp only [Act.put, List.setIfInBounds_toArray, List.set_cons_zero, List.set_cons_succ]
          refine wpAnyH_take (i := 46) (oi := ⟨_, _, _, _, _, _⟩) (v := ?_) rfl (by kernel_rfl) (by kernel_rfl) (by kernel_rfl) (fun _ _ _ h => h) (Or.inl ⟨by rfl, ?_⟩) (by assumption) ?_
          rotate_left
          · intro w hSw; (try dsimp only at hSw); go_simp; (try (with_reducible rfl))
          try simp only [Act.put, List.setIfInBounds_toArray, List.set_cons_zero, List.set_cons_succ]
          refine wpAnyH_take (i := 47) (oi := ⟨_, _, _, _, _, _⟩) (v := ?_) rfl (by kernel_rfl) (by kernel_rfl) (by kernel_rfl) (fun _ _ _ h => h) (Or.inl ⟨by rfl, ?_⟩) (by assumption) ?_
          rotate_left
          · intro w hSw; (try dsimp only at hSw); go_simp; (try (with_reducible rfl))
          try simp only [Act.put, List.setIfInBounds_toArray, List.set_cons_zero, List.set_cons_succ]
          refine wpAnyH_take (i := 48) (oi := ⟨_, _, _, _, _, _⟩) (v := ?_) rfl (by kernel_rfl) (by kernel_rfl) (by kernel_rfl) (fun _ _ _ h => h) (Or.inl ⟨by rfl, ?_⟩) (by assumption) ?_
          rotate_left
          · intro w hSw; (try dsimp only at hSw); go_simp; (try (with_reducible rfl))
          try simp only [Act.put, List.setIfInBounds_toArray, List.set_cons_zero, List.set_cons_succ]
          refine wpAnyH_take (i := 49) (oi := ⟨_, _, _, _, _, _⟩) (v := ?_) rfl (by kernel_rfl) (by kernel_rfl) (by kernel_rfl) (fun _ _ _ h => h) (Or.inl ⟨by rfl, ?_⟩) (by assumption) ?_
          rotate_left
          · intro w hSw; (try dsimp only at hSw); go_simp; (try (with_reducible rfl))
          try simp only [Act.put, List.setIfInBounds_toArray, List.set_cons_zero, List.set_cons_succ]
          refine wpAnyH_take (i := 50) (oi := ⟨_, _, _, _, _, _⟩) (v := ?_) rfl (by kernel_rfl) (by kernel_rfl) (by kernel_rfl) (fun _ _ _ h => h) (Or.inl ⟨by rfl, ?_⟩) (by assumption) ?_
          rotate_left
          · intro w hSw; (try dsimp only at hSw); go_simp; (try (with_reducible rfl))
          try simp only [Act.put, List.setIfInBounds_toArray, List.set_cons_zero, List.set_cons_succ]
          refine wpAnyH_take (i := 51) (oi := ⟨_, _, _, _, _, _⟩) (v := ?_) rfl (by kernel_rfl) (by kernel_rfl) (by kernel_rfl) (fun _ _ _ h => h) (Or.inl ⟨by rfl, ?_⟩) (by assumption) ?_
          rotate_left
          · intro w hSw; (try dsimp only at hSw); go_simp; (try (with_reducible rfl))
          try simp only [Act.put, List.setIfInBounds_toArray, List.set_cons_zero, List.set_cons_succ]
          refine wpAnyH_take (i := 52) (oi := ⟨_, _, _, _, _, _⟩) (v := ?_) rfl (by kernel_rfl) (by kernel_rfl) (by kernel_rfl) (fun _ _ _ h => h) (Or.inl ⟨by rfl, ?_⟩) (by assumption) ?_
          rotate_left
          · intro w hSw; (try dsimp only at hSw); go_simp; (try (with_reducible rfl))
          try simp only [Act.put, List.setIfInBounds_toArray, List.set_cons_zero, List.set_cons_succ]
          have d2 := (Below.refl wE.heap.size wE).drew
          have cR := right12_any (hmW (below2 b' d2)) hsj
          generalize wE.drew = wF at *
          refine wpAnyH_ready (rs := [53]) (by kernel_rfl) (by simp) ?_
          refine AllReadyH.cons (o := ⟨_, _, _, _, _, _⟩) rfl (fun K hK => ?_) AllReadyH.nil
          go_simp
          refine cR.mono ?_
          rintro _ w5 ⟨rfl, b5⟩
          have d5 := below2 d2 b5
          rw [HRR.out]
          refine hK.out _ _ (HS2 _ d5) (fun hHeld => ?_)
          clear hK K
          try simp only [Act.put, List.setIfInBounds_toArray, List.set_cons_zero, List.set_cons_succ]
          refine wpAnyH_take (i := 54) (oi := ⟨_, _, _, _, _, _⟩) (v := ?_) rfl (by kernel_rfl) (by kernel_rfl) (by kernel_rfl) (fun _ _ _ h => h) (Or.inl ⟨by rfl, ?_⟩) (by assumption) ?_
          rotate_left
          · intro w hSw; (try dsimp only at hSw); go_simp; (try (with_reducible rfl))
          try simp only [Act.put, List.setIfInBounds_toArray, List.set_cons_zero, List.set_cons_succ]
          refine wpAnyH_take (i := 55) (oi := ⟨_, _, _, _, _, _⟩) (v := ?_) rfl (by kernel_rfl) (by kernel_rfl) (by kernel_rfl) (fun _ _ _ h => h) (Or.inl ⟨by rfl, ?_⟩) (by assumption) ?_
          rotate_left
          · intro w hSw; (try dsimp only at hSw); go_simp; (try (with_reducible rfl))
          try simp only [Act.put, List.setIfInBounds_toArray, List.set_cons_zero, List.set_cons_succ]
          refine wpAnyH_done (by kernel_rfl) ?_ _
          replace pa := pa.below d5
          replace pq := pq.below d5
          replace bw := below2 bw d5
          replace b' := below2 b' d5
          clear hHeld HS2 cR d2 b5 d5 HRR q0 q1 q2 q3 la2 lm2
          have q0 := pa.cell 0
          have q1 := pa.cell 1
          have q2 := pa.cell 2
          have q3 := pa.cell 3
          have z0 := pq.cell 0
          have z1 := pq.cell 1
          have z2 := pq.cell 2
          have z3 := pq.cell 3
          simp only [List.getElem?_cons_zero, List.getElem?_cons_succ] at q0 q1 q2 q3 z0 z1 z2 z3
          have n5 := (b'.cell lm).trans m5
          have nh := (b'.cell lh).trans y0
          go_wp2_with fail
          go_quiet (fail)
          replace pa := pa.drewN nq
          replace pq := pq.drewN nq
          replace bw := bdrN bw nq
          clear q0 q1 q2 q3 z0 z1 z2 z3 n5 nh
          generalize w5.drewN nq = w6 at *
          have y0' := pq.cell 0
          have y1 := pq.cell 1
          have y2 := pq.cell 2
          have y3 := pq.cell 3
          simp only [List.getElem?_cons_zero, List.getElem?_cons_succ] at y0' y1 y2 y3
          have z0 := pa.cell 0
          have z1 := pa.cell 1
          have z2 := pa.cell 2
          have z3 := pa.cell 3
          have f0 := pa.frozen 0
          have f1 := pa.frozen 1
          have f2 := pa.frozen 2
          have f3 := pa.frozen 3
          have paS := ((((pa.set_ 0 (.int .i64 (x1 + 1))).set_ 1 (.int .i64 h1)).set_ 2 (.int .i64 e1)).set_ 3 (.int .i64 a1'))
          simp only [List.getElem?_cons_zero, List.getElem?_cons_succ, List.set_cons_zero, List.set_cons_succ] at z0 z1 z2 z3 paS
          have gs := sets4 w6 ga (.int .i64 (x1 + 1)) (.int .i64 h1) (.int .i64 e1) (.int .i64 a1')
          have bwS := bw.trans (below_grown bw.size (far13 (by omega)) gs)
          clear gs pa pq bw
          go_wp2
          go_roundw
          case rel => exact ⟨j + 1, HJ.out, by go_num, by rw [HX1.out]; exact paS, bwS⟩
          case measure => have := HJ.out; simp [intOf]; omega
      · go_simp
        have pq := Blk.new wd [.int .i64 0, .int .i64 0, .int .i64 0, .int .i64 0] 23
        rw [hds] at pq
        have bx := hal wd (.cells #[.int .i64 0, .int .i64 0, .int .i64 0, .int .i64 0] 23)
        have b' := below2 d bx
        have hgq : ga < wr.heap.size := la
        have hgq2 : wr.heap.size ≤ wr.heap.size := Nat.le_refl _
        have hcz := hcc b'
        generalize wd.alloc (.cells #[.int .i64 0, .int .i64 0, .int .i64 0, .int .i64 0] 23) = wz at *
        refine hK.out _ _ (HS _ b') (fun hHeld => ?_)
        clear hK K
        try simp only [Act.put, List.setIfInBounds_toArray, List.set_cons_zero, List.set_cons_succ]
        refine wpAnyH_ready (rs := [11]) (by kernel_rfl) (by simp) ?_
        refine AllReadyH.cons (o := ⟨_, _, _, _, _, _⟩) rfl (fun K hK => ?_) (AllReadyH.nil)
        go_simp
        refine hcz.mono ?_
        rintro _ w3 ⟨rfl, b3⟩
        replace pq := pq.below b3
        replace b' := below2 b' b3
        refine hK.out _ _ (HS _ b') (fun hHeld => ?_)
        clear hK K
        try simp only [Act.put, List.setIfInBounds_toArray, List.set_cons_zero, List.set_cons_succ]
        rw [← HSU.out]
        generalize accN (⟨x1, x2, x3, x4⟩ : Cur) au (⟨a1, a2, a3, a4, a5, a6, a7, ps⟩ : Man) own = E at *
        obtain ⟨v1, h1, e1, a1'⟩ := X1
        refine wpAnyH_take (i := 12) (oi := ⟨_, _, _, _, _, _⟩) (v := ?_) rfl (by kernel_rfl) (by kernel_rfl) (by kernel_rfl) (fun _ _ _ h => h) (Or.inl ⟨by rfl, ?_⟩) (by assumption) ?_
        rotate_left
        · intro w hSw; (try dsimp only at hSw); go_simp; (try (with_reducible rfl))
        try simp only [Act.put, List.setIfInBounds_toArray, List.set_cons_zero, List.set_cons_succ]
        refine wpAnyH_take (i := 13) (oi := ⟨_, _, _, _, _, _⟩) (v := ?_) rfl (by kernel_rfl) (by kernel_rfl) (by kernel_rfl) (fun _ _ _ h => h) (Or.inl ⟨by rfl, ?_⟩) (by assumption) ?_
        rotate_left
        · intro w hSw; (try dsimp only at hSw); go_simp; (try (with_reducible rfl))
        try simp only [Act.put, List.setIfInBounds_toArray, List.set_cons_zero, List.set_cons_succ]
        refine wpAnyH_take (i := 14) (oi := ⟨_, _, _, _, _, _⟩) (v := ?_) rfl (by kernel_rfl) (by kernel_rfl) (by kernel_rfl) (fun _ _ _ h => h) (Or.inl ⟨by rfl, ?_⟩) (by assumption) ?_
        rotate_left
        · intro w hSw; (try dsimp only at hSw); go_simp; (try (with_reducible rfl))
        try simp only [Act.put, List.setIfInBounds_toArray, List.set_cons_zero, List.set_cons_succ]
        replace pa := pa.below b'
        replace bw := bw.trans (b'.mono bw.size)
        clear hcd hcz hcc HSU d bx b3
        have z0 := pq.cell 0
        have z1 := pq.cell 1
        have z2 := pq.cell 2
        have z3 := pq.cell 3
        have f0 := pq.frozen 0
        have f1 := pq.frozen 1
        have f2 := pq.frozen 2
        have f3 := pq.frozen 3
        have pqS := ((((pq.set_ 0 (.int .i64 v1)).set_ 1 (.int .i64 h1)).set_ 2 (.int .i64 e1)).set_ 3 (.int .i64 a1'))
        simp only [List.getElem?_cons_zero, List.getElem?_cons_succ, List.set_cons_zero, List.set_cons_succ] at z0 z1 z2 z3 pqS
        have gs := sets4 w3 wr.heap.size (.int .i64 v1) (.int .i64 h1) (.int .i64 e1) (.int .i64 a1')
        have bwS := bw.trans (below_grown bw.size (far13 (by omega)) gs)
        have paS := pa.grown gs (by intro e; injection e with e; omega)
        have bS : Below wr.heap.size wr ((((w3.setCell ⟨wr.heap.size, 0, none⟩ (.int .i64 v1)).setCell ⟨wr.heap.size, 1, none⟩ (.int .i64 h1)).setCell ⟨wr.heap.size, 2, none⟩ (.int .i64 e1)).setCell ⟨wr.heap.size, 3, none⟩ (.int .i64 a1')) := b'.trans (below_grown b'.size (far13 (by omega)) gs)
        refine wpAnyH_ready (rs := [16]) (by kernel_rfl) (by simp) ?_
        refine AllReadyH.cons (o := ⟨_, _, _, _, _, _⟩) rfl (fun K hK => ?_) AllReadyH.nil
        go_simp
        refine hK.out _ _ (HS _ bS) (fun hHeld => ?_)
        clear hK K
        try simp only [Act.put, List.setIfInBounds_toArray, List.set_cons_zero, List.set_cons_succ]
        refine wpAnyH_ready (rs := [17]) (by kernel_rfl) (by simp) ?_
        refine AllReadyH.cons (o := ⟨_, _, _, _, _, _⟩) rfl (fun K hK => ?_) AllReadyH.nil
        go_simp
        refine hK.out _ _ hHeld (fun hHeld => ?_)
        clear hK K
        try simp only [Act.put, List.setIfInBounds_toArray, List.set_cons_zero, List.set_cons_succ]
        refine wpAnyH_done (by kernel_rfl) ?_ _
        clear pq pa b' bw z0 z1 z2 z3 f0 f1 f2 f3 gs hHeld
        have pq := pqS
        have pa := paS
        have bw := bwS
        have b' := bS
        clear pqS paS bwS bS
        generalize ((((w3.setCell ⟨wr.heap.size, 0, none⟩ (.int .i64 v1)).setCell ⟨wr.heap.size, 1, none⟩ (.int .i64 h1)).setCell ⟨wr.heap.size, 2, none⟩ (.int .i64 e1)).setCell ⟨wr.heap.size, 3, none⟩ (.int .i64 a1')) = wE at *
        clear q0 q1 q2 q3
        by_cases hE : E = 0
        rotate_left
        · have hx := HNO.out hE
          injection hx with i1 i2 i3 i4
          subst i1 i2 i3 i4
          have hEb : (E != 0) = true := by simp [hE]
          have hne := neqC v1 h1 e1 a1' v1 h1 e1 a1'
          have q0 := pa.cell 0
          have q1 := pa.cell 1
          have q2 := pa.cell 2
          have q3 := pa.cell 3
          have y0 := pq.cell 0
          have y1 := pq.cell 1
          have y2 := pq.cell 2
          have y3 := pq.cell 3
          simp only [List.getElem?_cons_zero, List.getElem?_cons_succ] at q0 q1 q2 q3 y0 y1 y2 y3
          clear HAI HYES HNO HS pq
          go_wp2
          go_roundw
          case rel => exact ⟨j + 1, HJ.out, by go_num, by rw [HX1.out]; exact pa, bw⟩
          case measure => have := HJ.out; simp [intOf]; omega
        · subst hE
          obtain ⟨hrt, i1, i2, i3, i4, hse, -⟩ := HAI.out.1 rfl
          dsimp only at i1 i2 i3 i4 hse
          have hx := HYES.out rfl
          injection hx with i5 i6 i7 i8
          subst i1 i2 i3 i4 i5 i6 i7 i8
          have hv1 := hrt.v0
          have hv2 := hrt.v1
          have he1 := hrt.e0
          have he2 := hrt.e1
          have hn1 := hrt.ne
          dsimp only at hv1 hv2 he1 he2 hn1
          have HRR := hid ((manR_iff _).2 hrt)
          have hea : e1 ≥ a4 := by omega
          clear HAI HYES HNO hrt
          have hwr : IntKind.i64.wrap (x1 + 1) = x1 + 1 := by rw [IntKind.wrap_i64]; omega
          have hwr2 : IntKind.i64.wrap (a4 + 1) = a4 + 1 := by rw [IntKind.wrap_i64]; omega
          have hb0 : (x1 + 1 != x1 + 1) = false := by simp
          have hb1 : (a3 != a3) = false := by simp
          have hb2 : (a4 != a4) = false := by simp
          have hb3 : (a1 != a1) = false := by simp
          have hb4 : (h1 != h1) = false := by simp
          have hb5 : (a1' != a1') = false := by simp
          have hd1 : decide (e1 < a4) = false := decide_eq_false (by omega)
          have hd2 : decide (a4 + 1 < e1) = false := decide_eq_false (by omega)
          have hd3 : decide (a1' < x4) = false := decide_eq_false (by omega)
          clear hn1 hse hea HS
          have la2 := pa.lt
          have lm2 : b < wE.heap.size := Nat.lt_of_lt_of_le lm b'.size
          have q0 := pa.cell 0
          have q1 := pa.cell 1
          have q2 := pa.cell 2
          have q3 := pa.cell 3
          simp only [List.getElem?_cons_zero, List.getElem?_cons_succ] at q0 q1 q2 q3
          have HS2 : ∀ W, Below wE.heap.size wE W → (fun w' => w'.cell? ⟨ga, 0, none⟩ = some (.int .i64 x1) ∧ w'.cell? ⟨ga, 1, none⟩ = some (.int .i64 a3) ∧ w'.cell? ⟨ga, 2, none⟩ = some (.int .i64 a4) ∧ w'.cell? ⟨ga, 3, none⟩ = some (.int .i64 x4) ∧ w'.cell? ⟨b, og + j * 8, none⟩ = some (.int .i64 a1) ∧ w'.cell? ⟨b, og + j * 8 + 1, none⟩ = some (.int .i64 (x1 + 1)) ∧ w'.cell? ⟨b, og + j * 8 + 2, none⟩ = some (.int .i64 a3) ∧ w'.cell? ⟨b, og + j * 8 + 3, none⟩ = some (.int .i64 a4) ∧ w'.cell? ⟨b, og + j * 8 + 4, none⟩ = some (.int .i64 e1) ∧ w'.cell? ⟨b, og + j * 8 + 5, none⟩ = some (.int .i64 a1') ∧ w'.cell? ⟨b, og + j * 8 + 6, none⟩ = some (.int .i64 a7) ∧ w'.cell? ⟨b, og + j * 8 + 7, none⟩ = some (.slice B ps.length mc)) W := fun W h => ⟨(h.cell la2).trans q0, (h.cell la2).trans q1, (h.cell la2).trans q2, (h.cell la2).trans q3, (h.cell lm2).trans ((b'.cell lm).trans m0), (h.cell lm2).trans ((b'.cell lm).trans m1), (h.cell lm2).trans ((b'.cell lm).trans m2), (h.cell lm2).trans ((b'.cell lm).trans m3), (h.cell lm2).trans ((b'.cell lm).trans m4), (h.cell lm2).trans ((b'.cell lm).trans m5), (h.cell lm2).trans ((b'.cell lm).trans m6), (h.cell lm2).trans ((b'.cell lm).trans m7)⟩
          go_wp2_with fail
          refine wp_region_held_drew (S := fun w' => w'.cell? ⟨ga, 0, none⟩ = some (.int .i64 x1) ∧ w'.cell? ⟨ga, 1, none⟩ = some (.int .i64 a3) ∧ w'.cell? ⟨ga, 2, none⟩ = some (.int .i64 a4) ∧ w'.cell? ⟨ga, 3, none⟩ = some (.int .i64 x4) ∧ w'.cell? ⟨b, og + j * 8, none⟩ = some (.int .i64 a1) ∧ w'.cell? ⟨b, og + j * 8 + 1, none⟩ = some (.int .i64 (x1 + 1)) ∧ w'.cell? ⟨b, og + j * 8 + 2, none⟩ = some (.int .i64 a3) ∧ w'.cell? ⟨b, og + j * 8 + 3, none⟩ = some (.int .i64 a4) ∧ w'.cell? ⟨b, og + j * 8 + 4, none⟩ = some (.int .i64 e1) ∧ w'.cell? ⟨b, og + j * 8 + 5, none⟩ = some (.int .i64 a1') ∧ w'.cell? ⟨b, og + j * 8 + 6, none⟩ = some (.int .i64 a7) ∧ w'.cell? ⟨b, og + j * 8 + 7, none⟩ = some (.slice B ps.length mc)) (by kernel_rfl) (HS2 _ (Below.refl wE.heap.size wE).drew) (fun hHeld => ?_)
          refine wpAnyH_take (i := 0) (oi := ⟨_, _, _, _, _, _⟩) (v := ?_) rfl (by kernel_rfl) (by kernel_rfl) (by kernel_rfl) (fun _ _ _ h => h) (Or.inl ⟨by rfl, ?_⟩) (by assumption) ?_
          rotate_left
          · intro w hSw; (try dsimp only at hSw); go_simp; (try (with_reducible rfl))
          try simp only [Act.put, List.setIfInBounds_toArray, List.set_cons_zero, List.set_cons_succ]
          refine wpAnyH_take (i := 1) (oi := ⟨_, _, _, _, _, _⟩) (v := ?_) rfl (by kernel_rfl) (by kernel_rfl) (by kernel_rfl) (fun _ _ _ h => h) (Or.inl ⟨by rfl, ?_⟩) (by assumption) ?_
          rotate_left
          · intro w hSw; (try dsimp only at hSw); go_simp; (try (with_reducible rfl))
          try simp only [Act.put, List.setIfInBounds_toArray, List.set_cons_zero, List.set_cons_succ]
          refine wpAnyH_take (i := 2) (oi := ⟨_, _, _, _, _, _⟩) (v := ?_) rfl (by kernel_rfl) (by kernel_rfl) (by kernel_rfl) (fun _ _ _ h => h) (Or.inl ⟨by rfl, ?_⟩) (by assumption) ?_
          rotate_left
          · intro w hSw; (try dsimp only at hSw); go_simp; (try (with_reducible rfl))
          try simp only [Act.put, List.setIfInBounds_toArray, List.set_cons_zero, List.set_cons_succ]
          refine wpAnyH_take (i := 3) (oi := ⟨_, _, _, _, _, _⟩) (v := ?_) rfl (by kernel_rfl) (by kernel_rfl) (by kernel_rfl) (fun _ _ _ h => h) (Or.inl ⟨by rfl, ?_⟩) (by assumption) ?_
          rotate_left
          · intro w hSw; (try dsimp only at hSw); go_simp; (try (with_reducible rfl))
          try simp only [Act.put, List.setIfInBounds_toArray, List.set_cons_zero, List.set_cons_succ]
          refine wpAnyH_take (i := 4) (oi := ⟨_, _, _, _, _, _⟩) (v := ?_) rfl (by kernel_rfl) (by kernel_rfl) (by kernel_rfl) (fun _ _ _ h => h) (Or.inl ⟨by rfl, ?_⟩) (by assumption) ?_
          rotate_left
          · intro w hSw; (try dsimp only at hSw); go_simp; (try (with_reducible rfl))
          try simp only [Act.put, List.setIfInBounds_toArray, List.set_cons_zero, List.set_cons_succ]
          refine wpAnyH_take (i := 5) (oi := ⟨_, _, _, _, _, _⟩) (v := ?_) rfl (by kernel_rfl) (by kernel_rfl) (by kernel_rfl) (fun _ _ _ h => h) (Or.inl ⟨by rfl, ?_⟩) (by assumption) ?_
          rotate_left
          · intro w hSw; (try dsimp only at hSw); go_simp; (try (with_reducible rfl))
          try simp only [Act.put, List.setIfInBounds_toArray, List.set_cons_zero, List.set_cons_succ]
          refine wpAnyH_take (i := 6) (oi := ⟨_, _, _, _, _, _⟩) (v := ?_) rfl (by kernel_rfl) (by kernel_rfl) (by kernel_rfl) (fun _ _ _ h => h) (Or.inl ⟨by rfl, ?_⟩) (by assumption) ?_
          rotate_left
          · intro w hSw; (try dsimp only at hSw); go_simp; (try (with_reducible rfl))
          try simp only [Act.put, List.setIfInBounds_toArray, List.set_cons_zero, List.set_cons_succ]
          refine wpAnyH_take (i := 7) (oi := ⟨_, _, _, _, _, _⟩) (v := ?_) rfl (by kernel_rfl) (by kernel_rfl) (by kernel_rfl) (fun _ _ _ h => h) (Or.inl ⟨by rfl, ?_⟩) (by assumption) ?_
          rotate_left
          · intro w hSw; (try dsimp only at hSw); go_simp; (try (with_reducible rfl))
          try simp only [Act.put, List.setIfInBounds_toArray, List.set_cons_zero, List.set_cons_succ]
          refine wpAnyH_take (i := 8) (oi := ⟨_, _, _, _, _, _⟩) (v := ?_) rfl (by kernel_rfl) (by kernel_rfl) (by kernel_rfl) (fun _ _ _ h => h) (Or.inl ⟨by rfl, ?_⟩) (by assumption) ?_
          rotate_left
          · intro w hSw; (try dsimp only at hSw); go_simp; (try (with_reducible rfl))
          try simp only [Act.put, List.setIfInBounds_toArray, List.set_cons_zero, List.set_cons_succ]
          refine wpAnyH_take (i := 9) (oi := ⟨_, _, _, _, _, _⟩) (v := ?_) rfl (by kernel_rfl) (by kernel_rfl) (by kernel_rfl) (fun _ _ _ h => h) (Or.inl ⟨by rfl, ?_⟩) (by assumption) ?_
          rotate_left
          · intro w hSw; (try dsimp only at hSw); go_simp; (try (with_reducible rfl))
          try simp only [Act.put, List.setIfInBounds_toArray, List.set_cons_zero, List.set_cons_succ]
          refine wpAnyH_take (i := 10) (oi := ⟨_, _, _, _, _, _⟩) (v := ?_) rfl (by kernel_rfl) (by kernel_rfl) (by kernel_rfl) (fun _ _ _ h => h) (Or.inl ⟨by rfl, ?_⟩) (by assumption) ?_
          rotate_left
          · intro w hSw; (try dsimp only at hSw); go_simp; (try (with_reducible rfl))
          try simp only [Act.put, List.setIfInBounds_toArray, List.set_cons_zero, List.set_cons_succ]
          refine wpAnyH_take (i := 11) (oi := ⟨_, _, _, _, _, _⟩) (v := ?_) rfl (by kernel_rfl) (by kernel_rfl) (by kernel_rfl) (fun _ _ _ h => h) (Or.inl ⟨by rfl, ?_⟩) (by assumption) ?_
          rotate_left
          · intro w hSw; (try dsimp only at hSw); go_simp; (try (with_reducible rfl))
          try simp only [Act.put, List.setIfInBounds_toArray, List.set_cons_zero, List.set_cons_succ]
          refine wpAnyH_take (i := 12) (oi := ⟨_, _, _, _, _, _⟩) (v := ?_) rfl (by kernel_rfl) (by kernel_rfl) (by kernel_rfl) (fun _ _ _ h => h) (Or.inl ⟨by rfl, ?_⟩) (by assumption) ?_
          rotate_left
          · intro w hSw; (try dsimp only at hSw); go_simp; (try (with_reducible rfl))
          try simp only [Act.put, List.setIfInBounds_toArray, List.set_cons_zero, List.set_cons_succ]
          refine wpAnyH_take (i := 13) (oi := ⟨_, _, _, _, _, _⟩) (v := ?_) rfl (by kernel_rfl) (by kernel_rfl) (by kernel_rfl) (fun _ _ _ h => h) (Or.inl ⟨by rfl, ?_⟩) (by assumption) ?_
          rotate_left
          · intro w hSw; (try dsimp only at hSw); go_simp; (try (with_reducible rfl))
          try simp only [Act.put, List.setIfInBounds_toArray, List.set_cons_zero, List.set_cons_succ]
          refine wpAnyH_take (i := 14) (oi := ⟨_, _, _, _, _, _⟩) (v := ?_) rfl (by kernel_rfl) (by kernel_rfl) (by kernel_rfl) (fun _ _ _ h => h) (Or.inl ⟨by rfl, ?_⟩) (by assumption) ?_
          rotate_left
          · intro w hSw; (try dsimp only at hSw); go_simp; (try (with_reducible rfl))
          try simp only [Act.put, List.setIfInBounds_toArray, List.set_cons_zero, List.set_cons_succ]
          refine wpAnyH_take (i := 15) (oi := ⟨_, _, _, _, _, _⟩) (v := ?_) rfl (by kernel_rfl) (by kernel_rfl) (by kernel_rfl) (fun _ _ _ h => h) (Or.inl ⟨by rfl, ?_⟩) (by assumption) ?_
          rotate_left
          · intro w hSw; (try dsimp only at hSw); go_simp; (try (with_reducible rfl))
          try simp only [Act.put, List.setIfInBounds_toArray, List.set_cons_zero, List.set_cons_succ]
          refine wpAnyH_take (i := 16) (oi := ⟨_, _, _, _, _, _⟩) (v := ?_) rfl (by kernel_rfl) (by kernel_rfl) (by kernel_rfl) (fun _ _ _ h => h) (Or.inl ⟨by rfl, ?_⟩) (by assumption) ?_
          rotate_left
          · intro w hSw; (try dsimp only at hSw); go_simp; (try (with_reducible rfl))
          try simp only [Act.put, List.setIfInBounds_toArray, List.set_cons_zero, List.set_cons_succ]
          refine wpAnyH_take (i := 17) (oi := ⟨_, _, _, _, _, _⟩) (v := ?_) rfl (by kernel_rfl) (by kernel_rfl) (by kernel_rfl) (fun _ _ _ h => h) (Or.inl ⟨by rfl, ?_⟩) (by assumption) ?_
          rotate_left
          · intro w hSw; (try dsimp only at hSw); go_simp; (try (with_reducible rfl))
          try simp only [Act.put, List.setIfInBounds_toArray, List.set_cons_zero, List.set_cons_succ]
          refine wpAnyH_take (i := 18) (oi := ⟨_, _, _, _, _, _⟩) (v := ?_) rfl (by kernel_rfl) (by kernel_rfl) (by kernel_rfl) (fun _ _ _ h => h) (Or.inl ⟨by rfl, ?_⟩) (by assumption) ?_
          rotate_left
          · intro w hSw; (try dsimp only at hSw); go_simp; (try (with_reducible rfl))
          try simp only [Act.put, List.setIfInBounds_toArray, List.set_cons_zero, List.set_cons_succ]
          refine wpAnyH_take (i := 19) (oi := ⟨_, _, _, _, _, _⟩) (v := ?_) rfl (by kernel_rfl) (by kernel_rfl) (by kernel_rfl) (fun _ _ _ h => h) (Or.inl ⟨by rfl, ?_⟩) (by assumption) ?_
          rotate_left
          · intro w hSw; (try dsimp only at hSw); go_simp; (try (with_reducible rfl))
          try simp only [Act.put, List.setIfInBounds_toArray, List.set_cons_zero, List.set_cons_succ]
          refine wpAnyH_take (i := 20) (oi := ⟨_, _, _, _, _, _⟩) (v := ?_) rfl (by kernel_rfl) (by kernel_rfl) (by kernel_rfl) (fun _ _ _ h => h) (Or.inl ⟨by rfl, ?_⟩) (by assumption) ?_
          rotate_left
          · intro w hSw; (try dsimp only at hSw); go_simp; (try (with_reducible rfl))
          try simp only [Act.put, List.setIfInBounds_toArray, List.set_cons_zero, List.set_cons_succ]
          refine wpAnyH_take (i := 21) (oi := ⟨_, _, _, _, _, _⟩) (v := ?_) rfl (by kernel_rfl) (by kernel_rfl) (by kernel_rfl) (fun _ _ _ h => h) (Or.inl ⟨by rfl, ?_⟩) (by assumption) ?_
          rotate_left
          · intro w hSw; (try dsimp only at hSw); go_simp; (try (with_reducible rfl))
          try simp only [Act.put, List.setIfInBounds_toArray, List.set_cons_zero, List.set_cons_succ]
          refine wpAnyH_take (i := 22) (oi := ⟨_, _, _, _, _, _⟩) (v := ?_) rfl (by kernel_rfl) (by kernel_rfl) (by kernel_rfl) (fun _ _ _ h => h) (Or.inl ⟨by rfl, ?_⟩) (by assumption) ?_
          rotate_left
          · intro w hSw; (try dsimp only at hSw); go_simp; (try (with_reducible rfl))
          try simp only [Act.put, List.setIfInBounds_toArray, List.set_cons_zero, List.set_cons_succ]
          refine wpAnyH_take (i := 23) (oi := ⟨_, _, _, _, _, _⟩) (v := ?_) rfl (by kernel_rfl) (by kernel_rfl) (by kernel_rfl) (fun _ _ _ h => h) (Or.inl ⟨by rfl, ?_⟩) (by assumption) ?_
          rotate_left
          · intro w hSw; (try dsimp only at hSw); go_simp; (try (with_reducible rfl))
          try simp only [Act.put, List.setIfInBounds_toArray, List.set_cons_zero, List.set_cons_succ]
          refine wpAnyH_take (i := 24) (oi := ⟨_, _, _, _, _, _⟩) (v := ?_) rfl (by kernel_rfl) (by kernel_rfl) (by kernel_rfl) (fun _ _ _ h => h) (Or.inl ⟨by rfl, ?_⟩) (by assumption) ?_
          rotate_left
          · intro w hSw; (try dsimp only at hSw); go_simp; (try (with_reducible rfl))
          try simp only [Act.put, List.setIfInBounds_toArray, List.set_cons_zero, List.set_cons_succ]
          refine wpAnyH_take (i := 25) (oi := ⟨_, _, _, _, _, _⟩) (v := ?_) rfl (by kernel_rfl) (by kernel_rfl) (by kernel_rfl) (fun _ _ _ h => h) (Or.inl ⟨by rfl, ?_⟩) (by assumption) ?_
          rotate_left
          · intro w hSw; (try dsimp only at hSw); go_simp; (try (with_reducible rfl))
          try simp only [Act.put, List.setIfInBounds_toArray, List.set_cons_zero, List.set_cons_succ]
          refine wpAnyH_take (i := 26) (oi := ⟨_, _, _, _, _, _⟩) (v := ?_) rfl (by kernel_rfl) (by kernel_rfl) (by kernel_rfl) (fun _ _ _ h => h) (Or.inl ⟨by rfl, ?_⟩) (by assumption) ?_
          rotate_left
          · intro w hSw; (try dsimp only at hSw); go_simp; (try (with_reducible rfl))
          try simp only [Act.put, List.setIfInBounds_toArray, List.set_cons_zero, List.set_cons_succ]
          refine wpAnyH_take (i := 27) (oi := ⟨_, _, _, _, _, _⟩) (v := ?_) rfl (by kernel_rfl) (by kernel_rfl) (by kernel_rfl) (fun _ _ _ h => h) (Or.inl ⟨by rfl, ?_⟩) (by assumption) ?_
          rotate_left
          · intro w hSw; (try dsimp only at hSw); go_simp; (try (with_reducible rfl))
          try simp only [Act.put, List.setIfInBounds_toArray, List.set_cons_zero, List.set_cons_succ]
          refine wpAnyH_take (i := 28) (oi := ⟨_, _, _, _, _, _⟩) (v := ?_) rfl (by kernel_rfl) (by kernel_rfl) (by kernel_rfl) (fun _ _ _ h => h) (Or.inl ⟨by rfl, ?_⟩) (by assumption) ?_
          rotate_left
          · intro w hSw; (try dsimp only at hSw); go_simp; (try (with_reducible rfl))
          try simp only [Act.put, List.setIfInBounds_toArray, List.set_cons_zero, List.set_cons_succ]
          refine wpAnyH_take (i := 29) (oi := ⟨_, _, _, _, _, _⟩) (v := ?_) rfl (by kernel_rfl) (by kernel_rfl) (by kernel_rfl) (fun _ _ _ h => h) (Or.inl ⟨by rfl, ?_⟩) (by assumption) ?_
          rotate_left
          · intro w hSw; (try dsimp only at hSw); go_simp; (try (with_reducible rfl))
          try simp only [Act.put, List.setIfInBounds_toArray, List.set_cons_zero, List.set_cons_succ]
          refine wpAnyH_take (i := 30) (oi := ⟨_, _, _, _, _, _⟩) (v := ?_) rfl (by kernel_rfl) (by kernel_rfl) (by kernel_rfl) (fun _ _ _ h => h) (Or.inl ⟨by rfl, ?_⟩) (by assumption) ?_
          rotate_left
          · intro w hSw; (try dsimp only at hSw); go_simp; (try (with_reducible rfl))
          try simp only [Act.put, List.setIfInBounds_toArray, List.set_cons_zero, List.set_cons_succ]
          refine wpAnyH_take (i := 31) (oi := ⟨_, _, _, _, _, _⟩) (v := ?_) rfl (by kernel_rfl) (by kernel_rfl) (by kernel_rfl) (fun _ _ _ h => h) (Or.inl ⟨by rfl, ?_⟩) (by assumption) ?_
          rotate_left
          · intro w hSw; (try dsimp only at hSw); go_simp; (try (with_reducible rfl))
          try simp only [Act.put, List.setIfInBounds_toArray, List.set_cons_zero, List.set_cons_succ]
          refine wpAnyH_take (i := 32) (oi := ⟨_, _, _, _, _, _⟩) (v := ?_) rfl (by kernel_rfl) (by kernel_rfl) (by kernel_rfl) (fun _ _ _ h => h) (Or.inl ⟨by rfl, ?_⟩) (by assumption) ?_
          rotate_left
          · intro w hSw; (try dsimp only at hSw); go_simp; (try (with_reducible rfl))
          try simp only [Act.put, List.setIfInBounds_toArray, List.set_cons_zero, List.set_cons_succ]
          refine wpAnyH_take (i := 33) (oi := ⟨_, _, _, _, _, _⟩) (v := ?_) rfl (by kernel_rfl) (by kernel_rfl) (by kernel_rfl) (fun _ _ _ h => h) (Or.inl ⟨by rfl, ?_⟩) (by assumption) ?_
          rotate_left
          · intro w hSw; (try dsimp only at hSw); go_simp; (try (with_reducible rfl))
          try simp only [Act.put, List.setIfInBounds_toArray, List.set_cons_zero, List.set_cons_succ]
          refine wpAnyH_take (i := 34) (oi := ⟨_, _, _, _, _, _⟩) (v := ?_) rfl (by kernel_rfl) (by kernel_rfl) (by kernel_rfl) (fun _ _ _ h => h) (Or.inl ⟨by rfl, ?_⟩) (by assumption) ?_
          rotate_left
          · intro w hSw; (try dsimp only at hSw); go_simp; (try (with_reducible rfl))
          try simp only [Act.put, List.setIfInBounds_toArray, List.set_cons_zero, List.set_cons_succ]
          refine wpAnyH_take (i := 35) (oi := ⟨_, _, _, _, _, _⟩) (v := ?_) rfl (by kernel_rfl) (by kernel_rfl) (by kernel_rfl) (fun _ _ _ h => h) (Or.inl ⟨by rfl, ?_⟩) (by assumption) ?_
          rotate_left
          · intro w hSw; (try dsimp only at hSw); go_simp; (try (with_reducible rfl))
          try simp only [Act.put, List.setIfInBounds_toArray, List.set_cons_zero, List.set_cons_succ]
          refine wpAnyH_take (i := 36) (oi := ⟨_, _, _, _, _, _⟩) (v := ?_) rfl (by kernel_rfl) (by kernel_rfl) (by kernel_rfl) (fun _ _ _ h => h) (Or.inl ⟨by rfl, ?_⟩) (by assumption) ?_
          rotate_left
          · intro w hSw; (try dsimp only at hSw); go_simp; (try (with_reducible rfl))
          try simp only [Act.put, List.setIfInBounds_toArray, List.set_cons_zero, List.set_cons_succ]
          refine wpAnyH_take (i := 37) (oi := ⟨_, _, _, _, _, _⟩) (v := ?_) rfl (by kernel_rfl) (by kernel_rfl) (by kernel_rfl) (fun _ _ _ h => h) (Or.inl ⟨by rfl, ?_⟩) (by assumption) ?_
          rotate_left
          · intro w hSw; (try dsimp only at hSw); go_simp; (try (with_reducible rfl))
          try simp only [Act.put, List.setIfInBounds_toArray, List.set_cons_zero, List.set_cons_succ]
          refine wpAnyH_take (i := 38) (oi := ⟨_, _, _, _, _, _⟩) (v := ?_) rfl (by kernel_rfl) (by kernel_rfl) (by kernel_rfl) (fun _ _ _ h => h) (Or.inl ⟨by rfl, ?_⟩) (by assumption) ?_
          rotate_left
          · intro w hSw; (try dsimp only at hSw); go_simp; (try (with_reducible rfl))
          try simp only [Act.put, List.setIfInBounds_toArray, List.set_cons_zero, List.set_cons_succ]
          refine wpAnyH_take (i := 39) (oi := ⟨_, _, _, _, _, _⟩) (v := ?_) rfl (by kernel_rfl) (by kernel_rfl) (by kernel_rfl) (fun _ _ _ h => h) (Or.inl ⟨by rfl, ?_⟩) (by assumption) ?_
          rotate_left
          · intro w hSw; (try dsimp only at hSw); go_simp; (try (with_reducible rfl))
          try simp only [Act.put, List.setIfInBounds_toArray, List.set_cons_zero, List.set_cons_succ]
          refine wpAnyH_take (i := 40) (oi := ⟨_, _, _, _, _, _⟩) (v := ?_) rfl (by kernel_rfl) (by kernel_rfl) (by kernel_rfl) (fun _ _ _ h => h) (Or.inl ⟨by rfl, ?_⟩) (by assumption) ?_
          rotate_left
          · intro w hSw; (try dsimp only at hSw); go_simp; (try (with_reducible rfl))
          try simp only [Act.put, List.setIfInBounds_toArray, List.set_cons_zero, List.set_cons_succ]
          refine wpAnyH_take (i := 41) (oi := ⟨_, _, _, _, _, _⟩) (v := ?_) rfl (by kernel_rfl) (by kernel_rfl) (by kernel_rfl) (fun _ _ _ h => h) (Or.inl ⟨by rfl, ?_⟩) (by assumption) ?_
          rotate_left
          · intro w hSw; (try dsimp only at hSw); go_simp; (try (with_reducible rfl))
          try simp only [Act.put, List.setIfInBounds_toArray, List.set_cons_zero, List.set_cons_succ]
          refine wpAnyH_take (i := 42) (oi := ⟨_, _, _, _, _, _⟩) (v := ?_) rfl (by kernel_rfl) (by kernel_rfl) (by kernel_rfl) (fun _ _ _ h => h) (Or.inl ⟨by rfl, ?_⟩) (by assumption) ?_
          rotate_left
          · intro w hSw; (try dsimp only at hSw); go_simp; (try (with_reducible rfl))
          try simp only [Act.put, List.setIfInBounds_toArray, List.set_cons_zero, List.set_cons_succ]
          refine wpAnyH_take (i := 43) (oi := ⟨_, _, _, _, _, _⟩) (v := ?_) rfl (by kernel_rfl) (by kernel_rfl) (by kernel_rfl) (fun _ _ _ h => h) (Or.inl ⟨by rfl, ?_⟩) (by assumption) ?_
          rotate_left
          · intro w hSw; (try dsimp only at hSw); go_simp; (try (with_reducible rfl))
          try simp only [Act.put, List.setIfInBounds_toArray, List.set_cons_zero, List.set_cons_succ]
          refine wpAnyH_take (i := 44) (oi := ⟨_, _, _, _, _, _⟩) (v := ?_) rfl (by kernel_rfl) (by kernel_rfl) (by kernel_rfl) (fun _ _ _ h => h) (Or.inl ⟨by rfl, ?_⟩) (by assumption) ?_
          rotate_left
          · intro w hSw; (try dsimp only at hSw); go_simp; (try (with_reducible rfl))
          try simp only [Act.put, List.setIfInBounds_toArray, List.set_cons_zero, List.set_cons_succ]
          refine wpAnyH_take (i := 45) (oi := ⟨_, _, _, _, _, _⟩) (v := ?_) rfl (by kernel_rfl) (by kernel_rfl) (by kernel_rfl) (fun _ _ _ h => h) (Or.inl ⟨by rfl, ?_⟩) (by assumption) ?_
          rotate_left
          · intro w hSw; (try dsimp only at hSw); go_simp; (try (with_reducible rfl))
          try simp only [Act.put, List.setIfInBounds_toArray, List.set_cons_zero, List.set_cons_succ]
          refine wpAnyH_take (i := 46) (oi := ⟨_, _, _, _, _, _⟩) (v := ?_) rfl (by kernel_rfl) (by kernel_rfl) (by kernel_rfl) (fun _ _ _ h => h) (Or.inl ⟨by rfl, ?_⟩) (by assumption) ?_
          rotate_left
          · intro w hSw; (try dsimp only at hSw); go_simp; (try (with_reducible rfl))
          try simp only [Act.put, List.setIfInBounds_toArray, List.set_cons_zero, List.set_cons_succ]
          refine wpAnyH_take (i := 47) (oi := ⟨_, _, _, _, _, _⟩) (v := ?_) rfl (by kernel_rfl) (by kernel_rfl) (by kernel_rfl) (fun _ _ _ h => h) (Or.inl ⟨by rfl, ?_⟩) (by assumption) ?_
          rotate_left
          · intro w hSw; (try dsimp only at hSw); go_simp; (try (with_reducible rfl))
          try simp only [Act.put, List.setIfInBounds_toArray, List.set_cons_zero, List.set_cons_succ]
          refine wpAnyH_take (i := 48) (oi := ⟨_, _, _, _, _, _⟩) (v := ?_) rfl (by kernel_rfl) (by kernel_rfl) (by kernel_rfl) (fun _ _ _ h => h) (Or.inl ⟨by rfl, ?_⟩) (by assumption) ?_
          rotate_left
          · intro w hSw; (try dsimp only at hSw); go_simp; (try (with_reducible rfl))
          try simp only [Act.put, List.setIfInBounds_toArray, List.set_cons_zero, List.set_cons_succ]
          refine wpAnyH_take (i := 49) (oi := ⟨_, _, _, _, _, _⟩) (v := ?_) rfl (by kernel_rfl) (by kernel_rfl) (by kernel_rfl) (fun _ _ _ h => h) (Or.inl ⟨by rfl, ?_⟩) (by assumption) ?_
          rotate_left
          · intro w hSw; (try dsimp only at hSw); go_simp; (try (with_reducible rfl))
          try simp only [Act.put, List.setIfInBounds_toArray, List.set_cons_zero, List.set_cons_succ]
          refine wpAnyH_take (i := 50) (oi := ⟨_, _, _, _, _, _⟩) (v := ?_) rfl (by kernel_rfl) (by kernel_rfl) (by kernel_rfl) (fun _ _ _ h => h) (Or.inl ⟨by rfl, ?_⟩) (by assumption) ?_
          rotate_left
          · intro w hSw; (try dsimp only at hSw); go_simp; (try (with_reducible rfl))
          try simp only [Act.put, List.setIfInBounds_toArray, List.set_cons_zero, List.set_cons_succ]
          refine wpAnyH_take (i := 51) (oi := ⟨_, _, _, _, _, _⟩) (v := ?_) rfl (by kernel_rfl) (by kernel_rfl) (by kernel_rfl) (fun _ _ _ h => h) (Or.inl ⟨by rfl, ?_⟩) (by assumption) ?_
          rotate_left
          · intro w hSw; (try dsimp only at hSw); go_simp; (try (with_reducible rfl))
          try simp only [Act.put, List.setIfInBounds_toArray, List.set_cons_zero, List.set_cons_succ]
          refine wpAnyH_take (i := 52) (oi := ⟨_, _, _, _, _, _⟩) (v := ?_) rfl (by kernel_rfl) (by kernel_rfl) (by kernel_rfl) (fun _ _ _ h => h) (Or.inl ⟨by rfl, ?_⟩) (by assumption) ?_
          rotate_left
          · intro w hSw; (try dsimp only at hSw); go_simp; (try (with_reducible rfl))
          try simp only [Act.put, List.setIfInBounds_toArray, List.set_cons_zero, List.set_cons_succ]
          have d2 := (Below.refl wE.heap.size wE).drew
          have cR := right12_any (hmW (below2 b' d2)) hsj
          generalize wE.drew = wF at *
          refine wpAnyH_ready (rs := [53]) (by kernel_rfl) (by simp) ?_
          refine AllReadyH.cons (o := ⟨_, _, _, _, _, _⟩) rfl (fun K hK => ?_) AllReadyH.nil
          go_simp
          refine cR.mono ?_
          rintro _ w5 ⟨rfl, b5⟩
          have d5 := below2 d2 b5
          rw [HRR.out]
          refine hK.out _ _ (HS2 _ d5) (fun hHeld => ?_)
          clear hK K
          try simp only [Act.put, List.setIfInBounds_toArray, List.set_cons_zero, List.set_cons_succ]
          refine wpAnyH_take (i := 54) (oi := ⟨_, _, _, _, _, _⟩) (v := ?_) rfl (by kernel_rfl) (by kernel_rfl) (by kernel_rfl) (fun _ _ _ h => h) (Or.inl ⟨by rfl, ?_⟩) (by assumption) ?_
          rotate_left
          · intro w hSw; (try dsimp only at hSw); go_simp; (try (with_reducible rfl))
          try simp only [Act.put, List.setIfInBounds_toArray, List.set_cons_zero, List.set_cons_succ]
          refine wpAnyH_take (i := 55) (oi := ⟨_, _, _, _, _, _⟩) (v := ?_) rfl (by kernel_rfl) (by kernel_rfl) (by kernel_rfl) (fun _ _ _ h => h) (Or.inl ⟨by rfl, ?_⟩) (by assumption) ?_
          rotate_left
          · intro w hSw; (try dsimp only at hSw); go_simp; (try (with_reducible rfl))
          try simp only [Act.put, List.setIfInBounds_toArray, List.set_cons_zero, List.set_cons_succ]
          refine wpAnyH_done (by kernel_rfl) ?_ _
          replace pa := pa.below d5
          replace pq := pq.below d5
          replace bw := below2 bw d5
          replace b' := below2 b' d5
          clear hHeld HS2 cR d2 b5 d5 HRR q0 q1 q2 q3 la2 lm2
          have q0 := pa.cell 0
          have q1 := pa.cell 1
          have q2 := pa.cell 2
          have q3 := pa.cell 3
          have z0 := pq.cell 0
          have z1 := pq.cell 1
          have z2 := pq.cell 2
          have z3 := pq.cell 3
          simp only [List.getElem?_cons_zero, List.getElem?_cons_succ] at q0 q1 q2 q3 z0 z1 z2 z3
          have n5 := (b'.cell lm).trans m5
          have nh := (b'.cell lh).trans y0
          go_wp2_with fail
          go_quiet (fail)
          replace pa := pa.drewN nq
          replace pq := pq.drewN nq
          replace bw := bdrN bw nq
          clear q0 q1 q2 q3 z0 z1 z2 z3 n5 nh
          generalize w5.drewN nq = w6 at *
          have y0' := pq.cell 0
          have y1 := pq.cell 1
          have y2 := pq.cell 2
          have y3 := pq.cell 3
          simp only [List.getElem?_cons_zero, List.getElem?_cons_succ] at y0' y1 y2 y3
          have z0 := pa.cell 0
          have z1 := pa.cell 1
          have z2 := pa.cell 2
          have z3 := pa.cell 3
          have f0 := pa.frozen 0
          have f1 := pa.frozen 1
          have f2 := pa.frozen 2
          have f3 := pa.frozen 3
          have paS := ((((pa.set_ 0 (.int .i64 (x1 + 1))).set_ 1 (.int .i64 h1)).set_ 2 (.int .i64 e1)).set_ 3 (.int .i64 a1'))
          simp only [List.getElem?_cons_zero, List.getElem?_cons_succ, List.set_cons_zero, List.set_cons_succ] at z0 z1 z2 z3 paS
          have gs := sets4 w6 ga (.int .i64 (x1 + 1)) (.int .i64 h1) (.int .i64 e1) (.int .i64 a1')
          have bwS := bw.trans (below_grown bw.size (far13 (by omega)) gs)
          clear gs pa pq bw
          go_wp2
          go_roundw
          case rel => exact ⟨j + 1, HJ.out, by go_num, by rw [HX1.out]; exact paS, bwS⟩
          case measure => have := HJ.out; simp [intOf]; omega
    · have hnl : ¬ (j : Int) < n2 := by omega
      clear pa
      go_wp2
      go_ret
      exact ⟨rfl, bw⟩
end Go.Proofs.YteimgnmjmpeobaaDoor
