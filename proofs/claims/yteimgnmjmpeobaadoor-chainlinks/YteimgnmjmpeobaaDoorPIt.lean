/- The text It. -/
import Derived.Test.YteimgnmjmpeobaaDoorPIs
import Derived.BigQuiet
namespace Go.Proofs.YteimgnmjmpeobaaDoor
open Go.RowKit

/-- What is known of the chain ahead of round j. -/
structure LnkI (v sn : Int) (j : Nat) (x : Cur) : Prop where
  v : x.v = v + j
  lo : 0 ≤ x.v
  hi : x.v ≤ 9223372036854775807
  e : -9223372036854775808 ≤ x.e
  a : x.a ≤ sn
theorem bool_at {w : World} {B : Option Addr} {l : List Bool} (h : Rd w B (l.map Value.bool)) {j : Nat} (hj : j < l.length) : ∃ g o, B = some ⟨g, o, none⟩ ∧ w.cell? ⟨g, o + j, none⟩ = some (.bool l[j]) ∧ g < w.heap.size := by
  obtain ⟨b, off, e, hc, hb⟩ := h.at_ (k := j) (by simpa using hj)
  refine ⟨b, off, e, ?_, hb⟩
  rw [hc]; simp
set_option maxHeartbeats 8000000 in
set_option maxRecDepth 20000 in
theorem chainLinks_walk (u : Cur) (au : Int) (TA : Option Addr) (kt : Nat) (ts : List Bool) (O : Option Addr) (k : Nat) (own : List Int) (sn : Int) (w : World)
    (hu : CurI u) (_ : (Lit.int .i64 au).wf = true) (htr : Rd w TA (ts.map Value.bool)) (_ : ts.length ≤ kt) (_ : kt ≤ maxLen) (_ : True)
    (hor : Rd w O (own.map (Value.int .i64))) (hok : own.length ≤ k) (hkb : k * Tryd.prog.bytesOf 3 ≤ reachBytes) (_ : ∀ n ∈ own, (Lit.int .i64 n).wf = true) (_ : (Lit.int .i64 sn).wf = true) :
    Calls Tryd.prog 6 #[curV u, .int .i64 au, .slice TA ts.length kt, .slice O own.length k, .int .i64 sn] w fun e w' => e = .returned (.bool true) ∧ Below w.heap.size w w' := by
  have hal : ∀ (W : World) (o : Obj), Below W.heap.size W (W.alloc o) := fun W o => (Below.refl _ _).alloc (Nat.le_refl _) o
  have hp0 : ∀ W : World, PcsAt W none [] := fun W => .inl rfl
  have hon := own_le1 hok hkb (by kernel_rfl)
  replace hor : Rd w O (intV own) := hor
  obtain ⟨n, hn⟩ : ∃ n, own.length = n := ⟨_, rfl⟩
  obtain ⟨N, hN⟩ : ∃ N, ts.length = N := ⟨_, rfl⟩
  rw [hn] at hon ⊢
  rw [hN]
  have HOL := hid hn
  have HN := hid hN
  have HCI := hid hu
  clear hn hN hok hkb hu
  have hor0 := hor
  have htr0 := htr
  obtain ⟨v0, h0, e0, a0⟩ := u
  go_enter Tryd.func6, Tryd.ntmps6
  have bx := hal w (.cells #[.int .i64 v0, .int .i64 h0, .int .i64 e0, .int .i64 a0] 23)
  have pc := Blk.new w [.int .i64 v0, .int .i64 h0, .int .i64 e0, .int .i64 a0] 23
  replace hor := hor.below bx
  replace htr := htr.below bx
  have bw := bx
  clear bx
  have cc := small13_any (w.alloc (.cells #[.int .i64 v0, .int .i64 h0, .int .i64 e0, .int .i64 a0] 23))
  go_wp2_with fail
  refine cc.mono ?_
  clear  cc
  generalize (w.alloc (.cells #[.int .i64 v0, .int .i64 h0, .int .i64 e0, .int .i64 a0] 23)) = wg1 at *
  rintro _ w1 ⟨rfl, bx⟩
  simp only
  replace pc := pc.below bx
  replace hor := hor.below bx
  replace htr := htr.below bx
  replace bw := below2 bw bx
  clear bx
  have lpc := pc.lt
  have pc_0 := pc.cell 0
  have pc_1 := pc.cell 1
  have pc_2 := pc.cell 2
  have pc_3 := pc.cell 3
  simp only [List.getElem?_cons_zero, List.getElem?_cons_succ] at pc_0 pc_1 pc_2 pc_3
  by_cases h30 : (30 : Int) < N
  · go_wp2
    go_ret
    exact ⟨rfl, bw⟩
  by_cases h100 : (100 : Int) < n
  · go_wp2
    go_ret
    exact ⟨rfl, bw⟩
  by_cases hv0 : v0 < 0
  · go_wp2
    go_ret
    exact ⟨rfl, bw⟩
  by_cases hsa : sn < a0
  · go_wp2
    go_ret
    exact ⟨rfl, bw⟩
  by_cases hs0 : sn < 0
  · go_wp2
    go_ret
    exact ⟨rfl, bw⟩
  by_cases hsn : (n : Int) < sn
  · go_wp2
    go_ret
    exact ⟨rfl, bw⟩
  have hNb : N ≤ 30 := by omega
  have hwz : w.heap.size < w1.heap.size := pc.lt
  have pp := Blk.new w1 [.int .i64 sn, .int .i64 0, .int .i64 0, .int .i64 0] 23
  have bx := hal w1 (.cells #[.int .i64 sn, .int .i64 0, .int .i64 0, .int .i64 0] 23)
  have pcx := pc.below bx
  have bwx := below2 bw bx
  have HSZ : Hid ((w1.alloc (.cells #[.int .i64 sn, .int .i64 0, .int .i64 0, .int .i64 0] 23)).heap.size = w1.heap.size + 1) := hid (World.size_alloc _ _)
  have hloc := pc.lt
  go_upto_if 57 with (fail)
  clear lpc pc_0 pc_1 pc_2 pc_3
  generalize w1.alloc (.cells #[.int .i64 sn, .int .i64 0, .int .i64 0, .int .i64 0] 23) = wp at *
  generalize hgp0 : w1.heap.size = gp at *
  have HGP := hid hgp0
  clear hgp0
  go_cut [12] (fun q wx => q = .pointer (some ⟨gp, 0, none⟩) ∧ Blk wx gp [.int .i64 sn, .int .i64 (ownD own sn), .int .i64 0, .int .i64 0] 23 ∧ Blk wx w.heap.size [.int .i64 v0, .int .i64 h0, .int .i64 e0, .int .i64 a0] 23 ∧ Below w.heap.size w wx ∧ Hid (wx.heap.size = gp + 1))
  case first =>
    by_cases hsp : 0 < sn
    · obtain ⟨jj, hjj⟩ : ∃ j : Nat, j = (sn - 1).toNat := ⟨_, rfl⟩
      have hjl : jj < own.length := by rw [HOL.out]; omega
      have hv : sn = (jj : Int) + 1 := by omega
      have HD := hid (ownD_some hjl)
      rw [← hv] at HD
      have hox := hor0.below bwx
      obtain ⟨bo, oo, rfl, y0, lo⟩ := int_at hox hjl
      have hz1 : 0 ≤ sn - 1 := by omega
      have hz2 : sn - 1 < n := by omega
      generalize own[jj] = y at *
      rw [show jj = sn.toNat - 1 by omega] at y0
      have f1 := pp.frozen 1
      have d1 := pp.cell 1
      simp only [List.getElem?_cons_zero, List.getElem?_cons_succ] at d1
      have ps := pp.set_ 1 (.int .i64 y)
      simp only [List.set_cons_zero, List.set_cons_succ] at ps
      have pcs := pcx.other (show w.heap.size ≠ gp by omega) 1 (.int .i64 y)
      have bws := bwx.trans (below_grown bwx.size (far13 (show w.heap.size ≤ gp by omega)) (grown_set 1 (.int .i64 y)))
      have HSS : Hid ((wp.setCell ⟨gp, 1, none⟩ (.int .i64 y)).heap.size = gp + 1) := hid (by rw [← HSZ.out]; simp)
      clear pp pcx bwx hox hjj hjl hv pc bw bx hor htr
      go_wp2
      go_meet
      case rel => exact ⟨rfl, by rw [HD.out]; exact ps, pcs, bws, HSS⟩
    · have hz3 : sn = 0 := by omega
      have HD : Hid (ownD own sn = 0) := hid (by rw [hz3]; rfl)
      clear hz3 pc bw bx hor htr
      go_wp2
      go_meet
      case rel => exact ⟨rfl, by rw [HD.out]; exact pp, pcx, bwx, HSZ⟩
  case rest =>
  obtain ⟨rfl, pp, pc, bw, HSX⟩ := hcut
  have HDG : Hid (ownD own sn = ownD own sn) := rfl
  generalize hdg : ownD own sn = dg at *
  have HOD := hid hdg
  clear hdg HDG
  have hgs : w.heap.size < gp := by omega
  have hgl : gp < wc.heap.size := by rw [HSX.out]; omega
  have pa := Blk.new wc [.int .i64 v0, .int .i64 h0, .int .i64 e0, .int .i64 a0] 23
  have bx := hal wc (.cells #[.int .i64 v0, .int .i64 h0, .int .i64 e0, .int .i64 a0] 23)
  have q0 := pc.cell 0
  have q1 := pc.cell 1
  have q2 := pc.cell 2
  have q3 := pc.cell 3
  simp only [List.getElem?_cons_zero, List.getElem?_cons_succ] at q0 q1 q2 q3
  replace pc := pc.below bx
  replace pp := pp.below bx
  replace bw := below2 bw bx
  go_wp2_with fail
  clear q0 q1 q2 q3 bx HSX HSZ HGP hwz hloc pcx bwx
  generalize wc.alloc (.cells #[.int .i64 v0, .int .i64 h0, .int .i64 e0, .int .i64 a0] 23) = wg at *
  generalize wc.heap.size = ga at *
  go_loopw [14] (fun i wr => ∃ (j : Nat) (x : Cur), j ≤ N ∧ i = .int .i64 j ∧ Hid (LnkI v0 sn j x) ∧ Blk wr ga (curL x) 23 ∧ Blk wr gp [.int .i64 sn, .int .i64 dg, .int .i64 0, .int .i64 0] 23 ∧ Blk wr w.heap.size [.int .i64 v0, .int .i64 h0, .int .i64 e0, .int .i64 a0] 23 ∧ Below w.heap.size w wr) (fun i _ => N - (intOf i).toNat)
  case atStart => exact ⟨0, ⟨v0, h0, e0, a0⟩, by omega, rfl, hid ⟨by simp, by show 0 ≤ v0; omega, HCI.out.v.2, HCI.out.e.1, by show a0 ≤ sn; omega⟩, pa, pp, pc, bw⟩
  case round =>
    clear pa pp pc bw
    obtain ⟨j, X, hj, rfl, HI, pa, pp, pc, bw⟩ := hrel
    have hor := hor0.below bw
    have htr := htr0.below bw
    have la := pa.lt
    have lp := pp.lt
    have hz : (0 : Int) ≤ j := by omega
    obtain ⟨x1, x2, x3, x4⟩ := X
    by_cases hjn : j < N
    · have hjl : j < ts.length := by rw [HN.out]; exact hjn
      have hlt : (j : Int) < N := by omega
      have HJ := hid hjn
      obtain ⟨bt, ot, rfl, y0, lt⟩ := bool_at htr hjl
      generalize ts[j] = tb at *
      go_upto_region 11 with (fail)
      have q0 := pa.cell 0
      have q1 := pa.cell 1
      have q2 := pa.cell 2
      have q3 := pa.cell 3
      have r0 := pp.cell 0
      have r1 := pp.cell 1
      have r2 := pp.cell 2
      have r3 := pp.cell 3
      simp only [List.getElem?_cons_zero, List.getElem?_cons_succ] at q0 q1 q2 q3 r0 r1 r2 r3
      have hcv : -9223372036854775808 ≤ x1 := by have := HI.out.lo; dsimp only at this; omega
      have hce : -9223372036854775808 ≤ x3 := HI.out.e
      have hnx := fun {W : World} (_ : Below wr.heap.size wr W) => next_any (A := none) (n := 0) (c := 0) (⟨x1, x2, x3, x4⟩ : Cur) au tb (⟨sn, dg, 0, 0⟩ : Cur) (hp0 W) rfl (Nat.le_refl 0) (by unfold maxLen; omega) (by simp) hcv hce
      have HP := hid (nextA_nil (⟨x1, x2, x3, x4⟩ : Cur) au tb (⟨sn, dg, 0, 0⟩ : Cur))
      have HS : ∀ W, Below wr.heap.size wr W → (fun w' => w'.cell? ⟨ga, 0, none⟩ = some (.int .i64 x1) ∧ w'.cell? ⟨ga, 1, none⟩ = some (.int .i64 x2) ∧ w'.cell? ⟨ga, 2, none⟩ = some (.int .i64 x3) ∧ w'.cell? ⟨ga, 3, none⟩ = some (.int .i64 x4) ∧ w'.cell? ⟨gp, 0, none⟩ = some (.int .i64 sn) ∧ w'.cell? ⟨gp, 1, none⟩ = some (.int .i64 dg) ∧ w'.cell? ⟨gp, 2, none⟩ = some (.int .i64 0) ∧ w'.cell? ⟨gp, 3, none⟩ = some (.int .i64 0) ∧ w'.cell? ⟨bt, ot + j, none⟩ = some (.bool tb)) W := fun W h => ⟨(h.cell la).trans q0, (h.cell la).trans q1, (h.cell la).trans q2, (h.cell la).trans q3, (h.cell lp).trans r0, (h.cell lp).trans r1, (h.cell lp).trans r2, (h.cell lp).trans r3, (h.cell lt).trans y0⟩
      go_cut [15, 16] (fun q f wx => ∃ (gq : Nat) (A1 : Option Addr) (c1 : Nat) (p1 p2 p3 p4 p5 p6 p7 E : Int), q = .pointer (some ⟨gq, 0, none⟩) ∧ f = .int .i64 E ∧ Hid (nextA (⟨x1, x2, x3, x4⟩ : Cur) au tb (⟨sn, dg, 0, 0⟩ : Cur) [] = (⟨p1, p2, p3, p4, p5, p6, p7, []⟩ : Man)) ∧ Hid (nextN (⟨x1, x2, x3, x4⟩ : Cur) au tb (⟨sn, dg, 0, 0⟩ : Cur) [] = E) ∧ Blk wx gq [.int .i64 p1, .int .i64 p2, .int .i64 p3, .int .i64 p4, .int .i64 p5, .int .i64 p6, .int .i64 p7, .slice A1 0 c1] 26 ∧ Mt wx A1 c1 (⟨p1, p2, p3, p4, p5, p6, p7, []⟩ : Man) ∧ Below wr.heap.size wr wx)
      case first =>
        refine wp_region_held_drew (S := fun w' => w'.cell? ⟨ga, 0, none⟩ = some (.int .i64 x1) ∧ w'.cell? ⟨ga, 1, none⟩ = some (.int .i64 x2) ∧ w'.cell? ⟨ga, 2, none⟩ = some (.int .i64 x3) ∧ w'.cell? ⟨ga, 3, none⟩ = some (.int .i64 x4) ∧ w'.cell? ⟨gp, 0, none⟩ = some (.int .i64 sn) ∧ w'.cell? ⟨gp, 1, none⟩ = some (.int .i64 dg) ∧ w'.cell? ⟨gp, 2, none⟩ = some (.int .i64 0) ∧ w'.cell? ⟨gp, 3, none⟩ = some (.int .i64 0) ∧ w'.cell? ⟨bt, ot + j, none⟩ = some (.bool tb)) (by kernel_rfl) (HS _ (Below.refl wr.heap.size wr).drew) (fun hHeld => ?_)
        refine wpAnyH_take (i := 0) (oi := ⟨_, _, _, _, _, _⟩) (v := ?_) rfl (by kernel_rfl) (by kernel_rfl) (by kernel_rfl) (fun _ _ _ h => h) (Or.inl ⟨by rfl, ?_⟩) (by assumption) ?_
        rotate_left
        · intro w hSw; (try dsimp only at hSw); go_simp; (try (with_reducible rfl))
        try simp only [Act.put, List.setIfInBounds_toArray, List.set_cons_zero, List.set_cons_succ]
        refine wpAnyH_take (i := 1) (oi := ⟨_, _, _, _, _, _⟩) (v := ?_) rfl (by kernel_rfl) (by kernel_rfl) (by kernel_rfl) (fun _ _ _ h => h) (Or.inl ⟨by rfl, ?_⟩) (by assumption) ?_
        rotate_left
        · intro w hSw; (try dsimp only at hSw); go_simp; (try (with_reducible rfl))
        try simp only [Act.put, List.setIfInBounds_toArray, List.set_cons_zero, List.set_cons_succ]
        refine wpAnyH_take (i := 2) (oi := ⟨_, _, _, _, _, _⟩) (v := ?_) rfl (by kernel_rfl) (by kernel_rfl) (by kernel_rfl) (fun _ _ _ h => h) (Or.inl ⟨by rfl, ?_⟩) (by assumption) ?_
        rotate_left
        · intro w hSw; (try dsimp only at hSw); go_simp; (try (with_reducible rfl))
        try simp only [Act.put, List.setIfInBounds_toArray, List.set_cons_zero, List.set_cons_succ]
        refine wpAnyH_take (i := 3) (oi := ⟨_, _, _, _, _, _⟩) (v := ?_) rfl (by kernel_rfl) (by kernel_rfl) (by kernel_rfl) (fun _ _ _ h => h) (Or.inl ⟨by rfl, ?_⟩) (by assumption) ?_
        rotate_left
        · intro w hSw; (try dsimp only at hSw); go_simp; (try (with_reducible rfl))
        try simp only [Act.put, List.setIfInBounds_toArray, List.set_cons_zero, List.set_cons_succ]
        refine wpAnyH_take (i := 4) (oi := ⟨_, _, _, _, _, _⟩) (v := ?_) rfl (by kernel_rfl) (by kernel_rfl) (by kernel_rfl) (fun _ _ _ h => h) (Or.inl ⟨by rfl, ?_⟩) (by assumption) ?_
        rotate_left
        · intro w hSw; (try dsimp only at hSw); go_simp; (try (with_reducible rfl))
        try simp only [Act.put, List.setIfInBounds_toArray, List.set_cons_zero, List.set_cons_succ]
        refine wpAnyH_take (i := 5) (oi := ⟨_, _, _, _, _, _⟩) (v := ?_) rfl (by kernel_rfl) (by kernel_rfl) (by kernel_rfl) (fun _ _ _ h => h) (Or.inl ⟨by rfl, ?_⟩) (by assumption) ?_
        rotate_left
        · intro w hSw; (try dsimp only at hSw); go_simp; (try (with_reducible rfl))
        try simp only [Act.put, List.setIfInBounds_toArray, List.set_cons_zero, List.set_cons_succ]
        refine wpAnyH_take (i := 6) (oi := ⟨_, _, _, _, _, _⟩) (v := ?_) rfl (by kernel_rfl) (by kernel_rfl) (by kernel_rfl) (fun _ _ _ h => h) (Or.inl ⟨by rfl, ?_⟩) (by assumption) ?_
        rotate_left
        · intro w hSw; (try dsimp only at hSw); go_simp; (try (with_reducible rfl))
        try simp only [Act.put, List.setIfInBounds_toArray, List.set_cons_zero, List.set_cons_succ]
        have d := (Below.refl wr.heap.size wr).drew
        have hds : wr.drew.heap.size = wr.heap.size := rfl
        generalize wr.drew = wd at *
        have hcd := hnx d
        refine wpAnyH_ready (rs := [7, 11]) (by kernel_rfl) (by simp) ?_
        refine AllReadyH.cons (o := ⟨_, _, _, _, _, _⟩) rfl (fun K hK => ?_) (AllReadyH.cons (o := ⟨_, _, _, _, _, _⟩) rfl (fun K hK => ?_) (AllReadyH.nil))
        · go_simp
          refine hcd.mono ?_
          clear hcd
          rintro _ w3 ⟨A1, c1, rfl, hm, b3, -⟩
          have b' := below2 d b3
          refine hK.out _ _ (HS _ b') (fun hHeld => ?_)
          clear hK K
          try simp only [Act.put, List.setIfInBounds_toArray, List.set_cons_zero, List.set_cons_succ]
          generalize hMX : nextA (⟨x1, x2, x3, x4⟩ : Cur) au tb (⟨sn, dg, 0, 0⟩ : Cur) [] = MX at *
          generalize hEX : nextN (⟨x1, x2, x3, x4⟩ : Cur) au tb (⟨sn, dg, 0, 0⟩ : Cur) [] = E at *
          have HNA := hid hMX
          have HNN := hid hEX
          clear hMX hEX
          have hps := HP.out
          obtain ⟨p1, p2, p3, p4, p5, p6, p7, qs⟩ := MX
          dsimp only at hps
          subst hps
          rw [show manV (⟨p1, p2, p3, p4, p5, p6, p7, []⟩ : Man) A1 c1 = .agg #[.int .i64 p1, .int .i64 p2, .int .i64 p3, .int .i64 p4, .int .i64 p5, .int .i64 p6, .int .i64 p7, .slice A1 0 c1] from rfl]
          clear hnx
          refine wpAnyH_take (i := 8) (oi := ⟨_, _, _, _, _, _⟩) (v := ?_) rfl (by kernel_rfl) (by kernel_rfl) (by kernel_rfl) (fun _ _ _ h => h) (Or.inl ⟨by rfl, ?_⟩) (by assumption) ?_
          rotate_left
          · intro w hSw; (try dsimp only at hSw); go_simp; (try (with_reducible rfl))
          try simp only [Act.put, List.setIfInBounds_toArray, List.set_cons_zero, List.set_cons_succ]
          refine wpAnyH_take (i := 9) (oi := ⟨_, _, _, _, _, _⟩) (v := ?_) rfl (by kernel_rfl) (by kernel_rfl) (by kernel_rfl) (fun _ _ _ h => h) (Or.inl ⟨by rfl, ?_⟩) (by assumption) ?_
          rotate_left
          · intro w hSw; (try dsimp only at hSw); go_simp; (try (with_reducible rfl))
          try simp only [Act.put, List.setIfInBounds_toArray, List.set_cons_zero, List.set_cons_succ]
          refine wpAnyH_take (i := 10) (oi := ⟨_, _, _, _, _, _⟩) (v := ?_) rfl (by kernel_rfl) (by kernel_rfl) (by kernel_rfl) (fun _ _ _ h => h) (Or.inl ⟨by rfl, ?_⟩) (by assumption) ?_
          rotate_left
          · intro w hSw; (try dsimp only at hSw); go_simp; (try (with_reducible rfl))
          try simp only [Act.put, List.setIfInBounds_toArray, List.set_cons_zero, List.set_cons_succ]
          refine wpAnyH_ready (rs := [11]) (by kernel_rfl) (by simp) ?_
          refine AllReadyH.cons (o := ⟨_, _, _, _, _, _⟩) rfl (fun K hK => ?_) (AllReadyH.nil)
          go_simp
          have pq := Blk.new w3 [.int .i64 0, .int .i64 0, .int .i64 0, .int .i64 0, .int .i64 0, .int .i64 0, .int .i64 0, .slice none 0 0] 26
          have bx := hal w3 (.cells #[.int .i64 0, .int .i64 0, .int .i64 0, .int .i64 0, .int .i64 0, .int .i64 0, .int .i64 0, .slice none 0 0] 26)
          have hgq2 : wr.heap.size ≤ w3.heap.size := b'.size
          replace b' := below2 b' bx
          clear d hds b3 bx
          generalize w3.alloc (.cells #[.int .i64 0, .int .i64 0, .int .i64 0, .int .i64 0, .int .i64 0, .int .i64 0, .int .i64 0, .slice none 0 0] 26) = wz at *
          generalize w3.heap.size = gq at *
          refine hK.out _ _ (HS _ b') (fun hHeld => ?_)
          clear hK K
          try simp only [Act.put, List.setIfInBounds_toArray, List.set_cons_zero, List.set_cons_succ]
          have z0 := pq.cell 0
          have z1 := pq.cell 1
          have z2 := pq.cell 2
          have z3 := pq.cell 3
          have z4 := pq.cell 4
          have z5 := pq.cell 5
          have z6 := pq.cell 6
          have z7 := pq.cell 7
          have f0 := pq.frozen 0
          have f1 := pq.frozen 1
          have f2 := pq.frozen 2
          have f3 := pq.frozen 3
          have f4 := pq.frozen 4
          have f5 := pq.frozen 5
          have f6 := pq.frozen 6
          have f7 := pq.frozen 7
          have pqS := ((((((((pq.set_ 0 (.int .i64 p1)).set_ 1 (.int .i64 p2)).set_ 2 (.int .i64 p3)).set_ 3 (.int .i64 p4)).set_ 4 (.int .i64 p5)).set_ 5 (.int .i64 p6)).set_ 6 (.int .i64 p7)).set_ 7 (.slice A1 0 c1))
          simp only [List.getElem?_cons_zero, List.getElem?_cons_succ, List.set_cons_zero, List.set_cons_succ] at z0 z1 z2 z3 z4 z5 z6 z7 pqS
          have gs := sets8' wz gq (.int .i64 p1) (.int .i64 p2) (.int .i64 p3) (.int .i64 p4) (.int .i64 p5) (.int .i64 p6) (.int .i64 p7) (.slice A1 0 c1)
          have bS : Below wr.heap.size wr ((((((((wz.setCell ⟨gq, 0, none⟩ (.int .i64 p1)).setCell ⟨gq, 1, none⟩ (.int .i64 p2)).setCell ⟨gq, 2, none⟩ (.int .i64 p3)).setCell ⟨gq, 3, none⟩ (.int .i64 p4)).setCell ⟨gq, 4, none⟩ (.int .i64 p5)).setCell ⟨gq, 5, none⟩ (.int .i64 p6)).setCell ⟨gq, 6, none⟩ (.int .i64 p7)).setCell ⟨gq, 7, none⟩ (.slice A1 0 c1)) := b'.trans (below_grown b'.size (far13 (by omega)) gs)
          have hmS : Mt ((((((((wz.setCell ⟨gq, 0, none⟩ (.int .i64 p1)).setCell ⟨gq, 1, none⟩ (.int .i64 p2)).setCell ⟨gq, 2, none⟩ (.int .i64 p3)).setCell ⟨gq, 3, none⟩ (.int .i64 p4)).setCell ⟨gq, 4, none⟩ (.int .i64 p5)).setCell ⟨gq, 5, none⟩ (.int .i64 p6)).setCell ⟨gq, 6, none⟩ (.int .i64 p7)).setCell ⟨gq, 7, none⟩ (.slice A1 0 c1)) A1 c1 (⟨p1, p2, p3, p4, p5, p6, p7, []⟩ : Man) := ⟨.inl rfl, Nat.zero_le _, hm.capm⟩
          refine wpAnyH_ready (rs := [12]) (by kernel_rfl) (by simp) ?_
          refine AllReadyH.cons (o := ⟨_, _, _, _, _, _⟩) rfl (fun K hK => ?_) AllReadyH.nil
          go_simp
          refine hK.out _ _ (HS _ bS) (fun hHeld => ?_)
          clear hK K
          try simp only [Act.put, List.setIfInBounds_toArray, List.set_cons_zero, List.set_cons_succ]
          refine wpAnyH_ready (rs := [13]) (by kernel_rfl) (by simp) ?_
          refine AllReadyH.cons (o := ⟨_, _, _, _, _, _⟩) rfl (fun K hK => ?_) AllReadyH.nil
          go_simp
          refine hK.out _ _ hHeld (fun hHeld => ?_)
          clear hK K
          try simp only [Act.put, List.setIfInBounds_toArray, List.set_cons_zero, List.set_cons_succ]
          refine wpAnyH_done (by kernel_rfl) ?_ _
          go_wp2_with fail
          go_meet
          case rel => exact ⟨_, A1, c1, p1, p2, p3, p4, p5, p6, p7, E, rfl, rfl, hid rfl, hid rfl, pqS, hmS, bS⟩
        · go_simp
          have pq := Blk.new wd [.int .i64 0, .int .i64 0, .int .i64 0, .int .i64 0, .int .i64 0, .int .i64 0, .int .i64 0, .slice none 0 0] 26
          rw [hds] at pq
          have bx := hal wd (.cells #[.int .i64 0, .int .i64 0, .int .i64 0, .int .i64 0, .int .i64 0, .int .i64 0, .int .i64 0, .slice none 0 0] 26)
          have b' := below2 d bx
          have hgq2 : wr.heap.size ≤ wr.heap.size := Nat.le_refl _
          have hcz := hnx b'
          clear hcd
          generalize wd.alloc (.cells #[.int .i64 0, .int .i64 0, .int .i64 0, .int .i64 0, .int .i64 0, .int .i64 0, .int .i64 0, .slice none 0 0] 26) = wz at *
          refine hK.out _ _ (HS _ b') (fun hHeld => ?_)
          clear hK K
          try simp only [Act.put, List.setIfInBounds_toArray, List.set_cons_zero, List.set_cons_succ]
          refine wpAnyH_ready (rs := [7]) (by kernel_rfl) (by simp) ?_
          refine AllReadyH.cons (o := ⟨_, _, _, _, _, _⟩) rfl (fun K hK => ?_) (AllReadyH.nil)
          go_simp
          refine hcz.mono ?_
          clear hcz
          rintro _ w3 ⟨A1, c1, rfl, hm, b3, -⟩
          replace pq := pq.below b3
          replace b' := below2 b' b3
          refine hK.out _ _ (HS _ b') (fun hHeld => ?_)
          clear hK K
          try simp only [Act.put, List.setIfInBounds_toArray, List.set_cons_zero, List.set_cons_succ]
          generalize hMX : nextA (⟨x1, x2, x3, x4⟩ : Cur) au tb (⟨sn, dg, 0, 0⟩ : Cur) [] = MX at *
          generalize hEX : nextN (⟨x1, x2, x3, x4⟩ : Cur) au tb (⟨sn, dg, 0, 0⟩ : Cur) [] = E at *
          have HNA := hid hMX
          have HNN := hid hEX
          clear hMX hEX
          have hps := HP.out
          obtain ⟨p1, p2, p3, p4, p5, p6, p7, qs⟩ := MX
          dsimp only at hps
          subst hps
          rw [show manV (⟨p1, p2, p3, p4, p5, p6, p7, []⟩ : Man) A1 c1 = .agg #[.int .i64 p1, .int .i64 p2, .int .i64 p3, .int .i64 p4, .int .i64 p5, .int .i64 p6, .int .i64 p7, .slice A1 0 c1] from rfl]
          clear hnx
          refine wpAnyH_take (i := 8) (oi := ⟨_, _, _, _, _, _⟩) (v := ?_) rfl (by kernel_rfl) (by kernel_rfl) (by kernel_rfl) (fun _ _ _ h => h) (Or.inl ⟨by rfl, ?_⟩) (by assumption) ?_
          rotate_left
          · intro w hSw; (try dsimp only at hSw); go_simp; (try (with_reducible rfl))
          try simp only [Act.put, List.setIfInBounds_toArray, List.set_cons_zero, List.set_cons_succ]
          refine wpAnyH_take (i := 9) (oi := ⟨_, _, _, _, _, _⟩) (v := ?_) rfl (by kernel_rfl) (by kernel_rfl) (by kernel_rfl) (fun _ _ _ h => h) (Or.inl ⟨by rfl, ?_⟩) (by assumption) ?_
          rotate_left
          · intro w hSw; (try dsimp only at hSw); go_simp; (try (with_reducible rfl))
          try simp only [Act.put, List.setIfInBounds_toArray, List.set_cons_zero, List.set_cons_succ]
          refine wpAnyH_take (i := 10) (oi := ⟨_, _, _, _, _, _⟩) (v := ?_) rfl (by kernel_rfl) (by kernel_rfl) (by kernel_rfl) (fun _ _ _ h => h) (Or.inl ⟨by rfl, ?_⟩) (by assumption) ?_
          rotate_left
          · intro w hSw; (try dsimp only at hSw); go_simp; (try (with_reducible rfl))
          try simp only [Act.put, List.setIfInBounds_toArray, List.set_cons_zero, List.set_cons_succ]
          have z0 := pq.cell 0
          have z1 := pq.cell 1
          have z2 := pq.cell 2
          have z3 := pq.cell 3
          have z4 := pq.cell 4
          have z5 := pq.cell 5
          have z6 := pq.cell 6
          have z7 := pq.cell 7
          have f0 := pq.frozen 0
          have f1 := pq.frozen 1
          have f2 := pq.frozen 2
          have f3 := pq.frozen 3
          have f4 := pq.frozen 4
          have f5 := pq.frozen 5
          have f6 := pq.frozen 6
          have f7 := pq.frozen 7
          have pqS := ((((((((pq.set_ 0 (.int .i64 p1)).set_ 1 (.int .i64 p2)).set_ 2 (.int .i64 p3)).set_ 3 (.int .i64 p4)).set_ 4 (.int .i64 p5)).set_ 5 (.int .i64 p6)).set_ 6 (.int .i64 p7)).set_ 7 (.slice A1 0 c1))
          simp only [List.getElem?_cons_zero, List.getElem?_cons_succ, List.set_cons_zero, List.set_cons_succ] at z0 z1 z2 z3 z4 z5 z6 z7 pqS
          have gs := sets8' w3 wr.heap.size (.int .i64 p1) (.int .i64 p2) (.int .i64 p3) (.int .i64 p4) (.int .i64 p5) (.int .i64 p6) (.int .i64 p7) (.slice A1 0 c1)
          have bS : Below wr.heap.size wr ((((((((w3.setCell ⟨wr.heap.size, 0, none⟩ (.int .i64 p1)).setCell ⟨wr.heap.size, 1, none⟩ (.int .i64 p2)).setCell ⟨wr.heap.size, 2, none⟩ (.int .i64 p3)).setCell ⟨wr.heap.size, 3, none⟩ (.int .i64 p4)).setCell ⟨wr.heap.size, 4, none⟩ (.int .i64 p5)).setCell ⟨wr.heap.size, 5, none⟩ (.int .i64 p6)).setCell ⟨wr.heap.size, 6, none⟩ (.int .i64 p7)).setCell ⟨wr.heap.size, 7, none⟩ (.slice A1 0 c1)) := b'.trans (below_grown b'.size (far13 (by omega)) gs)
          have hmS : Mt ((((((((w3.setCell ⟨wr.heap.size, 0, none⟩ (.int .i64 p1)).setCell ⟨wr.heap.size, 1, none⟩ (.int .i64 p2)).setCell ⟨wr.heap.size, 2, none⟩ (.int .i64 p3)).setCell ⟨wr.heap.size, 3, none⟩ (.int .i64 p4)).setCell ⟨wr.heap.size, 4, none⟩ (.int .i64 p5)).setCell ⟨wr.heap.size, 5, none⟩ (.int .i64 p6)).setCell ⟨wr.heap.size, 6, none⟩ (.int .i64 p7)).setCell ⟨wr.heap.size, 7, none⟩ (.slice A1 0 c1)) A1 c1 (⟨p1, p2, p3, p4, p5, p6, p7, []⟩ : Man) := ⟨.inl rfl, Nat.zero_le _, hm.capm⟩
          refine wpAnyH_ready (rs := [12]) (by kernel_rfl) (by simp) ?_
          refine AllReadyH.cons (o := ⟨_, _, _, _, _, _⟩) rfl (fun K hK => ?_) AllReadyH.nil
          go_simp
          refine hK.out _ _ (HS _ bS) (fun hHeld => ?_)
          clear hK K
          try simp only [Act.put, List.setIfInBounds_toArray, List.set_cons_zero, List.set_cons_succ]
          refine wpAnyH_ready (rs := [13]) (by kernel_rfl) (by simp) ?_
          refine AllReadyH.cons (o := ⟨_, _, _, _, _, _⟩) rfl (fun K hK => ?_) AllReadyH.nil
          go_simp
          refine hK.out _ _ hHeld (fun hHeld => ?_)
          clear hK K
          try simp only [Act.put, List.setIfInBounds_toArray, List.set_cons_zero, List.set_cons_succ]
          refine wpAnyH_done (by kernel_rfl) ?_ _
          go_wp2_with fail
          go_meet
          case rel => exact ⟨_, A1, c1, p1, p2, p3, p4, p5, p6, p7, E, rfl, rfl, hid rfl, hid rfl, pqS, hmS, bS⟩
      case rest =>
      obtain ⟨gq, A1, c1, p1, p2, p3, p4, p5, p6, p7, E, rfl, rfl, HNA, HNN, pq, hm, b'⟩ := hcut
      replace pa := pa.below b'
      replace pp := pp.below b'
      replace pc := pc.below b'
      replace bw := bw.trans (b'.mono bw.size)
      replace hor := hor.below b'
      have yt := (b'.cell lt).trans y0
      clear q0 q1 q2 q3 r0 r1 r2 r3 HS HP hnx la lp htr
      have m1 := pq.cell 1
      simp only [List.getElem?_cons_zero, List.getElem?_cons_succ] at m1
      by_cases hE : E = 0
      rotate_left
      · have hno := next_no (c := (⟨x1, x2, x3, x4⟩ : Cur)) (au := au) (t := tb) (p := (⟨sn, dg, 0, 0⟩ : Cur)) (ps := []) (by rw [HNN.out]; exact hE)
        obtain ⟨h24, hza⟩ := hno
        rw [HNN.out] at h24
        rw [HNA.out] at hza
        injection hza with i1 i2 i3 i4 i5 i6 i7 i8
        subst i2
        clear i1 i3 i4 i5 i6 i7 i8 hm HNA HNN
        rcases h24 with h24 | h24
        · subst h24
          go_wp2
          go_ret
          exact ⟨rfl, bw⟩
        · subst h24
          go_wp2
          go_ret
          exact ⟨rfl, bw⟩
      subst hE
      obtain ⟨-, -, hr, he⟩ := next_ok HNN.out
      have hacc := next_acc (own := own) HNN.out HI.out.a HOD.out.symm
      rw [HNA.out] at hacc he
      have he2 := he.symm
      unfold nextM at he2
      dsimp only at he2
      injection he2 with i1 i2 i3 i4 i5 i6 i7 i8
      rw [← he] at hr
      subst i1 i2 i3 i4 i6 i7
      have HEV := hid i5
      clear i5 i8 he
      have ha0 := hr.a0
      have ha1 := hr.a1
      have hv0' := hr.v0
      have hv1' := hr.v1
      have hn0 := hr.n0
      have he0 := hr.e0
      have he1 := hr.e1
      dsimp only at ha0 ha1 hv0' hv1' hn0 he0 he1
      have HRR := hid ((manR_iff _).2 hr)
      have hxc := accC_yes (head := 100 + (j : Int)) hacc
      have h9 := acc_nine (c := ⟨x1 + 1, 100 + (j : Int), p5, sn⟩) (own := own) HRR.out rfl (Int.le_refl _)
      have h4 := acc_four (c := ⟨x1, x2, x3, x4⟩) (au := au + 1) (own := own) (m := (⟨au, x1 + 1, x2, x3, p5, sn, dg, []⟩ : Man)) (.inr (by show au ≠ au + 1; omega))
      have hj30 : (j : Int) < 30 := by omega
      clear hr m1
      have hcv2 : -9223372036854775808 ≤ x1 + 1 := by omega
      have hwr1 : IntKind.i64.wrap (100 + (j : Int)) = 100 + (j : Int) := by rw [IntKind.wrap_i64]; omega
      have lpa := pa.lt
      have pa_0 := pa.cell 0
      have pa_1 := pa.cell 1
      have pa_2 := pa.cell 2
      have pa_3 := pa.cell 3
      have lpq := pq.lt
      have pq_0 := pq.cell 0
      have pq_1 := pq.cell 1
      have pq_2 := pq.cell 2
      have pq_3 := pq.cell 3
      have pq_4 := pq.cell 4
      have pq_5 := pq.cell 5
      have pq_6 := pq.cell 6
      have pq_7 := pq.cell 7
      simp only [List.getElem?_cons_zero, List.getElem?_cons_succ] at pa_0 pa_1 pa_2 pa_3 pq_0 pq_1 pq_2 pq_3 pq_4 pq_5 pq_6 pq_7
      have cc := accept_val (k := k) (u := (⟨x1, x2, x3, x4⟩ : Cur)) (m := (⟨au, x1 + 1, x2, x3, p5, sn, dg, []⟩ : Man)) au (100 + (j : Int)) hm (by simp) hcv HOL.out hor hon hacc hxc
      go_wp2_with fail
      refine cc.mono ?_
      clear lpa lpq pa_0 pa_1 pa_2 pa_3 pq_0 pq_1 pq_2 pq_3 pq_4 pq_5 pq_6 pq_7 cc
      rintro _ w1 ⟨rfl, bx⟩
      simp only
      replace pa := pa.below bx
      replace pq := pq.below bx
      replace pp := pp.below bx
      replace pc := pc.below bx
      replace hor := hor.below bx
      replace hm := hm.below bx
      replace b' := below2 b' bx
      replace bw := below2 bw bx
      clear bx
      have lpa := pa.lt
      have pa_0 := pa.cell 0
      have pa_1 := pa.cell 1
      have pa_2 := pa.cell 2
      have pa_3 := pa.cell 3
      have lpq := pq.lt
      have pq_0 := pq.cell 0
      have pq_1 := pq.cell 1
      have pq_2 := pq.cell 2
      have pq_3 := pq.cell 3
      have pq_4 := pq.cell 4
      have pq_5 := pq.cell 5
      have pq_6 := pq.cell 6
      have pq_7 := pq.cell 7
      simp only [List.getElem?_cons_zero, List.getElem?_cons_succ] at pa_0 pa_1 pa_2 pa_3 pq_0 pq_1 pq_2 pq_3 pq_4 pq_5 pq_6 pq_7
      have bx := hal w1 (.cells #[.int .i64 (x1 + 1), .int .i64 (100 + (j : Int)), .int .i64 p5, .int .i64 sn] 23)
      have px := Blk.new w1 [.int .i64 (x1 + 1), .int .i64 (100 + (j : Int)), .int .i64 p5, .int .i64 sn] 23
      replace pa := pa.below bx
      replace pq := pq.below bx
      replace pp := pp.below bx
      replace pc := pc.below bx
      replace hor := hor.below bx
      replace hm := hm.below bx
      replace b' := below2 b' bx
      replace bw := below2 bw bx
      clear bx
      have cc := accept_val (k := k) (u := (⟨x1 + 1, 100 + (j : Int), p5, sn⟩ : Cur)) (m := (⟨au, x1 + 1, x2, x3, p5, sn, dg, []⟩ : Man)) au (100 + (j : Int)) hm (by simp) hcv2 HOL.out hor hon h9 (accC_no (by rw [h9]; decide))
      go_wp2_with fail
      refine cc.mono ?_
      clear lpa lpq pa_0 pa_1 pa_2 pa_3 pq_0 pq_1 pq_2 pq_3 pq_4 pq_5 pq_6 pq_7 cc
      generalize (w1.alloc (.cells #[.int .i64 (x1 + 1), .int .i64 (100 + (j : Int)), .int .i64 p5, .int .i64 sn] 23)) = wg2 at *
      rintro _ w2 ⟨rfl, bx⟩
      simp only
      replace pa := pa.below bx
      replace pq := pq.below bx
      replace px := px.below bx
      replace pp := pp.below bx
      replace pc := pc.below bx
      replace hor := hor.below bx
      replace hm := hm.below bx
      replace b' := below2 b' bx
      replace bw := below2 bw bx
      clear bx
      have lpa := pa.lt
      have pa_0 := pa.cell 0
      have pa_1 := pa.cell 1
      have pa_2 := pa.cell 2
      have pa_3 := pa.cell 3
      have lpq := pq.lt
      have pq_0 := pq.cell 0
      have pq_1 := pq.cell 1
      have pq_2 := pq.cell 2
      have pq_3 := pq.cell 3
      have pq_4 := pq.cell 4
      have pq_5 := pq.cell 5
      have pq_6 := pq.cell 6
      have pq_7 := pq.cell 7
      have lpx := px.lt
      have px_0 := px.cell 0
      have px_1 := px.cell 1
      have px_2 := px.cell 2
      have px_3 := px.cell 3
      simp only [List.getElem?_cons_zero, List.getElem?_cons_succ] at pa_0 pa_1 pa_2 pa_3 pq_0 pq_1 pq_2 pq_3 pq_4 pq_5 pq_6 pq_7 px_0 px_1 px_2 px_3
      have bx := hal w2 (.cells #[.int .i64 (x1 + 1), .int .i64 (100 + (j : Int)), .int .i64 p5, .int .i64 sn] 23)
      have py := Blk.new w2 [.int .i64 (x1 + 1), .int .i64 (100 + (j : Int)), .int .i64 p5, .int .i64 sn] 23
      replace pa := pa.below bx
      replace pq := pq.below bx
      replace px := px.below bx
      replace pp := pp.below bx
      replace pc := pc.below bx
      replace hor := hor.below bx
      replace hm := hm.below bx
      replace b' := below2 b' bx
      replace bw := below2 bw bx
      clear bx
      have cc := accept_val (k := k) (u := (⟨x1, x2, x3, x4⟩ : Cur)) (m := (⟨au, x1 + 1, x2, x3, p5, sn, dg, []⟩ : Man)) (au + 1) (100 + (j : Int)) hm (by simp) hcv HOL.out hor hon h4 (accC_no (by rw [h4]; decide))
      go_wp2_with fail
      refine cc.mono ?_
      clear lpa lpq lpx pa_0 pa_1 pa_2 pa_3 pq_0 pq_1 pq_2 pq_3 pq_4 pq_5 pq_6 pq_7 px_0 px_1 px_2 px_3 cc
      generalize (w2.alloc (.cells #[.int .i64 (x1 + 1), .int .i64 (100 + (j : Int)), .int .i64 p5, .int .i64 sn] 23)) = wg3 at *
      rintro _ w3 ⟨rfl, bx⟩
      simp only
      replace pa := pa.below bx
      replace pq := pq.below bx
      replace px := px.below bx
      replace py := py.below bx
      replace pp := pp.below bx
      replace pc := pc.below bx
      replace hor := hor.below bx
      replace hm := hm.below bx
      replace b' := below2 b' bx
      replace bw := below2 bw bx
      clear bx
      clear hacc hxc h9 h4 hm HRR
      cases tb
      · have lpa := pa.lt
        have pa_0 := pa.cell 0
        have pa_1 := pa.cell 1
        have pa_2 := pa.cell 2
        have pa_3 := pa.cell 3
        have lpq := pq.lt
        have pq_0 := pq.cell 0
        have pq_1 := pq.cell 1
        have pq_2 := pq.cell 2
        have pq_3 := pq.cell 3
        have pq_4 := pq.cell 4
        have pq_5 := pq.cell 5
        have pq_6 := pq.cell 6
        have pq_7 := pq.cell 7
        have lpx := px.lt
        have px_0 := px.cell 0
        have px_1 := px.cell 1
        have px_2 := px.cell 2
        have px_3 := px.cell 3
        have lpy := py.lt
        have py_0 := py.cell 0
        have py_1 := py.cell 1
        have py_2 := py.cell 2
        have py_3 := py.cell 3
        simp only [List.getElem?_cons_zero, List.getElem?_cons_succ] at pa_0 pa_1 pa_2 pa_3 pq_0 pq_1 pq_2 pq_3 pq_4 pq_5 pq_6 pq_7 px_0 px_1 px_2 px_3 py_0 py_1 py_2 py_3
        have bx := hal w3 (.cells #[.int .i64 x1, .int .i64 x2, .int .i64 x3, .int .i64 x4] 23)
        replace pa := pa.below bx
        replace pq := pq.below bx
        replace px := px.below bx
        replace py := py.below bx
        replace pp := pp.below bx
        replace pc := pc.below bx
        replace hor := hor.below bx
        replace b' := below2 b' bx
        replace bw := below2 bw bx
        clear bx
        have hcc := neqC (x1 + 1) (100 + (j : Int)) p5 sn (x1 + 1) (100 + (j : Int)) p5 sn
        have hb1 : (x1 + 1 != x1 + 1) = false := by simp
        have hev : x3 = p5 := by have := HEV.out; simp [bitI] at this; exact this
        have hwr2 : IntKind.i64.wrap (x3 + 1) = x3 + 1 := by rw [IntKind.wrap_i64]; omega
        clear HEV
        subst hev
        have hb2 : (x3 == x3 + 1) = false := by simp; omega
        go_upto_region 19 with (fail)
        clear lpa lpq lpx lpy pa_0 pa_1 pa_2 pa_3 pq_0 pq_1 pq_2 pq_3 pq_4 pq_5 pq_6 pq_7 px_0 px_1 px_2 px_3 py_0 py_1 py_2 py_3
        generalize (w3.alloc (.cells #[.int .i64 x1, .int .i64 x2, .int .i64 x3, .int .i64 x4] 23)) = wf at *
        have pa_0 := pa.cell 0
        have pa_1 := pa.cell 1
        have pa_2 := pa.cell 2
        have pa_3 := pa.cell 3
        have px_0 := px.cell 0
        have px_1 := px.cell 1
        have px_2 := px.cell 2
        have px_3 := px.cell 3
        simp only [List.getElem?_cons_zero, List.getElem?_cons_succ] at pa_0 pa_1 pa_2 pa_3 px_0 px_1 px_2 px_3
        have yt := (b'.cell lt).trans y0
        go_quiet (fail)
        replace pa := pa.drewN nq
        replace px := px.drewN nq
        replace pp := pp.drewN nq
        replace pc := pc.drewN nq
        replace bw := bdrN bw nq
        clear yt pa_0 pa_1 pa_2 pa_3 px_0 px_1 px_2 px_3
        generalize wf.drewN nq = wh at *
        have w0_ := px.cell 0
        have w1_ := px.cell 1
        have w2_ := px.cell 2
        have w3_ := px.cell 3
        have z0 := pa.cell 0
        have z1 := pa.cell 1
        have z2 := pa.cell 2
        have z3 := pa.cell 3
        have f0 := pa.frozen 0
        have f1 := pa.frozen 1
        have f2 := pa.frozen 2
        have f3 := pa.frozen 3
        have paS := ((((pa.set_ 0 (.int .i64 (x1 + 1))).set_ 1 (.int .i64 (100 + (j : Int)))).set_ 2 (.int .i64 x3)).set_ 3 (.int .i64 sn))
        simp only [List.getElem?_cons_zero, List.getElem?_cons_succ, List.set_cons_zero, List.set_cons_succ] at w0_ w1_ w2_ w3_ z0 z1 z2 z3 paS
        have gs := sets4 wh ga (.int .i64 (x1 + 1)) (.int .i64 (100 + (j : Int))) (.int .i64 x3) (.int .i64 sn)
        have bwS := bw.trans (below_grown bw.size (far13 (by omega)) gs)
        have ppS := pp.grown gs (by intro e; injection e with e; omega)
        have pcS := pc.grown gs (by intro e; injection e with e; omega)
        have HI2 : Hid (LnkI v0 sn (j + 1) ⟨x1 + 1, 100 + (j : Int), x3, sn⟩) := hid ⟨by have := HI.out.v; dsimp only at this ⊢; omega, by show 0 ≤ x1 + 1; omega, by show x1 + 1 ≤ _; omega, by show _ ≤ x3; omega, Int.le_refl _⟩
        clear pa px pq py pp pc bw gs b'
        go_wp2
        go_roundw
        case rel => exact ⟨j + 1, ⟨x1 + 1, 100 + (j : Int), x3, sn⟩, HJ.out, by go_num, HI2, paS, ppS, pcS, bwS⟩
        case measure => have := HJ.out; simp [intOf]; omega
      · have lpa := pa.lt
        have pa_0 := pa.cell 0
        have pa_1 := pa.cell 1
        have pa_2 := pa.cell 2
        have pa_3 := pa.cell 3
        have lpq := pq.lt
        have pq_0 := pq.cell 0
        have pq_1 := pq.cell 1
        have pq_2 := pq.cell 2
        have pq_3 := pq.cell 3
        have pq_4 := pq.cell 4
        have pq_5 := pq.cell 5
        have pq_6 := pq.cell 6
        have pq_7 := pq.cell 7
        have lpx := px.lt
        have px_0 := px.cell 0
        have px_1 := px.cell 1
        have px_2 := px.cell 2
        have px_3 := px.cell 3
        have lpy := py.lt
        have py_0 := py.cell 0
        have py_1 := py.cell 1
        have py_2 := py.cell 2
        have py_3 := py.cell 3
        simp only [List.getElem?_cons_zero, List.getElem?_cons_succ] at pa_0 pa_1 pa_2 pa_3 pq_0 pq_1 pq_2 pq_3 pq_4 pq_5 pq_6 pq_7 px_0 px_1 px_2 px_3 py_0 py_1 py_2 py_3
        have bx := hal w3 (.cells #[.int .i64 x1, .int .i64 x2, .int .i64 x3, .int .i64 x4] 23)
        replace pa := pa.below bx
        replace pq := pq.below bx
        replace px := px.below bx
        replace py := py.below bx
        replace pp := pp.below bx
        replace pc := pc.below bx
        replace hor := hor.below bx
        replace b' := below2 b' bx
        replace bw := below2 bw bx
        clear bx
        have hcc := neqC (x1 + 1) (100 + (j : Int)) p5 sn (x1 + 1) (100 + (j : Int)) p5 sn
        have hb1 : (x1 + 1 != x1 + 1) = false := by simp
        have hev : x3 + 1 = p5 := HEV.out
        have hwr2 : IntKind.i64.wrap (x3 + 1) = x3 + 1 := by rw [IntKind.wrap_i64]; omega
        clear HEV
        subst hev
        have hb2 : (x3 + 1 == x3 + 1) = true := by simp
        go_upto_region 19 with (fail)
        clear lpa lpq lpx lpy pa_0 pa_1 pa_2 pa_3 pq_0 pq_1 pq_2 pq_3 pq_4 pq_5 pq_6 pq_7 px_0 px_1 px_2 px_3 py_0 py_1 py_2 py_3
        generalize (w3.alloc (.cells #[.int .i64 x1, .int .i64 x2, .int .i64 x3, .int .i64 x4] 23)) = wf at *
        have pa_0 := pa.cell 0
        have pa_1 := pa.cell 1
        have pa_2 := pa.cell 2
        have pa_3 := pa.cell 3
        have px_0 := px.cell 0
        have px_1 := px.cell 1
        have px_2 := px.cell 2
        have px_3 := px.cell 3
        simp only [List.getElem?_cons_zero, List.getElem?_cons_succ] at pa_0 pa_1 pa_2 pa_3 px_0 px_1 px_2 px_3
        have yt := (b'.cell lt).trans y0
        go_quiet (fail)
        replace pa := pa.drewN nq
        replace px := px.drewN nq
        replace pp := pp.drewN nq
        replace pc := pc.drewN nq
        replace bw := bdrN bw nq
        clear yt pa_0 pa_1 pa_2 pa_3 px_0 px_1 px_2 px_3
        generalize wf.drewN nq = wh at *
        have w0_ := px.cell 0
        have w1_ := px.cell 1
        have w2_ := px.cell 2
        have w3_ := px.cell 3
        have z0 := pa.cell 0
        have z1 := pa.cell 1
        have z2 := pa.cell 2
        have z3 := pa.cell 3
        have f0 := pa.frozen 0
        have f1 := pa.frozen 1
        have f2 := pa.frozen 2
        have f3 := pa.frozen 3
        have paS := ((((pa.set_ 0 (.int .i64 (x1 + 1))).set_ 1 (.int .i64 (100 + (j : Int)))).set_ 2 (.int .i64 (x3 + 1))).set_ 3 (.int .i64 sn))
        simp only [List.getElem?_cons_zero, List.getElem?_cons_succ, List.set_cons_zero, List.set_cons_succ] at w0_ w1_ w2_ w3_ z0 z1 z2 z3 paS
        have gs := sets4 wh ga (.int .i64 (x1 + 1)) (.int .i64 (100 + (j : Int))) (.int .i64 (x3 + 1)) (.int .i64 sn)
        have bwS := bw.trans (below_grown bw.size (far13 (by omega)) gs)
        have ppS := pp.grown gs (by intro e; injection e with e; omega)
        have pcS := pc.grown gs (by intro e; injection e with e; omega)
        have HI2 : Hid (LnkI v0 sn (j + 1) ⟨x1 + 1, 100 + (j : Int), (x3 + 1), sn⟩) := hid ⟨by have := HI.out.v; dsimp only at this ⊢; omega, by show 0 ≤ x1 + 1; omega, by show x1 + 1 ≤ _; omega, by show _ ≤ (x3 + 1); omega, Int.le_refl _⟩
        clear pa px pq py pp pc bw gs b'
        go_wp2
        go_roundw
        case rel => exact ⟨j + 1, ⟨x1 + 1, 100 + (j : Int), (x3 + 1), sn⟩, HJ.out, by go_num, HI2, paS, ppS, pcS, bwS⟩
        case measure => have := HJ.out; simp [intOf]; omega
    · have hjn2 : j = N := by omega
      have hnl : ¬ (j : Int) < N := by omega
      have h1 := HI.out.v
      have h2 := HI.out.lo
      have h3 := HI.out.hi
      dsimp only at h1 h2 h3
      subst hjn2
      subst h1
      have q0 := pa.cell 0
      have q1 := pc.cell 0
      simp only [List.getElem?_cons_zero] at q0 q1
      have hbb : (v0 + (j : Int) == v0 + (j : Int)) = true := by simp
      clear pa pp pc
      go_wp2
      go_ret
      exact ⟨rfl, bw⟩
end Go.Proofs.YteimgnmjmpeobaaDoor
