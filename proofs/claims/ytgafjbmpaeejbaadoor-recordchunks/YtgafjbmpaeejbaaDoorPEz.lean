/- The text Ez. -/
import Derived.Test.YtgafjbmpaeejbaaDoorPEx
namespace Go.Proofs.YtgafjbmpaeejbaaDoor
open Go.RowKit

def cntPs (ps : List Pce) : Nat := (ps.map fun p => cnt p.size.toNat).sum
theorem cntPs_more (ps : List Pce) (j : Nat) (h : j < ps.length) : cntPs (ps.take (j + 1)) = cntPs (ps.take j) + cnt ps[j].size.toNat := by
  unfold cntPs
  rw [List.take_add_one, List.getElem?_eq_getElem h, List.map_append, List.sum_append]
  simp
theorem cntPs_le : ∀ (ps : List Pce), (∀ p ∈ ps, RightPc p) → cntPs ps ≤ 10 * ps.length
  | [], _ => by simp [cntPs]
  | p :: ps, h => by
    have h1 := (h p List.mem_cons_self).s1
    have h2 := cntPs_le ps fun q hq => h q (List.mem_cons_of_mem _ hq)
    have : cnt p.size.toNat ≤ 10 := by unfold cnt; omega
    unfold cntPs at h2 ⊢
    rw [List.map_cons, List.sum_cons, List.length_cons]
    omega
theorem ck_set : ∀ (xs : List Pw) (j : Nat) (h : j < xs.length) (cs : List Int) (C : Option Addr) (n c : Nat), cs.length = n → (pwV xs).set (j * 7 + 3) (.slice C n c) = pwV (xs.set j ⟨{ xs[j].p with chunks := cs }, C, c⟩)
  | x :: xs, 0, _, cs, C, n, c, e => by subst e; rfl
  | x :: xs, j + 1, h, cs, C, n, c, e => by
    have ih := ck_set xs j (by simpa using h) cs C n c e
    rw [List.set_cons_succ, pwV_cons, pwV_cons, show (j + 1) * 7 + 3 = (j * 7 + 3) + 1 + 1 + 1 + 1 + 1 + 1 + 1 by omega]
    simp only [pcV, List.cons_append, List.nil_append, List.set_cons_succ, List.getElem_cons_succ, ih]
theorem apart_at {xs : List Pw} (h : Apart xs) {i j : Nat} (hi : i < xs.length) (hj : j < xs.length) (hne : i ≠ j) : ∀ b, ckB xs[i] = some b → ckB xs[j] ≠ some b := by
  rcases Nat.lt_or_ge i j with h1 | h1
  · exact List.pairwise_iff_getElem.1 h i j hi hj h1
  · intro b hb hc
    exact List.pairwise_iff_getElem.1 h j i hj hi (by omega) b hc hb
theorem pces_set (xs : List Pw) (j : Nat) (h : j < xs.length) (cs : List Int) (C : Option Addr) (c : Nat) : pcesOf (xs.set j ⟨{ xs[j].p with chunks := cs }, C, c⟩) = (pcesOf xs).set j { xs[j].p with chunks := cs } := by
  simp [pcesOf, List.map_set]
/-- A manifest one of whose pieces has other chunks. -/
theorem mt_set {w : World} {g : Nat} {xs : List Pw} {ps : List Pce} (hx : pcesOf xs = ps) {j : Nat} (hj : j < ps.length) (hjx : j < xs.length) {cs : List Int} {C : Option Addr} {c : Nat} (hB : Blk w g (pwV (xs.set j ⟨{ xs[j].p with chunks := cs }, C, c⟩)) 35)
    (h1 : CkAt w ⟨{ xs[j].p with chunks := cs }, C, c⟩) (h2 : ∀ i (hi : i < xs.length), i ≠ j → CkAt w xs[i]) (hn : ps.length ≤ 1000) (a1 a2 a3 a4 a5 a6 a7 : Int) : Mt w (some ⟨g, 0, none⟩) ps.length ⟨a1, a2, a3, a4, a5, a6, a7, ps.set j { ps[j] with chunks := cs }⟩ := by
  subst hx
  have e : (pcesOf xs)[j] = xs[j].p := by simp [pcesOf]
  refine ⟨?_, by simp, by unfold maxLen; omega⟩
  dsimp only
  rw [e, ← pces_set xs j hjx cs C c]
  refine pcs_of (Blk.rd hB) fun x hx => ?_
  obtain ⟨i, hi, rfl⟩ := List.mem_iff_getElem.1 hx
  rw [List.length_set] at hi
  by_cases hij : i = j
  · subst hij; rw [List.getElem_set_self]; exact h1
  · rw [List.getElem_set_ne (Ne.symm hij)]; exact h2 i hi hij
theorem rd_short {w : World} {A : Option Addr} {l : List Int} (h : Rd w A (intV l)) (q : Nat) : Rd w A (intV (l.take q)) := by
  rcases h with h | ⟨ad, rfl, hc⟩
  · have : l = [] := by
      cases l with
      | nil => rfl
      | cons a l => simp [intV] at h
    subst this
    exact .inl (by simp [intV])
  · refine .inr ⟨ad, rfl, fun j u hu => hc j u ?_⟩
    rw [intV, List.map_take, ← intV, List.getElem?_take] at hu
    split at hu
    · exact hu
    · cases hu
/-- Copy answered, at one of its pieces. -/
theorem copy_at {w : World} {g : Nat} {xs : List Pw} (hB : Blk w g (pwV xs) 35) {k : Nat} (hk : k < xs.length) : w.cell? ⟨g, k * 7 + 3, none⟩ = some (.slice xs[k].C xs[k].p.chunks.length xs[k].c) := by
  rw [hB.cell, pwV_at xs k hk 3 (by omega)]
  rfl
set_option maxHeartbeats 8000000 in
set_option maxRecDepth 20000 in
theorem recordChunks_walk (A : Option Addr) (c : Nat) (m : Man) (at' : Int) (name : Int) (w : World) (hm : Mt w A c m) (_ : (Lit.int .i64 at').wf = true) (_ : (Lit.int .i64 name).wf = true) :
    Calls Tryd.prog 9 #[manV m A c, .int .i64 at', .int .i64 name] w fun e w' => e = .returned (.bool true) ∧ Below w.heap.size w w' := by
  have hal : ∀ (W : World) (o : Obj), Below W.heap.size W (W.alloc o) := fun W o => (Below.refl _ _).alloc (Nat.le_refl _) o
  obtain ⟨a1, a2, a3, a4, a5, a6, a7, ps⟩ := m
  unfold manV
  dsimp only
  go_enter Tryd.func9, Tryd.ntmps9
  have hm0 := hm
  have bx := hal w (.cells #[.int .i64 a1, .int .i64 a2, .int .i64 a3, .int .i64 a4, .int .i64 a5, .int .i64 a6, .int .i64 a7, .slice A ps.length c] 24)
  have pm := Blk.new w [.int .i64 a1, .int .i64 a2, .int .i64 a3, .int .i64 a4, .int .i64 a5, .int .i64 a6, .int .i64 a7, .slice A ps.length c] 24
  replace hm := hm.below bx
  have cc := small12_any (w.alloc (.cells #[.int .i64 a1, .int .i64 a2, .int .i64 a3, .int .i64 a4, .int .i64 a5, .int .i64 a6, .int .i64 a7, .slice A ps.length c] 24))
  go_wp2_with fail
  refine cc.mono ?_
  clear cc
  have b1 := bx
  clear bx
  generalize w.alloc (.cells #[.int .i64 a1, .int .i64 a2, .int .i64 a3, .int .i64 a4, .int .i64 a5, .int .i64 a6, .int .i64 a7, .slice A ps.length c] 24) = w1 at *
  rintro e w2 ⟨rfl, bx⟩
  simp only
  replace hm := hm.below bx
  replace pm := pm.below bx
  have b2 := below2 b1 bx
  clear bx b1
  have q0 := pm.cell 0
  have q1 := pm.cell 1
  have q2 := pm.cell 2
  have q3 := pm.cell 3
  have q4 := pm.cell 4
  have q5 := pm.cell 5
  have q6 := pm.cell 6
  have q7 := pm.cell 7
  simp only [List.getElem?_cons_zero, List.getElem?_cons_succ] at q0 q1 q2 q3 q4 q5 q6 q7
  have cc := fewM_any hm
  go_wp2_with fail
  refine cc.mono ?_
  clear cc q0 q1 q2 q3 q4 q5 q6 q7
  rintro e w3 ⟨rfl, bx⟩
  simp only
  replace hm := hm.below bx
  replace pm := pm.below bx
  have b3 := below2 b2 bx
  clear bx b2
  cases hq : fewM (⟨a1, a2, a3, a4, a5, a6, a7, ps⟩ : Man)
  · clear hq
    go_wp2
    go_ret
    exact ⟨rfl, b3⟩
  have hqr := few_paths hq
  have hqc := few_copy hq
  have hqp := few_pcs hq
  have HK := hid (fun p hp => ((fewM_sz hq).2 p hp).2)
  clear hq
  have q0 := pm.cell 0
  have q1 := pm.cell 1
  have q2 := pm.cell 2
  have q3 := pm.cell 3
  have q4 := pm.cell 4
  have q5 := pm.cell 5
  have q6 := pm.cell 6
  have q7 := pm.cell 7
  simp only [List.getElem?_cons_zero, List.getElem?_cons_succ] at q0 q1 q2 q3 q4 q5 q6 q7
  have cc := right12_any hm hqr
  go_wp2_with fail
  refine cc.mono ?_
  clear cc q0 q1 q2 q3 q4 q5 q6 q7
  rintro e w4 ⟨rfl, bx⟩
  simp only
  replace hm := hm.below bx
  replace pm := pm.below bx
  have b4 := below2 b3 bx
  clear bx b3
  cases hR : manR (⟨a1, a2, a3, a4, a5, a6, a7, ps⟩ : Man)
  · clear hR
    go_wp2
    go_ret
    exact ⟨rfl, b4⟩
  have HR := hid ((manR_iff _).1 hR)
  have HRT := hid hR
  clear hR
  have HCL : Hid (∀ j, cntPs (ps.take j) ≤ 10000) := hid fun j => by
    have h1 := cntPs_le (ps.take j) fun p hp => HR.out.all p (List.mem_of_mem_take hp)
    rw [List.length_take] at h1
    have h2 : ps.length ≤ 1000 := hqp
    omega
  have lgm := pm.lt
  have k7 := pm.cell 7
  simp only [List.getElem?_cons_zero, List.getElem?_cons_succ] at k7
  have hpp := hm.ps
  go_wp2_with fail
  go_loop [9, 10] (fun z i => ∃ j : Nat, j ≤ ps.length ∧ i = .int .i64 j ∧ z = .int .i64 (cntPs (ps.take j) : Nat)) (fun _ i => ps.length - (intOf i).toNat)
  case atStart => exact ⟨0, by omega, rfl, rfl⟩
  case round =>
    obtain ⟨j, hj, rfl, rfl⟩ := hrel
    by_cases hjn : j < ps.length
    · have hz : (0 : Int) ≤ j := by omega
      have hlt : (j : Int) < ps.length := by omega
      obtain ⟨b, og, C, cc, rfl, -, -, x2, -, -, -, -, -, -, -, -⟩ := hpp.pc hjn
      have HM := hid (cntPs_more ps j hjn)
      have hl0 := HCL.out j
      have hrp := HR.out.all _ (List.getElem_mem hjn)
      have cC := ccnt_is ps[j].size w4 hrp.s0 (by have h1 : ps[j].size ≤ 600 := hrp.s1; omega)
      have hcn : cnt ps[j].size.toNat ≤ 10 := by have h1 : ps[j].size ≤ 600 := hrp.s1; unfold cnt; omega
      clear hrp
      have HJ := hid hjn
      generalize cntPs (ps.take j) = l0 at *
      generalize cnt ps[j].size.toNat = l2 at *
      generalize ps[j].size = xs at *
      go_wp2_with fail
      refine cC.mono ?_
      rintro e wu ⟨rfl, rfl⟩
      simp only
      go_wp2
      go_round
      case rel => exact ⟨j + 1, HJ.out, by go_num, by rw [HM.out]; go_num⟩
      case measure => have := HJ.out; simp [intOf]; omega
    · have hnl : ¬ (j : Int) < ps.length := by omega
      have HLP : Hid (cntPs (ps.take j) = (chunksM (⟨a1, a2, a3, a4, a5, a6, a7, ps⟩ : Man)).length) := by
        show _ = _
        rw [List.take_of_length_le (by omega)]
        exact (chunks_len ps HR.out.all).symm
      rw [HLP.out]
      have q0 := pm.cell 0
      have q1 := pm.cell 1
      have q2 := pm.cell 2
      have q3 := pm.cell 3
      have q4 := pm.cell 4
      have q5 := pm.cell 5
      have q6 := pm.cell 6
      have q7 := pm.cell 7
      simp only [List.getElem?_cons_zero, List.getElem?_cons_succ] at q0 q1 q2 q3 q4 q5 q6 q7
      have cc := chunks12_any hm hqp (fun p hp => by have := HK.out p hp; omega)
      clear k7
      go_wp2_with fail
      refine cc.mono ?_
      clear cc q0 q1 q2 q3 q4 q5 q6 q7
      rintro e w5 ⟨B0, d0, rfl, -, bx⟩
      simp only
      replace hm := hm.below bx
      replace pm := pm.below bx
      have b5 := below2 b4 bx
      clear bx b4
      generalize (chunksM (⟨a1, a2, a3, a4, a5, a6, a7, ps⟩ : Man)).length = ln at *
      have k7 := pm.cell 7
      simp only [List.getElem?_cons_zero, List.getElem?_cons_succ] at k7
      by_cases ha0 : at' < 0
      · go_wp2
        go_ret
        exact ⟨rfl, b5⟩
      by_cases ha1 : (ps.length : Int) ≤ at'
      · go_wp2
        go_ret
        exact ⟨rfl, b5⟩
      clear k7
      obtain ⟨k, rfl⟩ : ∃ k : Nat, at' = k := ⟨at'.toNat, by omega⟩
      have hkp : k < ps.length := by omega
      have hkz : (0 : Int) ≤ k := by omega
      have hkl : (k : Int) < ps.length := by omega
      have hbs := hid b5.size
      have q0 := pm.cell 0
      have q1 := pm.cell 1
      have q2 := pm.cell 2
      have q3 := pm.cell 3
      have q4 := pm.cell 4
      have q5 := pm.cell 5
      have q6 := pm.cell 6
      have q7 := pm.cell 7
      simp only [List.getElem?_cons_zero, List.getElem?_cons_succ] at q0 q1 q2 q3 q4 q5 q6 q7
      have cc := copy12_any hm hqp hqc
      go_wp2_with fail
      refine cc.mono ?_
      clear cc q0 q1 q2 q3 q4 q5 q6 q7
      rintro e w6 ⟨g, xs, rfl, hxs, kc, oc, ap, hgb, bx⟩
      have hs5 := hid bx.size
      simp only
      replace hm := hm.below bx
      replace pm := pm.below bx
      have b6 := below2 b5 bx
      clear bx b5
      have hbg : Hid (w.heap.size ≤ g) := by show _ ≤ _; have := hbs.out; omega
      dsimp only at hxs
      rw [show manV (⟨a1, a2, a3, a4, a5, a6, a7, ps⟩ : Man) (some ⟨g, 0, none⟩) ((⟨a1, a2, a3, a4, a5, a6, a7, ps⟩ : Man)).pieces.length = .agg #[.int .i64 a1, .int .i64 a2, .int .i64 a3, .int .i64 a4, .int .i64 a5, .int .i64 a6, .int .i64 a7, .slice (some ⟨g, 0, none⟩) ps.length ps.length] from rfl]
      have bx := hal w6 (.cells #[.int .i64 a1, .int .i64 a2, .int .i64 a3, .int .i64 a4, .int .i64 a5, .int .i64 a6, .int .i64 a7, .slice (some ⟨g, 0, none⟩) ps.length ps.length] 24)
      have pc := Blk.new w6 [.int .i64 a1, .int .i64 a2, .int .i64 a3, .int .i64 a4, .int .i64 a5, .int .i64 a6, .int .i64 a7, .slice (some ⟨g, 0, none⟩) ps.length ps.length] 24
      replace hm := hm.below bx
      replace pm := pm.below bx
      replace kc := kc.below bx
      have oc := hid fun x hx => own_below1 (oc.out x hx) bx
      have hxl : xs.length = ps.length := by rw [← hxs, pcesOf_length]
      have hkx : k < xs.length := by omega
      have HXL := hid hxl
      clear hxl
      have HPE : Hid (xs[k].p = ps[k]) := by show _ = _; simp only [← hxs]; simp [pcesOf]
      go_upto_region 15 with (fail)
      have hs6 := hid bx.size
      have b7 := below2 b6 bx
      clear bx b6
      generalize hgz : w6.heap.size = zc at *
      generalize w6.alloc (.cells #[.int .i64 a1, .int .i64 a2, .int .i64 a3, .int .i64 a4, .int .i64 a5, .int .i64 a6, .int .i64 a7, .slice (some ⟨g, 0, none⟩) ps.length ps.length] 24) = w7 at *
      clear hgz
      have p7 : w7.drew.cell? ⟨zc, 7, none⟩ = some (.slice (some ⟨g, 0, none⟩) ps.length ps.length) := by have := pc.cell 7; simpa using this
      have c3 : w7.drew.cell? ⟨g, k * 7 + 3, none⟩ = some (.slice xs[k].C xs[k].p.chunks.length xs[k].c) := copy_at kc hkx
      have ox := oc.out _ (List.getElem_mem hkx)
      have hcl : xs[k].p.chunks.length ≤ 30 := by rw [HPE.out]; exact HK.out _ (List.getElem_mem hkp)
      have ox : w7.ownsRow _ 3 1 (.slice xs[k].C xs[k].p.chunks.length xs[k].c) xs[k].p.chunks.length (intV xs[k].p.chunks) := ox
      have lzc := pc.lt
      have lgc := kc.lt
      obtain ⟨XC, hXC⟩ : ∃ X, xs[k].C = X := ⟨_, rfl⟩
      obtain ⟨Xc, hXc⟩ : ∃ X, xs[k].c = X := ⟨_, rfl⟩
      obtain ⟨XL, hXL⟩ : ∃ X, xs[k].p.chunks = X := ⟨_, rfl⟩
      have HXB : Hid (ckB xs[k] = (Value.slice XC XL.length Xc).ownBlock) := by show _ = _; unfold ckB; rw [hXC, hXL, hXc]
      rw [hXC, hXc, hXL] at c3 ox
      rw [hXL] at hcl
      have HXC := hid hXC
      have HXc := hid hXc
      have HXLL := hid hXL
      clear hXC hXc hXL
      have bd : Below w7.heap.size w7 w7.drew := (Below.refl _ _).drew
      have hbase := hid (ox.lt)
      clear hbase
      refine wp_region_held_drew (S := fun W => W.cell? ⟨zc, 7, none⟩ = some (.slice (some ⟨g, 0, none⟩) ps.length ps.length)) (by kernel_rfl) p7 (fun hHeld => ?_)
      refine wpAnyH_take (i := 0) (oi := ⟨_, _, _, _, _, _⟩) (v := ?_) rfl (by kernel_rfl) (by kernel_rfl) (by kernel_rfl) (fun _ _ _ h => h) (Or.inl ⟨by rfl, ?_⟩) (by assumption) ?_
      rotate_left
      · intro w hSw; (try dsimp only at hSw); go_simp; (try (with_reducible rfl))
      try simp only [Act.put, List.setIfInBounds_toArray, List.set_cons_zero, List.set_cons_succ]
      refine wpAnyH_take (i := 1) (oi := ⟨_, _, _, _, _, _⟩) (v := ?_) rfl (by kernel_rfl) (by kernel_rfl) (by kernel_rfl) (fun _ _ _ h => h) (Or.inl ⟨by rfl, ?_⟩) (by assumption) ?_
      rotate_left
      · intro w hSw; (try dsimp only at hSw); go_simp; (try (with_reducible rfl))
      try simp only [Act.put, List.setIfInBounds_toArray, List.set_cons_zero, List.set_cons_succ]
      refine wpAnyH_take (i := 2) (oi := ⟨_, _, _, _, _, _⟩) (v := ?_) rfl (by kernel_rfl) (by kernel_rfl) (by kernel_rfl) (fun _ _ _ h => h) (Or.inl ⟨by rfl, ?_⟩) (by assumption) ?_
      rotate_left
      · intro w hSw; (try dsimp only at hSw); go_simp; (try (with_reducible rfl))
      try simp only [Act.put, List.setIfInBounds_toArray, List.set_cons_zero, List.set_cons_succ]
      refine wpAnyH_take (i := 3) (oi := ⟨_, _, _, _, _, _⟩) (v := ?_) rfl (by kernel_rfl) (by kernel_rfl) (by kernel_rfl) (fun _ _ _ h => h) (Or.inl ⟨by rfl, ?_⟩) (by assumption) ?_
      rotate_left
      · intro w hSw; (try dsimp only at hSw); go_simp; (try (with_reducible rfl))
      try simp only [Act.put, List.setIfInBounds_toArray, List.set_cons_zero, List.set_cons_succ]
      refine wpAnyH_take (i := 4) (oi := ⟨_, _, _, _, _, _⟩) (v := ?_) rfl (by kernel_rfl) (by kernel_rfl) (by kernel_rfl) (fun _ _ _ h => h) (Or.inl ⟨by rfl, ?_⟩) (by assumption) ?_
      rotate_left
      · intro w hSw; (try dsimp only at hSw); go_simp; (try (with_reducible rfl))
      try simp only [Act.put, List.setIfInBounds_toArray, List.set_cons_zero, List.set_cons_succ]
      refine wpAnyH_take (i := 5) (oi := ⟨_, _, _, _, _, _⟩) (v := ?_) rfl (by kernel_rfl) (by kernel_rfl) (by kernel_rfl) (fun _ _ _ h => h) (Or.inl ⟨by rfl, ?_⟩) (by assumption) ?_
      rotate_left
      · intro w hSw; (try dsimp only at hSw); go_simp; (try (with_reducible rfl))
      try simp only [Act.put, List.setIfInBounds_toArray, List.set_cons_zero, List.set_cons_succ]
      refine wpAnyH_take (i := 6) (oi := ⟨_, _, _, _, _, _⟩) (v := ?_) rfl (by kernel_rfl) (by kernel_rfl) (by kernel_rfl) (fun _ _ _ h => h) (Or.inl ⟨by rfl, ?_⟩) (by assumption) ?_
      rotate_left
      · intro w hSw; (try dsimp only at hSw); go_simp; (try (with_reducible rfl))
      try simp only [Act.put, List.setIfInBounds_toArray, List.set_cons_zero, List.set_cons_succ]
      refine wpAnyH_take (i := 7) (oi := ⟨_, _, _, _, _, _⟩) (v := ?_) rfl (by kernel_rfl) (by kernel_rfl) (by kernel_rfl) (fun _ _ _ h => h) (Or.inl ⟨by rfl, ?_⟩) (by assumption) ?_
      rotate_left
      · intro w hSw; (try dsimp only at hSw); go_simp; (try (with_reducible rfl))
      try simp only [Act.put, List.setIfInBounds_toArray, List.set_cons_zero, List.set_cons_succ]
      refine wpAnyH_take (i := 9) (oi := ⟨_, _, _, _, _, _⟩) (v := ?_) rfl (by kernel_rfl) (by kernel_rfl) (by kernel_rfl) (fun _ _ _ h => h) (Or.inl ⟨by rfl, ?_⟩) (by assumption) ?_
      rotate_left
      · intro w hSw; (try dsimp only at hSw); go_simp; (try (with_reducible rfl))
      try simp only [Act.put, List.setIfInBounds_toArray, List.set_cons_zero, List.set_cons_succ]
      refine wpAnyH_ready (rs := [8, 10]) (by kernel_rfl) (by simp) ?_
      refine AllReadyH.cons (o := ⟨_, _, _, _, _, _⟩) rfl (fun K hK => ?_) (AllReadyH.cons (o := ⟨_, _, _, _, _, _⟩) rfl (fun K hK => ?_) (AllReadyH.nil))
      · go_simp
        refine hK.out _ _ p7 (fun hHeld => ?_)
        clear hK K
        try simp only [Act.put, List.setIfInBounds_toArray, List.set_cons_zero, List.set_cons_succ]
        refine wpAnyH_ready (rs := [10]) (by kernel_rfl) (by simp) ?_
        refine AllReadyH.cons (o := ⟨_, _, _, _, _, _⟩) rfl (fun K hK => ?_) (AllReadyH.nil)
        have b6 : Below w7.heap.size w7 (w7.drew.alloc (.cells #[.int .i64 name] 3)) := bd.alloc bd.size _
        have p76 : (w7.drew.alloc (.cells #[.int .i64 name] 3)).cell? ⟨zc, 7, none⟩ = some (.slice (some ⟨g, 0, none⟩) ps.length ps.length) := (b6.cell (p := ⟨zc, 7, none⟩) lzc).trans p7
        have c36 : (w7.drew.alloc (.cells #[.int .i64 name] 3)).cell? ⟨g, k * 7 + 3, none⟩ = some (.slice XC XL.length Xc) := (b6.cell (p := ⟨g, k * 7 + 3, none⟩) lgc).trans c3
        have c36' : (w7.alloc (.cells #[.int .i64 name] 3)).cell? ⟨g, k * 7 + 3, none⟩ = some (.slice XC XL.length Xc) := c36
        have oy6 := own_below1 ox b6
        have kc6 := kc.below b6
        have pc6 := pc.below b6
        have pm6 := pm.below b6
        have hm6 := hm.below b6
        have oc6 := hid fun x hx => own_below1 (oc.out x hx) b6
        have hy6 : (w7.drew.alloc (.cells #[.int .i64 name] 3)).cell? ⟨w7.heap.size, 0, none⟩ = some (.int .i64 name) := (Blk.new w7.drew [.int .i64 name] 3).cell 0
        obtain ⟨C7, cc7, w7, HRUN, oy7, g7⟩ := run_appI oy6 ⟨w7.heap.size, 0, none⟩ 1 name hy6 (by omega) (Nat.le_trans (by have := hs5.out; have := hs6.out; omega) b6.size)
        go_simp
        refine hK.out _ _ p76 (fun hHeld => ?_)
        clear hK K
        try simp only [Act.put, List.setIfInBounds_toArray, List.set_cons_zero, List.set_cons_succ]
        refine wpAnyH_ready (rs := [11]) (by kernel_rfl) (by simp) ?_
        refine AllReadyH.cons (o := ⟨_, _, _, _, _, _⟩) rfl (fun K hK => ?_) AllReadyH.nil
        have kc7 := blk_row kc6 oy6 g7 (by decide)
        have pc7 := blk_row pc6 oy6 g7 (by decide)
        have pm7 := blk_row pm6 oy6 g7 (by decide)
        have rl := row_lt oy6
        have f7 := kc7.frozen (k * 7 + 3)
        have c37 := copy_at kc7 hkx
        have c37 : w7.cell? ⟨g, k * 7 + 3, none⟩ = some (.slice xs[k].C xs[k].p.chunks.length xs[k].c) := c37
        have gs : w7.grownBy (w7.setCell ⟨g, k * 7 + 3, none⟩ (.slice C7 (XL.length + 1) cc7)) (some g) := grown_set _ _
        have hgz : zc ≠ g := by rintro rfl; have h1 := kc7.cell 0; rw [pc7.cell 0] at h1; have h2 := pwV_at xs 0 (by omega) 0 (by omega); rw [Nat.zero_mul] at h2; rw [h2] at h1; simp [pcV] at h1
        have pc8 := pc7.other hgz (k * 7 + 3) (.slice C7 (XL.length + 1) cc7)
        have p78 : (w7.setCell ⟨g, k * 7 + 3, none⟩ (.slice C7 (XL.length + 1) cc7)).cell? ⟨zc, 7, none⟩ = some (.slice (some ⟨g, 0, none⟩) ps.length ps.length) := by have := pc8.cell 7; simpa using this
        refine stepApp2 (by rfl) (.tmp 66) (.tmp 68) 30 rfl _ _ _ rfl rfl (HRUN.out _) ?_
        refine hK.out _ _ (show w7.cell? ⟨zc, 7, none⟩ = _ from by have := pc7.cell 7; simpa using this) (fun hHeld => ?_)
        clear hK K
        try simp only [Act.put, List.setIfInBounds_toArray, List.set_cons_zero, List.set_cons_succ]
        refine wpAnyH_take (i := 12) (oi := ⟨_, _, _, _, _, _⟩) (v := ?_) rfl (by kernel_rfl) (by kernel_rfl) (by kernel_rfl) (fun _ _ _ h => h) (Or.inl ⟨by rfl, ?_⟩) (by assumption) ?_
        rotate_left
        · intro w hSw; (try dsimp only at hSw); go_simp; (try (with_reducible rfl))
        try simp only [Act.put, List.setIfInBounds_toArray, List.set_cons_zero, List.set_cons_succ]
        refine wpAnyH_take (i := 13) (oi := ⟨_, _, _, _, _, _⟩) (v := ?_) rfl (by kernel_rfl) (by kernel_rfl) (by kernel_rfl) (fun _ _ _ h => h) (Or.inl ⟨by rfl, ?_⟩) (by assumption) ?_
        rotate_left
        · intro w hSw; (try dsimp only at hSw); go_simp; (try (with_reducible rfl))
        try simp only [Act.put, List.setIfInBounds_toArray, List.set_cons_zero, List.set_cons_succ]
        refine wpAnyH_ready (rs := [14]) (by kernel_rfl) (by simp) ?_
        refine AllReadyH.cons (o := ⟨_, _, _, _, _, _⟩) rfl (fun K hK => ?_) AllReadyH.nil
        go_simp
        refine hK.out _ _ p78 (fun hHeld => ?_)
        clear hK K
        try simp only [Act.put, List.setIfInBounds_toArray, List.set_cons_zero, List.set_cons_succ]
        refine wpAnyH_done (by kernel_rfl) ?_ _
        clear hHeld
        have hl7 : (XL ++ [name]).length = XL.length + 1 := by simp
        have hgm : w.heap.size ≠ g := by rintro e; have h1 := kc7.cell 0; rw [← e, pm7.cell 0] at h1; have h2 := pwV_at xs 0 (by omega) 0 (by omega); rw [Nat.zero_mul] at h2; rw [h2] at h1; simp [pcV] at h1
        have pm8 := pm7.other hgm (k * 7 + 3) (.slice C7 (XL.length + 1) cc7)
        have kc8 := kc7.set_ (k * 7 + 3) (.slice C7 (XL.length + 1) cc7)
        rw [ck_set xs k hkx (XL ++ [name]) C7 (XL.length + 1) cc7 hl7] at kc8
        have hck1 : CkAt (w7.setCell ⟨g, k * 7 + 3, none⟩ (.slice C7 (XL.length + 1) cc7)) ⟨{ xs[k].p with chunks := XL ++ [name] }, C7, cc7⟩ := by
          have h9 := row_turn oy7 gs kc7 (by decide)
          refine OwnC.ck (base := w5.heap.size) ?_
          unfold OwnC
          dsimp only
          rw [hl7]
          exact h9
        have hck2 : ∀ i (hi : i < xs.length), i ≠ k → CkAt (w7.setCell ⟨g, k * 7 + 3, none⟩ (.slice C7 (XL.length + 1) cc7)) xs[i] := fun i hi hik => by
          have h9 := oc6.out _ (List.getElem_mem hi)
          have h10 := h9.kept g7 (by
            cases hr : (Value.slice xs[i].C xs[i].p.chunks.length xs[i].c).ownBlock with
            | none => exact .inl rfl
            | some b9 => exact .inr fun e => apart_at ap.out hkx hi (Ne.symm hik) b9 (HXB.out.trans e.symm) hr)
          exact OwnC.ck (base := 0) (own_low1 (base' := 0) (row_turn h10 gs kc7 (by decide)) (Nat.zero_le _))
        have mt8 := mt_set hxs hkp hkx kc8 hck1 hck2 hqp a1 a2 a3 a4 a5 a6 a7
        have hno : manR (⟨a1, a2, a3, a4, a5, a6, a7, ps.set k { ps[k] with chunks := XL ++ [name] }⟩ : Man) = false := chunks_no HR.out hkp (cs := XL ++ [name]) (by rw [hl7]; dsimp only; rw [← HPE.out, HXLL.out]; omega)
        have bw8 : Below w.heap.size w (w7.setCell ⟨g, k * 7 + 3, none⟩ (.slice C7 (XL.length + 1) cc7)) := ((b7.trans (b6.mono b7.size)).trans (below_grown (by have := b7.size; have := b6.size; omega) (fun k9 hk9 => by have := rl k9 hk9; have := hbs.out; omega) g7)).trans (below_grown (by have := b7.size; have := b6.size; have := g7.size; omega) (far_row (by have := hbg.out; omega)) gs)
        have hm8 : Mt (w7.setCell ⟨g, k * 7 + 3, none⟩ (.slice C7 (XL.length + 1) cc7)) A c (⟨a1, a2, a3, a4, a5, a6, a7, ps⟩ : Man) := hm0.below bw8
        clear kc8 hck1 hck2 gs kc7 pc7 pm7 kc6 pc6 pm6 hm6 oc6 oy6 oy7 g7 c37 f7 p78 b6 p76 c36 c36' hy6 rl HRUN kc pc pm hm oc p7 c3 ox bd b7
        generalize (w7.setCell ⟨g, k * 7 + 3, none⟩ (.slice C7 (XL.length + 1) cc7)) = w8 at *
        have hqs : ∀ p ∈ ps.set k { ps[k] with chunks := XL ++ [name] }, p.path.size < 4294967281 := fun p hp => by
          rcases List.mem_or_eq_of_mem_set hp with h | h
          · exact hqr p h
          · rw [h]; exact hqr ps[k] (List.getElem_mem hkp)
        have hsl : (ps.set k { ps[k] with chunks := XL ++ [name] }).length = ps.length := by simp
        have cR := right12_any mt8 hqs
        rw [hno] at cR
        unfold manV at cR
        dsimp only at cR
        rw [hsl] at cR
        have q0 := pc8.cell 0
        have q1 := pc8.cell 1
        have q2 := pc8.cell 2
        have q3 := pc8.cell 3
        have q4 := pc8.cell 4
        have q5 := pc8.cell 5
        have q6 := pc8.cell 6
        have q7 := pc8.cell 7
        simp only [List.getElem?_cons_zero, List.getElem?_cons_succ] at q0 q1 q2 q3 q4 q5 q6 q7
        go_wp2_with fail
        refine cR.mono ?_
        clear cR mt8 pc8 hno hqs hsl q0 q1 q2 q3 q4 q5 q6 q7
        rintro e w21 ⟨rfl, bx⟩
        simp only
        replace hm8 := hm8.below bx
        replace pm8 := pm8.below bx
        have b21 := below2 bw8 bx
        clear bx bw8
        have hw9 := hid b21.size
        have q0 := pm8.cell 0
        have q1 := pm8.cell 1
        have q2 := pm8.cell 2
        have q3 := pm8.cell 3
        have q4 := pm8.cell 4
        have q5 := pm8.cell 5
        have q6 := pm8.cell 6
        have q7 := pm8.cell 7
        simp only [List.getElem?_cons_zero, List.getElem?_cons_succ] at q0 q1 q2 q3 q4 q5 q6 q7
        have cc := copy12_any hm8 hqp hqc
        go_wp2_with fail
        refine cc.mono ?_
        clear cc q0 q1 q2 q3 q4 q5 q6 q7
        rintro e w22 ⟨g2, ys, rfl, hys, kd, od, -, hg2, bx⟩
        simp only
        replace hm8 := hm8.below bx
        replace pm8 := pm8.below bx
        have b22 := below2 b21 bx
        clear bx b21
        dsimp only at hys
        rw [show manV (⟨a1, a2, a3, a4, a5, a6, a7, ps⟩ : Man) (some ⟨g2, 0, none⟩) ((⟨a1, a2, a3, a4, a5, a6, a7, ps⟩ : Man)).pieces.length = .agg #[.int .i64 a1, .int .i64 a2, .int .i64 a3, .int .i64 a4, .int .i64 a5, .int .i64 a6, .int .i64 a7, .slice (some ⟨g2, 0, none⟩) ps.length ps.length] from rfl]
        have bx := hal w22 (.cells #[.int .i64 a1, .int .i64 a2, .int .i64 a3, .int .i64 a4, .int .i64 a5, .int .i64 a6, .int .i64 a7, .slice (some ⟨g2, 0, none⟩) ps.length ps.length] 24)
        have pd := Blk.new w22 [.int .i64 a1, .int .i64 a2, .int .i64 a3, .int .i64 a4, .int .i64 a5, .int .i64 a6, .int .i64 a7, .slice (some ⟨g2, 0, none⟩) ps.length ps.length] 24
        replace hm8 := hm8.below bx
        replace pm8 := pm8.below bx
        replace kd := kd.below bx
        have od := hid fun x hx => own_below1 (od.out x hx) bx
        have hyl : ys.length = ps.length := by rw [← hys, pcesOf_length]
        have hky : k < ys.length := by omega
        have HYL := hid hyl
        clear hyl
        have HPY : Hid (ys[k].p = ps[k]) := by show _ = _; simp only [← hys]; simp [pcesOf]
        go_upto_region 19 with (fail)
        have b23 := below2 b22 bx
        clear bx b22
        generalize hgz9 : w22.heap.size = zd at *
        generalize w22.alloc (.cells #[.int .i64 a1, .int .i64 a2, .int .i64 a3, .int .i64 a4, .int .i64 a5, .int .i64 a6, .int .i64 a7, .slice (some ⟨g2, 0, none⟩) ps.length ps.length] 24) = w23 at *
        clear hgz9
        obtain ⟨YC, hYC⟩ : ∃ X, ys[k].C = X := ⟨_, rfl⟩
        obtain ⟨Yc, hYc⟩ : ∃ X, ys[k].c = X := ⟨_, rfl⟩
        obtain ⟨YL, hYL⟩ : ∃ X, ys[k].p.chunks = X := ⟨_, rfl⟩
        have c3 : w23.cell? ⟨g2, k * 7 + 3, none⟩ = some (.slice ys[k].C ys[k].p.chunks.length ys[k].c) := copy_at kd hky
        have oy : OwnC _ _ ys[k] := od.out _ (List.getElem_mem hky)
        have hYck := oy.ck
        obtain ⟨hYr, hYc1, hYc2⟩ := hYck
        rw [hYC, hYc, hYL] at c3
        rw [hYL] at hYr hYc1
        rw [hYC] at hYr
        rw [hYc] at hYc1 hYc2
        have HYLL := hid hYL
        have HYC := hid hYC
        clear hYC hYc hYL oy
        have hYn : Hid (YL.length = ps[k].chunks.length) := by show _ = _; rw [← HYLL.out, HPY.out]
        have p7 := pd.cell 7
        simp only [List.getElem?_cons_zero, List.getElem?_cons_succ] at p7
        by_cases hy0 : YL.length = 0
        rotate_left
        · obtain ⟨q, hq⟩ : ∃ q, YL.length = q + 1 := ⟨YL.length - 1, by omega⟩
          rw [hq] at c3 hYc1
          have HQ := hid hq
          clear hy0
          obtain ⟨yb, yo, rfl, -, -⟩ := int_at hYr (j := 0) (by rw [hq]; omega)
          clear hq
          have hqz : (0 : Int) ≤ q := by omega
          have hwq : IntKind.i64.wrap (q : Int) = (q : Int) := by rw [IntKind.wrap_i64]; unfold maxLen at hYc2; omega
          have hyc3 : q + 1 ≤ 9223372036854775807 := by unfold maxLen at hYc2; omega
          have hyc4 : (q : Int) ≤ Yc := by omega
          have hyc5 : ¬ Yc = 0 := by omega
          have p7d : w23.drew.cell? ⟨zd, 7, none⟩ = some (.slice (some ⟨g2, 0, none⟩) ps.length ps.length) := p7
          have c3d : w23.drew.cell? ⟨g2, k * 7 + 3, none⟩ = some (.slice (some ⟨yb, yo, none⟩) (q + 1) Yc) := c3
          have f3d : w23.drew.frozen? ⟨g2, k * 7 + 3, none⟩ = false := kd.frozen (k * 7 + 3)
          have hgz2 : zd ≠ g2 := by rintro rfl; have h1 := kd.cell 0; rw [pd.cell 0] at h1; have h2 := pwV_at ys 0 (by omega) 0 (by omega); rw [Nat.zero_mul] at h2; rw [h2] at h1; simp [pcV] at h1
          have hgm2 : w.heap.size ≠ g2 := by rintro e; have h1 := kd.cell 0; rw [← e, pm8.cell 0] at h1; have h2 := pwV_at ys 0 (by omega) 0 (by omega); rw [Nat.zero_mul] at h2; rw [h2] at h1; simp [pcV] at h1
          have odd : Hid (∀ x ∈ ys, OwnC w21.heap.size w23.drew x) := od
          have kdd : Blk w23.drew g2 (pwV ys) 35 := kd
          have pdd : Blk w23.drew zd [.int .i64 a1, .int .i64 a2, .int .i64 a3, .int .i64 a4, .int .i64 a5, .int .i64 a6, .int .i64 a7, .slice (some ⟨g2, 0, none⟩) ps.length ps.length] 24 := pd
          have pmd : Blk w23.drew w.heap.size [.int .i64 a1, .int .i64 a2, .int .i64 a3, .int .i64 a4, .int .i64 a5, .int .i64 a6, .int .i64 a7, .slice A ps.length c] 24 := pm8
          have W9k : Blk ((w23.setCell ⟨g2, k * 7 + 3, none⟩ (.slice (some ⟨yb, yo, none⟩) q Yc)).drew) g2 ((pwV ys).set (k * 7 + 3) (.slice (some ⟨yb, yo, none⟩) q Yc)) 35 := kdd.set_ (k * 7 + 3) (.slice (some ⟨yb, yo, none⟩) q Yc)
          have W9d : Blk ((w23.setCell ⟨g2, k * 7 + 3, none⟩ (.slice (some ⟨yb, yo, none⟩) q Yc)).drew) zd [.int .i64 a1, .int .i64 a2, .int .i64 a3, .int .i64 a4, .int .i64 a5, .int .i64 a6, .int .i64 a7, .slice (some ⟨g2, 0, none⟩) ps.length ps.length] 24 := pdd.other hgz2 (k * 7 + 3) (.slice (some ⟨yb, yo, none⟩) q Yc)
          have W9m : Blk ((w23.setCell ⟨g2, k * 7 + 3, none⟩ (.slice (some ⟨yb, yo, none⟩) q Yc)).drew) w.heap.size [.int .i64 a1, .int .i64 a2, .int .i64 a3, .int .i64 a4, .int .i64 a5, .int .i64 a6, .int .i64 a7, .slice A ps.length c] 24 := pmd.other hgm2 (k * 7 + 3) (.slice (some ⟨yb, yo, none⟩) q Yc)
          have p79 : ((w23.setCell ⟨g2, k * 7 + 3, none⟩ (.slice (some ⟨yb, yo, none⟩) q Yc)).drew).cell? ⟨zd, 7, none⟩ = some (.slice (some ⟨g2, 0, none⟩) ps.length ps.length) := by have := W9d.cell 7; simpa using this
          have gs : w23.drew.grownBy ((w23.setCell ⟨g2, k * 7 + 3, none⟩ (.slice (some ⟨yb, yo, none⟩) q Yc)).drew) (some g2) := grown_set _ _
          go_wp2_with fail
          refine wp_region_held_drew (S := fun W => W.cell? ⟨zd, 7, none⟩ = some (.slice (some ⟨g2, 0, none⟩) ps.length ps.length)) (by kernel_rfl) p7 (fun hHeld => ?_)
          refine wpAnyH_take (i := 0) (oi := ⟨_, _, _, _, _, _⟩) (v := ?_) rfl (by kernel_rfl) (by kernel_rfl) (by kernel_rfl) (fun _ _ _ h => h) (Or.inl ⟨by rfl, ?_⟩) (by assumption) ?_
          rotate_left
          · intro w hSw; (try dsimp only at hSw); go_simp; (try (with_reducible rfl))
          try simp only [Act.put, List.setIfInBounds_toArray, List.set_cons_zero, List.set_cons_succ]
          refine wpAnyH_take (i := 1) (oi := ⟨_, _, _, _, _, _⟩) (v := ?_) rfl (by kernel_rfl) (by kernel_rfl) (by kernel_rfl) (fun _ _ _ h => h) (Or.inl ⟨by rfl, ?_⟩) (by assumption) ?_
          rotate_left
          · intro w hSw; (try dsimp only at hSw); go_simp; (try (with_reducible rfl))
          try simp only [Act.put, List.setIfInBounds_toArray, List.set_cons_zero, List.set_cons_succ]
          refine wpAnyH_take (i := 2) (oi := ⟨_, _, _, _, _, _⟩) (v := ?_) rfl (by kernel_rfl) (by kernel_rfl) (by kernel_rfl) (fun _ _ _ h => h) (Or.inl ⟨by rfl, ?_⟩) (by assumption) ?_
          rotate_left
          · intro w hSw; (try dsimp only at hSw); go_simp; (try (with_reducible rfl))
          try simp only [Act.put, List.setIfInBounds_toArray, List.set_cons_zero, List.set_cons_succ]
          refine wpAnyH_take (i := 3) (oi := ⟨_, _, _, _, _, _⟩) (v := ?_) rfl (by kernel_rfl) (by kernel_rfl) (by kernel_rfl) (fun _ _ _ h => h) (Or.inl ⟨by rfl, ?_⟩) (by assumption) ?_
          rotate_left
          · intro w hSw; (try dsimp only at hSw); go_simp; (try (with_reducible rfl))
          try simp only [Act.put, List.setIfInBounds_toArray, List.set_cons_zero, List.set_cons_succ]
          refine wpAnyH_take (i := 4) (oi := ⟨_, _, _, _, _, _⟩) (v := ?_) rfl (by kernel_rfl) (by kernel_rfl) (by kernel_rfl) (fun _ _ _ h => h) (Or.inl ⟨by rfl, ?_⟩) (by assumption) ?_
          rotate_left
          · intro w hSw; (try dsimp only at hSw); go_simp; (try (with_reducible rfl))
          try simp only [Act.put, List.setIfInBounds_toArray, List.set_cons_zero, List.set_cons_succ]
          refine wpAnyH_take (i := 5) (oi := ⟨_, _, _, _, _, _⟩) (v := ?_) rfl (by kernel_rfl) (by kernel_rfl) (by kernel_rfl) (fun _ _ _ h => h) (Or.inl ⟨by rfl, ?_⟩) (by assumption) ?_
          rotate_left
          · intro w hSw; (try dsimp only at hSw); go_simp; (try (with_reducible rfl))
          try simp only [Act.put, List.setIfInBounds_toArray, List.set_cons_zero, List.set_cons_succ]
          refine wpAnyH_take (i := 6) (oi := ⟨_, _, _, _, _, _⟩) (v := ?_) rfl (by kernel_rfl) (by kernel_rfl) (by kernel_rfl) (fun _ _ _ h => h) (Or.inl ⟨by rfl, ?_⟩) (by assumption) ?_
          rotate_left
          · intro w hSw; (try dsimp only at hSw); go_simp; (try (with_reducible rfl))
          try simp only [Act.put, List.setIfInBounds_toArray, List.set_cons_zero, List.set_cons_succ]
          refine wpAnyH_take (i := 7) (oi := ⟨_, _, _, _, _, _⟩) (v := ?_) rfl (by kernel_rfl) (by kernel_rfl) (by kernel_rfl) (fun _ _ _ h => h) (Or.inl ⟨by rfl, ?_⟩) (by assumption) ?_
          rotate_left
          · intro w hSw; (try dsimp only at hSw); go_simp; (try (with_reducible rfl))
          try simp only [Act.put, List.setIfInBounds_toArray, List.set_cons_zero, List.set_cons_succ]
          refine wpAnyH_take (i := 9) (oi := ⟨_, _, _, _, _, _⟩) (v := ?_) rfl (by kernel_rfl) (by kernel_rfl) (by kernel_rfl) (fun _ _ _ h => h) (Or.inl ⟨by rfl, ?_⟩) (by assumption) ?_
          rotate_left
          · intro w hSw; (try dsimp only at hSw); go_simp; (try (with_reducible rfl))
          try simp only [Act.put, List.setIfInBounds_toArray, List.set_cons_zero, List.set_cons_succ]
          refine wpAnyH_take (i := 10) (oi := ⟨_, _, _, _, _, _⟩) (v := ?_) rfl (by kernel_rfl) (by kernel_rfl) (by kernel_rfl) (fun _ _ _ h => h) (Or.inl ⟨by rfl, ?_⟩) (by assumption) ?_
          rotate_left
          · intro w hSw; (try dsimp only at hSw); go_simp; (try (with_reducible rfl))
          try simp only [Act.put, List.setIfInBounds_toArray, List.set_cons_zero, List.set_cons_succ]
          refine wpAnyH_ready (rs := [8]) (by kernel_rfl) (by simp) ?_
          refine AllReadyH.cons (o := ⟨_, _, _, _, _, _⟩) rfl (fun K hK => ?_) AllReadyH.nil
          go_simp
          refine hK.out _ _ p7d (fun hHeld => ?_)
          clear hK K
          try simp only [Act.put, List.setIfInBounds_toArray, List.set_cons_zero, List.set_cons_succ]
          refine wpAnyH_take (i := 11) (oi := ⟨_, _, _, _, _, _⟩) (v := ?_) rfl (by kernel_rfl) (by kernel_rfl) (by kernel_rfl) (fun _ _ _ h => h) (Or.inl ⟨by rfl, ?_⟩) (by assumption) ?_
          rotate_left
          · intro w hSw; (try dsimp only at hSw); go_simp; (try (with_reducible rfl))
          try simp only [Act.put, List.setIfInBounds_toArray, List.set_cons_zero, List.set_cons_succ]
          refine wpAnyH_take (i := 12) (oi := ⟨_, _, _, _, _, _⟩) (v := ?_) rfl (by kernel_rfl) (by kernel_rfl) (by kernel_rfl) (fun _ _ _ h => h) (Or.inl ⟨by rfl, ?_⟩) (by assumption) ?_
          rotate_left
          · intro w hSw; (try dsimp only at hSw); go_simp; (try (with_reducible rfl))
          try simp only [Act.put, List.setIfInBounds_toArray, List.set_cons_zero, List.set_cons_succ]
          refine wpAnyH_take (i := 13) (oi := ⟨_, _, _, _, _, _⟩) (v := ?_) rfl (by kernel_rfl) (by kernel_rfl) (by kernel_rfl) (fun _ _ _ h => h) (Or.inl ⟨by rfl, ?_⟩) (by assumption) ?_
          rotate_left
          · intro w hSw; (try dsimp only at hSw); go_simp; (try (with_reducible rfl))
          try simp only [Act.put, List.setIfInBounds_toArray, List.set_cons_zero, List.set_cons_succ]
          refine wpAnyH_ready (rs := [14]) (by kernel_rfl) (by simp) ?_
          refine AllReadyH.cons (o := ⟨_, _, _, _, _, _⟩) rfl (fun K hK => ?_) AllReadyH.nil
          go_simp
          refine hK.out _ _ p79 (fun hHeld => ?_)
          clear hK K
          try simp only [Act.put, List.setIfInBounds_toArray, List.set_cons_zero, List.set_cons_succ]
          refine wpAnyH_done (by kernel_rfl) ?_ _
          clear hHeld
          have hl9 : (YL.take q).length = q := by rw [List.length_take, HQ.out]; omega
          rw [ck_set ys k hky (YL.take q) (some ⟨yb, yo, none⟩) q Yc hl9] at W9k
          have hck2 : ∀ i (hi : i < ys.length), i ≠ k → CkAt ((w23.setCell ⟨g2, k * 7 + 3, none⟩ (.slice (some ⟨yb, yo, none⟩) q Yc)).drew) ys[i] := fun i hi _ => OwnC.ck (row_turn (odd.out _ (List.getElem_mem hi)) gs kdd (by decide))
          have hrs := row_turn (odd.out _ (List.getElem_mem hky)) gs kdd (by decide)
          have hck1 : CkAt ((w23.setCell ⟨g2, k * 7 + 3, none⟩ (.slice (some ⟨yb, yo, none⟩) q Yc)).drew) ⟨{ ys[k].p with chunks := YL.take q }, some ⟨yb, yo, none⟩, Yc⟩ := by
            refine ⟨?_, by dsimp only; rw [hl9]; omega, hYc2⟩
            dsimp only
            have h9 := Rd.of_own hrs
            rw [HYLL.out] at h9
            rw [show ys[k].C = some ⟨yb, yo, none⟩ from HYC.out] at h9
            exact rd_short h9 q
          have mt9 := mt_set hys hkp hky W9k hck1 hck2 hqp a1 a2 a3 a4 a5 a6 a7
          have hno : manR (⟨a1, a2, a3, a4, a5, a6, a7, ps.set k { ps[k] with chunks := YL.take q }⟩ : Man) = false := chunks_no HR.out hkp (cs := YL.take q) (by rw [hl9]; dsimp only; rw [← hYn.out, HQ.out]; omega)
          have bw9 : Below w.heap.size w ((w23.setCell ⟨g2, k * 7 + 3, none⟩ (.slice (some ⟨yb, yo, none⟩) q Yc)).drew) := (b23.drew).setCell (p := ⟨g2, k * 7 + 3, none⟩) (show w.heap.size ≤ g2 by have := hg2; have := hw9.out; omega) _
          have hm9 : Mt ((w23.setCell ⟨g2, k * 7 + 3, none⟩ (.slice (some ⟨yb, yo, none⟩) q Yc)).drew) A c (⟨a1, a2, a3, a4, a5, a6, a7, ps⟩ : Man) := hm0.below bw9
          clear W9k hck1 hck2 hrs gs kdd pdd pmd kd pd pm8 hm8 od odd c3 p7 p7d c3d p79 f3d hYr b23
          generalize (w23.setCell ⟨g2, k * 7 + 3, none⟩ (.slice (some ⟨yb, yo, none⟩) q Yc)).drew = w9 at *
          have hqs : ∀ p ∈ ps.set k { ps[k] with chunks := YL.take q }, p.path.size < 4294967281 := fun p hp => by
            rcases List.mem_or_eq_of_mem_set hp with h | h
            · exact hqr p h
            · rw [h]; exact hqr ps[k] (List.getElem_mem hkp)
          have hsl : (ps.set k { ps[k] with chunks := YL.take q }).length = ps.length := by simp
          have cR := right12_any mt9 hqs
          rw [hno] at cR
          unfold manV at cR
          dsimp only at cR
          rw [hsl] at cR
          have q0 := W9d.cell 0
          have q1 := W9d.cell 1
          have q2 := W9d.cell 2
          have q3 := W9d.cell 3
          have q4 := W9d.cell 4
          have q5 := W9d.cell 5
          have q6 := W9d.cell 6
          have q7 := W9d.cell 7
          simp only [List.getElem?_cons_zero, List.getElem?_cons_succ] at q0 q1 q2 q3 q4 q5 q6 q7
          go_wp2_with fail
          refine cR.mono ?_
          clear cR mt9 W9d hno hqs hsl q0 q1 q2 q3 q4 q5 q6 q7
          rintro e w41 ⟨rfl, bx⟩
          simp only
          replace hm9 := hm9.below bx
          replace W9m := W9m.below bx
          have b41 := below2 bw9 bx
          clear bx bw9
          have q0 := W9m.cell 0
          have q1 := W9m.cell 1
          have q2 := W9m.cell 2
          have q3 := W9m.cell 3
          have q4 := W9m.cell 4
          have q5 := W9m.cell 5
          have q6 := W9m.cell 6
          have q7 := W9m.cell 7
          simp only [List.getElem?_cons_zero, List.getElem?_cons_succ] at q0 q1 q2 q3 q4 q5 q6 q7
          have cc := right12_any hm9 hqr
          rw [HRT.out] at cc
          go_wp2_with fail
          refine cc.mono ?_
          clear cc q0 q1 q2 q3 q4 q5 q6 q7
          rintro e w42 ⟨rfl, bx⟩
          simp only
          replace hm9 := hm9.below bx
          replace W9m := W9m.below bx
          have b42 := below2 b41 bx
          clear bx b41
          go_wp2
          go_ret
          exact ⟨rfl, b42⟩
        · rw [hy0] at c3
          have q0 := pm8.cell 0
          have q1 := pm8.cell 1
          have q2 := pm8.cell 2
          have q3 := pm8.cell 3
          have q4 := pm8.cell 4
          have q5 := pm8.cell 5
          have q6 := pm8.cell 6
          have q7 := pm8.cell 7
          simp only [List.getElem?_cons_zero, List.getElem?_cons_succ] at q0 q1 q2 q3 q4 q5 q6 q7
          have cc := right12_any hm8 hqr
          rw [HRT.out] at cc
          go_wp2_with fail
          refine cc.mono ?_
          clear cc q0 q1 q2 q3 q4 q5 q6 q7
          rintro e w24 ⟨rfl, bx⟩
          simp only
          replace hm8 := hm8.below bx
          replace pm8 := pm8.below bx
          replace kd := kd.below bx
          replace pd := pd.below bx
          have b24 := below2 b23 bx
          clear bx b23
          go_wp2
          go_ret
          exact ⟨rfl, b24⟩
      · have b6 : Below w7.heap.size w7 (w7.drew.alloc (.cells #[.int .i64 name] 3)) := bd.alloc bd.size _
        have p76 : (w7.drew.alloc (.cells #[.int .i64 name] 3)).cell? ⟨zc, 7, none⟩ = some (.slice (some ⟨g, 0, none⟩) ps.length ps.length) := (b6.cell (p := ⟨zc, 7, none⟩) lzc).trans p7
        have c36 : (w7.drew.alloc (.cells #[.int .i64 name] 3)).cell? ⟨g, k * 7 + 3, none⟩ = some (.slice XC XL.length Xc) := (b6.cell (p := ⟨g, k * 7 + 3, none⟩) lgc).trans c3
        have c36' : (w7.alloc (.cells #[.int .i64 name] 3)).cell? ⟨g, k * 7 + 3, none⟩ = some (.slice XC XL.length Xc) := c36
        have oy6 := own_below1 ox b6
        have kc6 := kc.below b6
        have pc6 := pc.below b6
        have pm6 := pm.below b6
        have hm6 := hm.below b6
        have oc6 := hid fun x hx => own_below1 (oc.out x hx) b6
        have hy6 : (w7.drew.alloc (.cells #[.int .i64 name] 3)).cell? ⟨w7.heap.size, 0, none⟩ = some (.int .i64 name) := (Blk.new w7.drew [.int .i64 name] 3).cell 0
        obtain ⟨C7, cc7, w7, HRUN, oy7, g7⟩ := run_appI oy6 ⟨w7.heap.size, 0, none⟩ 1 name hy6 (by omega) (Nat.le_trans (by have := hs5.out; have := hs6.out; omega) b6.size)
        go_simp
        refine hK.out _ _ p76 (fun hHeld => ?_)
        clear hK K
        try simp only [Act.put, List.setIfInBounds_toArray, List.set_cons_zero, List.set_cons_succ]
        refine wpAnyH_ready (rs := [8]) (by kernel_rfl) (by simp) ?_
        refine AllReadyH.cons (o := ⟨_, _, _, _, _, _⟩) rfl (fun K hK => ?_) (AllReadyH.nil)
        go_simp
        refine hK.out _ _ p76 (fun hHeld => ?_)
        clear hK K
        try simp only [Act.put, List.setIfInBounds_toArray, List.set_cons_zero, List.set_cons_succ]
        refine wpAnyH_ready (rs := [11]) (by kernel_rfl) (by simp) ?_
        refine AllReadyH.cons (o := ⟨_, _, _, _, _, _⟩) rfl (fun K hK => ?_) AllReadyH.nil
        have kc7 := blk_row kc6 oy6 g7 (by decide)
        have pc7 := blk_row pc6 oy6 g7 (by decide)
        have pm7 := blk_row pm6 oy6 g7 (by decide)
        have rl := row_lt oy6
        have f7 := kc7.frozen (k * 7 + 3)
        have c37 := copy_at kc7 hkx
        have c37 : w7.cell? ⟨g, k * 7 + 3, none⟩ = some (.slice xs[k].C xs[k].p.chunks.length xs[k].c) := c37
        have gs : w7.grownBy (w7.setCell ⟨g, k * 7 + 3, none⟩ (.slice C7 (XL.length + 1) cc7)) (some g) := grown_set _ _
        have hgz : zc ≠ g := by rintro rfl; have h1 := kc7.cell 0; rw [pc7.cell 0] at h1; have h2 := pwV_at xs 0 (by omega) 0 (by omega); rw [Nat.zero_mul] at h2; rw [h2] at h1; simp [pcV] at h1
        have pc8 := pc7.other hgz (k * 7 + 3) (.slice C7 (XL.length + 1) cc7)
        have p78 : (w7.setCell ⟨g, k * 7 + 3, none⟩ (.slice C7 (XL.length + 1) cc7)).cell? ⟨zc, 7, none⟩ = some (.slice (some ⟨g, 0, none⟩) ps.length ps.length) := by have := pc8.cell 7; simpa using this
        refine stepApp2 (by rfl) (.tmp 66) (.tmp 68) 30 rfl _ _ _ rfl rfl (HRUN.out _) ?_
        refine hK.out _ _ (show w7.cell? ⟨zc, 7, none⟩ = _ from by have := pc7.cell 7; simpa using this) (fun hHeld => ?_)
        clear hK K
        try simp only [Act.put, List.setIfInBounds_toArray, List.set_cons_zero, List.set_cons_succ]
        refine wpAnyH_take (i := 12) (oi := ⟨_, _, _, _, _, _⟩) (v := ?_) rfl (by kernel_rfl) (by kernel_rfl) (by kernel_rfl) (fun _ _ _ h => h) (Or.inl ⟨by rfl, ?_⟩) (by assumption) ?_
        rotate_left
        · intro w hSw; (try dsimp only at hSw); go_simp; (try (with_reducible rfl))
        try simp only [Act.put, List.setIfInBounds_toArray, List.set_cons_zero, List.set_cons_succ]
        refine wpAnyH_take (i := 13) (oi := ⟨_, _, _, _, _, _⟩) (v := ?_) rfl (by kernel_rfl) (by kernel_rfl) (by kernel_rfl) (fun _ _ _ h => h) (Or.inl ⟨by rfl, ?_⟩) (by assumption) ?_
        rotate_left
        · intro w hSw; (try dsimp only at hSw); go_simp; (try (with_reducible rfl))
        try simp only [Act.put, List.setIfInBounds_toArray, List.set_cons_zero, List.set_cons_succ]
        refine wpAnyH_ready (rs := [14]) (by kernel_rfl) (by simp) ?_
        refine AllReadyH.cons (o := ⟨_, _, _, _, _, _⟩) rfl (fun K hK => ?_) AllReadyH.nil
        go_simp
        refine hK.out _ _ p78 (fun hHeld => ?_)
        clear hK K
        try simp only [Act.put, List.setIfInBounds_toArray, List.set_cons_zero, List.set_cons_succ]
        refine wpAnyH_done (by kernel_rfl) ?_ _
        clear hHeld
        have hl7 : (XL ++ [name]).length = XL.length + 1 := by simp
        have hgm : w.heap.size ≠ g := by rintro e; have h1 := kc7.cell 0; rw [← e, pm7.cell 0] at h1; have h2 := pwV_at xs 0 (by omega) 0 (by omega); rw [Nat.zero_mul] at h2; rw [h2] at h1; simp [pcV] at h1
        have pm8 := pm7.other hgm (k * 7 + 3) (.slice C7 (XL.length + 1) cc7)
        have kc8 := kc7.set_ (k * 7 + 3) (.slice C7 (XL.length + 1) cc7)
        rw [ck_set xs k hkx (XL ++ [name]) C7 (XL.length + 1) cc7 hl7] at kc8
        have hck1 : CkAt (w7.setCell ⟨g, k * 7 + 3, none⟩ (.slice C7 (XL.length + 1) cc7)) ⟨{ xs[k].p with chunks := XL ++ [name] }, C7, cc7⟩ := by
          have h9 := row_turn oy7 gs kc7 (by decide)
          refine OwnC.ck (base := w5.heap.size) ?_
          unfold OwnC
          dsimp only
          rw [hl7]
          exact h9
        have hck2 : ∀ i (hi : i < xs.length), i ≠ k → CkAt (w7.setCell ⟨g, k * 7 + 3, none⟩ (.slice C7 (XL.length + 1) cc7)) xs[i] := fun i hi hik => by
          have h9 := oc6.out _ (List.getElem_mem hi)
          have h10 := h9.kept g7 (by
            cases hr : (Value.slice xs[i].C xs[i].p.chunks.length xs[i].c).ownBlock with
            | none => exact .inl rfl
            | some b9 => exact .inr fun e => apart_at ap.out hkx hi (Ne.symm hik) b9 (HXB.out.trans e.symm) hr)
          exact OwnC.ck (base := 0) (own_low1 (base' := 0) (row_turn h10 gs kc7 (by decide)) (Nat.zero_le _))
        have mt8 := mt_set hxs hkp hkx kc8 hck1 hck2 hqp a1 a2 a3 a4 a5 a6 a7
        have hno : manR (⟨a1, a2, a3, a4, a5, a6, a7, ps.set k { ps[k] with chunks := XL ++ [name] }⟩ : Man) = false := chunks_no HR.out hkp (cs := XL ++ [name]) (by rw [hl7]; dsimp only; rw [← HPE.out, HXLL.out]; omega)
        have bw8 : Below w.heap.size w (w7.setCell ⟨g, k * 7 + 3, none⟩ (.slice C7 (XL.length + 1) cc7)) := ((b7.trans (b6.mono b7.size)).trans (below_grown (by have := b7.size; have := b6.size; omega) (fun k9 hk9 => by have := rl k9 hk9; have := hbs.out; omega) g7)).trans (below_grown (by have := b7.size; have := b6.size; have := g7.size; omega) (far_row (by have := hbg.out; omega)) gs)
        have hm8 : Mt (w7.setCell ⟨g, k * 7 + 3, none⟩ (.slice C7 (XL.length + 1) cc7)) A c (⟨a1, a2, a3, a4, a5, a6, a7, ps⟩ : Man) := hm0.below bw8
        clear kc8 hck1 hck2 gs kc7 pc7 pm7 kc6 pc6 pm6 hm6 oc6 oy6 oy7 g7 c37 f7 p78 b6 p76 c36 c36' hy6 rl HRUN kc pc pm hm oc p7 c3 ox bd b7
        generalize (w7.setCell ⟨g, k * 7 + 3, none⟩ (.slice C7 (XL.length + 1) cc7)) = w8 at *
        have hqs : ∀ p ∈ ps.set k { ps[k] with chunks := XL ++ [name] }, p.path.size < 4294967281 := fun p hp => by
          rcases List.mem_or_eq_of_mem_set hp with h | h
          · exact hqr p h
          · rw [h]; exact hqr ps[k] (List.getElem_mem hkp)
        have hsl : (ps.set k { ps[k] with chunks := XL ++ [name] }).length = ps.length := by simp
        have cR := right12_any mt8 hqs
        rw [hno] at cR
        unfold manV at cR
        dsimp only at cR
        rw [hsl] at cR
        have q0 := pc8.cell 0
        have q1 := pc8.cell 1
        have q2 := pc8.cell 2
        have q3 := pc8.cell 3
        have q4 := pc8.cell 4
        have q5 := pc8.cell 5
        have q6 := pc8.cell 6
        have q7 := pc8.cell 7
        simp only [List.getElem?_cons_zero, List.getElem?_cons_succ] at q0 q1 q2 q3 q4 q5 q6 q7
        go_wp2_with fail
        refine cR.mono ?_
        clear cR mt8 pc8 hno hqs hsl q0 q1 q2 q3 q4 q5 q6 q7
        rintro e w21 ⟨rfl, bx⟩
        simp only
        replace hm8 := hm8.below bx
        replace pm8 := pm8.below bx
        have b21 := below2 bw8 bx
        clear bx bw8
        have hw9 := hid b21.size
        have q0 := pm8.cell 0
        have q1 := pm8.cell 1
        have q2 := pm8.cell 2
        have q3 := pm8.cell 3
        have q4 := pm8.cell 4
        have q5 := pm8.cell 5
        have q6 := pm8.cell 6
        have q7 := pm8.cell 7
        simp only [List.getElem?_cons_zero, List.getElem?_cons_succ] at q0 q1 q2 q3 q4 q5 q6 q7
        have cc := copy12_any hm8 hqp hqc
        go_wp2_with fail
        refine cc.mono ?_
        clear cc q0 q1 q2 q3 q4 q5 q6 q7
        rintro e w22 ⟨g2, ys, rfl, hys, kd, od, -, hg2, bx⟩
        simp only
        replace hm8 := hm8.below bx
        replace pm8 := pm8.below bx
        have b22 := below2 b21 bx
        clear bx b21
        dsimp only at hys
        rw [show manV (⟨a1, a2, a3, a4, a5, a6, a7, ps⟩ : Man) (some ⟨g2, 0, none⟩) ((⟨a1, a2, a3, a4, a5, a6, a7, ps⟩ : Man)).pieces.length = .agg #[.int .i64 a1, .int .i64 a2, .int .i64 a3, .int .i64 a4, .int .i64 a5, .int .i64 a6, .int .i64 a7, .slice (some ⟨g2, 0, none⟩) ps.length ps.length] from rfl]
        have bx := hal w22 (.cells #[.int .i64 a1, .int .i64 a2, .int .i64 a3, .int .i64 a4, .int .i64 a5, .int .i64 a6, .int .i64 a7, .slice (some ⟨g2, 0, none⟩) ps.length ps.length] 24)
        have pd := Blk.new w22 [.int .i64 a1, .int .i64 a2, .int .i64 a3, .int .i64 a4, .int .i64 a5, .int .i64 a6, .int .i64 a7, .slice (some ⟨g2, 0, none⟩) ps.length ps.length] 24
        replace hm8 := hm8.below bx
        replace pm8 := pm8.below bx
        replace kd := kd.below bx
        have od := hid fun x hx => own_below1 (od.out x hx) bx
        have hyl : ys.length = ps.length := by rw [← hys, pcesOf_length]
        have hky : k < ys.length := by omega
        have HYL := hid hyl
        clear hyl
        have HPY : Hid (ys[k].p = ps[k]) := by show _ = _; simp only [← hys]; simp [pcesOf]
        go_upto_region 19 with (fail)
        have b23 := below2 b22 bx
        clear bx b22
        generalize hgz9 : w22.heap.size = zd at *
        generalize w22.alloc (.cells #[.int .i64 a1, .int .i64 a2, .int .i64 a3, .int .i64 a4, .int .i64 a5, .int .i64 a6, .int .i64 a7, .slice (some ⟨g2, 0, none⟩) ps.length ps.length] 24) = w23 at *
        clear hgz9
        obtain ⟨YC, hYC⟩ : ∃ X, ys[k].C = X := ⟨_, rfl⟩
        obtain ⟨Yc, hYc⟩ : ∃ X, ys[k].c = X := ⟨_, rfl⟩
        obtain ⟨YL, hYL⟩ : ∃ X, ys[k].p.chunks = X := ⟨_, rfl⟩
        have c3 : w23.cell? ⟨g2, k * 7 + 3, none⟩ = some (.slice ys[k].C ys[k].p.chunks.length ys[k].c) := copy_at kd hky
        have oy : OwnC _ _ ys[k] := od.out _ (List.getElem_mem hky)
        have hYck := oy.ck
        obtain ⟨hYr, hYc1, hYc2⟩ := hYck
        rw [hYC, hYc, hYL] at c3
        rw [hYL] at hYr hYc1
        rw [hYC] at hYr
        rw [hYc] at hYc1 hYc2
        have HYLL := hid hYL
        have HYC := hid hYC
        clear hYC hYc hYL oy
        have hYn : Hid (YL.length = ps[k].chunks.length) := by show _ = _; rw [← HYLL.out, HPY.out]
        have p7 := pd.cell 7
        simp only [List.getElem?_cons_zero, List.getElem?_cons_succ] at p7
        by_cases hy0 : YL.length = 0
        rotate_left
        · obtain ⟨q, hq⟩ : ∃ q, YL.length = q + 1 := ⟨YL.length - 1, by omega⟩
          rw [hq] at c3 hYc1
          have HQ := hid hq
          clear hy0
          obtain ⟨yb, yo, rfl, -, -⟩ := int_at hYr (j := 0) (by rw [hq]; omega)
          clear hq
          have hqz : (0 : Int) ≤ q := by omega
          have hwq : IntKind.i64.wrap (q : Int) = (q : Int) := by rw [IntKind.wrap_i64]; unfold maxLen at hYc2; omega
          have hyc3 : q + 1 ≤ 9223372036854775807 := by unfold maxLen at hYc2; omega
          have hyc4 : (q : Int) ≤ Yc := by omega
          have hyc5 : ¬ Yc = 0 := by omega
          have p7d : w23.drew.cell? ⟨zd, 7, none⟩ = some (.slice (some ⟨g2, 0, none⟩) ps.length ps.length) := p7
          have c3d : w23.drew.cell? ⟨g2, k * 7 + 3, none⟩ = some (.slice (some ⟨yb, yo, none⟩) (q + 1) Yc) := c3
          have f3d : w23.drew.frozen? ⟨g2, k * 7 + 3, none⟩ = false := kd.frozen (k * 7 + 3)
          have hgz2 : zd ≠ g2 := by rintro rfl; have h1 := kd.cell 0; rw [pd.cell 0] at h1; have h2 := pwV_at ys 0 (by omega) 0 (by omega); rw [Nat.zero_mul] at h2; rw [h2] at h1; simp [pcV] at h1
          have hgm2 : w.heap.size ≠ g2 := by rintro e; have h1 := kd.cell 0; rw [← e, pm8.cell 0] at h1; have h2 := pwV_at ys 0 (by omega) 0 (by omega); rw [Nat.zero_mul] at h2; rw [h2] at h1; simp [pcV] at h1
          have odd : Hid (∀ x ∈ ys, OwnC w21.heap.size w23.drew x) := od
          have kdd : Blk w23.drew g2 (pwV ys) 35 := kd
          have pdd : Blk w23.drew zd [.int .i64 a1, .int .i64 a2, .int .i64 a3, .int .i64 a4, .int .i64 a5, .int .i64 a6, .int .i64 a7, .slice (some ⟨g2, 0, none⟩) ps.length ps.length] 24 := pd
          have pmd : Blk w23.drew w.heap.size [.int .i64 a1, .int .i64 a2, .int .i64 a3, .int .i64 a4, .int .i64 a5, .int .i64 a6, .int .i64 a7, .slice A ps.length c] 24 := pm8
          have W9k : Blk ((w23.setCell ⟨g2, k * 7 + 3, none⟩ (.slice (some ⟨yb, yo, none⟩) q Yc)).drew) g2 ((pwV ys).set (k * 7 + 3) (.slice (some ⟨yb, yo, none⟩) q Yc)) 35 := kdd.set_ (k * 7 + 3) (.slice (some ⟨yb, yo, none⟩) q Yc)
          have W9d : Blk ((w23.setCell ⟨g2, k * 7 + 3, none⟩ (.slice (some ⟨yb, yo, none⟩) q Yc)).drew) zd [.int .i64 a1, .int .i64 a2, .int .i64 a3, .int .i64 a4, .int .i64 a5, .int .i64 a6, .int .i64 a7, .slice (some ⟨g2, 0, none⟩) ps.length ps.length] 24 := pdd.other hgz2 (k * 7 + 3) (.slice (some ⟨yb, yo, none⟩) q Yc)
          have W9m : Blk ((w23.setCell ⟨g2, k * 7 + 3, none⟩ (.slice (some ⟨yb, yo, none⟩) q Yc)).drew) w.heap.size [.int .i64 a1, .int .i64 a2, .int .i64 a3, .int .i64 a4, .int .i64 a5, .int .i64 a6, .int .i64 a7, .slice A ps.length c] 24 := pmd.other hgm2 (k * 7 + 3) (.slice (some ⟨yb, yo, none⟩) q Yc)
          have p79 : ((w23.setCell ⟨g2, k * 7 + 3, none⟩ (.slice (some ⟨yb, yo, none⟩) q Yc)).drew).cell? ⟨zd, 7, none⟩ = some (.slice (some ⟨g2, 0, none⟩) ps.length ps.length) := by have := W9d.cell 7; simpa using this
          have gs : w23.drew.grownBy ((w23.setCell ⟨g2, k * 7 + 3, none⟩ (.slice (some ⟨yb, yo, none⟩) q Yc)).drew) (some g2) := grown_set _ _
          go_wp2_with fail
          refine wp_region_held_drew (S := fun W => W.cell? ⟨zd, 7, none⟩ = some (.slice (some ⟨g2, 0, none⟩) ps.length ps.length)) (by kernel_rfl) p7 (fun hHeld => ?_)
          refine wpAnyH_take (i := 0) (oi := ⟨_, _, _, _, _, _⟩) (v := ?_) rfl (by kernel_rfl) (by kernel_rfl) (by kernel_rfl) (fun _ _ _ h => h) (Or.inl ⟨by rfl, ?_⟩) (by assumption) ?_
          rotate_left
          · intro w hSw; (try dsimp only at hSw); go_simp; (try (with_reducible rfl))
          try simp only [Act.put, List.setIfInBounds_toArray, List.set_cons_zero, List.set_cons_succ]
          refine wpAnyH_take (i := 1) (oi := ⟨_, _, _, _, _, _⟩) (v := ?_) rfl (by kernel_rfl) (by kernel_rfl) (by kernel_rfl) (fun _ _ _ h => h) (Or.inl ⟨by rfl, ?_⟩) (by assumption) ?_
          rotate_left
          · intro w hSw; (try dsimp only at hSw); go_simp; (try (with_reducible rfl))
          try simp only [Act.put, List.setIfInBounds_toArray, List.set_cons_zero, List.set_cons_succ]
          refine wpAnyH_take (i := 2) (oi := ⟨_, _, _, _, _, _⟩) (v := ?_) rfl (by kernel_rfl) (by kernel_rfl) (by kernel_rfl) (fun _ _ _ h => h) (Or.inl ⟨by rfl, ?_⟩) (by assumption) ?_
          rotate_left
          · intro w hSw; (try dsimp only at hSw); go_simp; (try (with_reducible rfl))
          try simp only [Act.put, List.setIfInBounds_toArray, List.set_cons_zero, List.set_cons_succ]
          refine wpAnyH_take (i := 3) (oi := ⟨_, _, _, _, _, _⟩) (v := ?_) rfl (by kernel_rfl) (by kernel_rfl) (by kernel_rfl) (fun _ _ _ h => h) (Or.inl ⟨by rfl, ?_⟩) (by assumption) ?_
          rotate_left
          · intro w hSw; (try dsimp only at hSw); go_simp; (try (with_reducible rfl))
          try simp only [Act.put, List.setIfInBounds_toArray, List.set_cons_zero, List.set_cons_succ]
          refine wpAnyH_take (i := 4) (oi := ⟨_, _, _, _, _, _⟩) (v := ?_) rfl (by kernel_rfl) (by kernel_rfl) (by kernel_rfl) (fun _ _ _ h => h) (Or.inl ⟨by rfl, ?_⟩) (by assumption) ?_
          rotate_left
          · intro w hSw; (try dsimp only at hSw); go_simp; (try (with_reducible rfl))
          try simp only [Act.put, List.setIfInBounds_toArray, List.set_cons_zero, List.set_cons_succ]
          refine wpAnyH_take (i := 5) (oi := ⟨_, _, _, _, _, _⟩) (v := ?_) rfl (by kernel_rfl) (by kernel_rfl) (by kernel_rfl) (fun _ _ _ h => h) (Or.inl ⟨by rfl, ?_⟩) (by assumption) ?_
          rotate_left
          · intro w hSw; (try dsimp only at hSw); go_simp; (try (with_reducible rfl))
          try simp only [Act.put, List.setIfInBounds_toArray, List.set_cons_zero, List.set_cons_succ]
          refine wpAnyH_take (i := 6) (oi := ⟨_, _, _, _, _, _⟩) (v := ?_) rfl (by kernel_rfl) (by kernel_rfl) (by kernel_rfl) (fun _ _ _ h => h) (Or.inl ⟨by rfl, ?_⟩) (by assumption) ?_
          rotate_left
          · intro w hSw; (try dsimp only at hSw); go_simp; (try (with_reducible rfl))
          try simp only [Act.put, List.setIfInBounds_toArray, List.set_cons_zero, List.set_cons_succ]
          refine wpAnyH_take (i := 7) (oi := ⟨_, _, _, _, _, _⟩) (v := ?_) rfl (by kernel_rfl) (by kernel_rfl) (by kernel_rfl) (fun _ _ _ h => h) (Or.inl ⟨by rfl, ?_⟩) (by assumption) ?_
          rotate_left
          · intro w hSw; (try dsimp only at hSw); go_simp; (try (with_reducible rfl))
          try simp only [Act.put, List.setIfInBounds_toArray, List.set_cons_zero, List.set_cons_succ]
          refine wpAnyH_take (i := 9) (oi := ⟨_, _, _, _, _, _⟩) (v := ?_) rfl (by kernel_rfl) (by kernel_rfl) (by kernel_rfl) (fun _ _ _ h => h) (Or.inl ⟨by rfl, ?_⟩) (by assumption) ?_
          rotate_left
          · intro w hSw; (try dsimp only at hSw); go_simp; (try (with_reducible rfl))
          try simp only [Act.put, List.setIfInBounds_toArray, List.set_cons_zero, List.set_cons_succ]
          refine wpAnyH_take (i := 10) (oi := ⟨_, _, _, _, _, _⟩) (v := ?_) rfl (by kernel_rfl) (by kernel_rfl) (by kernel_rfl) (fun _ _ _ h => h) (Or.inl ⟨by rfl, ?_⟩) (by assumption) ?_
          rotate_left
          · intro w hSw; (try dsimp only at hSw); go_simp; (try (with_reducible rfl))
          try simp only [Act.put, List.setIfInBounds_toArray, List.set_cons_zero, List.set_cons_succ]
          refine wpAnyH_ready (rs := [8]) (by kernel_rfl) (by simp) ?_
          refine AllReadyH.cons (o := ⟨_, _, _, _, _, _⟩) rfl (fun K hK => ?_) AllReadyH.nil
          go_simp
          refine hK.out _ _ p7d (fun hHeld => ?_)
          clear hK K
          try simp only [Act.put, List.setIfInBounds_toArray, List.set_cons_zero, List.set_cons_succ]
          refine wpAnyH_take (i := 11) (oi := ⟨_, _, _, _, _, _⟩) (v := ?_) rfl (by kernel_rfl) (by kernel_rfl) (by kernel_rfl) (fun _ _ _ h => h) (Or.inl ⟨by rfl, ?_⟩) (by assumption) ?_
          rotate_left
          · intro w hSw; (try dsimp only at hSw); go_simp; (try (with_reducible rfl))
          try simp only [Act.put, List.setIfInBounds_toArray, List.set_cons_zero, List.set_cons_succ]
          refine wpAnyH_take (i := 12) (oi := ⟨_, _, _, _, _, _⟩) (v := ?_) rfl (by kernel_rfl) (by kernel_rfl) (by kernel_rfl) (fun _ _ _ h => h) (Or.inl ⟨by rfl, ?_⟩) (by assumption) ?_
          rotate_left
          · intro w hSw; (try dsimp only at hSw); go_simp; (try (with_reducible rfl))
          try simp only [Act.put, List.setIfInBounds_toArray, List.set_cons_zero, List.set_cons_succ]
          refine wpAnyH_take (i := 13) (oi := ⟨_, _, _, _, _, _⟩) (v := ?_) rfl (by kernel_rfl) (by kernel_rfl) (by kernel_rfl) (fun _ _ _ h => h) (Or.inl ⟨by rfl, ?_⟩) (by assumption) ?_
          rotate_left
          · intro w hSw; (try dsimp only at hSw); go_simp; (try (with_reducible rfl))
          try simp only [Act.put, List.setIfInBounds_toArray, List.set_cons_zero, List.set_cons_succ]
          refine wpAnyH_ready (rs := [14]) (by kernel_rfl) (by simp) ?_
          refine AllReadyH.cons (o := ⟨_, _, _, _, _, _⟩) rfl (fun K hK => ?_) AllReadyH.nil
          go_simp
          refine hK.out _ _ p79 (fun hHeld => ?_)
          clear hK K
          try simp only [Act.put, List.setIfInBounds_toArray, List.set_cons_zero, List.set_cons_succ]
          refine wpAnyH_done (by kernel_rfl) ?_ _
          clear hHeld
          have hl9 : (YL.take q).length = q := by rw [List.length_take, HQ.out]; omega
          rw [ck_set ys k hky (YL.take q) (some ⟨yb, yo, none⟩) q Yc hl9] at W9k
          have hck2 : ∀ i (hi : i < ys.length), i ≠ k → CkAt ((w23.setCell ⟨g2, k * 7 + 3, none⟩ (.slice (some ⟨yb, yo, none⟩) q Yc)).drew) ys[i] := fun i hi _ => OwnC.ck (row_turn (odd.out _ (List.getElem_mem hi)) gs kdd (by decide))
          have hrs := row_turn (odd.out _ (List.getElem_mem hky)) gs kdd (by decide)
          have hck1 : CkAt ((w23.setCell ⟨g2, k * 7 + 3, none⟩ (.slice (some ⟨yb, yo, none⟩) q Yc)).drew) ⟨{ ys[k].p with chunks := YL.take q }, some ⟨yb, yo, none⟩, Yc⟩ := by
            refine ⟨?_, by dsimp only; rw [hl9]; omega, hYc2⟩
            dsimp only
            have h9 := Rd.of_own hrs
            rw [HYLL.out] at h9
            rw [show ys[k].C = some ⟨yb, yo, none⟩ from HYC.out] at h9
            exact rd_short h9 q
          have mt9 := mt_set hys hkp hky W9k hck1 hck2 hqp a1 a2 a3 a4 a5 a6 a7
          have hno : manR (⟨a1, a2, a3, a4, a5, a6, a7, ps.set k { ps[k] with chunks := YL.take q }⟩ : Man) = false := chunks_no HR.out hkp (cs := YL.take q) (by rw [hl9]; dsimp only; rw [← hYn.out, HQ.out]; omega)
          have bw9 : Below w.heap.size w ((w23.setCell ⟨g2, k * 7 + 3, none⟩ (.slice (some ⟨yb, yo, none⟩) q Yc)).drew) := (b23.drew).setCell (p := ⟨g2, k * 7 + 3, none⟩) (show w.heap.size ≤ g2 by have := hg2; have := hw9.out; omega) _
          have hm9 : Mt ((w23.setCell ⟨g2, k * 7 + 3, none⟩ (.slice (some ⟨yb, yo, none⟩) q Yc)).drew) A c (⟨a1, a2, a3, a4, a5, a6, a7, ps⟩ : Man) := hm0.below bw9
          clear W9k hck1 hck2 hrs gs kdd pdd pmd kd pd pm8 hm8 od odd c3 p7 p7d c3d p79 f3d hYr b23
          generalize (w23.setCell ⟨g2, k * 7 + 3, none⟩ (.slice (some ⟨yb, yo, none⟩) q Yc)).drew = w9 at *
          have hqs : ∀ p ∈ ps.set k { ps[k] with chunks := YL.take q }, p.path.size < 4294967281 := fun p hp => by
            rcases List.mem_or_eq_of_mem_set hp with h | h
            · exact hqr p h
            · rw [h]; exact hqr ps[k] (List.getElem_mem hkp)
          have hsl : (ps.set k { ps[k] with chunks := YL.take q }).length = ps.length := by simp
          have cR := right12_any mt9 hqs
          rw [hno] at cR
          unfold manV at cR
          dsimp only at cR
          rw [hsl] at cR
          have q0 := W9d.cell 0
          have q1 := W9d.cell 1
          have q2 := W9d.cell 2
          have q3 := W9d.cell 3
          have q4 := W9d.cell 4
          have q5 := W9d.cell 5
          have q6 := W9d.cell 6
          have q7 := W9d.cell 7
          simp only [List.getElem?_cons_zero, List.getElem?_cons_succ] at q0 q1 q2 q3 q4 q5 q6 q7
          go_wp2_with fail
          refine cR.mono ?_
          clear cR mt9 W9d hno hqs hsl q0 q1 q2 q3 q4 q5 q6 q7
          rintro e w41 ⟨rfl, bx⟩
          simp only
          replace hm9 := hm9.below bx
          replace W9m := W9m.below bx
          have b41 := below2 bw9 bx
          clear bx bw9
          have q0 := W9m.cell 0
          have q1 := W9m.cell 1
          have q2 := W9m.cell 2
          have q3 := W9m.cell 3
          have q4 := W9m.cell 4
          have q5 := W9m.cell 5
          have q6 := W9m.cell 6
          have q7 := W9m.cell 7
          simp only [List.getElem?_cons_zero, List.getElem?_cons_succ] at q0 q1 q2 q3 q4 q5 q6 q7
          have cc := right12_any hm9 hqr
          rw [HRT.out] at cc
          go_wp2_with fail
          refine cc.mono ?_
          clear cc q0 q1 q2 q3 q4 q5 q6 q7
          rintro e w42 ⟨rfl, bx⟩
          simp only
          replace hm9 := hm9.below bx
          replace W9m := W9m.below bx
          have b42 := below2 b41 bx
          clear bx b41
          go_wp2
          go_ret
          exact ⟨rfl, b42⟩
        · rw [hy0] at c3
          have q0 := pm8.cell 0
          have q1 := pm8.cell 1
          have q2 := pm8.cell 2
          have q3 := pm8.cell 3
          have q4 := pm8.cell 4
          have q5 := pm8.cell 5
          have q6 := pm8.cell 6
          have q7 := pm8.cell 7
          simp only [List.getElem?_cons_zero, List.getElem?_cons_succ] at q0 q1 q2 q3 q4 q5 q6 q7
          have cc := right12_any hm8 hqr
          rw [HRT.out] at cc
          go_wp2_with fail
          refine cc.mono ?_
          clear cc q0 q1 q2 q3 q4 q5 q6 q7
          rintro e w24 ⟨rfl, bx⟩
          simp only
          replace hm8 := hm8.below bx
          replace pm8 := pm8.below bx
          replace kd := kd.below bx
          replace pd := pd.below bx
          have b24 := below2 b23 bx
          clear bx b23
          go_wp2
          go_ret
          exact ⟨rfl, b24⟩
end Go.Proofs.YtgafjbmpaeejbaaDoor
