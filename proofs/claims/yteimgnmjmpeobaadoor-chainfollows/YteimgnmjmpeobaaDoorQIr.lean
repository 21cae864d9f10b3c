/- The text Ir. -/
import Derived.Test.YteimgnmjmpeobaaDoorQIm
namespace Go.Proofs.YteimgnmjmpeobaaDoor
open Go.RowKit

set_option maxHeartbeats 8000000 in
set_option maxRecDepth 20000 in
theorem chainFollows_walk (u : Cur) (au : Int) (A : Option Addr) (c : Nat) (ms : List Man) (H : Option Addr) (kh : Nat) (hd : List Int) (O : Option Addr) (k : Nat) (own : List Int) (t : Bool) (p : Cur) (w : World)
    (hu : CurI u) (_ : (Lit.int .i64 au).wf = true) (hms : MsAt w A ms) (hmc : ms.length ≤ c) (hmc2 : c ≤ maxLen) (_ : True) (hhr : Rd w H (hd.map (Value.int .i64))) (hhk : hd.length ≤ kh) (hhb : kh * Tryd.prog.bytesOf 3 ≤ reachBytes) (_ : ∀ n ∈ hd, (Lit.int .i64 n).wf = true)
    (hor : Rd w O (own.map (Value.int .i64))) (hok : own.length ≤ k) (hkb : k * Tryd.prog.bytesOf 3 ≤ reachBytes) (_ : ∀ n ∈ own, (Lit.int .i64 n).wf = true) (_ : CurI p) :
    Calls Tryd.prog 4 #[curV u, .int .i64 au, .slice A ms.length c, .slice H hd.length kh, .slice O own.length k, .bool t, curV p] w fun e w' => e = .returned (.bool true) ∧ Below w.heap.size w w' := by
  have hal : ∀ (W : World) (o : Obj), Below W.heap.size W (W.alloc o) := fun W o => (Below.refl _ _).alloc (Nat.le_refl _) o
  have hp0 : ∀ W : World, PcsAt W none [] := fun W => .inl rfl
  have hon := own_le1 hok hkb (by kernel_rfl)
  have hhn := own_le1 hhk hhb (by kernel_rfl)
  replace hor : Rd w O (intV own) := hor
  replace hhr : Rd w H (intV hd) := hhr
  obtain ⟨n, hn⟩ : ∃ n, own.length = n := ⟨_, rfl⟩
  obtain ⟨n2, hn2⟩ : ∃ n2, hd.length = n2 := ⟨_, rfl⟩
  obtain ⟨N, hN⟩ : ∃ N, ms.length = N := ⟨_, rfl⟩
  rw [hn] at hon ⊢
  rw [hn2] at hhn ⊢
  rw [hN]
  have HOL := hid hn
  have HHL := hid hn2
  have HN := hid hN
  have HMC := hid hmc
  have HCV := hid hu.v.1
  have HCE := hid hu.e.1
  clear hn hn2 hN hok hkb hhk hhb hu hmc
  obtain ⟨v, h, e, a⟩ := u
  obtain ⟨v2, h2, e2, a2⟩ := p
  dsimp only at HCV HCE ⊢
  go_enter Tryd.func4, Tryd.ntmps4
  have bx := hal w (.cells #[.int .i64 v, .int .i64 h, .int .i64 e, .int .i64 a] 23)
  have pc := Blk.new w [.int .i64 v, .int .i64 h, .int .i64 e, .int .i64 a] 23
  replace hor := hor.below bx
  replace hhr := hhr.below bx
  replace hms := hms.below bx
  have bw := bx
  clear bx
  have bx := hal (w.alloc (.cells #[.int .i64 v, .int .i64 h, .int .i64 e, .int .i64 a] 23)) (.cells #[.int .i64 v2, .int .i64 h2, .int .i64 e2, .int .i64 a2] 23)
  have pp := Blk.new (w.alloc (.cells #[.int .i64 v, .int .i64 h, .int .i64 e, .int .i64 a] 23)) [.int .i64 v2, .int .i64 h2, .int .i64 e2, .int .i64 a2] 23
  simp only [World.size_alloc] at pp
  replace pc := pc.below bx
  replace hor := hor.below bx
  replace hhr := hhr.below bx
  replace hms := hms.below bx
  replace bw := below2 bw bx
  clear bx
  have cc := small13_any ((w.alloc (.cells #[.int .i64 v, .int .i64 h, .int .i64 e, .int .i64 a] 23)).alloc (.cells #[.int .i64 v2, .int .i64 h2, .int .i64 e2, .int .i64 a2] 23))
  go_wp2_with fail
  refine cc.mono ?_
  clear  cc
  generalize ((w.alloc (.cells #[.int .i64 v, .int .i64 h, .int .i64 e, .int .i64 a] 23)).alloc (.cells #[.int .i64 v2, .int .i64 h2, .int .i64 e2, .int .i64 a2] 23)) = wg1 at *
  rintro _ w1 ⟨rfl, bx⟩
  simp only
  replace pc := pc.below bx
  replace pp := pp.below bx
  replace hor := hor.below bx
  replace hhr := hhr.below bx
  replace hms := hms.below bx
  replace bw := below2 bw bx
  clear bx
  have lpc := pc.lt
  have pc_0 := pc.cell 0
  have pc_1 := pc.cell 1
  have pc_2 := pc.cell 2
  have pc_3 := pc.cell 3
  have lpp := pp.lt
  have pp_0 := pp.cell 0
  have pp_1 := pp.cell 1
  have pp_2 := pp.cell 2
  have pp_3 := pp.cell 3
  simp only [List.getElem?_cons_zero, List.getElem?_cons_succ] at pc_0 pc_1 pc_2 pc_3 pp_0 pp_1 pp_2 pp_3
  have cc := few13_any hms HMC.out hmc2
  rw [HN.out] at cc
  go_wp2_with fail
  refine cc.mono ?_
  clear lpc lpp pc_0 pc_1 pc_2 pc_3 pp_0 pp_1 pp_2 pp_3 cc
  rintro _ w2 ⟨rfl, bx⟩
  simp only
  replace pc := pc.below bx
  replace pp := pp.below bx
  replace hor := hor.below bx
  replace hhr := hhr.below bx
  replace hms := hms.below bx
  replace bw := below2 bw bx
  clear bx
  cases hq : fewMs ms
  · clear hq
    go_wp2
    go_ret
    exact ⟨rfl, bw⟩
  have HS := hid (fun m hm => few_paths13 ((fewMs_sz hq).2 m hm))
  clear hq
  by_cases h300 : (300 : Int) < n
  · go_wp2
    go_ret
    exact ⟨rfl, bw⟩
  by_cases h100 : (100 : Int) < n2
  · go_wp2
    go_ret
    exact ⟨rfl, bw⟩
  have lpc := pc.lt
  have pc_0 := pc.cell 0
  have pc_1 := pc.cell 1
  have pc_2 := pc.cell 2
  have pc_3 := pc.cell 3
  have lpp := pp.lt
  have pp_0 := pp.cell 0
  have pp_1 := pp.cell 1
  have pp_2 := pp.cell 2
  have pp_3 := pp.cell 3
  simp only [List.getElem?_cons_zero, List.getElem?_cons_succ] at pc_0 pc_1 pc_2 pc_3 pp_0 pp_1 pp_2 pp_3
  have cc := follow_any (k := k) (k2 := kh) (u := (⟨v, h, e, a⟩ : Cur)) (hd := hd) (own := own) au hms HMC.out hmc2 HS.out HCV.out HHL.out hhr hhn HOL.out hor hon
  rw [HN.out] at cc
  go_wp2_with fail
  refine cc.mono ?_
  clear lpc lpp pc_0 pc_1 pc_2 pc_3 pp_0 pp_1 pp_2 pp_3 cc
  rintro _ w3 ⟨⟨x1, x2, x3, x4⟩, kf, nf, rfl, hf, bx⟩
  simp only
  replace pc := pc.below bx
  replace pp := pp.below bx
  replace hor := hor.below bx
  replace hhr := hhr.below bx
  replace hms := hms.below bx
  replace bw := below2 bw bx
  clear bx
  have HF := hid hf
  clear hf
  have lpc := pc.lt
  have pc_0 := pc.cell 0
  have pc_1 := pc.cell 1
  have pc_2 := pc.cell 2
  have pc_3 := pc.cell 3
  have lpp := pp.lt
  have pp_0 := pp.cell 0
  have pp_1 := pp.cell 1
  have pp_2 := pp.cell 2
  have pp_3 := pp.cell 3
  simp only [List.getElem?_cons_zero, List.getElem?_cons_succ] at pc_0 pc_1 pc_2 pc_3 pp_0 pp_1 pp_2 pp_3
  have bx := hal w3 (.cells #[.int .i64 x1, .int .i64 x2, .int .i64 x3, .int .i64 x4] 23)
  have px := Blk.new w3 [.int .i64 x1, .int .i64 x2, .int .i64 x3, .int .i64 x4] 23
  replace pc := pc.below bx
  replace pp := pp.below bx
  replace hor := hor.below bx
  replace hhr := hhr.below bx
  replace hms := hms.below bx
  replace bw := below2 bw bx
  clear bx
  have cc := rfollow_any (k := k) (k2 := kh) (u := (⟨v, h, e, a⟩ : Cur)) (hd := hd) (own := own) au hms HMC.out hmc2 HS.out HCV.out HHL.out hhr hhn HOL.out hor hon
  rw [HN.out] at cc
  go_wp2_with fail
  refine cc.mono ?_
  clear lpc lpp pc_0 pc_1 pc_2 pc_3 pp_0 pp_1 pp_2 pp_3 cc
  generalize (w3.alloc (.cells #[.int .i64 x1, .int .i64 x2, .int .i64 x3, .int .i64 x4] 23)) = wg4 at *
  rintro _ w4 ⟨y, m, f, rfl, hg, bx⟩
  simp only
  replace pc := pc.below bx
  replace pp := pp.below bx
  replace px := px.below bx
  replace hor := hor.below bx
  replace hhr := hhr.below bx
  replace hms := hms.below bx
  replace bw := below2 bw bx
  clear bx
  obtain ⟨rfl, rfl, rfl⟩ := FolP.one hg HF.out
  clear hg HF
  by_cases h0 : N = 0
  · subst h0
    have lpc := pc.lt
    have pc_0 := pc.cell 0
    have pc_1 := pc.cell 1
    have pc_2 := pc.cell 2
    have pc_3 := pc.cell 3
    have lpp := pp.lt
    have pp_0 := pp.cell 0
    have pp_1 := pp.cell 1
    have pp_2 := pp.cell 2
    have pp_3 := pp.cell 3
    have lpx := px.lt
    have px_0 := px.cell 0
    have px_1 := px.cell 1
    have px_2 := px.cell 2
    have px_3 := px.cell 3
    simp only [List.getElem?_cons_zero, List.getElem?_cons_succ] at pc_0 pc_1 pc_2 pc_3 pp_0 pp_1 pp_2 pp_3 px_0 px_1 px_2 px_3
    have bx := hal w4 (.cells #[.int .i64 x1, .int .i64 x2, .int .i64 x3, .int .i64 x4] 23)
    have py := Blk.new w4 [.int .i64 x1, .int .i64 x2, .int .i64 x3, .int .i64 x4] 23
    replace pc := pc.below bx
    replace pp := pp.below bx
    replace px := px.below bx
    replace hor := hor.below bx
    replace hhr := hhr.below bx
    replace hms := hms.below bx
    replace bw := below2 bw bx
    clear bx
    have cc := next_any (A := none) (n := 0) (c := 0) (ps := []) (⟨v, h, e, a⟩ : Cur) au t (⟨v2, h2, e2, a2⟩ : Cur) (hp0 (w4.alloc (.cells #[.int .i64 x1, .int .i64 x2, .int .i64 x3, .int .i64 x4] 23))) rfl (Nat.le_refl 0) (by unfold maxLen; omega) (by simp) HCV.out HCE.out
    go_wp2_with fail
    refine cc.mono ?_
    clear lpc lpp lpx pc_0 pc_1 pc_2 pc_3 pp_0 pp_1 pp_2 pp_3 px_0 px_1 px_2 px_3 cc
    generalize (w4.alloc (.cells #[.int .i64 x1, .int .i64 x2, .int .i64 x3, .int .i64 x4] 23)) = wg5 at *
    rintro _ w5 ⟨A1, c1, rfl, hm1, bx, -⟩
    simp only
    replace pc := pc.below bx
    replace pp := pp.below bx
    replace px := px.below bx
    replace py := py.below bx
    replace hor := hor.below bx
    replace hhr := hhr.below bx
    replace hms := hms.below bx
    replace bw := below2 bw bx
    clear bx
    obtain ⟨MX, hMX⟩ : ∃ MX, nextA (⟨v, h, e, a⟩ : Cur) au t (⟨v2, h2, e2, a2⟩ : Cur) [] = MX := ⟨_, rfl⟩
    obtain ⟨NX, hNX⟩ : ∃ NX, nextN (⟨v, h, e, a⟩ : Cur) au t (⟨v2, h2, e2, a2⟩ : Cur) [] = NX := ⟨_, rfl⟩
    rw [hMX] at hm1 ⊢
    rw [hNX]
    have HMX := hid hMX
    have HNX := hid hNX
    clear hMX hNX
    obtain ⟨q1, q2, q3, q4, q5, q6, q7, qs⟩ := MX
    rw [show manV (⟨q1, q2, q3, q4, q5, q6, q7, qs⟩ : Man) A1 c1 = .agg #[.int .i64 q1, .int .i64 q2, .int .i64 q3, .int .i64 q4, .int .i64 q5, .int .i64 q6, .int .i64 q7, .slice A1 qs.length c1] from rfl]
    have lpc := pc.lt
    have pc_0 := pc.cell 0
    have pc_1 := pc.cell 1
    have pc_2 := pc.cell 2
    have pc_3 := pc.cell 3
    have lpp := pp.lt
    have pp_0 := pp.cell 0
    have pp_1 := pp.cell 1
    have pp_2 := pp.cell 2
    have pp_3 := pp.cell 3
    have lpx := px.lt
    have px_0 := px.cell 0
    have px_1 := px.cell 1
    have px_2 := px.cell 2
    have px_3 := px.cell 3
    have lpy := py.lt
    have py_0 := py.cell 0
    have py_1 := py.cell 1
    have py_2 := py.cell 2
    have py_3 := py.cell 3
    simp only [List.getElem?_cons_zero, List.getElem?_cons_succ] at pc_0 pc_1 pc_2 pc_3 pp_0 pp_1 pp_2 pp_3 px_0 px_1 px_2 px_3 py_0 py_1 py_2 py_3
    have bx := hal w5 (.cells #[.int .i64 q1, .int .i64 q2, .int .i64 q3, .int .i64 q4, .int .i64 q5, .int .i64 q6, .int .i64 q7, .slice A1 qs.length c1] 26)
    have pm := Blk.new w5 [.int .i64 q1, .int .i64 q2, .int .i64 q3, .int .i64 q4, .int .i64 q5, .int .i64 q6, .int .i64 q7, .slice A1 qs.length c1] 26
    replace pc := pc.below bx
    replace pp := pp.below bx
    replace px := px.below bx
    replace py := py.below bx
    replace hor := hor.below bx
    replace hhr := hhr.below bx
    replace hms := hms.below bx
    replace hm1 := hm1.below bx
    replace bw := below2 bw bx
    clear bx
    have cc := rnext_any (A := none) (n := 0) (c := 0) (ps := []) (⟨v, h, e, a⟩ : Cur) au t (⟨v2, h2, e2, a2⟩ : Cur) (hp0 (w5.alloc (.cells #[.int .i64 q1, .int .i64 q2, .int .i64 q3, .int .i64 q4, .int .i64 q5, .int .i64 q6, .int .i64 q7, .slice A1 qs.length c1] 26))) rfl (Nat.le_refl 0) (by unfold maxLen; omega) (by simp) HCV.out HCE.out
    go_wp2_with fail
    refine cc.mono ?_
    clear lpc lpp lpx lpy pc_0 pc_1 pc_2 pc_3 pp_0 pp_1 pp_2 pp_3 px_0 px_1 px_2 px_3 py_0 py_1 py_2 py_3 cc
    generalize (w5.alloc (.cells #[.int .i64 q1, .int .i64 q2, .int .i64 q3, .int .i64 q4, .int .i64 q5, .int .i64 q6, .int .i64 q7, .slice A1 qs.length c1] 26)) = wg6 at *
    rintro _ w6 ⟨A2, c2, rfl, hm2, bx⟩
    simp only
    replace pc := pc.below bx
    replace pp := pp.below bx
    replace px := px.below bx
    replace py := py.below bx
    replace pm := pm.below bx
    replace hor := hor.below bx
    replace hhr := hhr.below bx
    replace hms := hms.below bx
    replace hm1 := hm1.below bx
    replace bw := below2 bw bx
    clear bx
    rw [HMX.out] at hm2 ⊢
    rw [HNX.out]
    rw [show manV (⟨q1, q2, q3, q4, q5, q6, q7, qs⟩ : Man) A2 c2 = .agg #[.int .i64 q1, .int .i64 q2, .int .i64 q3, .int .i64 q4, .int .i64 q5, .int .i64 q6, .int .i64 q7, .slice A2 qs.length c2] from rfl]
    have lpc := pc.lt
    have pc_0 := pc.cell 0
    have pc_1 := pc.cell 1
    have pc_2 := pc.cell 2
    have pc_3 := pc.cell 3
    have lpp := pp.lt
    have pp_0 := pp.cell 0
    have pp_1 := pp.cell 1
    have pp_2 := pp.cell 2
    have pp_3 := pp.cell 3
    have lpx := px.lt
    have px_0 := px.cell 0
    have px_1 := px.cell 1
    have px_2 := px.cell 2
    have px_3 := px.cell 3
    have lpy := py.lt
    have py_0 := py.cell 0
    have py_1 := py.cell 1
    have py_2 := py.cell 2
    have py_3 := py.cell 3
    have lpm := pm.lt
    have pm_0 := pm.cell 0
    have pm_1 := pm.cell 1
    have pm_2 := pm.cell 2
    have pm_3 := pm.cell 3
    have pm_4 := pm.cell 4
    have pm_5 := pm.cell 5
    have pm_6 := pm.cell 6
    have pm_7 := pm.cell 7
    simp only [List.getElem?_cons_zero, List.getElem?_cons_succ] at pc_0 pc_1 pc_2 pc_3 pp_0 pp_1 pp_2 pp_3 px_0 px_1 px_2 px_3 py_0 py_1 py_2 py_3 pm_0 pm_1 pm_2 pm_3 pm_4 pm_5 pm_6 pm_7
    have bx := hal w6 (.cells #[.int .i64 q1, .int .i64 q2, .int .i64 q3, .int .i64 q4, .int .i64 q5, .int .i64 q6, .int .i64 q7, .slice A2 qs.length c2] 26)
    have pr := Blk.new w6 [.int .i64 q1, .int .i64 q2, .int .i64 q3, .int .i64 q4, .int .i64 q5, .int .i64 q6, .int .i64 q7, .slice A2 qs.length c2] 26
    replace pc := pc.below bx
    replace pp := pp.below bx
    replace px := px.below bx
    replace py := py.below bx
    replace pm := pm.below bx
    replace hor := hor.below bx
    replace hhr := hhr.below bx
    replace hms := hms.below bx
    replace hm1 := hm1.below bx
    replace hm2 := hm2.below bx
    replace bw := below2 bw bx
    clear bx
    have hcc := eqC x1 x2 x3 x4 x1 x2 x3 x4
    clear HMX HNX
    have cc := rsame_any hm1 hm2
    go_wp2_with fail
    refine cc.mono ?_
    clear lpc lpp lpx lpy lpm pc_0 pc_1 pc_2 pc_3 pp_0 pp_1 pp_2 pp_3 px_0 px_1 px_2 px_3 py_0 py_1 py_2 py_3 pm_0 pm_1 pm_2 pm_3 pm_4 pm_5 pm_6 pm_7 cc
    generalize (w6.alloc (.cells #[.int .i64 q1, .int .i64 q2, .int .i64 q3, .int .i64 q4, .int .i64 q5, .int .i64 q6, .int .i64 q7, .slice A2 qs.length c2] 26)) = wg7 at *
    rintro _ w7 ⟨rfl, bx⟩
    simp only
    replace pc := pc.below bx
    replace pp := pp.below bx
    replace px := px.below bx
    replace py := py.below bx
    replace pm := pm.below bx
    replace pr := pr.below bx
    replace hor := hor.below bx
    replace hhr := hhr.below bx
    replace hms := hms.below bx
    replace hm1 := hm1.below bx
    replace hm2 := hm2.below bx
    replace bw := below2 bw bx
    clear bx
    go_wp2
    go_ret
    exact ⟨rfl, bw⟩
  have hz : (0 : Int) < N := by omega
  have hjl : 0 < ms.length := by rw [HN.out]; omega
  obtain ⟨b, og, B, mc, rfl, -, -, -, -, -, -, -, m7, hmj, lb⟩ := hms.man hjl
  have hsp := HS.out _ (List.getElem_mem hjl)
  have hps := hmj.ps
  have hle := hmj.cap
  have hcm := hmj.capm
  clear hmj
  generalize ms[0] = M0 at *
  obtain ⟨g1, g2, g3, g4, g5, g6, g7, ps⟩ := M0
  dsimp only at hsp hps hle m7
  simp only [Nat.zero_mul, Nat.add_zero] at m7
  have lpc := pc.lt
  have pc_0 := pc.cell 0
  have pc_1 := pc.cell 1
  have pc_2 := pc.cell 2
  have pc_3 := pc.cell 3
  have lpp := pp.lt
  have pp_0 := pp.cell 0
  have pp_1 := pp.cell 1
  have pp_2 := pp.cell 2
  have pp_3 := pp.cell 3
  have lpx := px.lt
  have px_0 := px.cell 0
  have px_1 := px.cell 1
  have px_2 := px.cell 2
  have px_3 := px.cell 3
  simp only [List.getElem?_cons_zero, List.getElem?_cons_succ] at pc_0 pc_1 pc_2 pc_3 pp_0 pp_1 pp_2 pp_3 px_0 px_1 px_2 px_3
  have bx := hal w4 (.cells #[.int .i64 x1, .int .i64 x2, .int .i64 x3, .int .i64 x4] 23)
  have py := Blk.new w4 [.int .i64 x1, .int .i64 x2, .int .i64 x3, .int .i64 x4] 23
  replace pc := pc.below bx
  replace pp := pp.below bx
  replace px := px.below bx
  replace hor := hor.below bx
  replace hhr := hhr.below bx
  replace hms := hms.below bx
  replace hps := hps.below bx
  replace bw := below2 bw bx
  clear bx
  have cc := next_any (A := B) (n := ps.length) (c := mc) (ps := ps) (⟨v, h, e, a⟩ : Cur) au t (⟨v2, h2, e2, a2⟩ : Cur) hps rfl hle hcm hsp HCV.out HCE.out
  go_wp2_with fail
  refine cc.mono ?_
  clear lpc lpp lpx pc_0 pc_1 pc_2 pc_3 pp_0 pp_1 pp_2 pp_3 px_0 px_1 px_2 px_3 cc
  generalize (w4.alloc (.cells #[.int .i64 x1, .int .i64 x2, .int .i64 x3, .int .i64 x4] 23)) = wg5 at *
  rintro _ w5 ⟨A1, c1, rfl, hm1, bx, -⟩
  simp only
  replace pc := pc.below bx
  replace pp := pp.below bx
  replace px := px.below bx
  replace py := py.below bx
  replace hor := hor.below bx
  replace hhr := hhr.below bx
  replace hms := hms.below bx
  replace hps := hps.below bx
  replace bw := below2 bw bx
  clear bx
  obtain ⟨MX, hMX⟩ : ∃ MX, nextA (⟨v, h, e, a⟩ : Cur) au t (⟨v2, h2, e2, a2⟩ : Cur) ps = MX := ⟨_, rfl⟩
  obtain ⟨NX, hNX⟩ : ∃ NX, nextN (⟨v, h, e, a⟩ : Cur) au t (⟨v2, h2, e2, a2⟩ : Cur) ps = NX := ⟨_, rfl⟩
  rw [hMX] at hm1 ⊢
  rw [hNX]
  have HMX := hid hMX
  have HNX := hid hNX
  clear hMX hNX
  obtain ⟨q1, q2, q3, q4, q5, q6, q7, qs⟩ := MX
  rw [show manV (⟨q1, q2, q3, q4, q5, q6, q7, qs⟩ : Man) A1 c1 = .agg #[.int .i64 q1, .int .i64 q2, .int .i64 q3, .int .i64 q4, .int .i64 q5, .int .i64 q6, .int .i64 q7, .slice A1 qs.length c1] from rfl]
  have lpc := pc.lt
  have pc_0 := pc.cell 0
  have pc_1 := pc.cell 1
  have pc_2 := pc.cell 2
  have pc_3 := pc.cell 3
  have lpp := pp.lt
  have pp_0 := pp.cell 0
  have pp_1 := pp.cell 1
  have pp_2 := pp.cell 2
  have pp_3 := pp.cell 3
  have lpx := px.lt
  have px_0 := px.cell 0
  have px_1 := px.cell 1
  have px_2 := px.cell 2
  have px_3 := px.cell 3
  have lpy := py.lt
  have py_0 := py.cell 0
  have py_1 := py.cell 1
  have py_2 := py.cell 2
  have py_3 := py.cell 3
  simp only [List.getElem?_cons_zero, List.getElem?_cons_succ] at pc_0 pc_1 pc_2 pc_3 pp_0 pp_1 pp_2 pp_3 px_0 px_1 px_2 px_3 py_0 py_1 py_2 py_3
  have bx := hal w5 (.cells #[.int .i64 q1, .int .i64 q2, .int .i64 q3, .int .i64 q4, .int .i64 q5, .int .i64 q6, .int .i64 q7, .slice A1 qs.length c1] 26)
  have pm := Blk.new w5 [.int .i64 q1, .int .i64 q2, .int .i64 q3, .int .i64 q4, .int .i64 q5, .int .i64 q6, .int .i64 q7, .slice A1 qs.length c1] 26
  replace pc := pc.below bx
  replace pp := pp.below bx
  replace px := px.below bx
  replace py := py.below bx
  replace hor := hor.below bx
  replace hhr := hhr.below bx
  replace hms := hms.below bx
  replace hps := hps.below bx
  replace hm1 := hm1.below bx
  replace bw := below2 bw bx
  clear bx
  have cc := rnext_any (A := B) (n := ps.length) (c := mc) (ps := ps) (⟨v, h, e, a⟩ : Cur) au t (⟨v2, h2, e2, a2⟩ : Cur) hps rfl hle hcm hsp HCV.out HCE.out
  go_wp2_with fail
  refine cc.mono ?_
  clear lpc lpp lpx lpy pc_0 pc_1 pc_2 pc_3 pp_0 pp_1 pp_2 pp_3 px_0 px_1 px_2 px_3 py_0 py_1 py_2 py_3 cc
  generalize (w5.alloc (.cells #[.int .i64 q1, .int .i64 q2, .int .i64 q3, .int .i64 q4, .int .i64 q5, .int .i64 q6, .int .i64 q7, .slice A1 qs.length c1] 26)) = wg6 at *
  rintro _ w6 ⟨A2, c2, rfl, hm2, bx⟩
  simp only
  replace pc := pc.below bx
  replace pp := pp.below bx
  replace px := px.below bx
  replace py := py.below bx
  replace pm := pm.below bx
  replace hor := hor.below bx
  replace hhr := hhr.below bx
  replace hms := hms.below bx
  replace hps := hps.below bx
  replace hm1 := hm1.below bx
  replace bw := below2 bw bx
  clear bx
  rw [HMX.out] at hm2 ⊢
  rw [HNX.out]
  rw [show manV (⟨q1, q2, q3, q4, q5, q6, q7, qs⟩ : Man) A2 c2 = .agg #[.int .i64 q1, .int .i64 q2, .int .i64 q3, .int .i64 q4, .int .i64 q5, .int .i64 q6, .int .i64 q7, .slice A2 qs.length c2] from rfl]
  have lpc := pc.lt
  have pc_0 := pc.cell 0
  have pc_1 := pc.cell 1
  have pc_2 := pc.cell 2
  have pc_3 := pc.cell 3
  have lpp := pp.lt
  have pp_0 := pp.cell 0
  have pp_1 := pp.cell 1
  have pp_2 := pp.cell 2
  have pp_3 := pp.cell 3
  have lpx := px.lt
  have px_0 := px.cell 0
  have px_1 := px.cell 1
  have px_2 := px.cell 2
  have px_3 := px.cell 3
  have lpy := py.lt
  have py_0 := py.cell 0
  have py_1 := py.cell 1
  have py_2 := py.cell 2
  have py_3 := py.cell 3
  have lpm := pm.lt
  have pm_0 := pm.cell 0
  have pm_1 := pm.cell 1
  have pm_2 := pm.cell 2
  have pm_3 := pm.cell 3
  have pm_4 := pm.cell 4
  have pm_5 := pm.cell 5
  have pm_6 := pm.cell 6
  have pm_7 := pm.cell 7
  simp only [List.getElem?_cons_zero, List.getElem?_cons_succ] at pc_0 pc_1 pc_2 pc_3 pp_0 pp_1 pp_2 pp_3 px_0 px_1 px_2 px_3 py_0 py_1 py_2 py_3 pm_0 pm_1 pm_2 pm_3 pm_4 pm_5 pm_6 pm_7
  have bx := hal w6 (.cells #[.int .i64 q1, .int .i64 q2, .int .i64 q3, .int .i64 q4, .int .i64 q5, .int .i64 q6, .int .i64 q7, .slice A2 qs.length c2] 26)
  have pr := Blk.new w6 [.int .i64 q1, .int .i64 q2, .int .i64 q3, .int .i64 q4, .int .i64 q5, .int .i64 q6, .int .i64 q7, .slice A2 qs.length c2] 26
  replace pc := pc.below bx
  replace pp := pp.below bx
  replace px := px.below bx
  replace py := py.below bx
  replace pm := pm.below bx
  replace hor := hor.below bx
  replace hhr := hhr.below bx
  replace hms := hms.below bx
  replace hps := hps.below bx
  replace hm1 := hm1.below bx
  replace hm2 := hm2.below bx
  replace bw := below2 bw bx
  clear bx
  have hcc := eqC x1 x2 x3 x4 x1 x2 x3 x4
  clear HMX HNX
  have cc := rsame_any hm1 hm2
  go_wp2_with fail
  refine cc.mono ?_
  clear lpc lpp lpx lpy lpm pc_0 pc_1 pc_2 pc_3 pp_0 pp_1 pp_2 pp_3 px_0 px_1 px_2 px_3 py_0 py_1 py_2 py_3 pm_0 pm_1 pm_2 pm_3 pm_4 pm_5 pm_6 pm_7 cc
  generalize (w6.alloc (.cells #[.int .i64 q1, .int .i64 q2, .int .i64 q3, .int .i64 q4, .int .i64 q5, .int .i64 q6, .int .i64 q7, .slice A2 qs.length c2] 26)) = wg7 at *
  rintro _ w7 ⟨rfl, bx⟩
  simp only
  replace pc := pc.below bx
  replace pp := pp.below bx
  replace px := px.below bx
  replace py := py.below bx
  replace pm := pm.below bx
  replace pr := pr.below bx
  replace hor := hor.below bx
  replace hhr := hhr.below bx
  replace hms := hms.below bx
  replace hps := hps.below bx
  replace hm1 := hm1.below bx
  replace hm2 := hm2.below bx
  replace bw := below2 bw bx
  clear bx
  go_wp2
  go_ret
  exact ⟨rfl, bw⟩
end Go.Proofs.YteimgnmjmpeobaaDoor
