/- The text Im. -/
import Derived.Test.YteimgnmjmpeobaaDoorQ1
namespace Go.Proofs.YteimgnmjmpeobaaDoor
open Go.RowKit

theorem own_le {own : List Int} {k b : Nat} (h1 : own.length ≤ k) (h2 : k * b ≤ reachBytes) (hb : b = 8) : own.length ≤ 9223372036854775807 := by
  subst hb
  simp only [reachBytes] at h2
  omega
set_option maxHeartbeats 8000000 in
set_option maxRecDepth 20000 in
theorem chainAccepts_walk (u : Cur) (au : Int) (A : Option Addr) (c : Nat) (m : Man) (head : Int) (O : Option Addr) (k : Nat) (own : List Int) (w : World) (hu : CurI u) (_ : (Lit.int .i64 au).wf = true) (hm : Mt w A c m) (_ : (Lit.int .i64 head).wf = true) (hor : Rd w O (own.map (Value.int .i64))) (hok : own.length ≤ k) (hkb : k * Tryd.prog.bytesOf 3 ≤ reachBytes) (_ : ∀ n ∈ own, (Lit.int .i64 n).wf = true) :
    Calls Tryd.prog 3 #[curV u, .int .i64 au, manV m A c, .int .i64 head, .slice O own.length k] w fun e w' => e = .returned (.bool true) ∧ Below w.heap.size w w' := by
  have hal : ∀ (W : World) (o : Obj), Below W.heap.size W (W.alloc o) := fun W o => (Below.refl _ _).alloc (Nat.le_refl _) o
  have hon := own_le hok hkb (by kernel_rfl)
  replace hor : Rd w O (intV own) := hor
  obtain ⟨n, hn⟩ : ∃ n, own.length = n := ⟨_, rfl⟩
  rw [hn] at hon ⊢
  have HOL := hid hn
  have HCV := hid hu.v.1
  clear hn hok hkb hu
  obtain ⟨v, h, e, a⟩ := u
  obtain ⟨a1, a2, a3, a4, a5, a6, a7, ps⟩ := m
  unfold manV
  dsimp only at HCV ⊢
  go_enter Tryd.func3, Tryd.ntmps3
  have bx := hal w (.cells #[.int .i64 v, .int .i64 h, .int .i64 e, .int .i64 a] 23)
  have pc := Blk.new w [.int .i64 v, .int .i64 h, .int .i64 e, .int .i64 a] 23
  replace hm := hm.below bx
  replace hor := hor.below bx
  have bw := bx
  clear bx
  have bx := hal (w.alloc (.cells #[.int .i64 v, .int .i64 h, .int .i64 e, .int .i64 a] 23)) (.cells #[.int .i64 a1, .int .i64 a2, .int .i64 a3, .int .i64 a4, .int .i64 a5, .int .i64 a6, .int .i64 a7, .slice A ps.length c] 26)
  have pm := Blk.new (w.alloc (.cells #[.int .i64 v, .int .i64 h, .int .i64 e, .int .i64 a] 23)) [.int .i64 a1, .int .i64 a2, .int .i64 a3, .int .i64 a4, .int .i64 a5, .int .i64 a6, .int .i64 a7, .slice A ps.length c] 26
  simp only [World.size_alloc] at pm
  replace pc := pc.below bx
  replace hm := hm.below bx
  replace hor := hor.below bx
  replace bw := below2 bw bx
  clear bx
  have cc := small13_any ((w.alloc (.cells #[.int .i64 v, .int .i64 h, .int .i64 e, .int .i64 a] 23)).alloc (.cells #[.int .i64 a1, .int .i64 a2, .int .i64 a3, .int .i64 a4, .int .i64 a5, .int .i64 a6, .int .i64 a7, .slice A ps.length c] 26))
  go_wp2_with fail
  refine cc.mono ?_
  clear  cc
  generalize ((w.alloc (.cells #[.int .i64 v, .int .i64 h, .int .i64 e, .int .i64 a] 23)).alloc (.cells #[.int .i64 a1, .int .i64 a2, .int .i64 a3, .int .i64 a4, .int .i64 a5, .int .i64 a6, .int .i64 a7, .slice A ps.length c] 26)) = wg1 at *
  rintro _ w1 ⟨rfl, bx⟩
  simp only
  replace pc := pc.below bx
  replace pm := pm.below bx
  replace hm := hm.below bx
  replace hor := hor.below bx
  replace bw := below2 bw bx
  clear bx
  have lpc := pc.lt
  have pc_0 := pc.cell 0
  have pc_1 := pc.cell 1
  have pc_2 := pc.cell 2
  have pc_3 := pc.cell 3
  have lpm := pm.lt
  have pm_0 := pm.cell 0
  have pm_1 := pm.cell 1
  have pm_2 := pm.cell 2
  have pm_3 := pm.cell 3
  have pm_4 := pm.cell 4
  have pm_5 := pm.cell 5
  have pm_6 := pm.cell 6
  have pm_7 := pm.cell 7
  simp only [List.getElem?_cons_zero, List.getElem?_cons_succ] at pc_0 pc_1 pc_2 pc_3 pm_0 pm_1 pm_2 pm_3 pm_4 pm_5 pm_6 pm_7
  have bx := hal w1 (.cells #[.int .i64 a1, .int .i64 a2, .int .i64 a3, .int .i64 a4, .int .i64 a5, .int .i64 a6, .int .i64 a7, .slice A ps.length c] 26)
  have pl := Blk.new w1 [.int .i64 a1, .int .i64 a2, .int .i64 a3, .int .i64 a4, .int .i64 a5, .int .i64 a6, .int .i64 a7, .slice A ps.length c] 26
  replace pc := pc.below bx
  replace pm := pm.below bx
  replace hm := hm.below bx
  replace hor := hor.below bx
  replace bw := below2 bw bx
  clear bx
  have hml := ms_of (xs := [((⟨a1, a2, a3, a4, a5, a6, a7, ps⟩ : Man), A, c)]) (Blk.rd pl) (by simpa using hm)
  have cc := few13_any (c := 1) (ms := [(⟨a1, a2, a3, a4, a5, a6, a7, ps⟩ : Man)]) hml (Nat.le_refl 1) (by unfold maxLen; omega)
  go_wp2_with fail
  refine cc.mono ?_
  clear lpc lpm pc_0 pc_1 pc_2 pc_3 pm_0 pm_1 pm_2 pm_3 pm_4 pm_5 pm_6 pm_7 cc
  generalize (w1.alloc (.cells #[.int .i64 a1, .int .i64 a2, .int .i64 a3, .int .i64 a4, .int .i64 a5, .int .i64 a6, .int .i64 a7, .slice A ps.length c] 26)) = wg2 at *
  rintro _ w2 ⟨rfl, bx⟩
  simp only
  replace pc := pc.below bx
  replace pm := pm.below bx
  replace pl := pl.below bx
  replace hm := hm.below bx
  replace hor := hor.below bx
  replace bw := below2 bw bx
  clear bx
  clear pl
  clear hml
  cases hq : fewMs [(⟨a1, a2, a3, a4, a5, a6, a7, ps⟩ : Man)]
  · clear hq
    go_wp2
    go_ret
    exact ⟨rfl, bw⟩
  have hpp := few_paths13 ((fewMs_sz hq).2 (⟨a1, a2, a3, a4, a5, a6, a7, ps⟩ : Man) List.mem_cons_self)
  clear hq
  by_cases h300 : (300 : Int) < n
  · go_wp2
    go_ret
    exact ⟨rfl, bw⟩
  have lpc := pc.lt
  have pc_0 := pc.cell 0
  have pc_1 := pc.cell 1
  have pc_2 := pc.cell 2
  have pc_3 := pc.cell 3
  have lpm := pm.lt
  have pm_0 := pm.cell 0
  have pm_1 := pm.cell 1
  have pm_2 := pm.cell 2
  have pm_3 := pm.cell 3
  have pm_4 := pm.cell 4
  have pm_5 := pm.cell 5
  have pm_6 := pm.cell 6
  have pm_7 := pm.cell 7
  simp only [List.getElem?_cons_zero, List.getElem?_cons_succ] at pc_0 pc_1 pc_2 pc_3 pm_0 pm_1 pm_2 pm_3 pm_4 pm_5 pm_6 pm_7
  have cc := accept_any (k := k) (u := (⟨v, h, e, a⟩ : Cur)) au head hm hpp HCV.out HOL.out hor hon
  go_wp2_with fail
  refine cc.mono ?_
  clear lpc lpm pc_0 pc_1 pc_2 pc_3 pm_0 pm_1 pm_2 pm_3 pm_4 pm_5 pm_6 pm_7 cc
  rintro _ w3 ⟨rfl, bx⟩
  simp only
  replace pc := pc.below bx
  replace pm := pm.below bx
  replace hm := hm.below bx
  replace hor := hor.below bx
  replace bw := below2 bw bx
  clear bx
  obtain ⟨X, hX⟩ : ∃ X, accC (⟨v, h, e, a⟩ : Cur) au (⟨a1, a2, a3, a4, a5, a6, a7, ps⟩ : Man) head own = X := ⟨_, rfl⟩
  obtain ⟨N, hN⟩ : ∃ N, accN (⟨v, h, e, a⟩ : Cur) au (⟨a1, a2, a3, a4, a5, a6, a7, ps⟩ : Man) own = N := ⟨_, rfl⟩
  obtain ⟨x1, x2, x3, x4⟩ := X
  rw [hX, hN]
  have HX := hid hX
  have HN := hid hN
  clear hX hN
  have lpc := pc.lt
  have pc_0 := pc.cell 0
  have pc_1 := pc.cell 1
  have pc_2 := pc.cell 2
  have pc_3 := pc.cell 3
  have lpm := pm.lt
  have pm_0 := pm.cell 0
  have pm_1 := pm.cell 1
  have pm_2 := pm.cell 2
  have pm_3 := pm.cell 3
  have pm_4 := pm.cell 4
  have pm_5 := pm.cell 5
  have pm_6 := pm.cell 6
  have pm_7 := pm.cell 7
  simp only [List.getElem?_cons_zero, List.getElem?_cons_succ] at pc_0 pc_1 pc_2 pc_3 pm_0 pm_1 pm_2 pm_3 pm_4 pm_5 pm_6 pm_7
  have bx := hal w3 (.cells #[.int .i64 x1, .int .i64 x2, .int .i64 x3, .int .i64 x4] 23)
  have px := Blk.new w3 [.int .i64 x1, .int .i64 x2, .int .i64 x3, .int .i64 x4] 23
  replace pc := pc.below bx
  replace pm := pm.below bx
  replace hm := hm.below bx
  replace hor := hor.below bx
  replace bw := below2 bw bx
  clear bx
  have cc := raccept_any (k := k) (u := (⟨v, h, e, a⟩ : Cur)) au head hm hpp HOL.out hor hon
  go_wp2_with fail
  refine cc.mono ?_
  clear lpc lpm pc_0 pc_1 pc_2 pc_3 pm_0 pm_1 pm_2 pm_3 pm_4 pm_5 pm_6 pm_7 cc
  generalize (w3.alloc (.cells #[.int .i64 x1, .int .i64 x2, .int .i64 x3, .int .i64 x4] 23)) = wg4 at *
  rintro _ w4 ⟨rfl, bx⟩
  simp only
  replace pc := pc.below bx
  replace pm := pm.below bx
  replace px := px.below bx
  replace hm := hm.below bx
  replace hor := hor.below bx
  replace bw := below2 bw bx
  clear bx
  rw [HX.out, HN.out]
  have lpc := pc.lt
  have pc_0 := pc.cell 0
  have pc_1 := pc.cell 1
  have pc_2 := pc.cell 2
  have pc_3 := pc.cell 3
  have lpm := pm.lt
  have pm_0 := pm.cell 0
  have pm_1 := pm.cell 1
  have pm_2 := pm.cell 2
  have pm_3 := pm.cell 3
  have pm_4 := pm.cell 4
  have pm_5 := pm.cell 5
  have pm_6 := pm.cell 6
  have pm_7 := pm.cell 7
  have lpx := px.lt
  have px_0 := px.cell 0
  have px_1 := px.cell 1
  have px_2 := px.cell 2
  have px_3 := px.cell 3
  simp only [List.getElem?_cons_zero, List.getElem?_cons_succ] at pc_0 pc_1 pc_2 pc_3 pm_0 pm_1 pm_2 pm_3 pm_4 pm_5 pm_6 pm_7 px_0 px_1 px_2 px_3
  have bx := hal w4 (.cells #[.int .i64 x1, .int .i64 x2, .int .i64 x3, .int .i64 x4] 23)
  have py := Blk.new w4 [.int .i64 x1, .int .i64 x2, .int .i64 x3, .int .i64 x4] 23
  replace pc := pc.below bx
  replace pm := pm.below bx
  replace px := px.below bx
  replace hm := hm.below bx
  replace hor := hor.below bx
  replace bw := below2 bw bx
  clear bx
  have hcc := eqC x1 x2 x3 x4 x1 x2 x3 x4
  have f1 := fatal_any N (w4.alloc (.cells #[.int .i64 x1, .int .i64 x2, .int .i64 x3, .int .i64 x4] 23))
  clear hm hor HX HN
  by_cases h11 : N = 11
  · subst h11
    go_wp2_with fail
    refine f1.mono ?_
    rintro _ _ ⟨rfl, rfl⟩
    simp only
    go_wp2
    go_ret
    exact ⟨rfl, bw⟩
  · have hb : (N == 11) = false := by simp [h11]
    have hnn : (N == N) = true := by simp
    go_wp2_with fail
    refine f1.mono ?_
    rintro _ _ ⟨rfl, rfl⟩
    simp only
    rw [decide_eq_false h11]
    go_wp2
    go_ret
    exact ⟨rfl, bw⟩
end Go.Proofs.YteimgnmjmpeobaaDoor
