/- The text Ex. -/
import Derived.Test.YtgafjbmpaeejbaaDoorPEw
namespace Go.Proofs.YtgafjbmpaeejbaaDoor
open Go.RowKit

theorem right_bytes {m : Man} (h : RightM m) : m.pieces.length ≤ 1000 ∧ (∀ p ∈ m.pieces, p.path.size ≤ maxLen ∧ p.chunks.length ≤ 1000) ∧ ∀ p ∈ m.pieces, p.path.size < 4294967281 := by
  refine ⟨by have := h.few; omega, fun p hp => ?_, fun p hp => ?_⟩
  · have h1 := ppth_size (h.all p hp)
    have h2 := (h.all p hp).cl
    have h3 := (h.all p hp).s1
    have : cnt p.size.toNat ≤ 10 := by unfold cnt; omega
    unfold maxLen
    omega
  · have h1 := ppth_size (h.all p hp)
    omega
theorem read_cases (l : List UInt8) : (readN L0 l = 0 ∧ RightM (readA L0 l) ∧ manB (readA L0 l) = l) ∨ (readN L0 l = 4 ∧ readA L0 l = zeroM) := by
  by_cases h : readN L0 l = 0
  · obtain ⟨h1, h2⟩ := read_yes L0_ok h
    exact .inl ⟨h, h1, h2⟩
  · exact .inr (read_no h)
set_option maxHeartbeats 4000000 in
set_option maxRecDepth 20000 in
theorem recordBack_walk (A : Option Addr) (c : Nat) (m : Man) (t : ByteArray) (w : World) (hm : Mt w A c m) (_ : t.size ≤ 140737488351232) :
    Calls Tryd.prog 5 #[manV m A c, .string t] w fun e w' => e = .returned (.bool true) ∧ Below w.heap.size w w' := by
  have hal : ∀ (W : World) (o : Obj), Below W.heap.size W (W.alloc o) := fun W o => (Below.refl _ _).alloc (Nat.le_refl _) o
  obtain ⟨a1, a2, a3, a4, a5, a6, a7, ps⟩ := m
  unfold manV
  dsimp only
  go_enter Tryd.func5, Tryd.ntmps5
  have bx := hal w (.cells #[.int .i64 a1, .int .i64 a2, .int .i64 a3, .int .i64 a4, .int .i64 a5, .int .i64 a6, .int .i64 a7, .slice A ps.length c] 24)
  have pm := Blk.new w [.int .i64 a1, .int .i64 a2, .int .i64 a3, .int .i64 a4, .int .i64 a5, .int .i64 a6, .int .i64 a7, .slice A ps.length c] 24
  replace hm := hm.below bx
  have cc := small12_any (w.alloc (.cells #[.int .i64 a1, .int .i64 a2, .int .i64 a3, .int .i64 a4, .int .i64 a5, .int .i64 a6, .int .i64 a7, .slice A ps.length c] 24))
  go_wp2_with fail
  refine cc.mono ?_
  clear cc
  have b1 := bx
  clear bx
  generalize w.alloc (.cells #[.int .i64 a1, .int .i64 a2, .int .i64 a3, .int .i64 a4, .int .i64 a5, .int .i64 a6, .int .i64 a7, .slice A ps.length c] 24) = w1 at *
  rintro e w2 ⟨rfl, bx⟩
  simp only
  replace hm := hm.below bx
  replace pm := pm.below bx
  have b2 := below2 b1 bx
  clear bx b1
  have q0 := pm.cell 0
  have q1 := pm.cell 1
  have q2 := pm.cell 2
  have q3 := pm.cell 3
  have q4 := pm.cell 4
  have q5 := pm.cell 5
  have q6 := pm.cell 6
  have q7 := pm.cell 7
  simp only [List.getElem?_cons_zero, List.getElem?_cons_succ] at q0 q1 q2 q3 q4 q5 q6 q7
  have cc := fewM_any hm
  go_wp2_with fail
  refine cc.mono ?_
  clear cc q0 q1 q2 q3 q4 q5 q6 q7
  rintro e w3 ⟨rfl, bx⟩
  simp only
  replace hm := hm.below bx
  replace pm := pm.below bx
  have b3 := below2 b2 bx
  clear bx b2
  cases hq : fewM (⟨a1, a2, a3, a4, a5, a6, a7, ps⟩ : Man)
  · clear hq
    go_wp2
    go_ret
    exact ⟨rfl, b3⟩
  have hqr := few_paths hq
  have hqb := few_bytes hq
  have hqp := few_pcs hq
  have HLEN := hid (few_len hq)
  clear hq
  by_cases hmo : (6000 : Int) < t.size
  · go_wp2
    go_ret
    exact ⟨rfl, b3⟩
  obtain ⟨sB, hsB⟩ : ∃ s, toS (manB (⟨a1, a2, a3, a4, a5, a6, a7, ps⟩ : Man)) = s := ⟨_, rfl⟩
  have HSL : Hid (sB.data.toList = manB (⟨a1, a2, a3, a4, a5, a6, a7, ps⟩ : Man)) := by rw [← hsB]; rfl
  have HSZ : Hid (sB.size ≤ 1000000000) := by show _ ≤ _; rw [← hsB, man_size]; have := HLEN.out; omega
  have HT : Hid (t.size ≤ 1000000000) := by show _ ≤ _; omega
  have q0 := pm.cell 0
  have q1 := pm.cell 1
  have q2 := pm.cell 2
  have q3 := pm.cell 3
  have q4 := pm.cell 4
  have q5 := pm.cell 5
  have q6 := pm.cell 6
  have q7 := pm.cell 7
  simp only [List.getElem?_cons_zero, List.getElem?_cons_succ] at q0 q1 q2 q3 q4 q5 q6 q7
  have cc := bytes12_any hm hqp hqb
  rw [hsB] at cc
  go_wp2_with fail
  refine cc.mono ?_
  clear cc q0 q1 q2 q3 q4 q5 q6 q7
  rintro e w4 ⟨rfl, bx⟩
  simp only
  replace hm := hm.below bx
  replace pm := pm.below bx
  have b4 := below2 b3 bx
  clear bx b3
  have cc := read12_any sB (w4) HSZ.out
  rw [HSL.out] at cc
  go_wp2_with fail
  refine cc.mono ?_
  clear cc
  rintro e w5 ⟨A2, c2, rfl, mx, bx⟩
  simp only
  replace hm := hm.below bx
  replace pm := pm.below bx
  have b5 := below2 b4 bx
  clear bx b4
  have HC := hid (read_cases (manB (⟨a1, a2, a3, a4, a5, a6, a7, ps⟩ : Man)))
  have HB : Hid (manR (⟨a1, a2, a3, a4, a5, a6, a7, ps⟩ : Man) = true → readN L0 (manB (⟨a1, a2, a3, a4, a5, a6, a7, ps⟩ : Man)) = 0 ∧ readA L0 (manB (⟨a1, a2, a3, a4, a5, a6, a7, ps⟩ : Man)) = (⟨a1, a2, a3, a4, a5, a6, a7, ps⟩ : Man)) := hid fun h => read_back L0_ok ((manR_iff _).1 h)
  rw [show manV (readA L0 (manB (⟨a1, a2, a3, a4, a5, a6, a7, ps⟩ : Man))) A2 c2 = .agg #[.int .i64 (readA L0 (manB (⟨a1, a2, a3, a4, a5, a6, a7, ps⟩ : Man))).author, .int .i64 (readA L0 (manB (⟨a1, a2, a3, a4, a5, a6, a7, ps⟩ : Man))).version, .int .i64 (readA L0 (manB (⟨a1, a2, a3, a4, a5, a6, a7, ps⟩ : Man))).prev, .int .i64 (readA L0 (manB (⟨a1, a2, a3, a4, a5, a6, a7, ps⟩ : Man))).epoch, .int .i64 (readA L0 (manB (⟨a1, a2, a3, a4, a5, a6, a7, ps⟩ : Man))).next, .int .i64 (readA L0 (manB (⟨a1, a2, a3, a4, a5, a6, a7, ps⟩ : Man))).seen, .int .i64 (readA L0 (manB (⟨a1, a2, a3, a4, a5, a6, a7, ps⟩ : Man))).head, .slice A2 (readA L0 (manB (⟨a1, a2, a3, a4, a5, a6, a7, ps⟩ : Man))).pieces.length c2] from rfl]
  generalize readA L0 (manB (⟨a1, a2, a3, a4, a5, a6, a7, ps⟩ : Man)) = ra at *
  generalize readN L0 (manB (⟨a1, a2, a3, a4, a5, a6, a7, ps⟩ : Man)) = rn at *
  have bx := hal w5 (.cells #[.int .i64 (ra).author, .int .i64 (ra).version, .int .i64 (ra).prev, .int .i64 (ra).epoch, .int .i64 (ra).next, .int .i64 (ra).seen, .int .i64 (ra).head, .slice A2 (ra).pieces.length c2] 24)
  have px := Blk.new w5 [.int .i64 (ra).author, .int .i64 (ra).version, .int .i64 (ra).prev, .int .i64 (ra).epoch, .int .i64 (ra).next, .int .i64 (ra).seen, .int .i64 (ra).head, .slice A2 (ra).pieces.length c2] 24
  replace hm := hm.below bx
  replace pm := pm.below bx
  replace mx := mx.below bx
  cases hR : manR (⟨a1, a2, a3, a4, a5, a6, a7, ps⟩ : Man)
  · rcases HC.out with ⟨h1, h2, -⟩ | ⟨h1, h2⟩
    · subst h1
      have HX := hid h2
      clear h2 HC HB
      have HRF := hid hR
      clear hR
      obtain ⟨hx1, hx2, hx3⟩ := right_bytes HX.out
      have hRx := (manR_iff _).2 HX.out
      have q0 := pm.cell 0
      have q1 := pm.cell 1
      have q2 := pm.cell 2
      have q3 := pm.cell 3
      have q4 := pm.cell 4
      have q5 := pm.cell 5
      have q6 := pm.cell 6
      have q7 := pm.cell 7
      simp only [List.getElem?_cons_zero, List.getElem?_cons_succ] at q0 q1 q2 q3 q4 q5 q6 q7
      have cc := right12_any hm hqr
      rw [HRF.out] at cc
      go_wp2_with fail
      refine cc.mono ?_
      clear cc q0 q1 q2 q3 q4 q5 q6 q7
      have b6 := below2 b5 bx
      clear bx b5
      generalize hgs6 : w5.heap.size = z6 at *
      generalize w5.alloc (.cells #[.int .i64 (ra).author, .int .i64 (ra).version, .int .i64 (ra).prev, .int .i64 (ra).epoch, .int .i64 (ra).next, .int .i64 (ra).seen, .int .i64 (ra).head, .slice A2 (ra).pieces.length c2] 24) = w6 at *
      clear hgs6
      rintro e w7 ⟨rfl, bx⟩
      simp only
      replace hm := hm.below bx
      replace pm := pm.below bx
      replace mx := mx.below bx
      replace px := px.below bx
      have b7 := below2 b6 bx
      clear bx b6
      have q0 := pm.cell 0
      have q1 := pm.cell 1
      have q2 := pm.cell 2
      have q3 := pm.cell 3
      have q4 := pm.cell 4
      have q5 := pm.cell 5
      have q6 := pm.cell 6
      have q7 := pm.cell 7
      simp only [List.getElem?_cons_zero, List.getElem?_cons_succ] at q0 q1 q2 q3 q4 q5 q6 q7
      have cc := right12_any hm hqr
      rw [HRF.out] at cc
      go_wp2_with fail
      refine cc.mono ?_
      clear cc q0 q1 q2 q3 q4 q5 q6 q7
      rintro e w8 ⟨rfl, bx⟩
      simp only
      replace hm := hm.below bx
      replace pm := pm.below bx
      replace mx := mx.below bx
      replace px := px.below bx
      have b8 := below2 b7 bx
      clear bx b7
      have q0 := px.cell 0
      have q1 := px.cell 1
      have q2 := px.cell 2
      have q3 := px.cell 3
      have q4 := px.cell 4
      have q5 := px.cell 5
      have q6 := px.cell 6
      have q7 := px.cell 7
      simp only [List.getElem?_cons_zero, List.getElem?_cons_succ] at q0 q1 q2 q3 q4 q5 q6 q7
      have cc := right12_any mx hx3
      rw [hRx] at cc
      go_wp2_with fail
      refine cc.mono ?_
      clear cc q0 q1 q2 q3 q4 q5 q6 q7
      rintro e w9 ⟨rfl, bx⟩
      simp only
      replace hm := hm.below bx
      replace pm := pm.below bx
      replace mx := mx.below bx
      replace px := px.below bx
      have b9 := below2 b8 bx
      clear bx b8
      have q0 := pm.cell 0
      have q1 := pm.cell 1
      have q2 := pm.cell 2
      have q3 := pm.cell 3
      have q4 := pm.cell 4
      have q5 := pm.cell 5
      have q6 := pm.cell 6
      have q7 := pm.cell 7
      simp only [List.getElem?_cons_zero, List.getElem?_cons_succ] at q0 q1 q2 q3 q4 q5 q6 q7
      have cc := right12_any hm hqr
      rw [HRF.out] at cc
      go_wp2_with fail
      refine cc.mono ?_
      clear cc q0 q1 q2 q3 q4 q5 q6 q7
      rintro e w10 ⟨rfl, bx⟩
      simp only
      replace hm := hm.below bx
      replace pm := pm.below bx
      replace mx := mx.below bx
      replace px := px.below bx
      have b10 := below2 b9 bx
      clear bx b9
      have cc := read12_any t (w10) HT.out
      go_wp2_with fail
      refine cc.mono ?_
      clear cc
      rintro e w11 ⟨A4, c4, rfl, my, bx⟩
      simp only
      replace hm := hm.below bx
      replace pm := pm.below bx
      replace mx := mx.below bx
      replace px := px.below bx
      have b11 := below2 b10 bx
      clear bx b10
      rcases read_cases t.data.toList with ⟨g1, g2, g3⟩ | ⟨g1, g2⟩
      · rw [g1]
        have HG := hid g2
        have HT2 : Hid (toS (manB (readA L0 t.data.toList)) = t) := by show _ = _; rw [g3]; rfl
        clear g1 g2 g3
        generalize readA L0 t.data.toList = y at *
        obtain ⟨y1, y2, y3, y4, y5, y6, y7, ys⟩ := y
        unfold manV
        dsimp only
        have bx := hal w11 (.cells #[.int .i64 y1, .int .i64 y2, .int .i64 y3, .int .i64 y4, .int .i64 y5, .int .i64 y6, .int .i64 y7, .slice A4 ys.length c4] 24)
        have py := Blk.new w11 [.int .i64 y1, .int .i64 y2, .int .i64 y3, .int .i64 y4, .int .i64 y5, .int .i64 y6, .int .i64 y7, .slice A4 ys.length c4] 24
        replace hm := hm.below bx
        replace pm := pm.below bx
        replace mx := mx.below bx
        replace px := px.below bx
        replace my := my.below bx
        obtain ⟨hy1, hy2, hy3⟩ := right_bytes HG.out
        have hRt := (manR_iff _).2 HG.out
        have cc := right12_any my hy3
        rw [hRt] at cc
        go_wp2_with fail
        refine cc.mono ?_
        clear cc
        have b12 := below2 b11 bx
        clear bx b11
        generalize hgs12 : w11.heap.size = z12 at *
        generalize w11.alloc (.cells #[.int .i64 y1, .int .i64 y2, .int .i64 y3, .int .i64 y4, .int .i64 y5, .int .i64 y6, .int .i64 y7, .slice A4 ys.length c4] 24) = w12 at *
        clear hgs12
        rintro e w13 ⟨rfl, bx⟩
        simp only
        replace hm := hm.below bx
        replace pm := pm.below bx
        replace mx := mx.below bx
        replace px := px.below bx
        replace my := my.below bx
        replace py := py.below bx
        have b13 := below2 b12 bx
        clear bx b12
        have q0 := py.cell 0
        have q1 := py.cell 1
        have q2 := py.cell 2
        have q3 := py.cell 3
        have q4 := py.cell 4
        have q5 := py.cell 5
        have q6 := py.cell 6
        have q7 := py.cell 7
        simp only [List.getElem?_cons_zero, List.getElem?_cons_succ] at q0 q1 q2 q3 q4 q5 q6 q7
        have cc := bytes12_any my hy1 hy2
        rw [HT2.out] at cc
        go_wp2_with fail
        refine cc.mono ?_
        clear cc q0 q1 q2 q3 q4 q5 q6 q7
        rintro e w14 ⟨rfl, bx⟩
        simp only
        replace hm := hm.below bx
        replace pm := pm.below bx
        replace mx := mx.below bx
        replace px := px.below bx
        replace my := my.below bx
        replace py := py.below bx
        have b14 := below2 b13 bx
        clear bx b13
        go_wp2
        go_ret
        exact ⟨rfl, b14⟩
      · rw [g1, g2]
        clear g1 g2
        rw [show manV zeroM A4 c4 = .agg #[.int .i64 0, .int .i64 0, .int .i64 0, .int .i64 0, .int .i64 0, .int .i64 0, .int .i64 0, .slice A4 0 c4] from rfl]
        clear my
        have bx := hal w11 (.cells #[.int .i64 0, .int .i64 0, .int .i64 0, .int .i64 0, .int .i64 0, .int .i64 0, .int .i64 0, .slice A4 0 c4] 24)
        have py := Blk.new w11 [.int .i64 0, .int .i64 0, .int .i64 0, .int .i64 0, .int .i64 0, .int .i64 0, .int .i64 0, .slice A4 0 c4] 24
        replace hm := hm.below bx
        replace pm := pm.below bx
        replace mx := mx.below bx
        replace px := px.below bx
        have bz := below2 b11 bx
        go_wp2
        go_ret
        exact ⟨rfl, bz⟩
    · subst h1
      clear h2 HC HB
      have HRF := hid hR
      clear hR
      have q0 := pm.cell 0
      have q1 := pm.cell 1
      have q2 := pm.cell 2
      have q3 := pm.cell 3
      have q4 := pm.cell 4
      have q5 := pm.cell 5
      have q6 := pm.cell 6
      have q7 := pm.cell 7
      simp only [List.getElem?_cons_zero, List.getElem?_cons_succ] at q0 q1 q2 q3 q4 q5 q6 q7
      have cc := right12_any hm hqr
      rw [HRF.out] at cc
      go_wp2_with fail
      refine cc.mono ?_
      clear cc q0 q1 q2 q3 q4 q5 q6 q7
      have b6 := below2 b5 bx
      clear bx b5
      generalize hgs6 : w5.heap.size = z6 at *
      generalize w5.alloc (.cells #[.int .i64 (ra).author, .int .i64 (ra).version, .int .i64 (ra).prev, .int .i64 (ra).epoch, .int .i64 (ra).next, .int .i64 (ra).seen, .int .i64 (ra).head, .slice A2 (ra).pieces.length c2] 24) = w6 at *
      clear hgs6
      rintro e w7 ⟨rfl, bx⟩
      simp only
      replace hm := hm.below bx
      replace pm := pm.below bx
      replace mx := mx.below bx
      replace px := px.below bx
      have b7 := below2 b6 bx
      clear bx b6
      have cc := read12_any t (w7) HT.out
      go_wp2_with fail
      refine cc.mono ?_
      clear cc
      rintro e w8 ⟨A4, c4, rfl, my, bx⟩
      simp only
      replace hm := hm.below bx
      replace pm := pm.below bx
      replace mx := mx.below bx
      replace px := px.below bx
      have b8 := below2 b7 bx
      clear bx b7
      rcases read_cases t.data.toList with ⟨g1, g2, g3⟩ | ⟨g1, g2⟩
      · rw [g1]
        have HG := hid g2
        have HT2 : Hid (toS (manB (readA L0 t.data.toList)) = t) := by show _ = _; rw [g3]; rfl
        clear g1 g2 g3
        generalize readA L0 t.data.toList = y at *
        obtain ⟨y1, y2, y3, y4, y5, y6, y7, ys⟩ := y
        unfold manV
        dsimp only
        have bx := hal w8 (.cells #[.int .i64 y1, .int .i64 y2, .int .i64 y3, .int .i64 y4, .int .i64 y5, .int .i64 y6, .int .i64 y7, .slice A4 ys.length c4] 24)
        have py := Blk.new w8 [.int .i64 y1, .int .i64 y2, .int .i64 y3, .int .i64 y4, .int .i64 y5, .int .i64 y6, .int .i64 y7, .slice A4 ys.length c4] 24
        replace hm := hm.below bx
        replace pm := pm.below bx
        replace mx := mx.below bx
        replace px := px.below bx
        replace my := my.below bx
        obtain ⟨hy1, hy2, hy3⟩ := right_bytes HG.out
        have hRt := (manR_iff _).2 HG.out
        have cc := right12_any my hy3
        rw [hRt] at cc
        go_wp2_with fail
        refine cc.mono ?_
        clear cc
        have b9 := below2 b8 bx
        clear bx b8
        generalize hgs9 : w8.heap.size = z9 at *
        generalize w8.alloc (.cells #[.int .i64 y1, .int .i64 y2, .int .i64 y3, .int .i64 y4, .int .i64 y5, .int .i64 y6, .int .i64 y7, .slice A4 ys.length c4] 24) = w9 at *
        clear hgs9
        rintro e w10 ⟨rfl, bx⟩
        simp only
        replace hm := hm.below bx
        replace pm := pm.below bx
        replace mx := mx.below bx
        replace px := px.below bx
        replace my := my.below bx
        replace py := py.below bx
        have b10 := below2 b9 bx
        clear bx b9
        have q0 := py.cell 0
        have q1 := py.cell 1
        have q2 := py.cell 2
        have q3 := py.cell 3
        have q4 := py.cell 4
        have q5 := py.cell 5
        have q6 := py.cell 6
        have q7 := py.cell 7
        simp only [List.getElem?_cons_zero, List.getElem?_cons_succ] at q0 q1 q2 q3 q4 q5 q6 q7
        have cc := bytes12_any my hy1 hy2
        rw [HT2.out] at cc
        go_wp2_with fail
        refine cc.mono ?_
        clear cc q0 q1 q2 q3 q4 q5 q6 q7
        rintro e w11 ⟨rfl, bx⟩
        simp only
        replace hm := hm.below bx
        replace pm := pm.below bx
        replace mx := mx.below bx
        replace px := px.below bx
        replace my := my.below bx
        replace py := py.below bx
        have b11 := below2 b10 bx
        clear bx b10
        go_wp2
        go_ret
        exact ⟨rfl, b11⟩
      · rw [g1, g2]
        clear g1 g2
        rw [show manV zeroM A4 c4 = .agg #[.int .i64 0, .int .i64 0, .int .i64 0, .int .i64 0, .int .i64 0, .int .i64 0, .int .i64 0, .slice A4 0 c4] from rfl]
        clear my
        have bx := hal w8 (.cells #[.int .i64 0, .int .i64 0, .int .i64 0, .int .i64 0, .int .i64 0, .int .i64 0, .int .i64 0, .slice A4 0 c4] 24)
        have py := Blk.new w8 [.int .i64 0, .int .i64 0, .int .i64 0, .int .i64 0, .int .i64 0, .int .i64 0, .int .i64 0, .slice A4 0 c4] 24
        replace hm := hm.below bx
        replace pm := pm.below bx
        replace mx := mx.below bx
        replace px := px.below bx
        have bz := below2 b8 bx
        go_wp2
        go_ret
        exact ⟨rfl, bz⟩
  · obtain ⟨h1, h2⟩ := HB.out hR
    subst h1
    subst h2
    clear HC HB
    have HRF := hid hR
    clear hR
    dsimp only at px bx pm hm mx ⊢
    have q0 := pm.cell 0
    have q1 := pm.cell 1
    have q2 := pm.cell 2
    have q3 := pm.cell 3
    have q4 := pm.cell 4
    have q5 := pm.cell 5
    have q6 := pm.cell 6
    have q7 := pm.cell 7
    simp only [List.getElem?_cons_zero, List.getElem?_cons_succ] at q0 q1 q2 q3 q4 q5 q6 q7
    have cc := right12_any hm hqr
    rw [HRF.out] at cc
    go_wp2_with fail
    refine cc.mono ?_
    clear cc q0 q1 q2 q3 q4 q5 q6 q7
    have b6 := below2 b5 bx
    clear bx b5
    generalize hgs6 : w5.heap.size = z6 at *
    generalize w5.alloc (.cells #[.int .i64 a1, .int .i64 a2, .int .i64 a3, .int .i64 a4, .int .i64 a5, .int .i64 a6, .int .i64 a7, .slice A2 ps.length c2] 24) = w6 at *
    clear hgs6
    rintro e w7 ⟨rfl, bx⟩
    simp only
    replace hm := hm.below bx
    replace pm := pm.below bx
    replace mx := mx.below bx
    replace px := px.below bx
    have b7 := below2 b6 bx
    clear bx b6
    have q0 := pm.cell 0
    have q1 := pm.cell 1
    have q2 := pm.cell 2
    have q3 := pm.cell 3
    have q4 := pm.cell 4
    have q5 := pm.cell 5
    have q6 := pm.cell 6
    have q7 := pm.cell 7
    simp only [List.getElem?_cons_zero, List.getElem?_cons_succ] at q0 q1 q2 q3 q4 q5 q6 q7
    have cc := right12_any hm hqr
    rw [HRF.out] at cc
    go_wp2_with fail
    refine cc.mono ?_
    clear cc q0 q1 q2 q3 q4 q5 q6 q7
    rintro e w8 ⟨rfl, bx⟩
    simp only
    replace hm := hm.below bx
    replace pm := pm.below bx
    replace mx := mx.below bx
    replace px := px.below bx
    have b8 := below2 b7 bx
    clear bx b7
    have x0 := px.cell 0
    have x1 := px.cell 1
    have x2 := px.cell 2
    have x3 := px.cell 3
    have x4 := px.cell 4
    have x5 := px.cell 5
    have x6 := px.cell 6
    have x7 := px.cell 7
    simp only [List.getElem?_cons_zero, List.getElem?_cons_succ] at x0 x1 x2 x3 x4 x5 x6 x7
    have q0 := pm.cell 0
    have q1 := pm.cell 1
    have q2 := pm.cell 2
    have q3 := pm.cell 3
    have q4 := pm.cell 4
    have q5 := pm.cell 5
    have q6 := pm.cell 6
    have q7 := pm.cell 7
    simp only [List.getElem?_cons_zero, List.getElem?_cons_succ] at q0 q1 q2 q3 q4 q5 q6 q7
    have cc := same12_any mx hm
    rw [decide_eq_true (rfl : (⟨a1, a2, a3, a4, a5, a6, a7, ps⟩ : Man) = (⟨a1, a2, a3, a4, a5, a6, a7, ps⟩ : Man))] at cc
    go_wp2_with fail
    refine cc.mono ?_
    clear cc x0 x1 x2 x3 x4 x5 x6 x7 q0 q1 q2 q3 q4 q5 q6 q7
    rintro e w9 ⟨rfl, bx⟩
    simp only
    replace hm := hm.below bx
    replace pm := pm.below bx
    replace mx := mx.below bx
    replace px := px.below bx
    have b9 := below2 b8 bx
    clear bx b8
    have cc := read12_any t (w9) HT.out
    go_wp2_with fail
    refine cc.mono ?_
    clear cc
    rintro e w10 ⟨A4, c4, rfl, my, bx⟩
    simp only
    replace hm := hm.below bx
    replace pm := pm.below bx
    replace mx := mx.below bx
    replace px := px.below bx
    have b10 := below2 b9 bx
    clear bx b9
    rcases read_cases t.data.toList with ⟨g1, g2, g3⟩ | ⟨g1, g2⟩
    · rw [g1]
      have HG := hid g2
      have HT2 : Hid (toS (manB (readA L0 t.data.toList)) = t) := by show _ = _; rw [g3]; rfl
      clear g1 g2 g3
      generalize readA L0 t.data.toList = y at *
      obtain ⟨y1, y2, y3, y4, y5, y6, y7, ys⟩ := y
      unfold manV
      dsimp only
      have bx := hal w10 (.cells #[.int .i64 y1, .int .i64 y2, .int .i64 y3, .int .i64 y4, .int .i64 y5, .int .i64 y6, .int .i64 y7, .slice A4 ys.length c4] 24)
      have py := Blk.new w10 [.int .i64 y1, .int .i64 y2, .int .i64 y3, .int .i64 y4, .int .i64 y5, .int .i64 y6, .int .i64 y7, .slice A4 ys.length c4] 24
      replace hm := hm.below bx
      replace pm := pm.below bx
      replace mx := mx.below bx
      replace px := px.below bx
      replace my := my.below bx
      obtain ⟨hy1, hy2, hy3⟩ := right_bytes HG.out
      have hRt := (manR_iff _).2 HG.out
      have cc := right12_any my hy3
      rw [hRt] at cc
      go_wp2_with fail
      refine cc.mono ?_
      clear cc
      have b11 := below2 b10 bx
      clear bx b10
      generalize hgs11 : w10.heap.size = z11 at *
      generalize w10.alloc (.cells #[.int .i64 y1, .int .i64 y2, .int .i64 y3, .int .i64 y4, .int .i64 y5, .int .i64 y6, .int .i64 y7, .slice A4 ys.length c4] 24) = w11 at *
      clear hgs11
      rintro e w12 ⟨rfl, bx⟩
      simp only
      replace hm := hm.below bx
      replace pm := pm.below bx
      replace mx := mx.below bx
      replace px := px.below bx
      replace my := my.below bx
      replace py := py.below bx
      have b12 := below2 b11 bx
      clear bx b11
      have q0 := py.cell 0
      have q1 := py.cell 1
      have q2 := py.cell 2
      have q3 := py.cell 3
      have q4 := py.cell 4
      have q5 := py.cell 5
      have q6 := py.cell 6
      have q7 := py.cell 7
      simp only [List.getElem?_cons_zero, List.getElem?_cons_succ] at q0 q1 q2 q3 q4 q5 q6 q7
      have cc := bytes12_any my hy1 hy2
      rw [HT2.out] at cc
      go_wp2_with fail
      refine cc.mono ?_
      clear cc q0 q1 q2 q3 q4 q5 q6 q7
      rintro e w13 ⟨rfl, bx⟩
      simp only
      replace hm := hm.below bx
      replace pm := pm.below bx
      replace mx := mx.below bx
      replace px := px.below bx
      replace my := my.below bx
      replace py := py.below bx
      have b13 := below2 b12 bx
      clear bx b12
      go_wp2
      go_ret
      exact ⟨rfl, b13⟩
    · rw [g1, g2]
      clear g1 g2
      rw [show manV zeroM A4 c4 = .agg #[.int .i64 0, .int .i64 0, .int .i64 0, .int .i64 0, .int .i64 0, .int .i64 0, .int .i64 0, .slice A4 0 c4] from rfl]
      clear my
      have bx := hal w10 (.cells #[.int .i64 0, .int .i64 0, .int .i64 0, .int .i64 0, .int .i64 0, .int .i64 0, .int .i64 0, .slice A4 0 c4] 24)
      have py := Blk.new w10 [.int .i64 0, .int .i64 0, .int .i64 0, .int .i64 0, .int .i64 0, .int .i64 0, .int .i64 0, .slice A4 0 c4] 24
      replace hm := hm.below bx
      replace pm := pm.below bx
      replace mx := mx.below bx
      replace px := px.below bx
      have bz := below2 b10 bx
      go_wp2
      go_ret
      exact ⟨rfl, bz⟩
end Go.Proofs.YtgafjbmpaeejbaaDoor
