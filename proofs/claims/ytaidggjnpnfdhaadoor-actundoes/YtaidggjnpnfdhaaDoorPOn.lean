/- The text On. -/
import Derived.Test.YtaidggjnpnfdhaaDoorPOm
namespace Go.Proofs.YtaidggjnpnfdhaaDoor
open Go.RowKit

set_option maxRecDepth 20000 in
set_option maxHeartbeats 4000000 in
theorem actUndoes_walk (A : Option Addr) (ca : Nat) (t : List Fil) (B : Option Addr) (cb : Nat) (l : List Ac) (w : World) (hr : Rd w A (filV t)) (hlc : t.length ≤ ca) (hc : ca ≤ maxLen) (_ : True) (hr2 : Rd w B (actV l)) (hlc2 : l.length ≤ cb) (hc2 : cb ≤ maxLen) (_ : True) :
    Calls Tryd.prog 4 #[.slice A t.length ca, .slice B l.length cb] w fun e w' => e = .returned (.bool true) ∧ Below w.heap.size w w' := by
  generalize hl : t.length = n at *
  generalize hl2 : l.length = m at *
  have hmx : m ≤ 9223372036854775807 := by unfold maxLen at hc2; omega
  go_enter Tryd.func4, Tryd.ntmps4
  go_wp2_with fail
  refine (small11_any _).mono ?_
  rintro e w1 ⟨rfl, b1⟩
  go_wp2_with fail
  refine (few_any A n ca t _ hl (hr.below b1)).mono ?_
  rintro e wx ⟨rfl, rfl⟩
  go_wp2_with fail
  refine (fewA_any B m cb l _ hl2 (hr2.below b1) hmx).mono ?_
  rintro e wx ⟨rfl, rfl⟩
  cases hf : fewB t
  · go_wp2
    go_ret
    exact ⟨rfl, b1⟩
  cases hf2 : fewA l
  · go_wp2
    go_ret
    exact ⟨rfl, b1⟩
  have T1 := few_ft hf hl (hr.below b1) hlc hc
  have L1 := fewA_at hf2 hl2 (hr2.below b1) hlc2 hc2
  have R1 := hid (fun h => @undone t l 1048576 (by omega) h)
  have R2 := hid (fun h => @doT_right t l 1048576 h)
  have R3 := hid (fun h => @paths_sorted t l 1048576 h)
  clear hf hf2 hr hr2
  go_wp2_with fail
  refine (do_ft T1 L1 1048576).mono ?_
  rintro e w2 ⟨A2, c2, rfl, X2, -, hb2⟩
  have T2 := T1.below hb2
  have L2 := L1.below hb2
  have b2 := below2 b1 hb2
  clear T1 L1 b1 hb2
  by_cases h0 : doN t l 1048576 = 0
  · have hT := (doN_zero.1 h0).1
    have HU : Hid (∀ a ∈ undoL t l, a.1.size < 4294967281 ∧ a.2.2.size ≤ 140737488355328) := fun a ha => by
      obtain ⟨q, hq, rfl⟩ := (undo_mem hT).1 ha
      obtain ⟨a', ha', rfl⟩ := paths_mem.1 hq
      obtain ⟨e1, e2⟩ := was_sz (p := a'.1) hT
      rw [e1]
      exact ⟨(L2.sz a' ha').1, by omega⟩
    have HUL := hid (undo_len t l)
    have HB := R1.out h0
    have HB1 := hid HB.1
    have HB2 := hid HB.2
    have HF := hid (findT_in (R2.out h0))
    have HSO := hid (R3.out h0)
    have hL := L2.big
    have HLL := hid L2.len
    have hfew := (R2.out h0).few
    rw [h0]
    clear R1 R2 R3 h0 HB hT
    unfold backL at HB1 HB2
    generalize doT t l 1048576 = x at *
    go_wp2_with fail
    refine (undo_any T2 L2).mono ?_
    rintro e w3 ⟨A3, c3, rfl, o3, hb3⟩
    have T3 := T2.below hb3
    have L3 := L2.below hb3
    have X3 := X2.below hb3
    have U3 := rd_own3 rfl o3
    have b3 := below2 b2 hb3
    clear T2 L2 X2 b2 hb3 o3
    have hul : (undoL t l).length ≤ 100000 := by have := HUL.out; have := HLL.out; omega
    clear HUL HLL
    generalize undoL t l = u at *
    go_wp2_with fail
    go_loopw [10, 12] (fun v i wr => ∃ (j : Nat) (xs : List Ac), j ≤ u.length ∧ i = .int .i64 j ∧ Hid (xs = (u.take j).filter fun a => a.2.1 || inF x a.1) ∧ wr.ownsRow w3.heap.size 33 3 v xs.length (actV xs) ∧ Below w3.heap.size w3 wr) (fun _ i _ => u.length - (intOf i).toNat)
    case atStart => exact ⟨0, [], by omega, rfl, rfl, World.ownsRow_nil _ _ _ _, Below.refl _ _⟩
    case round =>
      obtain ⟨j, xs, hj, rfl, HX, o, b⟩ := hrel
      have hxl : xs.length ≤ j := by
        rw [HX.out]
        refine Nat.le_trans (List.length_filter_le _ _) ?_
        rw [List.length_take]; omega
      by_cases hju : j < u.length
      · have hz : (0 : Int) ≤ j := by omega
        have hlt : (j : Int) < u.length := by omega
        obtain ⟨g, og, rfl, x0, x1, x2, lg⟩ := (U3.below b).act hju
        have HM := hid (back_more u x j hju)
        rw [← HX.out] at HM
        clear HX
        generalize u[j] = a at *
        obtain ⟨p, q, d⟩ := a
        dsimp only at x0 x1 x2
        have hxs : xs.length ≤ 1000000 := by omega
        cases q with
        | true =>
          rw [Bool.true_or, if_pos rfl] at HM
          obtain ⟨A9, c9, w9, HRUN, o9, hb9⟩ := app_act o b.size hxs (p, true, d)
          have b9 := b.trans hb9
          clear o b hb9
          go_wp2_with (at_builtin; refine Lib.wpList_append_run _ rfl _ _ _ _ rfl _ _ rfl rfl _ _ HRUN.out ?_)
          go_roundw
          case rel => exact ⟨j + 1, xs ++ [(p, true, d)], by omega, by go_num, HM.out.symm, by simpa using o9, b9⟩
          case measure => simp [intOf]; omega
        | false =>
          rw [Bool.false_or] at HM
          have kf := find_any (X3.below b) p
          have HFp := hid (HF.out p)
          generalize findT x p.data.toList = z at *
          go_wp2_with fail
          refine kf.mono ?_
          rintro e w4 ⟨rfl, hb4⟩
          have o4 := own_below o hb4
          have b4 := b.trans (hb4.mono b.size)
          have x0 := (hb4.cell (p := ⟨g, og + j * 3, none⟩) lg).trans x0
          have x1 := (hb4.cell (p := ⟨g, og + j * 3 + 1, none⟩) lg).trans x1
          have x2 := (hb4.cell (p := ⟨g, og + j * 3 + 2, none⟩) lg).trans x2
          clear kf o b hb4
          by_cases hz0 : (0 : Int) ≤ z
          · have HM2 : Hid (xs ++ [(p, false, d)] = (u.take (j + 1)).filter fun a => a.2.1 || inF x a.1) := by
              show _ = _
              rw [HM.out, ← HFp.out, decide_eq_true hz0, if_pos rfl]
            obtain ⟨A9, c9, w9, HRUN, o9, hb9⟩ := app_act o4 b4.size hxs (p, false, d)
            have b9 := b4.trans hb9
            clear o4 b4 hb9 HM
            go_wp2_with (at_builtin; refine Lib.wpList_append_run _ rfl _ _ _ _ rfl _ _ rfl rfl _ _ HRUN.out ?_)
            go_roundw
            case rel => exact ⟨j + 1, xs ++ [(p, false, d)], by omega, by go_num, HM2, by simpa using o9, b9⟩
            case measure => simp [intOf]; omega
          · have HM2 : Hid (xs = (u.take (j + 1)).filter fun a => a.2.1 || inF x a.1) := by
              show _ = _
              rw [HM.out, ← HFp.out, decide_eq_false hz0, if_neg (by simp), List.append_nil]
            clear HM
            go_wp2
            go_roundw
            case rel => exact ⟨j + 1, xs, by omega, by go_num, HM2, o4, b4⟩
            case measure => simp [intOf]; omega
      · have HJ := hid (show j = u.length by omega)
        have hnlt : ¬ (j : Int) < u.length := by omega
        rw [HJ.out, List.take_length] at HX
        rw [← HX.out] at HB1 HB2
        have HXZ : Hid (∀ a ∈ xs, a.1.size < 4294967281 ∧ a.2.2.size ≤ 140737488355328) := fun a ha => by
          rw [HX.out] at ha
          exact HU.out a (List.mem_filter.1 ha).1
        clear HX HF HU U3
        obtain ⟨A5, c5, rfl⟩ := own_slice o
        have hcp := own_caps o
        unfold maxLen at hcp
        have K5 : At wr A5 xs.length c5 xs := ⟨rfl, rd_own3 rfl o, hcp.1, by omega, hcp.2, HXZ.out⟩
        have X5 := X3.below b
        have T5 := T3.below b
        have L5 := L3.below b
        have b5 := below2 b3 b
        clear X3 T3 L3 b b3 o hcp HXZ
        have cd := do_ft X5 K5 1048576
        rw [HB1.out, HB2.out] at cd
        clear K5 X5 HB1 HB2
        go_wp2_with fail
        refine cd.mono ?_
        rintro e w6 ⟨A6, c6, rfl, Y6, -, hb6⟩
        have T6 := T5.below hb6
        have L6 := L5.below hb6
        have b6 := below2 b5 hb6
        clear cd T5 L5 b5 hb6
        rw [hl] at Y6
        have cs := same_any Y6 T6
        rw [decide_eq_true rfl] at cs
        go_wp2_with fail
        refine cs.mono ?_
        rintro e w7 ⟨rfl, hb7⟩
        have L7 := L6.below hb7
        have b7 := below2 b6 hb7
        clear cs Y6 T6 L6 b6 hb7
        have HPZ : Hid (∀ s ∈ pathsA l, s.size < 4294967281) := fun s hs => by
          obtain ⟨a, ha, rfl⟩ := paths_mem.1 hs
          exact (L7.sz a ha).1
        have hpl : (pathsA l).length ≤ 100000 := by have := paths_len l; have := L7.len; have := L7.big; omega
        go_wp2_with fail
        refine (paths_any L7).mono ?_
        rintro e w8 ⟨C8, q8, rfl, o8, hb8⟩
        have b8 := below2 b7 hb8
        have ks := sorted_any C8 (pathsA l).length q8 (pathsA l) w8 rfl (Rd.of_own o8) (by omega) HPZ.out
        rw [HSO.out] at ks
        clear o8 L7 b7 hb8
        generalize pathsA l = P at *
        go_wp2_with fail
        refine ks.mono ?_
        rintro e w9 ⟨rfl, hb9⟩
        have b9 := below2 b8 hb9
        clear ks
        go_wp2
        go_ret
        exact ⟨rfl, b9⟩
  · have hz : ¬ ((doN t l 1048576 : Nat) : Int) = 0 := by omega
    clear R1 R2 R3 h0
    generalize ((doN t l 1048576 : Nat) : Int) = z at *
    go_wp2
    go_ret
    exact ⟨rfl, b2⟩
end Go.Proofs.YtaidggjnpnfdhaaDoor
