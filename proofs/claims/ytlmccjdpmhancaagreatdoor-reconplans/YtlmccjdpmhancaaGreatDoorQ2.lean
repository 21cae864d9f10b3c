/- The texts Zd, Ze, in one. -/
import Derived.Test.YtlmccjdpmhancaaGreatDoorQ1
namespace Go.Proofs.YtlmccjdpmhancaaGreatDoor
open Go.RowKit

theorem getV_pl (g : Option ByteArray) : getV g = .tuple #[.string (g.getD noS), .bool g.isSome] := by cases g <;> rfl

set_option maxRecDepth 20000 in
set_option maxHeartbeats 4000000 in
theorem rplan_any {w : World} {A B : Option Addr} {n c m d : Nat} {t : List Fil} {es : List Ent} (h : Ft w A n c t) (k : Et w B m d es) (hn : n ≤ 100000) (hme : m ≤ 100000) :
    Calls Tryz.prog 19 #[.slice A n c, .slice B m d] w (PlanPost w t es) := by
  have hal : ∀ (W : World) (o : Obj), Below W.heap.size W (W.alloc o) := fun W o => (Below.refl _ _).alloc (Nat.le_refl _) o
  go_enter Tryz.func19, Tryz.ntmps19
  go_wp2_with fail
  refine (refTree h).mono ?_
  rintro e w1 ⟨rfl, b1⟩
  have h1 := h.below b1
  have k1 := k.below b1
  go_wp2_with fail
  refine (rright9_any k1).mono ?_
  rintro e w2 ⟨rfl, hb2⟩
  have b2 := below2 b1 hb2
  have h2 := h1.below hb2
  have k2 := k1.below hb2
  clear hb2 b1 h1 k1 h k
  cases hR : treeR t with
  | false =>
    have HN : Hid ((treeR t && archR es) = false) := by show _ = _; rw [hR]; rfl
    clear hR
    go_wp2
    exact bodyPost_ret (v := .tuple #[.slice none 0 0, .int .i64 1]) (by simp [results, Tryz.results19, go_sem]) rfl (plan_err HN.out b2)
  | true =>
    cases hR2 : archR es with
    | false =>
      have HN : Hid ((treeR t && archR es) = false) := by show _ = _; rw [hR, hR2]; rfl
      clear hR hR2
      go_wp2
      exact bodyPost_ret (v := .tuple #[.slice none 0 0, .int .i64 1]) (by simp [results, Tryz.results19, go_sem]) rfl (plan_err HN.out b2)
    | true =>
      have HN : Hid (planN t es = 0) := by show _ = _; unfold planN; rw [hR, hR2]; rfl
      have HA : Hid (planA t es = planL t (treeE es)) := by show _ = _; unfold planA; rw [HN.out, if_pos rfl]
      have hfl : (treeE es).length ≤ m := by rw [treeE, hR2, if_pos rfl, ← k2.len]; exact filesOf_len es
      have hm : m ≤ 100000 := hme
      have HRT := hid ((treeR_iff t).1 hR)
      have HRU : Hid (RightT (treeE es)) := by
        have := ((archR_iff es).1 hR2).tree
        show RightT _
        rw [treeE, hR2, if_pos rfl]
        exact (treeR_iff _).1 this
      clear hR hR2
      go_wp2_with fail
      refine (rtree9_any k2).mono ?_
      rintro e w3 ⟨U, du, rfl, u3, hb3⟩
      have b3 := below2 b2 hb3
      have h3 := h2.below hb3
      clear hb3 b2 h2 k2
      generalize treeE es = u at *
      have HL := hid h3.len
      have HSZ := hid h3.sz
      have HW := hid b3.size
      go_wp2_with fail
      go_loopw [9, 10] (fun v i wr => ∃ j : Nat, j ≤ n ∧ i = .int .i64 j ∧ wr.ownsRow w3.heap.size 55 3 v (dropsL (t.take j) u).length (actV (dropsL (t.take j) u)) ∧ Below w3.heap.size w3 wr) (fun _ i _ => n - (intOf i).toNat)
      case atStart => exact ⟨0, by omega, rfl, World.ownsRow_nil _ _ _ _, Below.refl _ _⟩
      case round =>
        obtain ⟨j, hj, rfl, o, b⟩ := hrel
        by_cases hjn : j < n
        · have hjl : j < t.length := by rw [HL.out]; exact hjn
          have hz : (0 : Int) ≤ j := by omega
          have hlt : (j : Int) < n := by omega
          obtain ⟨g, og, rfl, x1, x2, -⟩ := (h3.rd.below b).fil hjl
          have lg := World.block_lt_of_cell? _ _ x1
          have HT := hid (drops_more t u j hjl)
          have HGI := hid (gT_in HRU.out t[j].1)
          have hdl : (dropsL (t.take j) u).length ≤ 100000 := by have := drops_len (t.take j) u; rw [List.length_take] at this; omega
          have cc := refGet (u3.below b) t[j].1
          rw [getV_pl] at cc
          generalize dropsL (t.take j) u = out at *
          generalize t[j] = f at *
          generalize getT u f.1.data.toList = gg at *
          go_wp2_with fail
          refine cc.mono ?_
          rintro e w4 ⟨rfl, hb4⟩
          clear cc
          have o4 := own_below o hb4
          have b4 := b.trans (hb4.mono b.size)
          have y1 := (hb4.cell (p := ⟨g, og + j * 2, none⟩) lg).trans x1
          clear o b hb4 x1 x2
          cases hq : gg.isSome with
          | true =>
            have HT2 : Hid (dropsL (t.take (j + 1)) u = out) := by show _ = _; rw [HT.out, show (u.any fun g => decide (g.1 = f.1)) = true from HGI.out.symm.trans hq]; simp
            clear HT hq HGI
            go_wp2
            go_roundw
            case rel => exact ⟨j + 1, by omega, by go_num, by rw [HT2.out]; exact o4, b4⟩
            case measure => simp [intOf]; omega
          | false =>
            have HT2 : Hid (dropsL (t.take (j + 1)) u = out ++ [(f.1, false, noS)]) := by show _ = _; rw [HT.out, show (u.any fun g => decide (g.1 = f.1)) = false from HGI.out.symm.trans hq]; simp
            clear HT hq HGI
            obtain ⟨A6, c6, w6, HRUN, o6, e6⟩ := app_act o4 b4.size (by omega) (f.1, false, noS)
            have b6 := b4.trans e6
            clear o4 b4 e6
            go_wp2_with (at_builtin; refine Lib.wpList_append_run _ rfl _ _ _ _ rfl _ _ rfl rfl _ _ HRUN.out ?_)
            go_roundw
            case rel => exact ⟨j + 1, by omega, by go_num, by rw [HT2.out]; simpa using o6, b6⟩
            case measure => simp [intOf]; omega
        · have HE := hid (show j = n by omega)
          have hnlt : ¬ (j : Int) < n := by omega
          rw [HE.out, ← HL.out, List.take_length] at o
          have hdl : (dropsL t u).length ≤ 100000 := by have := drops_len t u; rw [HL.out] at this; omega
          have HA2 : Hid (planL t u = dropsL t u ++ putsL t u) := rfl
          obtain ⟨W1, rfl⟩ : ∃ W1, W1 = wr := ⟨_, rfl⟩
          generalize dropsL t u = ds at *
          go_wp2_with fail
          go_loopw [9, 13] (fun v i wr => ∃ k : Nat, k ≤ u.length ∧ i = .int .i64 k ∧ wr.ownsRow w3.heap.size 55 3 v (ds ++ putsL t (u.take k)).length (actV (ds ++ putsL t (u.take k))) ∧ Below w3.heap.size w3 wr) (fun _ i _ => u.length - (intOf i).toNat)
          case atStart => exact ⟨0, by omega, rfl, by rw [List.take_zero, show putsL t [] = [] from rfl, List.append_nil]; exact o, b⟩
          case round =>
            clear o b
            obtain ⟨k, hk, rfl, o, b⟩ := hrel
            by_cases hkn : k < u.length
            · have hz : (0 : Int) ≤ k := by omega
              have hlt : (k : Int) < u.length := by omega
              obtain ⟨g, og, rfl, x1, x2, -⟩ := (u3.rd.below b).fil hkn
              have lg := World.block_lt_of_cell? _ _ x1
              have HT := hid (puts_more t u k hkn)
              have hdl : (ds ++ putsL t (u.take k)).length ≤ 1000000 := by have := puts_len t (u.take k); rw [List.length_take] at this; rw [List.length_append]; omega
              have HT2 : Hid (ds ++ putsL t (u.take (k + 1)) = (ds ++ putsL t (u.take k)) ++ (if hasF t u[k] then [] else [(u[k].1, true, u[k].2)])) := by show _ = _; rw [HT.out, List.append_assoc]; rfl
              have HG := hid (gT_iff HRT.out u[k])
              have cc := refGet (h3.below b) u[k].1
              rw [getV_pl] at cc
              clear HT
              generalize ds ++ putsL t (u.take k) = out at *
              generalize u[k] = f at *
              generalize getT t f.1.data.toList = gg at *
              go_wp2_with fail
              refine cc.mono ?_
              rintro e w4 ⟨rfl, hb4⟩
              clear cc
              have o4 := own_below o hb4
              have b4 := b.trans (hb4.mono b.size)
              have y1 := (hb4.cell (p := ⟨g, og + k * 2, none⟩) lg).trans x1
              have y2 := (hb4.cell (p := ⟨g, og + k * 2 + 1, none⟩) lg).trans x2
              clear o b hb4 x1 x2
              cases hs : gg.isSome with
              | false =>
                have HH : Hid (hasF t f = false) := not_true fun e => by rw [HG.out.2 (hasF_iff.1 e)] at hs; cases hs
                have HT3 : Hid (ds ++ putsL t (u.take (k + 1)) = out ++ [(f.1, true, f.2)]) := by show _ = _; rw [HT2.out, HH.out]; simp
                clear HT2 hs HG HH
                go_wp2_with fail
                refine wp_region_held_drew (S := fun w' => w'.cell? ⟨g, og + k * 2, none⟩ = some (.string f.1) ∧ w'.cell? ⟨g, og + k * 2 + 1, none⟩ = some (.string f.2)) (by kernel_rfl) ⟨y1, y2⟩ (fun hHeld => ?_)
                refine wpAnyH_take (i := 0) (oi := ⟨_, _, _, _, _, _⟩) (v := ?_) rfl (by kernel_rfl) (by kernel_rfl) (by kernel_rfl) (fun _ _ _ h => h) (Or.inl ⟨by rfl, ?_⟩) (by assumption) ?_
                rotate_left
                · intro w hSw; (try dsimp only at hSw); go_simp; (try (with_reducible rfl))
                try simp only [Act.put, List.setIfInBounds_toArray, List.set_cons_zero, List.set_cons_succ]
                refine wpAnyH_take (i := 1) (oi := ⟨_, _, _, _, _, _⟩) (v := ?_) rfl (by kernel_rfl) (by kernel_rfl) (by kernel_rfl) (fun _ _ _ h => h) (Or.inl ⟨by rfl, ?_⟩) (by assumption) ?_
                rotate_left
                · intro w hSw; (try dsimp only at hSw); go_simp; (try (with_reducible rfl))
                try simp only [Act.put, List.setIfInBounds_toArray, List.set_cons_zero, List.set_cons_succ]
                refine wpAnyH_take (i := 2) (oi := ⟨_, _, _, _, _, _⟩) (v := ?_) rfl (by kernel_rfl) (by kernel_rfl) (by kernel_rfl) (fun _ _ _ h => h) (Or.inl ⟨by rfl, ?_⟩) (by assumption) ?_
                rotate_left
                · intro w hSw; (try dsimp only at hSw); go_simp; (try (with_reducible rfl))
                try simp only [Act.put, List.setIfInBounds_toArray, List.set_cons_zero, List.set_cons_succ]
                refine wpAnyH_take (i := 3) (oi := ⟨_, _, _, _, _, _⟩) (v := ?_) rfl (by kernel_rfl) (by kernel_rfl) (by kernel_rfl) (fun _ _ _ h => h) (Or.inl ⟨by rfl, ?_⟩) (by assumption) ?_
                rotate_left
                · intro w hSw; (try dsimp only at hSw); go_simp; (try (with_reducible rfl))
                try simp only [Act.put, List.setIfInBounds_toArray, List.set_cons_zero, List.set_cons_succ]
                refine wpAnyH_take (i := 4) (oi := ⟨_, _, _, _, _, _⟩) (v := ?_) rfl (by kernel_rfl) (by kernel_rfl) (by kernel_rfl) (fun _ _ _ h => h) (Or.inl ⟨by rfl, ?_⟩) (by assumption) ?_
                rotate_left
                · intro w hSw; (try dsimp only at hSw); go_simp; (try (with_reducible rfl))
                try simp only [Act.put, List.setIfInBounds_toArray, List.set_cons_zero, List.set_cons_succ]
                refine wpAnyH_take (i := 5) (oi := ⟨_, _, _, _, _, _⟩) (v := ?_) rfl (by kernel_rfl) (by kernel_rfl) (by kernel_rfl) (fun _ _ _ h => h) (Or.inl ⟨by rfl, ?_⟩) (by assumption) ?_
                rotate_left
                · intro w hSw; (try dsimp only at hSw); go_simp; (try (with_reducible rfl))
                try simp only [Act.put, List.setIfInBounds_toArray, List.set_cons_zero, List.set_cons_succ]
                refine wpAnyH_take (i := 6) (oi := ⟨_, _, _, _, _, _⟩) (v := ?_) rfl (by kernel_rfl) (by kernel_rfl) (by kernel_rfl) (fun _ _ _ h => h) (Or.inl ⟨by rfl, ?_⟩) (by assumption) ?_
                rotate_left
                · intro w hSw; (try dsimp only at hSw); go_simp; (try (with_reducible rfl))
                try simp only [Act.put, List.setIfInBounds_toArray, List.set_cons_zero, List.set_cons_succ]
                refine wpAnyH_take (i := 7) (oi := ⟨_, _, _, _, _, _⟩) (v := ?_) rfl (by kernel_rfl) (by kernel_rfl) (by kernel_rfl) (fun _ _ _ h => h) (Or.inl ⟨by rfl, ?_⟩) (by assumption) ?_
                rotate_left
                · intro w hSw; (try dsimp only at hSw); go_simp; (try (with_reducible rfl))
                try simp only [Act.put, List.setIfInBounds_toArray, List.set_cons_zero, List.set_cons_succ]
                refine wpAnyH_take (i := 8) (oi := ⟨_, _, _, _, _, _⟩) (v := ?_) rfl (by kernel_rfl) (by kernel_rfl) (by kernel_rfl) (fun _ _ _ h => h) (Or.inl ⟨by rfl, ?_⟩) (by assumption) ?_
                rotate_left
                · intro w hSw; (try dsimp only at hSw); go_simp; (try (with_reducible rfl))
                try simp only [Act.put, List.setIfInBounds_toArray, List.set_cons_zero, List.set_cons_succ]
                refine wpAnyH_take (i := 9) (oi := ⟨_, _, _, _, _, _⟩) (v := ?_) rfl (by kernel_rfl) (by kernel_rfl) (by kernel_rfl) (fun _ _ _ h => h) (Or.inl ⟨by rfl, ?_⟩) (by assumption) ?_
                rotate_left
                · intro w hSw; (try dsimp only at hSw); go_simp; (try (with_reducible rfl))
                try simp only [Act.put, List.setIfInBounds_toArray, List.set_cons_zero, List.set_cons_succ]
                refine wpAnyH_take (i := 10) (oi := ⟨_, _, _, _, _, _⟩) (v := ?_) rfl (by kernel_rfl) (by kernel_rfl) (by kernel_rfl) (fun _ _ _ h => h) (Or.inl ⟨by rfl, ?_⟩) (by assumption) ?_
                rotate_left
                · intro w hSw; (try dsimp only at hSw); go_simp; (try (with_reducible rfl))
                try simp only [Act.put, List.setIfInBounds_toArray, List.set_cons_zero, List.set_cons_succ]
                refine wpAnyH_take (i := 11) (oi := ⟨_, _, _, _, _, _⟩) (v := ?_) rfl (by kernel_rfl) (by kernel_rfl) (by kernel_rfl) (fun _ _ _ h => h) (Or.inl ⟨by rfl, ?_⟩) (by assumption) ?_
                rotate_left
                · intro w hSw; (try dsimp only at hSw); go_simp; (try (with_reducible rfl))
                try simp only [Act.put, List.setIfInBounds_toArray, List.set_cons_zero, List.set_cons_succ]
                obtain ⟨A6, c6, w6, HRUN, o6, e6⟩ := app_act (W := w4.drew) (n₀ := w3.heap.size) (show w4.drew.ownsRow w3.heap.size 55 3 _ out.length (actV out) from o4) b4.size (by omega) (f.1, true, f.2)
                have hlg : g < w4.heap.size := World.block_lt_of_cell? _ _ y1
                have hgw : g < w3.heap.size := by
                  obtain ⟨g', og', e', -, -, hgw⟩ := u3.rd.fil hkn
                  injection e' with e'
                  injection e' with e1 e2
                  rw [e1]; exact hgw
                have hal : Below w4.heap.size w4 (w4.drew.alloc (.cells #[.string f.1, .bool true, .string f.2] 55)) := (show Below w4.heap.size w4 w4.drew from ⟨rfl, rfl, rfl, Nat.le_refl _, fun _ _ => rfl⟩).alloc (Nat.le_refl _) _
                have f1 := (hal.cell (p := ⟨g, og + k * 2, none⟩) hlg).trans y1
                have f3 := (hal.cell (p := ⟨g, og + k * 2 + 1, none⟩) hlg).trans y2
                refine wpAnyH_ready (rs := [12]) (by kernel_rfl) (by simp) ?_
                refine AllReadyH.cons (o := ⟨_, _, _, _, _, _⟩) rfl (fun K hK => ?_) AllReadyH.nil
                go_simp
                refine hK.out _ _ ⟨f1, f3⟩ (fun hHeld => ?_)
                clear hK K
                try simp only [Act.put, List.setIfInBounds_toArray, List.set_cons_zero, List.set_cons_succ]
                have f5 := (e6.cell (p := ⟨g, og + k * 2, none⟩) hgw).trans (show w4.drew.cell? ⟨g, og + k * 2, none⟩ = some (.string f.1) from y1)
                have f6 := (e6.cell (p := ⟨g, og + k * 2 + 1, none⟩) hgw).trans (show w4.drew.cell? ⟨g, og + k * 2 + 1, none⟩ = some (.string f.2) from y2)
                refine wpAnyH_ready (rs := [13]) (by kernel_rfl) (by simp) ?_
                refine AllReadyH.cons (o := ⟨_, _, _, _, _, _⟩) rfl (fun K hK => ?_) AllReadyH.nil
                refine stepApp2 (by rfl) (.tmp 82) (.tmp 94) 38 rfl _ _ _ rfl rfl HRUN.out ?_
                refine hK.out _ _ ⟨f5, f6⟩ (fun hHeld => ?_)
                clear hK K
                try simp only [Act.put, List.setIfInBounds_toArray, List.set_cons_zero, List.set_cons_succ]
                refine wpAnyH_take (i := 14) (oi := ⟨_, _, _, _, _, _⟩) (v := ?_) rfl (by kernel_rfl) (by kernel_rfl) (by kernel_rfl) (fun _ _ _ h => h) (Or.inl ⟨by rfl, ?_⟩) (by assumption) ?_
                rotate_left
                · intro w hSw; (try dsimp only at hSw); go_simp; (try (with_reducible rfl))
                try simp only [Act.put, List.setIfInBounds_toArray, List.set_cons_zero, List.set_cons_succ]
                refine wpAnyH_done (by kernel_rfl) ?_ _
                have b6 : Below w3.heap.size w3 w6 := b4.trans ((show Below w3.heap.size w4 w4.drew from ⟨rfl, rfl, rfl, Nat.le_refl _, fun _ _ => rfl⟩).trans e6)
                clear hHeld o4 b4 e6 f1 f3 f5 f6 hal
                go_wp2
                go_roundw
                case rel => exact ⟨k + 1, by omega, by go_num, by rw [HT3.out]; simpa using o6, b6⟩
                case measure => simp [intOf]; omega
              | true =>
                have hsq := str_eqb (gg.getD noS) f.2
                have hsn : ((gg.getD noS).toList != f.2.toList) = !decide (gg.getD noS = f.2) := by rw [bne, str_eqb]
                cases hq : decide (gg.getD noS = f.2) with
                | true =>
                  have HH : Hid (hasF t f = true) := hasF_iff.2 (HG.out.1 (by rw [← of_decide_eq_true hq]; cases gg; cases hs; rfl))
                  have HT3 : Hid (ds ++ putsL t (u.take (k + 1)) = out) := by show _ = _; rw [HT2.out, HH.out]; simp
                  rw [hq] at hsq hsn
                  clear HT2 hs hq HG HH
                  go_wp2
                  go_roundw
                  case rel => exact ⟨k + 1, by omega, by go_num, by rw [HT3.out]; exact o4, b4⟩
                  case measure => simp [intOf]; omega
                | false =>
                  have HH : Hid (hasF t f = false) := not_true fun e => by rw [HG.out.2 (hasF_iff.1 e), Option.getD_some, decide_eq_true rfl] at hq; cases hq
                  have HT3 : Hid (ds ++ putsL t (u.take (k + 1)) = out ++ [(f.1, true, f.2)]) := by show _ = _; rw [HT2.out, HH.out]; simp
                  rw [hq] at hsq hsn
                  clear HT2 hs hq HG HH
                  go_wp2_with fail
                  refine wp_region_held_drew (S := fun w' => w'.cell? ⟨g, og + k * 2, none⟩ = some (.string f.1) ∧ w'.cell? ⟨g, og + k * 2 + 1, none⟩ = some (.string f.2)) (by kernel_rfl) ⟨y1, y2⟩ (fun hHeld => ?_)
                  refine wpAnyH_take (i := 0) (oi := ⟨_, _, _, _, _, _⟩) (v := ?_) rfl (by kernel_rfl) (by kernel_rfl) (by kernel_rfl) (fun _ _ _ h => h) (Or.inl ⟨by rfl, ?_⟩) (by assumption) ?_
                  rotate_left
                  · intro w hSw; (try dsimp only at hSw); go_simp; (try (with_reducible rfl))
                  try simp only [Act.put, List.setIfInBounds_toArray, List.set_cons_zero, List.set_cons_succ]
                  refine wpAnyH_take (i := 1) (oi := ⟨_, _, _, _, _, _⟩) (v := ?_) rfl (by kernel_rfl) (by kernel_rfl) (by kernel_rfl) (fun _ _ _ h => h) (Or.inl ⟨by rfl, ?_⟩) (by assumption) ?_
                  rotate_left
                  · intro w hSw; (try dsimp only at hSw); go_simp; (try (with_reducible rfl))
                  try simp only [Act.put, List.setIfInBounds_toArray, List.set_cons_zero, List.set_cons_succ]
                  refine wpAnyH_take (i := 2) (oi := ⟨_, _, _, _, _, _⟩) (v := ?_) rfl (by kernel_rfl) (by kernel_rfl) (by kernel_rfl) (fun _ _ _ h => h) (Or.inl ⟨by rfl, ?_⟩) (by assumption) ?_
                  rotate_left
                  · intro w hSw; (try dsimp only at hSw); go_simp; (try (with_reducible rfl))
                  try simp only [Act.put, List.setIfInBounds_toArray, List.set_cons_zero, List.set_cons_succ]
                  refine wpAnyH_take (i := 3) (oi := ⟨_, _, _, _, _, _⟩) (v := ?_) rfl (by kernel_rfl) (by kernel_rfl) (by kernel_rfl) (fun _ _ _ h => h) (Or.inl ⟨by rfl, ?_⟩) (by assumption) ?_
                  rotate_left
                  · intro w hSw; (try dsimp only at hSw); go_simp; (try (with_reducible rfl))
                  try simp only [Act.put, List.setIfInBounds_toArray, List.set_cons_zero, List.set_cons_succ]
                  refine wpAnyH_take (i := 4) (oi := ⟨_, _, _, _, _, _⟩) (v := ?_) rfl (by kernel_rfl) (by kernel_rfl) (by kernel_rfl) (fun _ _ _ h => h) (Or.inl ⟨by rfl, ?_⟩) (by assumption) ?_
                  rotate_left
                  · intro w hSw; (try dsimp only at hSw); go_simp; (try (with_reducible rfl))
                  try simp only [Act.put, List.setIfInBounds_toArray, List.set_cons_zero, List.set_cons_succ]
                  refine wpAnyH_take (i := 5) (oi := ⟨_, _, _, _, _, _⟩) (v := ?_) rfl (by kernel_rfl) (by kernel_rfl) (by kernel_rfl) (fun _ _ _ h => h) (Or.inl ⟨by rfl, ?_⟩) (by assumption) ?_
                  rotate_left
                  · intro w hSw; (try dsimp only at hSw); go_simp; (try (with_reducible rfl))
                  try simp only [Act.put, List.setIfInBounds_toArray, List.set_cons_zero, List.set_cons_succ]
                  refine wpAnyH_take (i := 6) (oi := ⟨_, _, _, _, _, _⟩) (v := ?_) rfl (by kernel_rfl) (by kernel_rfl) (by kernel_rfl) (fun _ _ _ h => h) (Or.inl ⟨by rfl, ?_⟩) (by assumption) ?_
                  rotate_left
                  · intro w hSw; (try dsimp only at hSw); go_simp; (try (with_reducible rfl))
                  try simp only [Act.put, List.setIfInBounds_toArray, List.set_cons_zero, List.set_cons_succ]
                  refine wpAnyH_take (i := 7) (oi := ⟨_, _, _, _, _, _⟩) (v := ?_) rfl (by kernel_rfl) (by kernel_rfl) (by kernel_rfl) (fun _ _ _ h => h) (Or.inl ⟨by rfl, ?_⟩) (by assumption) ?_
                  rotate_left
                  · intro w hSw; (try dsimp only at hSw); go_simp; (try (with_reducible rfl))
                  try simp only [Act.put, List.setIfInBounds_toArray, List.set_cons_zero, List.set_cons_succ]
                  refine wpAnyH_take (i := 8) (oi := ⟨_, _, _, _, _, _⟩) (v := ?_) rfl (by kernel_rfl) (by kernel_rfl) (by kernel_rfl) (fun _ _ _ h => h) (Or.inl ⟨by rfl, ?_⟩) (by assumption) ?_
                  rotate_left
                  · intro w hSw; (try dsimp only at hSw); go_simp; (try (with_reducible rfl))
                  try simp only [Act.put, List.setIfInBounds_toArray, List.set_cons_zero, List.set_cons_succ]
                  refine wpAnyH_take (i := 9) (oi := ⟨_, _, _, _, _, _⟩) (v := ?_) rfl (by kernel_rfl) (by kernel_rfl) (by kernel_rfl) (fun _ _ _ h => h) (Or.inl ⟨by rfl, ?_⟩) (by assumption) ?_
                  rotate_left
                  · intro w hSw; (try dsimp only at hSw); go_simp; (try (with_reducible rfl))
                  try simp only [Act.put, List.setIfInBounds_toArray, List.set_cons_zero, List.set_cons_succ]
                  refine wpAnyH_take (i := 10) (oi := ⟨_, _, _, _, _, _⟩) (v := ?_) rfl (by kernel_rfl) (by kernel_rfl) (by kernel_rfl) (fun _ _ _ h => h) (Or.inl ⟨by rfl, ?_⟩) (by assumption) ?_
                  rotate_left
                  · intro w hSw; (try dsimp only at hSw); go_simp; (try (with_reducible rfl))
                  try simp only [Act.put, List.setIfInBounds_toArray, List.set_cons_zero, List.set_cons_succ]
                  refine wpAnyH_take (i := 11) (oi := ⟨_, _, _, _, _, _⟩) (v := ?_) rfl (by kernel_rfl) (by kernel_rfl) (by kernel_rfl) (fun _ _ _ h => h) (Or.inl ⟨by rfl, ?_⟩) (by assumption) ?_
                  rotate_left
                  · intro w hSw; (try dsimp only at hSw); go_simp; (try (with_reducible rfl))
                  try simp only [Act.put, List.setIfInBounds_toArray, List.set_cons_zero, List.set_cons_succ]
                  obtain ⟨A6, c6, w6, HRUN, o6, e6⟩ := app_act (W := w4.drew) (n₀ := w3.heap.size) (show w4.drew.ownsRow w3.heap.size 55 3 _ out.length (actV out) from o4) b4.size (by omega) (f.1, true, f.2)
                  have hlg : g < w4.heap.size := World.block_lt_of_cell? _ _ y1
                  have hgw : g < w3.heap.size := by
                    obtain ⟨g', og', e', -, -, hgw⟩ := u3.rd.fil hkn
                    injection e' with e'
                    injection e' with e1 e2
                    rw [e1]; exact hgw
                  have hal : Below w4.heap.size w4 (w4.drew.alloc (.cells #[.string f.1, .bool true, .string f.2] 55)) := (show Below w4.heap.size w4 w4.drew from ⟨rfl, rfl, rfl, Nat.le_refl _, fun _ _ => rfl⟩).alloc (Nat.le_refl _) _
                  have f1 := (hal.cell (p := ⟨g, og + k * 2, none⟩) hlg).trans y1
                  have f3 := (hal.cell (p := ⟨g, og + k * 2 + 1, none⟩) hlg).trans y2
                  refine wpAnyH_ready (rs := [12]) (by kernel_rfl) (by simp) ?_
                  refine AllReadyH.cons (o := ⟨_, _, _, _, _, _⟩) rfl (fun K hK => ?_) AllReadyH.nil
                  go_simp
                  refine hK.out _ _ ⟨f1, f3⟩ (fun hHeld => ?_)
                  clear hK K
                  try simp only [Act.put, List.setIfInBounds_toArray, List.set_cons_zero, List.set_cons_succ]
                  have f5 := (e6.cell (p := ⟨g, og + k * 2, none⟩) hgw).trans (show w4.drew.cell? ⟨g, og + k * 2, none⟩ = some (.string f.1) from y1)
                  have f6 := (e6.cell (p := ⟨g, og + k * 2 + 1, none⟩) hgw).trans (show w4.drew.cell? ⟨g, og + k * 2 + 1, none⟩ = some (.string f.2) from y2)
                  refine wpAnyH_ready (rs := [13]) (by kernel_rfl) (by simp) ?_
                  refine AllReadyH.cons (o := ⟨_, _, _, _, _, _⟩) rfl (fun K hK => ?_) AllReadyH.nil
                  refine stepApp2 (by rfl) (.tmp 82) (.tmp 94) 38 rfl _ _ _ rfl rfl HRUN.out ?_
                  refine hK.out _ _ ⟨f5, f6⟩ (fun hHeld => ?_)
                  clear hK K
                  try simp only [Act.put, List.setIfInBounds_toArray, List.set_cons_zero, List.set_cons_succ]
                  refine wpAnyH_take (i := 14) (oi := ⟨_, _, _, _, _, _⟩) (v := ?_) rfl (by kernel_rfl) (by kernel_rfl) (by kernel_rfl) (fun _ _ _ h => h) (Or.inl ⟨by rfl, ?_⟩) (by assumption) ?_
                  rotate_left
                  · intro w hSw; (try dsimp only at hSw); go_simp; (try (with_reducible rfl))
                  try simp only [Act.put, List.setIfInBounds_toArray, List.set_cons_zero, List.set_cons_succ]
                  refine wpAnyH_done (by kernel_rfl) ?_ _
                  have b6 : Below w3.heap.size w3 w6 := b4.trans ((show Below w3.heap.size w4 w4.drew from ⟨rfl, rfl, rfl, Nat.le_refl _, fun _ _ => rfl⟩).trans e6)
                  clear hHeld o4 b4 e6 f1 f3 f5 f6 hal
                  go_wp2
                  go_roundw
                  case rel => exact ⟨k + 1, by omega, by go_num, by rw [HT3.out]; simpa using o6, b6⟩
                  case measure => simp [intOf]; omega
            · have HE2 := hid (show k = u.length by omega)
              have hknl : ¬ (k : Int) < u.length := by omega
              rw [HE2.out, List.take_length, ← HA2.out, ← HA.out] at o
              obtain ⟨A5, c5, rfl⟩ := own_slice o
              have b5 := below2 b3 b
              have o5 := own_low o HW.out
              go_wp2
              refine bodyPost_ret (v := .tuple #[.slice A5 (planA t es).length c5, .int .i64 0]) (by simp [results, Tryz.results19, go_sem]) rfl ?_
              exact ⟨_, _, by rw [HN.out]; rfl, o5, b5⟩
end Go.Proofs.YtlmccjdpmhancaaGreatDoor
namespace Go.Proofs.YtlmccjdpmhancaaGreatDoor
open Go.RowKit

theorem rtickX (l r a : Int) (w : World) :
    Calls Tryz.prog 55 #[.agg #[.int .i64 l, .int .i64 r], .int .i64 a] w fun e w' => e = .returned (.agg #[.int .i64 ((tkc l r a).1 : Nat), .int .i64 ((tkc l r a).2 : Nat)]) ∧ Below w.heap.size w w' := by
  unfold tkc
  cases ho : odd a with
  | true => exact rtick_odd l r a w ho
  | false => exact rtick_even l r a w ho
theorem inB_snoc (p : ByteArray) (l : List ByteArray) (j : Nat) (h : j < l.length) : inB p (l.take (j + 1)) = (inB p (l.take j) || decide (l[j] = p)) := by
  unfold inB
  rw [List.take_add_one, List.getElem?_eq_getElem h, List.any_append]
  simp [eq_comm]
theorem blkX_cell {w : World} {g : Nat} {es : List Ent} {ex : List Value} (h : Blk w g (entV es ++ ex) 34) {i : Nat} (hi : i < es.length) :
    w.cell? ⟨g, i * 5, none⟩ = some (.string es[i].path) ∧ w.cell? ⟨g, i * 5 + 1, none⟩ = some (.bool es[i].has) ∧ w.cell? ⟨g, i * 5 + 2, none⟩ = some (.string es[i].data) ∧ w.cell? ⟨g, i * 5 + 3, none⟩ = some (.int .i64 es[i].l) ∧ w.cell? ⟨g, i * 5 + 4, none⟩ = some (.int .i64 es[i].r) := by
  have hR : Rd w (some ⟨g, 0, none⟩) (entV es) := .inr ⟨_, rfl, fun j v hv => by
    rw [Addr.add_lit, Nat.zero_add, h.cell, List.getElem?_append_left (List.getElem?_eq_some_iff.1 hv).1]; exact hv⟩
  obtain ⟨b, off, e, a0, a1, a2, a3, a4, -⟩ := hR.ent hi
  injection e with e
  injection e with e1 e2
  subst e1 e2
  simp only [Nat.zero_add] at a0 a1 a2 a3 a4
  exact ⟨a0, a1, a2, a3, a4⟩
theorem clkX_set (es : List Ent) (ex : List Value) (i : Nat) (h : i < es.length) (l r : Int) : ((entV es ++ ex).set (i * 5 + 3) (.int .i64 l)).set (i * 5 + 4) (.int .i64 r) = entV (es.set i ⟨es[i].path, es[i].has, es[i].data, l, r⟩) ++ ex := by
  rw [List.set_append_left _ _ (by rw [entV_length]; omega), List.set_append_left _ _ (by rw [List.length_set, entV_length]; omega), clk_set es i h]
theorem valX_set (es : List Ent) (ex : List Value) (i : Nat) (h : i < es.length) (b : Bool) (d : ByteArray) : ((entV es ++ ex).set (i * 5 + 1) (.bool b)).set (i * 5 + 2) (.string d) = entV (es.set i ⟨es[i].path, b, d, es[i].l, es[i].r⟩) ++ ex := by
  rw [List.set_append_left _ _ (by rw [entV_length]; omega), List.set_append_left _ _ (by rw [List.length_set, entV_length]; omega), val_set es i h]
theorem blkX_own {w : World} {g base cap : Nat} {es : List Ent} {ex : List Value} (h : Blk w g (entV es ++ ex) 34) (hb : base ≤ g) (hn : es.length ≤ cap) (hc : cap ≤ maxLen) (he : (entV es ++ ex).length = cap * 5) : w.ownsRow base 34 5 (.slice (some ⟨g, 0, none⟩) es.length cap) es.length (entV es) := by
  refine ⟨entV_length es, .inr ⟨g, cap, (entV es ++ ex).toArray, rfl, hb, h, hn, hc, by simpa using he, ?_⟩⟩
  rw [← entV_length]
  simp
/-- append([]api.Entry{}, l...), to be written on. -/
theorem app_allW {w : World} {A : Option Addr} {n c : Nat} {es : List Ent} (h : Et w A n c es) (h0 : 0 < n) :
    ∃ g c' ex w', Hid ((Builtin.append_ #[22, 22] 22 #[.slice (some ⟨w.heap.size, 0, none⟩) 0 0, .slice A n c]).run Tryz.prog (w.alloc (.cells #[] 34)) = .ok (.slice (some ⟨g, 0, none⟩) n c') w') ∧ Blk w' g (entV es ++ ex) 34 ∧ (entV es ++ ex).length = c' * 5 ∧ n ≤ c' ∧ c' ≤ maxLen ∧ w.heap.size ≤ g ∧ Below w.heap.size w w' := by
  obtain ⟨i, hi, hz0, hz1, hz2⟩ := info_parts Tryz.infoE
  have hbig := h.big
  have hl := h.len
  have hrow : (w.alloc (.cells #[] 34)).ownsRow w.heap.size 34 5 (.slice (some ⟨w.heap.size, 0, none⟩) 0 0) 0 [] := World.ownsRow_made w #[] 0 (Nat.le_refl _) (by unfold maxLen; omega) (by simp)
  have hal : Below w.heap.size w (w.alloc (.cells #[] 34)) := (Below.refl _ _).alloc (Nat.le_refl _) _
  rcases h.rd.below hal with h1 | ⟨ad, rfl, hc⟩
  · have h5 := congrArg List.length h1; rw [entV_length, List.length_nil] at h5; omega
  · obtain ⟨v', w1, h2, h3, h4, -⟩ := run_append_own (P := Tryz.prog) (w.alloc (.cells #[] 34)) w.heap.size 22 22 34 i _ 5 _ Tryz.underlying22 hi hz0 hz1 hz2 rfl (by decide) _ 0 [] hrow ad n c (entV es) (by rw [entV_length, hl]) hc (entV_one es) (by unfold maxLen; omega) (by omega) (by simp)
    rcases h3.2 with ⟨rfl, e⟩ | ⟨g, cap, cur, rfl, k1, k2, k3, k4, k5, k6⟩
    · omega
    · rw [Nat.zero_add] at k3 k6 h2
      rw [List.nil_append] at k6
      have hw : entV es ++ cur.toList.drop (n * 5) = cur.toList := by
        rw [← k6]
        exact List.take_append_drop _ _
      refine ⟨g, cap, cur.toList.drop (n * 5), w1, h2, ?_, ?_, k3, k4, k1, hal.grown h4 (by simp) fun j ej => (hrow.lt j ej).1⟩
      · rw [hw]; exact k2
      · rw [hw, Array.length_toList]; exact k5

set_option maxHeartbeats 4000000 in
set_option maxRecDepth 100000 in
theorem rsettle_any {w : World} {A B : Option Addr} {n c m d : Nat} {es fs : List Ent} (h : Et w A n c es) (k : Et w B m d fs) (p : ByteArray) (tk : Bool) (a : Int) :
    Calls Tryz.prog 21 #[.slice A n c, .slice B m d, .string p, .bool tk, .int .i64 a] w (SettlePost w es fs p tk a) := by
  have hal : ∀ (W : World) (o : Obj), Below W.heap.size W (W.alloc o) := fun W o => (Below.refl _ _).alloc (Nat.le_refl _) o
  go_enter Tryz.func21, Tryz.ntmps21
  go_wp2_with fail
  refine (rmerge_any h k).mono ?_
  rintro e w1 ⟨A1, c1, B1, d1, rfl, o1, q1, b1⟩
  have rC : Rd w1 B1 (strV (mrgC es fs)) := Rd.of_own q1
  clear o1 q1
  by_cases h0 : mrgN es fs = 0
  · have HZ := hid h0
    have HC : Hid (mrgC es fs = mC es fs) := by show _ = _; rw [mrgC, if_pos h0]
    have hR := mrg_right h0
    have HR := hid hR
    have hn : n ≤ 32 := by have := hR.1.few; rw [h.len] at this; exact this
    have hm : m ≤ 32 := by have := hR.2.few; rw [k.len] at this; exact this
    have hcl : (mC es fs).length ≤ 1000000 := by have h1 := mCp_len (mrgL es fs); have h2 := mrg_len es fs; rw [h.len, k.len] at h2; have h3 : (mC es fs).length = (mCp (mrgL es fs)).length := rfl; omega
    rw [HC.out] at rC
    rw [h0, HC.out]
    have h1 := h.below b1
    have k1 := k.below b1
    have HTK : Hid ((mC es fs).take (mC es fs).length = mC es fs) := List.take_length
    clear h0 h k hR HC
    go_wp2_with fail
    go_loop [15, 16] (fun v x => ∃ j : Nat, j ≤ (mC es fs).length ∧ x = .int .i64 j ∧ v = .bool (inB p ((mC es fs).take j))) (fun _ x => (mC es fs).length - (intOf x).toNat)
    case atStart => exact ⟨0, by omega, rfl, rfl⟩
    case round =>
      obtain ⟨j, hj, rfl, rfl⟩ := hrel
      by_cases hjn : j < (mC es fs).length
      · have hz : (0 : Int) ≤ j := by omega
        have hlt : (j : Int) < (mC es fs).length := by omega
        obtain ⟨g, og, rfl, x0, -⟩ := str_at rC hjn
        have HM := hid (inB_snoc p (mC es fs) j hjn)
        have hsq := str_eqb (mC es fs)[j] p
        generalize (mC es fs)[j] = s at *
        cases hb : inB p ((mC es fs).take j) with
        | true =>
          have HM2 : Hid (inB p ((mC es fs).take (j + 1)) = true) := by show _ = _; rw [HM.out, hb]; rfl
          clear HM hb hsq
          go_wp2
          go_round
          case rel => exact ⟨j + 1, by omega, by go_num, by rw [HM2.out]⟩
          case measure => simp [intOf]; omega
        | false =>
          cases hd : decide (s = p) with
          | true =>
            have HM2 : Hid (inB p ((mC es fs).take (j + 1)) = true) := by show _ = _; rw [HM.out, hb, hd]; rfl
            rw [hd] at hsq
            clear HM hb hd
            go_wp2
            go_round
            case rel => exact ⟨j + 1, by omega, by go_num, by rw [HM2.out]⟩
            case measure => simp [intOf]; omega
          | false =>
            have HM2 : Hid (inB p ((mC es fs).take (j + 1)) = false) := by show _ = _; rw [HM.out, hb, hd]; rfl
            rw [hd] at hsq
            clear HM hb hd
            go_wp2
            go_round
            case rel => exact ⟨j + 1, by omega, by go_num, by rw [HM2.out]⟩
            case measure => simp [intOf]; omega
      · have hjl : ¬ (j : Int) < (mC es fs).length := by omega
        obtain rfl : j = (mC es fs).length := by omega
        rw [HTK.out]
        clear HTK rC
        cases hb : inB p (mC es fs) with
        | false =>
          have HR2 := hid (setN_no (tk := tk) (a := a) HZ.out (fun hp => by rw [inB_iff.2 hp] at hb; cases hb))
          clear hb
          go_wp2
          exact bodyPost_ret (v := .tuple #[.slice none 0 0, .int .i64 3]) (by simp [results, Tryz.results21, go_sem]) rfl (settle_err 3 HR2.out (by decide) b1)
        | true =>
          have hp := inB_iff.1 hb
          obtain ⟨i, j, hi, hj, e1, e2, -, -⟩ := conf_both HR.out.1.srt HR.out.2.srt hp
          have HN := hid (setN_at (tk := tk) (a := a) HZ.out hp hi hj e1 e2)
          have HA := hid (fun h => setA_at (tk := tk) (a := a) h hi hj e1 e2)
          have HSZ := hid h1.sz
          have HSZ2 := hid k1.sz
          have e1' := hid e1
          have e2' := hid e2
          clear hp hb e1 e2
          have hiz : (0 : Int) ≤ i := by omega
          have hin : (i : Int) < n := by have := h1.len; omega
          have hjz : (0 : Int) ≤ j := by omega
          have hjm : (j : Int) < m := by have := k1.len; omega
          have hin0 : 0 < n := by omega
          go_wp2_with fail
          refine (rplace_any A n c es p w1 h1.len h1.rd (by omega)).mono ?_
          rintro e wx ⟨rfl, rfl⟩
          rw [e1'.out]
          go_wp2_with fail
          refine (rplace_any B m d fs p w1 k1.len k1.rd (by omega)).mono ?_
          rintro e wx ⟨rfl, rfl⟩
          rw [e2'.out]
          obtain ⟨g', og', rfl, d0, d1, d2, d3, d4, -⟩ := k1.rd.ent hj
          have HLN := hid h1.len
          have HPZ := hid (HSZ.out _ (List.getElem_mem hi))
          have HDZ := hid (HSZ2.out _ (List.getElem_mem hj))
          have HX : Hid (∀ z, (es.set i z).length = n) := fun z => by rw [List.length_set]; exact HLN.out
          have HEZ : Hid (∀ z : Ent, SzE z → ∀ e ∈ es.set i z, SzE e) := fun z hz e he => by
            rcases List.mem_or_eq_of_mem_set he with h | h
            · exact HSZ.out e h
            · subst h; exact hz
          have hw1 := b1.size
          generalize fs[j] = y at *
          have hO := Blk.new w1 [.string y.path, .bool y.has, .string y.data, .int .i64 y.l, .int .i64 y.r] 34
          have bU := b1.alloc b1.size (.cells #[.string y.path, .bool y.has, .string y.data, .int .i64 y.l, .int .i64 y.r] 34)
          have EU := h1.below (hal w1 (.cells #[.string y.path, .bool y.has, .string y.data, .int .i64 y.l, .int .i64 y.r] 34))
          clear h1 k1 b1
          generalize HU : w1.alloc (.cells #[.string y.path, .bool y.has, .string y.data, .int .i64 y.l, .int .i64 y.r] 34) = U at hO bU EU
          have hrU := hO.lt
          obtain ⟨g, c3, ex, w3, HRUN, P3, hcap, hnc, hcm, hgU, hb3⟩ := app_allW EU hin0
          have O3 := hO.below hb3
          have b3 := below2 bU hb3
          have hwg : w.heap.size ≤ g := by have := bU.size; omega
          have hgr : g ≠ w1.heap.size := by omega
          have hrg : w1.heap.size ≠ g := by omega
          clear EU hO bU hb3
          go_wp2_with (at_builtin; refine Lib.wpList_append_run _ rfl _ _ _ _ rfl _ _ rfl rfl _ _ HRUN.out ?_)
          clear HRUN HU d0 d1 d2 d3 d4
          generalize w1.heap.size = r at *
          have hg3 := P3.lt
          have hr3 := O3.lt
          obtain ⟨a0, a1, a2, a3, a4⟩ := blkX_cell P3 hi
          have HCS := hid (clkX_set es ex i hi)
          have HVS := hid (valX_set es ex i hi)
          have HCS2 := hid (fun z => clkX_set (es.set i z) ex i (by rw [List.length_set]; exact hi))
          have HSS : Hid (∀ z (h : i < (es.set i z).length), (es.set i z)[i] = z) := fun z h => List.getElem_set_self ..
          have HS2 : Hid (∀ z z', (es.set i z).set i z' = es.set i z') := fun z z' => List.set_set ..
          have HXL : Hid (∀ z, (entV (es.set i z) ++ ex).length = c3 * 5) := fun z => by rw [List.length_append, entV_length, List.length_set, ← entV_length, ← List.length_append]; exact hcap
          generalize es[i] = x at *
          have o3 := O3.cell 3
          have o4 := O3.cell 4
          simp only [List.getElem?_cons_zero, List.getElem?_cons_succ] at o3 o4
          have HS : Hid (∀ W, Below w3.heap.size w3 W → (fun w' => (w'.cell? ⟨g, i * 5 + 3, none⟩ = some (.int .i64 x.l) ∧ w'.cell? ⟨g, i * 5 + 4, none⟩ = some (.int .i64 x.r)) ∧ w'.cell? ⟨r, 3, none⟩ = some (.int .i64 y.l) ∧ w'.cell? ⟨r, 4, none⟩ = some (.int .i64 y.r)) W) := fun W hb => by
            dsimp only
            rw [hb.cell (p := ⟨g, i * 5 + 3, none⟩) hg3, hb.cell (p := ⟨g, i * 5 + 4, none⟩) hg3, hb.cell (p := ⟨r, 3, none⟩) hr3, hb.cell (p := ⟨r, 4, none⟩) hr3]
            exact ⟨⟨a3, a4⟩, o3, o4⟩
          clear a0 a1 a2 a3 a4 o3 o4
          have cj := rjoin_any x.l x.r y.l y.r
          have HJ : Hid (joinC x y = (((max (cl x.l) (cl y.l) : Nat) : Int), ((max (cl x.r) (cl y.r) : Nat) : Int))) := rfl
          generalize max (cl x.l) (cl y.l) = j1 at *
          generalize max (cl x.r) (cl y.r) = j2 at *
          refine wp_region_held_drew (S := fun w' => (w'.cell? ⟨g, i * 5 + 3, none⟩ = some (.int .i64 x.l) ∧ w'.cell? ⟨g, i * 5 + 4, none⟩ = some (.int .i64 x.r)) ∧ w'.cell? ⟨r, 3, none⟩ = some (.int .i64 y.l) ∧ w'.cell? ⟨r, 4, none⟩ = some (.int .i64 y.r)) (by kernel_rfl) (HS.out _ (Below.refl _ _).drew) (fun hHeld => ?_)
          refine wpAnyH_take (i := 0) (oi := ⟨_, _, _, _, _, _⟩) (v := ?_) rfl (by kernel_rfl) (by kernel_rfl) (by kernel_rfl) (fun _ _ _ h => h) (Or.inl ⟨by rfl, ?_⟩) (by assumption) ?_
          rotate_left
          · intro w hSw; (try dsimp only at hSw); go_simp; (try (with_reducible rfl))
          try simp only [Act.put, List.setIfInBounds_toArray, List.set_cons_zero, List.set_cons_succ]
          refine wpAnyH_take (i := 1) (oi := ⟨_, _, _, _, _, _⟩) (v := ?_) rfl (by kernel_rfl) (by kernel_rfl) (by kernel_rfl) (fun _ _ _ h => h) (Or.inl ⟨by rfl, ?_⟩) (by assumption) ?_
          rotate_left
          · intro w hSw; (try dsimp only at hSw); go_simp; (try (with_reducible rfl))
          try simp only [Act.put, List.setIfInBounds_toArray, List.set_cons_zero, List.set_cons_succ]
          refine wpAnyH_take (i := 2) (oi := ⟨_, _, _, _, _, _⟩) (v := ?_) rfl (by kernel_rfl) (by kernel_rfl) (by kernel_rfl) (fun _ _ _ h => h) (Or.inl ⟨by rfl, ?_⟩) (by assumption) ?_
          rotate_left
          · intro w hSw; (try dsimp only at hSw); go_simp; (try (with_reducible rfl))
          try simp only [Act.put, List.setIfInBounds_toArray, List.set_cons_zero, List.set_cons_succ]
          refine wpAnyH_take (i := 3) (oi := ⟨_, _, _, _, _, _⟩) (v := ?_) rfl (by kernel_rfl) (by kernel_rfl) (by kernel_rfl) (fun _ _ _ h => h) (Or.inl ⟨by rfl, ?_⟩) (by assumption) ?_
          rotate_left
          · intro w hSw; (try dsimp only at hSw); go_simp; (try (with_reducible rfl))
          try simp only [Act.put, List.setIfInBounds_toArray, List.set_cons_zero, List.set_cons_succ]
          refine wpAnyH_take (i := 4) (oi := ⟨_, _, _, _, _, _⟩) (v := ?_) rfl (by kernel_rfl) (by kernel_rfl) (by kernel_rfl) (fun _ _ _ h => h) (Or.inl ⟨by rfl, ?_⟩) (by assumption) ?_
          rotate_left
          · intro w hSw; (try dsimp only at hSw); go_simp; (try (with_reducible rfl))
          try simp only [Act.put, List.setIfInBounds_toArray, List.set_cons_zero, List.set_cons_succ]
          refine wpAnyH_take (i := 5) (oi := ⟨_, _, _, _, _, _⟩) (v := ?_) rfl (by kernel_rfl) (by kernel_rfl) (by kernel_rfl) (fun _ _ _ h => h) (Or.inl ⟨by rfl, ?_⟩) (by assumption) ?_
          rotate_left
          · intro w hSw; (try dsimp only at hSw); go_simp; (try (with_reducible rfl))
          try simp only [Act.put, List.setIfInBounds_toArray, List.set_cons_zero, List.set_cons_succ]
          refine wpAnyH_take (i := 6) (oi := ⟨_, _, _, _, _, _⟩) (v := ?_) rfl (by kernel_rfl) (by kernel_rfl) (by kernel_rfl) (fun _ _ _ h => h) (Or.inl ⟨by rfl, ?_⟩) (by assumption) ?_
          rotate_left
          · intro w hSw; (try dsimp only at hSw); go_simp; (try (with_reducible rfl))
          try simp only [Act.put, List.setIfInBounds_toArray, List.set_cons_zero, List.set_cons_succ]
          have q3 := (Below.refl w3.heap.size w3).drew
          generalize w3.drew = W3 at q3 hHeld ⊢
          refine wpAnyH_ready (rs := [7, 8]) (by kernel_rfl) (by simp) ?_
          refine AllReadyH.cons (o := ⟨_, _, _, _, _, _⟩) rfl (fun K hK => ?_) (AllReadyH.cons (o := ⟨_, _, _, _, _, _⟩) rfl (fun K hK => ?_) (AllReadyH.nil))
          · go_simp
            refine (cj _).mono ?_
            rintro e w5 ⟨rfl, hb5⟩
            clear hHeld
            have q5 := below2 q3 hb5
            refine hK.out _ _ (HS.out _ q5) (fun hHeld => ?_)
            clear hK K
            try simp only [Act.put, List.setIfInBounds_toArray, List.set_cons_zero, List.set_cons_succ]
            refine wpAnyH_ready (rs := [8]) (by kernel_rfl) (by simp) ?_
            refine AllReadyH.cons (o := ⟨_, _, _, _, _, _⟩) rfl (fun K hK => ?_) (AllReadyH.nil)
            go_simp
            have P5 := Blk.new w5 [.int .i64 0, .int .i64 0] 32
            have q6 := q5.alloc q5.size (.cells #[.int .i64 0, .int .i64 0] 32)
            have hs3 : w3.heap.size ≤ w5.heap.size := q5.size
            generalize w5.alloc (.cells #[.int .i64 0, .int .i64 0] 32) = W6 at P5 q6 ⊢
            generalize w5.heap.size = s at *
            refine hK.out _ _ (HS.out _ q6) (fun hHeld => ?_)
            clear hK K
            try simp only [Act.put, List.setIfInBounds_toArray, List.set_cons_zero, List.set_cons_succ]
            have u0 := P5.cell 0
            have u1 := P5.cell 1
            have n0 := P5.frozen 0
            have n1 := P5.frozen 1
            simp only [List.getElem?_cons_zero, List.getElem?_cons_succ] at u0 u1
            have J9 := (P5.set_ 0 (.int .i64 (j1 : Int))).set_ 1 (.int .i64 (j2 : Int))
            have q9 := (q6.setCell (p := ⟨s, 0, none⟩) hs3 (.int .i64 (j1 : Int))).setCell (p := ⟨s, 1, none⟩) hs3 (.int .i64 (j2 : Int))
            simp only [List.set_cons_zero, List.set_cons_succ] at J9
            refine wpAnyH_ready (rs := [9]) (by kernel_rfl) (by simp) ?_
            refine AllReadyH.cons (o := ⟨_, _, _, _, _, _⟩) rfl (fun K hK => ?_) AllReadyH.nil
            go_simp
            clear hHeld
            generalize (W6.setCell ⟨s, 0, none⟩ (.int .i64 (j1 : Int))).setCell ⟨s, 1, none⟩ (.int .i64 (j2 : Int)) = W9 at J9 q9 ⊢
            refine hK.out _ _ (HS.out _ q9) (fun hHeld => ?_)
            clear hK K u0 u1 n0 n1 P5
            try simp only [Act.put, List.setIfInBounds_toArray, List.set_cons_zero, List.set_cons_succ]
            refine wpAnyH_done (by kernel_rfl) ?_ _
            clear hHeld HS
            have P9 := P3.below q9
            have O9 := O3.below q9
            have b9 := below2 b3 q9
            have hsg : s ≠ g := by omega
            have hgs : g ≠ s := by omega
            have z0 := J9.cell 0
            have z1 := J9.cell 1
            simp only [List.getElem?_cons_zero, List.getElem?_cons_succ] at z0 z1
            clear P3 O3 b3 q9
            obtain ⟨t1, t2, ht⟩ : ∃ t1 t2, tkc (joinC x y).1 (joinC x y).2 a = (t1, t2) := ⟨_, _, rfl⟩
            have kt := rtickX (joinC x y).1 (joinC x y).2 a
            rw [ht] at kt
            have HTK : Hid (tickL (joinC x y).1 (joinC x y).2 a = ((t1 : Int), (t2 : Int))) := by show _ = _; rw [tickL_eq, ht]
            have HSE : Hid (setE x y tk a = ⟨x.path, if tk then y.has else x.has, if tk then y.data else x.data, t1, t2⟩) := by show _ = _; unfold setE; rw [HTK.out]
            rw [HTK.out] at HN
            rw [HJ.out] at kt HN
            clear ht HTK HJ
            dsimp only at kt
            go_wp2_with fail
            refine (kt _).mono ?_
            rintro e w10 ⟨rfl, hb10⟩
            have P10 := (P9.below hb10).below (hal w10 (.cells #[.int .i64 (t1 : Int), .int .i64 (t2 : Int)] 32))
            have O10 := (O9.below hb10).below (hal w10 (.cells #[.int .i64 (t1 : Int), .int .i64 (t2 : Int)] 32))
            have J10 := (J9.below hb10).below (hal w10 (.cells #[.int .i64 (t1 : Int), .int .i64 (t2 : Int)] 32))
            have bV := (below2 b9 hb10).alloc (below2 b9 hb10).size (.cells #[.int .i64 (t1 : Int), .int .i64 (t2 : Int)] 32)
            have CV := Blk.new w10 [.int .i64 (t1 : Int), .int .i64 (t2 : Int)] 32
            have hvg : w10.heap.size ≠ g := by have := (P9.below hb10).lt; omega
            clear P9 O9 J9 b9 hb10 kt z0 z1
            generalize HV : w10.alloc (.cells #[.int .i64 (t1 : Int), .int .i64 (t2 : Int)] 32) = V at P10 O10 J10 bV CV
            have z0 := J10.cell 0
            have z1 := J10.cell 1
            have v0 := CV.cell 0
            have v1 := CV.cell 1
            simp only [List.getElem?_cons_zero, List.getElem?_cons_succ] at z0 z1 v0 v1
            have hep := eqP (t1 : Int) (t2 : Int) (j1 : Int) (j2 : Int)
            by_cases hst : (t1 : Int) = j1 ∧ (t2 : Int) = j2
            · rw [decide_eq_true hst.1, decide_eq_true hst.2] at hep
              have HR2 : Hid (setN es fs p tk a = 2) := by show _ = _; rw [HN.out, if_pos (by rw [hst.1, hst.2])]
              clear HN hst
              go_wp2
              exact bodyPost_ret (v := .tuple #[.slice none 0 0, .int .i64 2]) (by simp [results, Tryz.results21, go_sem]) rfl (settle_err 2 HR2.out (by decide) bV)
            · have hstb : (decide ((t1 : Int) = j1) && decide ((t2 : Int) = j2)) = false := by by_cases h1 : (t1 : Int) = j1 <;> by_cases h2 : (t2 : Int) = j2 <;> simp [h1, h2] <;> exact hst ⟨h1, h2⟩
              rw [hstb] at hep
              have HN1 : Hid (setN es fs p tk a = fitN (es.set i (setE x y tk a))) := by show _ = _; rw [HN.out, if_neg (fun e => hst ⟨congrArg Prod.fst e, congrArg Prod.snd e⟩)]
              clear HN hst hstb
              obtain ⟨a0, a1, a2, a3, a4⟩ := blkX_cell P10 hi
              cases tk with
              | false =>
                have n3 := P10.frozen (i * 5 + 3)
                have n4 := P10.frozen (i * 5 + 4)
                have P11 := (P10.set_ (i * 5 + 3) (.int .i64 (t1 : Int))).set_ (i * 5 + 4) (.int .i64 (t2 : Int))
                have b11 := (bV.setCell (p := ⟨g, i * 5 + 3, none⟩) hwg (.int .i64 (t1 : Int))).setCell (p := ⟨g, i * 5 + 4, none⟩) hwg (.int .i64 (t2 : Int))
                rw [HCS.out] at P11
                clear P10 O10 J10 bV CV
                generalize HW : (V.setCell ⟨g, i * 5 + 3, none⟩ (.int .i64 (t1 : Int))).setCell ⟨g, i * 5 + 4, none⟩ (.int .i64 (t2 : Int)) = W11 at P11 b11
                have HL2 : Hid (es.set i (setE x y false a) = es.set i ⟨x.path, x.has, x.data, (t1 : Int), (t2 : Int)⟩) := by show _ = _; rw [HSE.out]; rfl
                have HN2 : Hid (setN es fs p false a = fitN (es.set i ⟨x.path, x.has, x.data, (t1 : Int), (t2 : Int)⟩)) := by show _ = _; rw [HN1.out, HL2.out]
                have HA2 : Hid (setN es fs p false a = 0 → setA es fs p false a = es.set i ⟨x.path, x.has, x.data, (t1 : Int), (t2 : Int)⟩) := fun h => by rw [HA.out h, HL2.out]
                have hX := HX.out ⟨x.path, x.has, x.data, (t1 : Int), (t2 : Int)⟩
                have hEZ := HEZ.out ⟨x.path, x.has, x.data, (t1 : Int), (t2 : Int)⟩ ⟨HPZ.out.1, HPZ.out.2⟩
                have hXL := HXL.out ⟨x.path, x.has, x.data, (t1 : Int), (t2 : Int)⟩
                clear HN1 HA HX HEZ HSE HL2 HSZ HSZ2 HVS HSS HS2 HXL HCS HCS2
                generalize es.set i ⟨x.path, x.has, x.data, (t1 : Int), (t2 : Int)⟩ = LL at *
                have hLL : LL.length ≤ 1000000 := by omega
                have OO := blkX_own P11 hwg (by omega) hcm hXL
                have EE := own5_et OO hLL hEZ
                rw [hX] at EE
                go_wp2_with fail
                refine (rmay_any EE).mono ?_
                rintro e wF ⟨rfl, hbF⟩
                have OF := own_below OO hbF
                have bF := below2 b11 hbF
                clear EE OO P11 b11 hbF hEZ
                rw [← HN2.out]
                by_cases h0 : setN es fs p false a = 0
                · have HZ2 := hid h0
                  have hA := HA2.out h0
                  rw [h0]
                  clear h0
                  go_wp2
                  refine bodyPost_ret (v := .tuple #[.slice (some ⟨g, 0, none⟩) n c3, .int .i64 0]) (by simp [results, Tryz.results21, go_sem]) rfl ?_
                  exact ⟨some ⟨g, 0, none⟩, c3, by rw [hA, hX, HZ2.out]; rfl, by rw [hA]; exact OF, bF⟩
                · have HZ2 := hid h0
                  have h0' : ¬ ((setN es fs p false a : Nat) : Int) = 0 := by omega
                  clear h0 HA2 HN2
                  generalize hk : setN es fs p false a = kk at *
                  go_wp2
                  exact bodyPost_ret (v := .tuple #[.slice none 0 0, .int .i64 (kk : Int)]) (by simp [results, Tryz.results21, go_sem]) rfl (settle_err kk hk HZ2.out bF)
              | true =>
                have o1 := O10.cell 1
                simp only [List.getElem?_cons_zero, List.getElem?_cons_succ] at o1
                have n1 := P10.frozen (i * 5 + 1)
                have P11 := P10.set_ (i * 5 + 1) (.bool y.has)
                have O11 := O10.other hrg (i * 5 + 1) (.bool y.has)
                have C11 := CV.other hvg (i * 5 + 1) (.bool y.has)
                have b11 := bV.setCell (p := ⟨g, i * 5 + 1, none⟩) hwg (.bool y.has)
                have k2 : (V.setCell ⟨g, i * 5 + 1, none⟩ (.bool y.has)).cell? ⟨g, i * 5 + 2, none⟩ = some (.string es[i].data) := by rw [P11.cell, List.getElem?_set_ne (by omega), ← P10.cell]; exact a2
                clear P10 O10 J10 bV CV
                generalize HW1 : V.setCell ⟨g, i * 5 + 1, none⟩ (.bool y.has) = W11 at P11 O11 C11 b11 k2
                have o2 := O11.cell 2
                simp only [List.getElem?_cons_zero, List.getElem?_cons_succ] at o2
                have n2 := P11.frozen (i * 5 + 2)
                have P12 := P11.set_ (i * 5 + 2) (.string y.data)
                have C12 := C11.other hvg (i * 5 + 2) (.string y.data)
                have b12 := b11.setCell (p := ⟨g, i * 5 + 2, none⟩) hwg (.string y.data)
                rw [HVS.out] at P12
                clear P11 O11 C11 b11
                generalize HW2 : W11.setCell ⟨g, i * 5 + 2, none⟩ (.string y.data) = W12 at P12 C12 b12
                obtain ⟨-, -, -, m3, m4⟩ := blkX_cell P12 (i := i) (by rw [List.length_set]; exact hi)
                rw [HSS.out] at m3 m4
                dsimp only at m3 m4
                have c0 := C12.cell 0
                have c1 := C12.cell 1
                simp only [List.getElem?_cons_zero, List.getElem?_cons_succ] at c0 c1
                have n3 := P12.frozen (i * 5 + 3)
                have n4 := P12.frozen (i * 5 + 4)
                have P13 := (P12.set_ (i * 5 + 3) (.int .i64 (t1 : Int))).set_ (i * 5 + 4) (.int .i64 (t2 : Int))
                have b13 := (b12.setCell (p := ⟨g, i * 5 + 3, none⟩) hwg (.int .i64 (t1 : Int))).setCell (p := ⟨g, i * 5 + 4, none⟩) hwg (.int .i64 (t2 : Int))
                rw [HCS2.out, HS2.out, HSS.out] at P13
                dsimp only at P13
                clear P12 C12 b12
                generalize HW3 : (W12.setCell ⟨g, i * 5 + 3, none⟩ (.int .i64 (t1 : Int))).setCell ⟨g, i * 5 + 4, none⟩ (.int .i64 (t2 : Int)) = W13 at P13 b13
                have HL2 : Hid (es.set i (setE x y true a) = es.set i ⟨x.path, y.has, y.data, (t1 : Int), (t2 : Int)⟩) := by show _ = _; rw [HSE.out]; rfl
                have HN2 : Hid (setN es fs p true a = fitN (es.set i ⟨x.path, y.has, y.data, (t1 : Int), (t2 : Int)⟩)) := by show _ = _; rw [HN1.out, HL2.out]
                have HA2 : Hid (setN es fs p true a = 0 → setA es fs p true a = es.set i ⟨x.path, y.has, y.data, (t1 : Int), (t2 : Int)⟩) := fun h => by rw [HA.out h, HL2.out]
                have hX := HX.out ⟨x.path, y.has, y.data, (t1 : Int), (t2 : Int)⟩
                have hEZ := HEZ.out ⟨x.path, y.has, y.data, (t1 : Int), (t2 : Int)⟩ ⟨HPZ.out.1, HDZ.out.2⟩
                have hXL := HXL.out ⟨x.path, y.has, y.data, (t1 : Int), (t2 : Int)⟩
                clear HN1 HA HX HEZ HSE HL2 HSZ HSZ2 HVS HSS HS2 HXL HCS HCS2
                generalize es.set i ⟨x.path, y.has, y.data, (t1 : Int), (t2 : Int)⟩ = LL at *
                have hLL : LL.length ≤ 1000000 := by omega
                have OO := blkX_own P13 hwg (by omega) hcm hXL
                have EE := own5_et OO hLL hEZ
                rw [hX] at EE
                go_wp2_with fail
                refine (rmay_any EE).mono ?_
                rintro e wF ⟨rfl, hbF⟩
                have OF := own_below OO hbF
                have bF := below2 b13 hbF
                clear EE OO P13 b13 hbF hEZ
                rw [← HN2.out]
                by_cases h0 : setN es fs p true a = 0
                · have HZ2 := hid h0
                  have hA := HA2.out h0
                  rw [h0]
                  clear h0
                  go_wp2
                  refine bodyPost_ret (v := .tuple #[.slice (some ⟨g, 0, none⟩) n c3, .int .i64 0]) (by simp [results, Tryz.results21, go_sem]) rfl ?_
                  exact ⟨some ⟨g, 0, none⟩, c3, by rw [hA, hX, HZ2.out]; rfl, by rw [hA]; exact OF, bF⟩
                · have HZ2 := hid h0
                  have h0' : ¬ ((setN es fs p true a : Nat) : Int) = 0 := by omega
                  clear h0 HA2 HN2
                  generalize hk : setN es fs p true a = kk at *
                  go_wp2
                  exact bodyPost_ret (v := .tuple #[.slice none 0 0, .int .i64 (kk : Int)]) (by simp [results, Tryz.results21, go_sem]) rfl (settle_err kk hk HZ2.out bF)
          · go_simp
            have P4 := Blk.new W3 [.int .i64 0, .int .i64 0] 32
            have q4 := q3.alloc q3.size (.cells #[.int .i64 0, .int .i64 0] 32)
            have hs3 : w3.heap.size ≤ W3.heap.size := q3.size
            generalize W3.alloc (.cells #[.int .i64 0, .int .i64 0] 32) = W4 at P4 q4 ⊢
            generalize W3.heap.size = s at *
            refine hK.out _ _ (HS.out _ q4) (fun hHeld => ?_)
            clear hK K
            try simp only [Act.put, List.setIfInBounds_toArray, List.set_cons_zero, List.set_cons_succ]
            refine wpAnyH_ready (rs := [7]) (by kernel_rfl) (by simp) ?_
            refine AllReadyH.cons (o := ⟨_, _, _, _, _, _⟩) rfl (fun K hK => ?_) (AllReadyH.nil)
            go_simp
            refine (cj _).mono ?_
            rintro e w5 ⟨rfl, hb5⟩
            clear hHeld
            have q5 := below2 q4 hb5
            have P5 := P4.below hb5
            clear P4 hb5
            refine hK.out _ _ (HS.out _ q5) (fun hHeld => ?_)
            clear hK K
            try simp only [Act.put, List.setIfInBounds_toArray, List.set_cons_zero, List.set_cons_succ]
            have u0 := P5.cell 0
            have u1 := P5.cell 1
            have n0 := P5.frozen 0
            have n1 := P5.frozen 1
            simp only [List.getElem?_cons_zero, List.getElem?_cons_succ] at u0 u1
            have J9 := (P5.set_ 0 (.int .i64 (j1 : Int))).set_ 1 (.int .i64 (j2 : Int))
            have q9 := (q5.setCell (p := ⟨s, 0, none⟩) hs3 (.int .i64 (j1 : Int))).setCell (p := ⟨s, 1, none⟩) hs3 (.int .i64 (j2 : Int))
            simp only [List.set_cons_zero, List.set_cons_succ] at J9
            refine wpAnyH_ready (rs := [9]) (by kernel_rfl) (by simp) ?_
            refine AllReadyH.cons (o := ⟨_, _, _, _, _, _⟩) rfl (fun K hK => ?_) AllReadyH.nil
            go_simp
            clear hHeld
            generalize (w5.setCell ⟨s, 0, none⟩ (.int .i64 (j1 : Int))).setCell ⟨s, 1, none⟩ (.int .i64 (j2 : Int)) = W9 at J9 q9 ⊢
            refine hK.out _ _ (HS.out _ q9) (fun hHeld => ?_)
            clear hK K u0 u1 n0 n1 P5
            try simp only [Act.put, List.setIfInBounds_toArray, List.set_cons_zero, List.set_cons_succ]
            refine wpAnyH_done (by kernel_rfl) ?_ _
            clear hHeld HS
            have P9 := P3.below q9
            have O9 := O3.below q9
            have b9 := below2 b3 q9
            have hsg : s ≠ g := by omega
            have hgs : g ≠ s := by omega
            have z0 := J9.cell 0
            have z1 := J9.cell 1
            simp only [List.getElem?_cons_zero, List.getElem?_cons_succ] at z0 z1
            clear P3 O3 b3 q9
            obtain ⟨t1, t2, ht⟩ : ∃ t1 t2, tkc (joinC x y).1 (joinC x y).2 a = (t1, t2) := ⟨_, _, rfl⟩
            have kt := rtickX (joinC x y).1 (joinC x y).2 a
            rw [ht] at kt
            have HTK : Hid (tickL (joinC x y).1 (joinC x y).2 a = ((t1 : Int), (t2 : Int))) := by show _ = _; rw [tickL_eq, ht]
            have HSE : Hid (setE x y tk a = ⟨x.path, if tk then y.has else x.has, if tk then y.data else x.data, t1, t2⟩) := by show _ = _; unfold setE; rw [HTK.out]
            rw [HTK.out] at HN
            rw [HJ.out] at kt HN
            clear ht HTK HJ
            dsimp only at kt
            go_wp2_with fail
            refine (kt _).mono ?_
            rintro e w10 ⟨rfl, hb10⟩
            have P10 := (P9.below hb10).below (hal w10 (.cells #[.int .i64 (t1 : Int), .int .i64 (t2 : Int)] 32))
            have O10 := (O9.below hb10).below (hal w10 (.cells #[.int .i64 (t1 : Int), .int .i64 (t2 : Int)] 32))
            have J10 := (J9.below hb10).below (hal w10 (.cells #[.int .i64 (t1 : Int), .int .i64 (t2 : Int)] 32))
            have bV := (below2 b9 hb10).alloc (below2 b9 hb10).size (.cells #[.int .i64 (t1 : Int), .int .i64 (t2 : Int)] 32)
            have CV := Blk.new w10 [.int .i64 (t1 : Int), .int .i64 (t2 : Int)] 32
            have hvg : w10.heap.size ≠ g := by have := (P9.below hb10).lt; omega
            clear P9 O9 J9 b9 hb10 kt z0 z1
            generalize HV : w10.alloc (.cells #[.int .i64 (t1 : Int), .int .i64 (t2 : Int)] 32) = V at P10 O10 J10 bV CV
            have z0 := J10.cell 0
            have z1 := J10.cell 1
            have v0 := CV.cell 0
            have v1 := CV.cell 1
            simp only [List.getElem?_cons_zero, List.getElem?_cons_succ] at z0 z1 v0 v1
            have hep := eqP (t1 : Int) (t2 : Int) (j1 : Int) (j2 : Int)
            by_cases hst : (t1 : Int) = j1 ∧ (t2 : Int) = j2
            · rw [decide_eq_true hst.1, decide_eq_true hst.2] at hep
              have HR2 : Hid (setN es fs p tk a = 2) := by show _ = _; rw [HN.out, if_pos (by rw [hst.1, hst.2])]
              clear HN hst
              go_wp2
              exact bodyPost_ret (v := .tuple #[.slice none 0 0, .int .i64 2]) (by simp [results, Tryz.results21, go_sem]) rfl (settle_err 2 HR2.out (by decide) bV)
            · have hstb : (decide ((t1 : Int) = j1) && decide ((t2 : Int) = j2)) = false := by by_cases h1 : (t1 : Int) = j1 <;> by_cases h2 : (t2 : Int) = j2 <;> simp [h1, h2] <;> exact hst ⟨h1, h2⟩
              rw [hstb] at hep
              have HN1 : Hid (setN es fs p tk a = fitN (es.set i (setE x y tk a))) := by show _ = _; rw [HN.out, if_neg (fun e => hst ⟨congrArg Prod.fst e, congrArg Prod.snd e⟩)]
              clear HN hst hstb
              obtain ⟨a0, a1, a2, a3, a4⟩ := blkX_cell P10 hi
              cases tk with
              | false =>
                have n3 := P10.frozen (i * 5 + 3)
                have n4 := P10.frozen (i * 5 + 4)
                have P11 := (P10.set_ (i * 5 + 3) (.int .i64 (t1 : Int))).set_ (i * 5 + 4) (.int .i64 (t2 : Int))
                have b11 := (bV.setCell (p := ⟨g, i * 5 + 3, none⟩) hwg (.int .i64 (t1 : Int))).setCell (p := ⟨g, i * 5 + 4, none⟩) hwg (.int .i64 (t2 : Int))
                rw [HCS.out] at P11
                clear P10 O10 J10 bV CV
                generalize HW : (V.setCell ⟨g, i * 5 + 3, none⟩ (.int .i64 (t1 : Int))).setCell ⟨g, i * 5 + 4, none⟩ (.int .i64 (t2 : Int)) = W11 at P11 b11
                have HL2 : Hid (es.set i (setE x y false a) = es.set i ⟨x.path, x.has, x.data, (t1 : Int), (t2 : Int)⟩) := by show _ = _; rw [HSE.out]; rfl
                have HN2 : Hid (setN es fs p false a = fitN (es.set i ⟨x.path, x.has, x.data, (t1 : Int), (t2 : Int)⟩)) := by show _ = _; rw [HN1.out, HL2.out]
                have HA2 : Hid (setN es fs p false a = 0 → setA es fs p false a = es.set i ⟨x.path, x.has, x.data, (t1 : Int), (t2 : Int)⟩) := fun h => by rw [HA.out h, HL2.out]
                have hX := HX.out ⟨x.path, x.has, x.data, (t1 : Int), (t2 : Int)⟩
                have hEZ := HEZ.out ⟨x.path, x.has, x.data, (t1 : Int), (t2 : Int)⟩ ⟨HPZ.out.1, HPZ.out.2⟩
                have hXL := HXL.out ⟨x.path, x.has, x.data, (t1 : Int), (t2 : Int)⟩
                clear HN1 HA HX HEZ HSE HL2 HSZ HSZ2 HVS HSS HS2 HXL HCS HCS2
                generalize es.set i ⟨x.path, x.has, x.data, (t1 : Int), (t2 : Int)⟩ = LL at *
                have hLL : LL.length ≤ 1000000 := by omega
                have OO := blkX_own P11 hwg (by omega) hcm hXL
                have EE := own5_et OO hLL hEZ
                rw [hX] at EE
                go_wp2_with fail
                refine (rmay_any EE).mono ?_
                rintro e wF ⟨rfl, hbF⟩
                have OF := own_below OO hbF
                have bF := below2 b11 hbF
                clear EE OO P11 b11 hbF hEZ
                rw [← HN2.out]
                by_cases h0 : setN es fs p false a = 0
                · have HZ2 := hid h0
                  have hA := HA2.out h0
                  rw [h0]
                  clear h0
                  go_wp2
                  refine bodyPost_ret (v := .tuple #[.slice (some ⟨g, 0, none⟩) n c3, .int .i64 0]) (by simp [results, Tryz.results21, go_sem]) rfl ?_
                  exact ⟨some ⟨g, 0, none⟩, c3, by rw [hA, hX, HZ2.out]; rfl, by rw [hA]; exact OF, bF⟩
                · have HZ2 := hid h0
                  have h0' : ¬ ((setN es fs p false a : Nat) : Int) = 0 := by omega
                  clear h0 HA2 HN2
                  generalize hk : setN es fs p false a = kk at *
                  go_wp2
                  exact bodyPost_ret (v := .tuple #[.slice none 0 0, .int .i64 (kk : Int)]) (by simp [results, Tryz.results21, go_sem]) rfl (settle_err kk hk HZ2.out bF)
              | true =>
                have o1 := O10.cell 1
                simp only [List.getElem?_cons_zero, List.getElem?_cons_succ] at o1
                have n1 := P10.frozen (i * 5 + 1)
                have P11 := P10.set_ (i * 5 + 1) (.bool y.has)
                have O11 := O10.other hrg (i * 5 + 1) (.bool y.has)
                have C11 := CV.other hvg (i * 5 + 1) (.bool y.has)
                have b11 := bV.setCell (p := ⟨g, i * 5 + 1, none⟩) hwg (.bool y.has)
                have k2 : (V.setCell ⟨g, i * 5 + 1, none⟩ (.bool y.has)).cell? ⟨g, i * 5 + 2, none⟩ = some (.string es[i].data) := by rw [P11.cell, List.getElem?_set_ne (by omega), ← P10.cell]; exact a2
                clear P10 O10 J10 bV CV
                generalize HW1 : V.setCell ⟨g, i * 5 + 1, none⟩ (.bool y.has) = W11 at P11 O11 C11 b11 k2
                have o2 := O11.cell 2
                simp only [List.getElem?_cons_zero, List.getElem?_cons_succ] at o2
                have n2 := P11.frozen (i * 5 + 2)
                have P12 := P11.set_ (i * 5 + 2) (.string y.data)
                have C12 := C11.other hvg (i * 5 + 2) (.string y.data)
                have b12 := b11.setCell (p := ⟨g, i * 5 + 2, none⟩) hwg (.string y.data)
                rw [HVS.out] at P12
                clear P11 O11 C11 b11
                generalize HW2 : W11.setCell ⟨g, i * 5 + 2, none⟩ (.string y.data) = W12 at P12 C12 b12
                obtain ⟨-, -, -, m3, m4⟩ := blkX_cell P12 (i := i) (by rw [List.length_set]; exact hi)
                rw [HSS.out] at m3 m4
                dsimp only at m3 m4
                have c0 := C12.cell 0
                have c1 := C12.cell 1
                simp only [List.getElem?_cons_zero, List.getElem?_cons_succ] at c0 c1
                have n3 := P12.frozen (i * 5 + 3)
                have n4 := P12.frozen (i * 5 + 4)
                have P13 := (P12.set_ (i * 5 + 3) (.int .i64 (t1 : Int))).set_ (i * 5 + 4) (.int .i64 (t2 : Int))
                have b13 := (b12.setCell (p := ⟨g, i * 5 + 3, none⟩) hwg (.int .i64 (t1 : Int))).setCell (p := ⟨g, i * 5 + 4, none⟩) hwg (.int .i64 (t2 : Int))
                rw [HCS2.out, HS2.out, HSS.out] at P13
                dsimp only at P13
                clear P12 C12 b12
                generalize HW3 : (W12.setCell ⟨g, i * 5 + 3, none⟩ (.int .i64 (t1 : Int))).setCell ⟨g, i * 5 + 4, none⟩ (.int .i64 (t2 : Int)) = W13 at P13 b13
                have HL2 : Hid (es.set i (setE x y true a) = es.set i ⟨x.path, y.has, y.data, (t1 : Int), (t2 : Int)⟩) := by show _ = _; rw [HSE.out]; rfl
                have HN2 : Hid (setN es fs p true a = fitN (es.set i ⟨x.path, y.has, y.data, (t1 : Int), (t2 : Int)⟩)) := by show _ = _; rw [HN1.out, HL2.out]
                have HA2 : Hid (setN es fs p true a = 0 → setA es fs p true a = es.set i ⟨x.path, y.has, y.data, (t1 : Int), (t2 : Int)⟩) := fun h => by rw [HA.out h, HL2.out]
                have hX := HX.out ⟨x.path, y.has, y.data, (t1 : Int), (t2 : Int)⟩
                have hEZ := HEZ.out ⟨x.path, y.has, y.data, (t1 : Int), (t2 : Int)⟩ ⟨HPZ.out.1, HDZ.out.2⟩
                have hXL := HXL.out ⟨x.path, y.has, y.data, (t1 : Int), (t2 : Int)⟩
                clear HN1 HA HX HEZ HSE HL2 HSZ HSZ2 HVS HSS HS2 HXL HCS HCS2
                generalize es.set i ⟨x.path, y.has, y.data, (t1 : Int), (t2 : Int)⟩ = LL at *
                have hLL : LL.length ≤ 1000000 := by omega
                have OO := blkX_own P13 hwg (by omega) hcm hXL
                have EE := own5_et OO hLL hEZ
                rw [hX] at EE
                go_wp2_with fail
                refine (rmay_any EE).mono ?_
                rintro e wF ⟨rfl, hbF⟩
                have OF := own_below OO hbF
                have bF := below2 b13 hbF
                clear EE OO P13 b13 hbF hEZ
                rw [← HN2.out]
                by_cases h0 : setN es fs p true a = 0
                · have HZ2 := hid h0
                  have hA := HA2.out h0
                  rw [h0]
                  clear h0
                  go_wp2
                  refine bodyPost_ret (v := .tuple #[.slice (some ⟨g, 0, none⟩) n c3, .int .i64 0]) (by simp [results, Tryz.results21, go_sem]) rfl ?_
                  exact ⟨some ⟨g, 0, none⟩, c3, by rw [hA, hX, HZ2.out]; rfl, by rw [hA]; exact OF, bF⟩
                · have HZ2 := hid h0
                  have h0' : ¬ ((setN es fs p true a : Nat) : Int) = 0 := by omega
                  clear h0 HA2 HN2
                  generalize hk : setN es fs p true a = kk at *
                  go_wp2
                  exact bodyPost_ret (v := .tuple #[.slice none 0 0, .int .i64 (kk : Int)]) (by simp [results, Tryz.results21, go_sem]) rfl (settle_err kk hk HZ2.out bF)
  · have h0' : ¬ ((mrgN es fs : Nat) : Int) = 0 := by omega
    have HZ := hid h0
    have HR2 := hid (setN_mrg (p := p) (tk := tk) (a := a) h0)
    clear h0 rC h k
    generalize hk : mrgN es fs = kk at *
    go_wp2
    exact bodyPost_ret (v := .tuple #[.slice none 0 0, .int .i64 (kk : Int)]) (by simp [results, Tryz.results21, go_sem]) rfl (settle_err kk HR2.out HZ.out b1)
end Go.Proofs.YtlmccjdpmhancaaGreatDoor
