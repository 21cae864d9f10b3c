/- Xd: in one text. -/
import Derived.Test.YtnkkjedckehoaaaDoorYc
import Derived.Deep.RegionHeld3
namespace Go.Proofs.YtnkkjedckehoaaaDoor
open Go.RowKit

/-- The paths were answered. -/
def PathsPost (w : World) (all : List ByteArray) (e : Ending) (w' : World) : Prop := ∃ C q, e = .returned (.slice C all.length q) ∧ all.length ≤ q ∧ Rd w' C (strV all) ∧ Below w.heap.size w w'

set_option maxRecDepth 20000 in
set_option maxHeartbeats 4000000 in
theorem rpaths_any {w : World} {A B : Option Addr} {n c m d : Nat} {es : List Ent} {fs : List Fil} (h : Et w A n c es) (k : Ft w B m d fs) (hm : m ≤ 100000) (hn : n ≤ 100000) :
    Calls Tryd.prog 37 #[.slice A n c, .slice B m d] w (PathsPost w (allL es fs)) := by
  have hr := h.rd
  have hr2 := k.rd
  have HL := hid h.len
  have HL2 := hid k.len
  clear h k
  have HPL : Hid ((pthL es fs).length = n + m) := by show _ = _; rw [pthL, List.length_append, List.length_map, List.length_map, HL.out, HL2.out]
  go_enter Tryd.func37, Tryd.ntmps37
  go_wp2_with fail
  go_loopw [5, 6] (fun x i wr => ∃ (j : Nat) (C : Option Addr) (q : Nat) (out : List ByteArray), j ≤ n + m ∧ i = .int .i64 j ∧ x = .slice C out.length q ∧ out.length ≤ q ∧ out.length ≤ j ∧ Hid (out = ((pthL es fs).take j).foldl insP []) ∧ Rd wr C (strV out) ∧ Below w.heap.size w wr) (fun _ i _ => n + m - (intOf i).toNat)
  case atStart => exact ⟨0, none, 0, [], by omega, rfl, rfl, by simp, by simp, by simp [Hid], .inl rfl, Below.refl _ _⟩
  case round =>
    obtain ⟨j, C, q, out, hj, rfl, rfl, hoq, hoj, HF, hro, b⟩ := hrel
    by_cases hjn : j < n + m
    · have hz : (0 : Int) ≤ j := by omega
      have hlt : (j : Int) < (n : Int) + m := by omega
      have hsum : (n : Int) + m ≤ 1000000 := by omega
      obtain ⟨p, hp⟩ : ∃ p, (pthL es fs)[j]? = some p := ⟨_, List.getElem?_eq_getElem (by rw [HPL.out]; exact hjn)⟩
      have HFOLD : Hid (insP out p = ((pthL es fs).take (j + 1)).foldl insP []) := by show _ = _; rw [List.take_add_one, hp, List.foldl_append, HF.out]; rfl
      have hoL : out.length ≤ 200000 := by omega
      by_cases hjE : j < n
      · have hjl : j < es.length := by rw [HL.out]; exact hjE
        obtain ⟨g, og, rfl, x0, -⟩ := (hr.below b).ent hjl
        have hpe : es[j].path = p := by
          have := hp
          rw [pthL, List.getElem?_append_left (by rw [List.length_map]; exact hjl), List.getElem?_map, List.getElem?_eq_getElem hjl] at this
          injection this
        rw [hpe] at x0
        have hjE' : (j : Int) < n := by omega
        clear hp hpe
        go_wp2_with fail
        go_loop [8] (fun i => ∃ k : Nat, k ≤ out.length ∧ i = .int .i64 k ∧ Hid (∀ i (hi : i < out.length), i < k → lessS out[i] p = true)) (fun i => out.length - (intOf i).toNat)
        case atStart => exact ⟨0, by omega, rfl, hid (fun i _ hi => absurd hi (by omega))⟩
        case round =>
          obtain ⟨k, hk, rfl, HK⟩ := hrel
          by_cases hko : k < out.length
          · have hkz : (0 : Int) ≤ k := by omega
            have hklt : (k : Int) < out.length := by omega
            obtain ⟨gs, os, rfl, y0, -⟩ := hro.at_ (k := k) (by rw [strV_length]; exact hko)
            rw [show (strV out)[k]'(by rw [strV_length]; exact hko) = .string out[k] by simp [strV]] at y0
            have hls : Op.bytesLess out[k].toList p.toList = lessS out[k] p := by rw [Lib.toList_data, Lib.toList_data]; rfl
            cases hle : lessS out[k] p with
            | true =>
              rw [hle] at hls
              have HK2 : Hid (∀ i (hi : i < out.length), i < k + 1 → lessS out[i] p = true) := fun i hi hik => by
                by_cases e : i = k
                · subst e; exact hle
                · exact HK.out i hi (by omega)
              clear hle
              go_wp2
              go_round
              case rel => exact ⟨k + 1, by omega, by go_num, HK2⟩
              case measure => simp [intOf]; omega
            | false =>
              rw [hle] at hls
              have hat : atS out p = k := atS_is hk HK.out (fun _ => hle)
              have hsq := str_eqb out[k] p
              clear hle
              by_cases hpq : out[k] = p
              · have HINS : Hid (insP out p = out) := by show _ = _; rw [insP, hat, if_pos (by rw [List.getElem?_eq_getElem hko, hpq])]
                rw [decide_eq_true hpq] at hsq
                clear hat hpq
                have HF2 : Hid (out = ((pthL es fs).take (j + 1)).foldl insP []) := by show _ = _; rw [← HFOLD.out, HINS.out]
                go_wp2
                go_roundw
                case rel => exact ⟨j + 1, _, q, out, by omega, by go_num, rfl, hoq, by omega, HF2, hro, b⟩
                case measure => simp [intOf]; omega
              · have HINS : Hid (insP out p = out.take k ++ [p] ++ out.drop k) := by show _ = _; rw [insP, hat, if_neg (by rw [List.getElem?_eq_getElem hko]; exact fun e => hpq (by injection e))]; simp
                rw [decide_eq_false hpq] at hsq
                clear hat hpq
                go_wp2_with fail
                obtain ⟨B1, B2, hs1, hs2, hq1, hq2⟩ := cuts (k := k) hro hoq (by omega)
                have hz3 : (0 : Int) ≤ ((k : Nat) : Int) := by omega
                refine wp_region_held_drew (S := fun _ => True) (by kernel_rfl) trivial (fun hHeld => ?_)
                refine wpAnyH_take (i := 1) (oi := ⟨_, _, _, _, _, _⟩) (v := ?_) rfl (by kernel_rfl) (by kernel_rfl) (by kernel_rfl) (fun _ _ _ h => h) (Or.inl ⟨by rfl, ?_⟩) (by assumption) ?_
                rotate_left
                · intro w hSw; (try dsimp only at hSw); go_simp; (try (with_reducible rfl))
                try simp only [Act.put, List.setIfInBounds_toArray, List.set_cons_zero, List.set_cons_succ]
                refine wpAnyH_take (i := 2) (oi := ⟨_, _, _, _, _, _⟩) (v := ?_) rfl (by kernel_rfl) (by kernel_rfl) (by kernel_rfl) (fun _ _ _ h => h) (Or.inl ⟨by rfl, ?_⟩) (by assumption) ?_
                rotate_left
                · intro w hSw; (try dsimp only at hSw); go_simp; (try (with_reducible rfl))
                try simp only [Act.put, List.setIfInBounds_toArray, List.set_cons_zero, List.set_cons_succ]
                refine wpAnyH_take (i := 3) (oi := ⟨_, _, _, _, _, _⟩) (v := ?_) rfl (by kernel_rfl) (by kernel_rfl) (by kernel_rfl) (fun _ _ _ h => h) (Or.inl ⟨by rfl, ?_⟩) (by assumption) ?_
                rotate_left
                · intro w hSw; (try dsimp only at hSw); go_simp; (try (with_reducible rfl))
                try simp only [Act.put, List.setIfInBounds_toArray, List.set_cons_zero, List.set_cons_succ]
                refine wpAnyH_take (i := 5) (oi := ⟨_, _, _, _, _, _⟩) (v := ?_) rfl (by kernel_rfl) (by kernel_rfl) (by kernel_rfl) (fun _ _ _ h => h) (Or.inl ⟨by rfl, ?_⟩) (by assumption) ?_
                rotate_left
                · intro w hSw; (try dsimp only at hSw); go_simp; (try (with_reducible rfl))
                try simp only [Act.put, List.setIfInBounds_toArray, List.set_cons_zero, List.set_cons_succ]
                refine wpAnyH_take (i := 8) (oi := ⟨_, _, _, _, _, _⟩) (v := ?_) rfl (by kernel_rfl) (by kernel_rfl) (by kernel_rfl) (fun _ _ _ h => h) (Or.inl ⟨by rfl, ?_⟩) (by assumption) ?_
                rotate_left
                · intro w hSw; (try dsimp only at hSw); go_simp; (try (with_reducible rfl))
                try simp only [Act.put, List.setIfInBounds_toArray, List.set_cons_zero, List.set_cons_succ]
                refine wpAnyH_take (i := 9) (oi := ⟨_, _, _, _, _, _⟩) (v := ?_) rfl (by kernel_rfl) (by kernel_rfl) (by kernel_rfl) (fun _ _ _ h => h) (Or.inl ⟨by rfl, ?_⟩) (by assumption) ?_
                rotate_left
                · intro w hSw; (try dsimp only at hSw); go_simp; (try (with_reducible rfl))
                try simp only [Act.put, List.setIfInBounds_toArray, List.set_cons_zero, List.set_cons_succ]
                refine wpAnyH_take (i := 10) (oi := ⟨_, _, _, _, _, _⟩) (v := ?_) rfl (by kernel_rfl) (by kernel_rfl) (by kernel_rfl) (fun _ _ _ h => h) (Or.inl ⟨by rfl, ?_⟩) (by assumption) ?_
                rotate_left
                · intro w hSw; (try dsimp only at hSw); go_simp; (try (with_reducible rfl))
                try simp only [Act.put, List.setIfInBounds_toArray, List.set_cons_zero, List.set_cons_succ]
                have d0 : Below wr.heap.size wr wr.drew := ⟨rfl, rfl, rfl, Nat.le_refl _, fun _ _ => rfl⟩
                obtain ⟨X0, hX0⟩ : ∃ X0, wr.drew = X0 := ⟨_, rfl⟩
                rw [hX0] at d0 ⊢
                have hs0 : Hid (X0.heap.size = wr.heap.size) := by show _ = _; rw [← hX0]; rfl
                clear hX0
                refine wpAnyH_ready (rs := [0, 6]) (by kernel_rfl) (by simp) ?_
                refine AllReadyH.cons (o := ⟨_, _, _, _, _, _⟩) rfl (fun K hK => ?_) (AllReadyH.cons (o := ⟨_, _, _, _, _, _⟩) rfl (fun K hK => ?_) (AllReadyH.nil))
                · go_simp
                  refine hK.out _ _ trivial (fun hHeld => ?_)
                  clear hK K
                  try simp only [Act.put, List.setIfInBounds_toArray, List.set_cons_zero, List.set_cons_succ]
                  have o1 := own_none X0 wr.heap.size (by have := hs0.out; omega)
                  have d1 := d0.alloc (by have := hs0.out; omega) (.cells #[] 9)
                  refine wpAnyH_ready (rs := [4, 6]) (by kernel_rfl) (by simp) ?_
                  refine AllReadyH.cons (o := ⟨_, _, _, _, _, _⟩) rfl (fun K hK => ?_) (AllReadyH.cons (o := ⟨_, _, _, _, _, _⟩) rfl (fun K hK => ?_) (AllReadyH.nil))
                  · have o2 := o1
                    have d2 := d1
                    obtain ⟨A3, c3, X3, HR3, o3', g3, e3⟩ := app_strs (d := q) o2 (by have := d2.size; omega) (ys := out.take k) (m := k) (by rw [List.length_take]; omega) (hq1.below d2) (t := k) (by omega) (by omega)
                    refine stepApp2 (by rfl) (.tmp 61) (.tmp 64) 27 rfl _ _ _ rfl rfl HR3.out ?_
                    refine hK.out _ _ trivial (fun hHeld => ?_)
                    clear hK K
                    try simp only [Act.put, List.setIfInBounds_toArray, List.set_cons_zero, List.set_cons_succ]
                    have d3' := d2.trans e3
                    refine wpAnyH_ready (rs := [6]) (by kernel_rfl) (by simp) ?_
                    refine AllReadyH.cons (o := ⟨_, _, _, _, _, _⟩) rfl (fun K hK => ?_) (AllReadyH.nil)
                    go_simp
                    refine hK.out _ _ trivial (fun hHeld => ?_)
                    clear hK K
                    try simp only [Act.put, List.setIfInBounds_toArray, List.set_cons_zero, List.set_cons_succ]
                    have o3 := own_below o3' ((Below.refl _ _).alloc (Nat.le_refl _) (.cells #[.string p] 9))
                    have pR3 := rd_one X3 p
                    have d3 := d3'.alloc d3'.size (.cells #[.string p] 9)
                    obtain ⟨A4, c4, X4, HR4, o4, -, e4⟩ := app_strs (d := 1) o3 (by have := d3.size; omega) (ys := [p]) (m := 1) rfl pR3 (t := k + 1) (by omega) (by omega)
                    refine wpAnyH_ready (rs := [7]) (by kernel_rfl) (by simp) ?_
                    refine AllReadyH.cons (o := ⟨_, _, _, _, _, _⟩) rfl (fun K hK => ?_) AllReadyH.nil
                    refine stepApp2 (by rfl) (.tmp 65) (.tmp 67) 27 rfl _ _ _ rfl rfl HR4.out ?_
                    refine hK.out _ _ trivial (fun hHeld => ?_)
                    clear hK K
                    try simp only [Act.put, List.setIfInBounds_toArray, List.set_cons_zero, List.set_cons_succ]
                    have d4 := d3.trans e4
                    obtain ⟨A5, c5, X5, HR5, o5, -, e5⟩ := app_strs (d := q - k) o4 (by have := d4.size; omega) (ys := out.drop k) (m := out.length - k) (by simp) (hq2.below d4) (t := out.length + 1) (by omega) (by omega)
                    refine wpAnyH_ready (rs := [11]) (by kernel_rfl) (by simp) ?_
                    refine AllReadyH.cons (o := ⟨_, _, _, _, _, _⟩) rfl (fun K hK => ?_) AllReadyH.nil
                    refine stepApp2 (by rfl) (.tmp 68) (.tmp 71) 27 rfl _ _ _ rfl rfl HR5.out ?_
                    refine hK.out _ _ trivial (fun hHeld => ?_)
                    clear hK K
                    try simp only [Act.put, List.setIfInBounds_toArray, List.set_cons_zero, List.set_cons_succ]
                    have d5 := d4.trans e5
                    refine wpAnyH_take (i := 12) (oi := ⟨_, _, _, _, _, _⟩) (v := ?_) rfl (by kernel_rfl) (by kernel_rfl) (by kernel_rfl) (fun _ _ _ h => h) (Or.inl ⟨by rfl, ?_⟩) (by assumption) ?_
                    rotate_left
                    · intro w hSw; (try dsimp only at hSw); go_simp; (try (with_reducible rfl))
                    try simp only [Act.put, List.setIfInBounds_toArray, List.set_cons_zero, List.set_cons_succ]
                    refine wpAnyH_done (by kernel_rfl) ?_ _
                    have o6 : X5.ownsRow wr.heap.size 9 1 (.slice A5 (out.length + 1) c5) (out.length + 1) (strV (insP out p)) := by rw [HINS.out]; exact o5
                    have b6 := b.trans (d5.mono b.size)
                    have l6 : (insP out p).length = out.length + 1 := by have := o6.1; rw [strV_length] at this; omega
                    have f6 : out.length + 1 ≤ c5 := by obtain ⟨-, A9, c9, e9, h9, -⟩ := own_form o6; injection e9 with e1 e2 e3; rw [e3]; exact h9
                    have r6 := Rd.of_own o6
                    clear hHeld o6 o5 o4 HR4 HR5 hs1 hs2 hq1 hq2
                    go_wp2
                    go_roundw
                    case rel => exact ⟨j + 1, A5, c5, insP out p, by omega, by go_num, by rw [l6], by omega, by omega, HFOLD, r6, b6⟩
                    case measure => simp [intOf]; omega
                  · go_simp
                    refine hK.out _ _ trivial (fun hHeld => ?_)
                    clear hK K
                    try simp only [Act.put, List.setIfInBounds_toArray, List.set_cons_zero, List.set_cons_succ]
                    have o2 := own_below o1 ((Below.refl _ _).alloc (Nat.le_refl _) (.cells #[.string p] 9))
                    have pR2 := rd_one (X0.alloc (.cells #[] 9)) p
                    have d2 := d1.alloc d1.size (.cells #[.string p] 9)
                    simp only [World.size_alloc] at pR2
                    have hlt2 : X0.heap.size + 1 < ((X0.alloc (.cells #[] 9)).alloc (.cells #[.string p] 9)).heap.size := by simp
                    obtain ⟨A3, c3, X3, HR3, o3, g3, e3⟩ := app_strs (d := q) o2 (by have := d2.size; omega) (ys := out.take k) (m := k) (by rw [List.length_take]; omega) (hq1.below d2) (t := k) (by omega) (by omega)
                    refine wpAnyH_ready (rs := [4]) (by kernel_rfl) (by simp) ?_
                    refine AllReadyH.cons (o := ⟨_, _, _, _, _, _⟩) rfl (fun K hK => ?_) AllReadyH.nil
                    refine stepApp2 (by rfl) (.tmp 61) (.tmp 64) 27 rfl _ _ _ rfl rfl HR3.out ?_
                    refine hK.out _ _ trivial (fun hHeld => ?_)
                    clear hK K
                    try simp only [Act.put, List.setIfInBounds_toArray, List.set_cons_zero, List.set_cons_succ]
                    have d3 := d2.trans e3
                    have pR3 := rd_apart pR2 g3 hlt2 (by simp [Value.ownBlock])
                    obtain ⟨A4, c4, X4, HR4, o4, -, e4⟩ := app_strs (d := 1) o3 (by have := d3.size; omega) (ys := [p]) (m := 1) rfl pR3 (t := k + 1) (by omega) (by omega)
                    refine wpAnyH_ready (rs := [7]) (by kernel_rfl) (by simp) ?_
                    refine AllReadyH.cons (o := ⟨_, _, _, _, _, _⟩) rfl (fun K hK => ?_) AllReadyH.nil
                    refine stepApp2 (by rfl) (.tmp 65) (.tmp 67) 27 rfl _ _ _ rfl rfl HR4.out ?_
                    refine hK.out _ _ trivial (fun hHeld => ?_)
                    clear hK K
                    try simp only [Act.put, List.setIfInBounds_toArray, List.set_cons_zero, List.set_cons_succ]
                    have d4 := d3.trans e4
                    obtain ⟨A5, c5, X5, HR5, o5, -, e5⟩ := app_strs (d := q - k) o4 (by have := d4.size; omega) (ys := out.drop k) (m := out.length - k) (by simp) (hq2.below d4) (t := out.length + 1) (by omega) (by omega)
                    refine wpAnyH_ready (rs := [11]) (by kernel_rfl) (by simp) ?_
                    refine AllReadyH.cons (o := ⟨_, _, _, _, _, _⟩) rfl (fun K hK => ?_) AllReadyH.nil
                    refine stepApp2 (by rfl) (.tmp 68) (.tmp 71) 27 rfl _ _ _ rfl rfl HR5.out ?_
                    refine hK.out _ _ trivial (fun hHeld => ?_)
                    clear hK K
                    try simp only [Act.put, List.setIfInBounds_toArray, List.set_cons_zero, List.set_cons_succ]
                    have d5 := d4.trans e5
                    refine wpAnyH_take (i := 12) (oi := ⟨_, _, _, _, _, _⟩) (v := ?_) rfl (by kernel_rfl) (by kernel_rfl) (by kernel_rfl) (fun _ _ _ h => h) (Or.inl ⟨by rfl, ?_⟩) (by assumption) ?_
                    rotate_left
                    · intro w hSw; (try dsimp only at hSw); go_simp; (try (with_reducible rfl))
                    try simp only [Act.put, List.setIfInBounds_toArray, List.set_cons_zero, List.set_cons_succ]
                    refine wpAnyH_done (by kernel_rfl) ?_ _
                    have o6 : X5.ownsRow wr.heap.size 9 1 (.slice A5 (out.length + 1) c5) (out.length + 1) (strV (insP out p)) := by rw [HINS.out]; exact o5
                    have b6 := b.trans (d5.mono b.size)
                    have l6 : (insP out p).length = out.length + 1 := by have := o6.1; rw [strV_length] at this; omega
                    have f6 : out.length + 1 ≤ c5 := by obtain ⟨-, A9, c9, e9, h9, -⟩ := own_form o6; injection e9 with e1 e2 e3; rw [e3]; exact h9
                    have r6 := Rd.of_own o6
                    clear hHeld o6 o5 o4 HR4 HR5 hs1 hs2 hq1 hq2
                    go_wp2
                    go_roundw
                    case rel => exact ⟨j + 1, A5, c5, insP out p, by omega, by go_num, by rw [l6], by omega, by omega, HFOLD, r6, b6⟩
                    case measure => simp [intOf]; omega
                · go_simp
                  refine hK.out _ _ trivial (fun hHeld => ?_)
                  clear hK K
                  try simp only [Act.put, List.setIfInBounds_toArray, List.set_cons_zero, List.set_cons_succ]
                  refine wpAnyH_ready (rs := [0]) (by kernel_rfl) (by simp) ?_
                  refine AllReadyH.cons (o := ⟨_, _, _, _, _, _⟩) rfl (fun K hK => ?_) (AllReadyH.nil)
                  go_simp
                  refine hK.out _ _ trivial (fun hHeld => ?_)
                  clear hK K
                  try simp only [Act.put, List.setIfInBounds_toArray, List.set_cons_zero, List.set_cons_succ]
                  have pR2 := (rd_one X0 p).below ((Below.refl _ _).alloc (Nat.le_refl _) (.cells #[] 9))
                  have o2 := own_none (X0.alloc (.cells #[.string p] 9)) wr.heap.size (by have := hs0.out; simp; omega)
                  have d2 := (d0.alloc (by have := hs0.out; omega) (.cells #[.string p] 9)).alloc (by have := hs0.out; simp; omega) (.cells #[] 9)
                  simp only [World.size_alloc] at o2
                  have hlt2 : X0.heap.size < ((X0.alloc (.cells #[.string p] 9)).alloc (.cells #[] 9)).heap.size := by simp; omega
                  obtain ⟨A3, c3, X3, HR3, o3, g3, e3⟩ := app_strs (d := q) o2 (by have := d2.size; omega) (ys := out.take k) (m := k) (by rw [List.length_take]; omega) (hq1.below d2) (t := k) (by omega) (by omega)
                  refine wpAnyH_ready (rs := [4]) (by kernel_rfl) (by simp) ?_
                  refine AllReadyH.cons (o := ⟨_, _, _, _, _, _⟩) rfl (fun K hK => ?_) AllReadyH.nil
                  refine stepApp2 (by rfl) (.tmp 61) (.tmp 64) 27 rfl _ _ _ rfl rfl HR3.out ?_
                  refine hK.out _ _ trivial (fun hHeld => ?_)
                  clear hK K
                  try simp only [Act.put, List.setIfInBounds_toArray, List.set_cons_zero, List.set_cons_succ]
                  have d3 := d2.trans e3
                  have pR3 := rd_apart pR2 g3 hlt2 (by simp [Value.ownBlock])
                  obtain ⟨A4, c4, X4, HR4, o4, -, e4⟩ := app_strs (d := 1) o3 (by have := d3.size; omega) (ys := [p]) (m := 1) rfl pR3 (t := k + 1) (by omega) (by omega)
                  refine wpAnyH_ready (rs := [7]) (by kernel_rfl) (by simp) ?_
                  refine AllReadyH.cons (o := ⟨_, _, _, _, _, _⟩) rfl (fun K hK => ?_) AllReadyH.nil
                  refine stepApp2 (by rfl) (.tmp 65) (.tmp 67) 27 rfl _ _ _ rfl rfl HR4.out ?_
                  refine hK.out _ _ trivial (fun hHeld => ?_)
                  clear hK K
                  try simp only [Act.put, List.setIfInBounds_toArray, List.set_cons_zero, List.set_cons_succ]
                  have d4 := d3.trans e4
                  obtain ⟨A5, c5, X5, HR5, o5, -, e5⟩ := app_strs (d := q - k) o4 (by have := d4.size; omega) (ys := out.drop k) (m := out.length - k) (by simp) (hq2.below d4) (t := out.length + 1) (by omega) (by omega)
                  refine wpAnyH_ready (rs := [11]) (by kernel_rfl) (by simp) ?_
                  refine AllReadyH.cons (o := ⟨_, _, _, _, _, _⟩) rfl (fun K hK => ?_) AllReadyH.nil
                  refine stepApp2 (by rfl) (.tmp 68) (.tmp 71) 27 rfl _ _ _ rfl rfl HR5.out ?_
                  refine hK.out _ _ trivial (fun hHeld => ?_)
                  clear hK K
                  try simp only [Act.put, List.setIfInBounds_toArray, List.set_cons_zero, List.set_cons_succ]
                  have d5 := d4.trans e5
                  refine wpAnyH_take (i := 12) (oi := ⟨_, _, _, _, _, _⟩) (v := ?_) rfl (by kernel_rfl) (by kernel_rfl) (by kernel_rfl) (fun _ _ _ h => h) (Or.inl ⟨by rfl, ?_⟩) (by assumption) ?_
                  rotate_left
                  · intro w hSw; (try dsimp only at hSw); go_simp; (try (with_reducible rfl))
                  try simp only [Act.put, List.setIfInBounds_toArray, List.set_cons_zero, List.set_cons_succ]
                  refine wpAnyH_done (by kernel_rfl) ?_ _
                  have o6 : X5.ownsRow wr.heap.size 9 1 (.slice A5 (out.length + 1) c5) (out.length + 1) (strV (insP out p)) := by rw [HINS.out]; exact o5
                  have b6 := b.trans (d5.mono b.size)
                  have l6 : (insP out p).length = out.length + 1 := by have := o6.1; rw [strV_length] at this; omega
                  have f6 : out.length + 1 ≤ c5 := by obtain ⟨-, A9, c9, e9, h9, -⟩ := own_form o6; injection e9 with e1 e2 e3; rw [e3]; exact h9
                  have r6 := Rd.of_own o6
                  clear hHeld o6 o5 o4 HR4 HR5 hs1 hs2 hq1 hq2
                  go_wp2
                  go_roundw
                  case rel => exact ⟨j + 1, A5, c5, insP out p, by omega, by go_num, by rw [l6], by omega, by omega, HFOLD, r6, b6⟩
                  case measure => simp [intOf]; omega
          · have hkn : ¬ (k : Int) < out.length := by omega
            have hkeq : ((k : Int) == (out.length : Int)) = true := by simp; omega
            have hat : atS out p = k := atS_is hk HK.out (fun h => absurd h hko)
            have HINS : Hid (insP out p = out.take k ++ [p] ++ out.drop k) := by show _ = _; rw [insP, hat, if_neg (by rw [List.getElem?_eq_none (by omega)]; simp)]; simp
            clear hat
            go_wp2_with fail
            obtain ⟨B1, B2, hs1, hs2, hq1, hq2⟩ := cuts (k := k) hro hoq (by omega)
            have hz3 : (0 : Int) ≤ ((k : Nat) : Int) := by omega
            refine wp_region_held_drew (S := fun _ => True) (by kernel_rfl) trivial (fun hHeld => ?_)
            refine wpAnyH_take (i := 1) (oi := ⟨_, _, _, _, _, _⟩) (v := ?_) rfl (by kernel_rfl) (by kernel_rfl) (by kernel_rfl) (fun _ _ _ h => h) (Or.inl ⟨by rfl, ?_⟩) (by assumption) ?_
            rotate_left
            · intro w hSw; (try dsimp only at hSw); go_simp; (try (with_reducible rfl))
            try simp only [Act.put, List.setIfInBounds_toArray, List.set_cons_zero, List.set_cons_succ]
            refine wpAnyH_take (i := 2) (oi := ⟨_, _, _, _, _, _⟩) (v := ?_) rfl (by kernel_rfl) (by kernel_rfl) (by kernel_rfl) (fun _ _ _ h => h) (Or.inl ⟨by rfl, ?_⟩) (by assumption) ?_
            rotate_left
            · intro w hSw; (try dsimp only at hSw); go_simp; (try (with_reducible rfl))
            try simp only [Act.put, List.setIfInBounds_toArray, List.set_cons_zero, List.set_cons_succ]
            refine wpAnyH_take (i := 3) (oi := ⟨_, _, _, _, _, _⟩) (v := ?_) rfl (by kernel_rfl) (by kernel_rfl) (by kernel_rfl) (fun _ _ _ h => h) (Or.inl ⟨by rfl, ?_⟩) (by assumption) ?_
            rotate_left
            · intro w hSw; (try dsimp only at hSw); go_simp; (try (with_reducible rfl))
            try simp only [Act.put, List.setIfInBounds_toArray, List.set_cons_zero, List.set_cons_succ]
            refine wpAnyH_take (i := 5) (oi := ⟨_, _, _, _, _, _⟩) (v := ?_) rfl (by kernel_rfl) (by kernel_rfl) (by kernel_rfl) (fun _ _ _ h => h) (Or.inl ⟨by rfl, ?_⟩) (by assumption) ?_
            rotate_left
            · intro w hSw; (try dsimp only at hSw); go_simp; (try (with_reducible rfl))
            try simp only [Act.put, List.setIfInBounds_toArray, List.set_cons_zero, List.set_cons_succ]
            refine wpAnyH_take (i := 8) (oi := ⟨_, _, _, _, _, _⟩) (v := ?_) rfl (by kernel_rfl) (by kernel_rfl) (by kernel_rfl) (fun _ _ _ h => h) (Or.inl ⟨by rfl, ?_⟩) (by assumption) ?_
            rotate_left
            · intro w hSw; (try dsimp only at hSw); go_simp; (try (with_reducible rfl))
            try simp only [Act.put, List.setIfInBounds_toArray, List.set_cons_zero, List.set_cons_succ]
            refine wpAnyH_take (i := 9) (oi := ⟨_, _, _, _, _, _⟩) (v := ?_) rfl (by kernel_rfl) (by kernel_rfl) (by kernel_rfl) (fun _ _ _ h => h) (Or.inl ⟨by rfl, ?_⟩) (by assumption) ?_
            rotate_left
            · intro w hSw; (try dsimp only at hSw); go_simp; (try (with_reducible rfl))
            try simp only [Act.put, List.setIfInBounds_toArray, List.set_cons_zero, List.set_cons_succ]
            refine wpAnyH_take (i := 10) (oi := ⟨_, _, _, _, _, _⟩) (v := ?_) rfl (by kernel_rfl) (by kernel_rfl) (by kernel_rfl) (fun _ _ _ h => h) (Or.inl ⟨by rfl, ?_⟩) (by assumption) ?_
            rotate_left
            · intro w hSw; (try dsimp only at hSw); go_simp; (try (with_reducible rfl))
            try simp only [Act.put, List.setIfInBounds_toArray, List.set_cons_zero, List.set_cons_succ]
            have d0 : Below wr.heap.size wr wr.drew := ⟨rfl, rfl, rfl, Nat.le_refl _, fun _ _ => rfl⟩
            obtain ⟨X0, hX0⟩ : ∃ X0, wr.drew = X0 := ⟨_, rfl⟩
            rw [hX0] at d0 ⊢
            have hs0 : Hid (X0.heap.size = wr.heap.size) := by show _ = _; rw [← hX0]; rfl
            clear hX0
            refine wpAnyH_ready (rs := [0, 6]) (by kernel_rfl) (by simp) ?_
            refine AllReadyH.cons (o := ⟨_, _, _, _, _, _⟩) rfl (fun K hK => ?_) (AllReadyH.cons (o := ⟨_, _, _, _, _, _⟩) rfl (fun K hK => ?_) (AllReadyH.nil))
            · go_simp
              refine hK.out _ _ trivial (fun hHeld => ?_)
              clear hK K
              try simp only [Act.put, List.setIfInBounds_toArray, List.set_cons_zero, List.set_cons_succ]
              have o1 := own_none X0 wr.heap.size (by have := hs0.out; omega)
              have d1 := d0.alloc (by have := hs0.out; omega) (.cells #[] 9)
              refine wpAnyH_ready (rs := [4, 6]) (by kernel_rfl) (by simp) ?_
              refine AllReadyH.cons (o := ⟨_, _, _, _, _, _⟩) rfl (fun K hK => ?_) (AllReadyH.cons (o := ⟨_, _, _, _, _, _⟩) rfl (fun K hK => ?_) (AllReadyH.nil))
              · have o2 := o1
                have d2 := d1
                obtain ⟨A3, c3, X3, HR3, o3', g3, e3⟩ := app_strs (d := q) o2 (by have := d2.size; omega) (ys := out.take k) (m := k) (by rw [List.length_take]; omega) (hq1.below d2) (t := k) (by omega) (by omega)
                refine stepApp2 (by rfl) (.tmp 61) (.tmp 64) 27 rfl _ _ _ rfl rfl HR3.out ?_
                refine hK.out _ _ trivial (fun hHeld => ?_)
                clear hK K
                try simp only [Act.put, List.setIfInBounds_toArray, List.set_cons_zero, List.set_cons_succ]
                have d3' := d2.trans e3
                refine wpAnyH_ready (rs := [6]) (by kernel_rfl) (by simp) ?_
                refine AllReadyH.cons (o := ⟨_, _, _, _, _, _⟩) rfl (fun K hK => ?_) (AllReadyH.nil)
                go_simp
                refine hK.out _ _ trivial (fun hHeld => ?_)
                clear hK K
                try simp only [Act.put, List.setIfInBounds_toArray, List.set_cons_zero, List.set_cons_succ]
                have o3 := own_below o3' ((Below.refl _ _).alloc (Nat.le_refl _) (.cells #[.string p] 9))
                have pR3 := rd_one X3 p
                have d3 := d3'.alloc d3'.size (.cells #[.string p] 9)
                obtain ⟨A4, c4, X4, HR4, o4, -, e4⟩ := app_strs (d := 1) o3 (by have := d3.size; omega) (ys := [p]) (m := 1) rfl pR3 (t := k + 1) (by omega) (by omega)
                refine wpAnyH_ready (rs := [7]) (by kernel_rfl) (by simp) ?_
                refine AllReadyH.cons (o := ⟨_, _, _, _, _, _⟩) rfl (fun K hK => ?_) AllReadyH.nil
                refine stepApp2 (by rfl) (.tmp 65) (.tmp 67) 27 rfl _ _ _ rfl rfl HR4.out ?_
                refine hK.out _ _ trivial (fun hHeld => ?_)
                clear hK K
                try simp only [Act.put, List.setIfInBounds_toArray, List.set_cons_zero, List.set_cons_succ]
                have d4 := d3.trans e4
                obtain ⟨A5, c5, X5, HR5, o5, -, e5⟩ := app_strs (d := q - k) o4 (by have := d4.size; omega) (ys := out.drop k) (m := out.length - k) (by simp) (hq2.below d4) (t := out.length + 1) (by omega) (by omega)
                refine wpAnyH_ready (rs := [11]) (by kernel_rfl) (by simp) ?_
                refine AllReadyH.cons (o := ⟨_, _, _, _, _, _⟩) rfl (fun K hK => ?_) AllReadyH.nil
                refine stepApp2 (by rfl) (.tmp 68) (.tmp 71) 27 rfl _ _ _ rfl rfl HR5.out ?_
                refine hK.out _ _ trivial (fun hHeld => ?_)
                clear hK K
                try simp only [Act.put, List.setIfInBounds_toArray, List.set_cons_zero, List.set_cons_succ]
                have d5 := d4.trans e5
                refine wpAnyH_take (i := 12) (oi := ⟨_, _, _, _, _, _⟩) (v := ?_) rfl (by kernel_rfl) (by kernel_rfl) (by kernel_rfl) (fun _ _ _ h => h) (Or.inl ⟨by rfl, ?_⟩) (by assumption) ?_
                rotate_left
                · intro w hSw; (try dsimp only at hSw); go_simp; (try (with_reducible rfl))
                try simp only [Act.put, List.setIfInBounds_toArray, List.set_cons_zero, List.set_cons_succ]
                refine wpAnyH_done (by kernel_rfl) ?_ _
                have o6 : X5.ownsRow wr.heap.size 9 1 (.slice A5 (out.length + 1) c5) (out.length + 1) (strV (insP out p)) := by rw [HINS.out]; exact o5
                have b6 := b.trans (d5.mono b.size)
                have l6 : (insP out p).length = out.length + 1 := by have := o6.1; rw [strV_length] at this; omega
                have f6 : out.length + 1 ≤ c5 := by obtain ⟨-, A9, c9, e9, h9, -⟩ := own_form o6; injection e9 with e1 e2 e3; rw [e3]; exact h9
                have r6 := Rd.of_own o6
                clear hHeld o6 o5 o4 HR4 HR5 hs1 hs2 hq1 hq2
                go_wp2
                go_roundw
                case rel => exact ⟨j + 1, A5, c5, insP out p, by omega, by go_num, by rw [l6], by omega, by omega, HFOLD, r6, b6⟩
                case measure => simp [intOf]; omega
              · go_simp
                refine hK.out _ _ trivial (fun hHeld => ?_)
                clear hK K
                try simp only [Act.put, List.setIfInBounds_toArray, List.set_cons_zero, List.set_cons_succ]
                have o2 := own_below o1 ((Below.refl _ _).alloc (Nat.le_refl _) (.cells #[.string p] 9))
                have pR2 := rd_one (X0.alloc (.cells #[] 9)) p
                have d2 := d1.alloc d1.size (.cells #[.string p] 9)
                simp only [World.size_alloc] at pR2
                have hlt2 : X0.heap.size + 1 < ((X0.alloc (.cells #[] 9)).alloc (.cells #[.string p] 9)).heap.size := by simp
                obtain ⟨A3, c3, X3, HR3, o3, g3, e3⟩ := app_strs (d := q) o2 (by have := d2.size; omega) (ys := out.take k) (m := k) (by rw [List.length_take]; omega) (hq1.below d2) (t := k) (by omega) (by omega)
                refine wpAnyH_ready (rs := [4]) (by kernel_rfl) (by simp) ?_
                refine AllReadyH.cons (o := ⟨_, _, _, _, _, _⟩) rfl (fun K hK => ?_) AllReadyH.nil
                refine stepApp2 (by rfl) (.tmp 61) (.tmp 64) 27 rfl _ _ _ rfl rfl HR3.out ?_
                refine hK.out _ _ trivial (fun hHeld => ?_)
                clear hK K
                try simp only [Act.put, List.setIfInBounds_toArray, List.set_cons_zero, List.set_cons_succ]
                have d3 := d2.trans e3
                have pR3 := rd_apart pR2 g3 hlt2 (by simp [Value.ownBlock])
                obtain ⟨A4, c4, X4, HR4, o4, -, e4⟩ := app_strs (d := 1) o3 (by have := d3.size; omega) (ys := [p]) (m := 1) rfl pR3 (t := k + 1) (by omega) (by omega)
                refine wpAnyH_ready (rs := [7]) (by kernel_rfl) (by simp) ?_
                refine AllReadyH.cons (o := ⟨_, _, _, _, _, _⟩) rfl (fun K hK => ?_) AllReadyH.nil
                refine stepApp2 (by rfl) (.tmp 65) (.tmp 67) 27 rfl _ _ _ rfl rfl HR4.out ?_
                refine hK.out _ _ trivial (fun hHeld => ?_)
                clear hK K
                try simp only [Act.put, List.setIfInBounds_toArray, List.set_cons_zero, List.set_cons_succ]
                have d4 := d3.trans e4
                obtain ⟨A5, c5, X5, HR5, o5, -, e5⟩ := app_strs (d := q - k) o4 (by have := d4.size; omega) (ys := out.drop k) (m := out.length - k) (by simp) (hq2.below d4) (t := out.length + 1) (by omega) (by omega)
                refine wpAnyH_ready (rs := [11]) (by kernel_rfl) (by simp) ?_
                refine AllReadyH.cons (o := ⟨_, _, _, _, _, _⟩) rfl (fun K hK => ?_) AllReadyH.nil
                refine stepApp2 (by rfl) (.tmp 68) (.tmp 71) 27 rfl _ _ _ rfl rfl HR5.out ?_
                refine hK.out _ _ trivial (fun hHeld => ?_)
                clear hK K
                try simp only [Act.put, List.setIfInBounds_toArray, List.set_cons_zero, List.set_cons_succ]
                have d5 := d4.trans e5
                refine wpAnyH_take (i := 12) (oi := ⟨_, _, _, _, _, _⟩) (v := ?_) rfl (by kernel_rfl) (by kernel_rfl) (by kernel_rfl) (fun _ _ _ h => h) (Or.inl ⟨by rfl, ?_⟩) (by assumption) ?_
                rotate_left
                · intro w hSw; (try dsimp only at hSw); go_simp; (try (with_reducible rfl))
                try simp only [Act.put, List.setIfInBounds_toArray, List.set_cons_zero, List.set_cons_succ]
                refine wpAnyH_done (by kernel_rfl) ?_ _
                have o6 : X5.ownsRow wr.heap.size 9 1 (.slice A5 (out.length + 1) c5) (out.length + 1) (strV (insP out p)) := by rw [HINS.out]; exact o5
                have b6 := b.trans (d5.mono b.size)
                have l6 : (insP out p).length = out.length + 1 := by have := o6.1; rw [strV_length] at this; omega
                have f6 : out.length + 1 ≤ c5 := by obtain ⟨-, A9, c9, e9, h9, -⟩ := own_form o6; injection e9 with e1 e2 e3; rw [e3]; exact h9
                have r6 := Rd.of_own o6
                clear hHeld o6 o5 o4 HR4 HR5 hs1 hs2 hq1 hq2
                go_wp2
                go_roundw
                case rel => exact ⟨j + 1, A5, c5, insP out p, by omega, by go_num, by rw [l6], by omega, by omega, HFOLD, r6, b6⟩
                case measure => simp [intOf]; omega
            · go_simp
              refine hK.out _ _ trivial (fun hHeld => ?_)
              clear hK K
              try simp only [Act.put, List.setIfInBounds_toArray, List.set_cons_zero, List.set_cons_succ]
              refine wpAnyH_ready (rs := [0]) (by kernel_rfl) (by simp) ?_
              refine AllReadyH.cons (o := ⟨_, _, _, _, _, _⟩) rfl (fun K hK => ?_) (AllReadyH.nil)
              go_simp
              refine hK.out _ _ trivial (fun hHeld => ?_)
              clear hK K
              try simp only [Act.put, List.setIfInBounds_toArray, List.set_cons_zero, List.set_cons_succ]
              have pR2 := (rd_one X0 p).below ((Below.refl _ _).alloc (Nat.le_refl _) (.cells #[] 9))
              have o2 := own_none (X0.alloc (.cells #[.string p] 9)) wr.heap.size (by have := hs0.out; simp; omega)
              have d2 := (d0.alloc (by have := hs0.out; omega) (.cells #[.string p] 9)).alloc (by have := hs0.out; simp; omega) (.cells #[] 9)
              simp only [World.size_alloc] at o2
              have hlt2 : X0.heap.size < ((X0.alloc (.cells #[.string p] 9)).alloc (.cells #[] 9)).heap.size := by simp; omega
              obtain ⟨A3, c3, X3, HR3, o3, g3, e3⟩ := app_strs (d := q) o2 (by have := d2.size; omega) (ys := out.take k) (m := k) (by rw [List.length_take]; omega) (hq1.below d2) (t := k) (by omega) (by omega)
              refine wpAnyH_ready (rs := [4]) (by kernel_rfl) (by simp) ?_
              refine AllReadyH.cons (o := ⟨_, _, _, _, _, _⟩) rfl (fun K hK => ?_) AllReadyH.nil
              refine stepApp2 (by rfl) (.tmp 61) (.tmp 64) 27 rfl _ _ _ rfl rfl HR3.out ?_
              refine hK.out _ _ trivial (fun hHeld => ?_)
              clear hK K
              try simp only [Act.put, List.setIfInBounds_toArray, List.set_cons_zero, List.set_cons_succ]
              have d3 := d2.trans e3
              have pR3 := rd_apart pR2 g3 hlt2 (by simp [Value.ownBlock])
              obtain ⟨A4, c4, X4, HR4, o4, -, e4⟩ := app_strs (d := 1) o3 (by have := d3.size; omega) (ys := [p]) (m := 1) rfl pR3 (t := k + 1) (by omega) (by omega)
              refine wpAnyH_ready (rs := [7]) (by kernel_rfl) (by simp) ?_
              refine AllReadyH.cons (o := ⟨_, _, _, _, _, _⟩) rfl (fun K hK => ?_) AllReadyH.nil
              refine stepApp2 (by rfl) (.tmp 65) (.tmp 67) 27 rfl _ _ _ rfl rfl HR4.out ?_
              refine hK.out _ _ trivial (fun hHeld => ?_)
              clear hK K
              try simp only [Act.put, List.setIfInBounds_toArray, List.set_cons_zero, List.set_cons_succ]
              have d4 := d3.trans e4
              obtain ⟨A5, c5, X5, HR5, o5, -, e5⟩ := app_strs (d := q - k) o4 (by have := d4.size; omega) (ys := out.drop k) (m := out.length - k) (by simp) (hq2.below d4) (t := out.length + 1) (by omega) (by omega)
              refine wpAnyH_ready (rs := [11]) (by kernel_rfl) (by simp) ?_
              refine AllReadyH.cons (o := ⟨_, _, _, _, _, _⟩) rfl (fun K hK => ?_) AllReadyH.nil
              refine stepApp2 (by rfl) (.tmp 68) (.tmp 71) 27 rfl _ _ _ rfl rfl HR5.out ?_
              refine hK.out _ _ trivial (fun hHeld => ?_)
              clear hK K
              try simp only [Act.put, List.setIfInBounds_toArray, List.set_cons_zero, List.set_cons_succ]
              have d5 := d4.trans e5
              refine wpAnyH_take (i := 12) (oi := ⟨_, _, _, _, _, _⟩) (v := ?_) rfl (by kernel_rfl) (by kernel_rfl) (by kernel_rfl) (fun _ _ _ h => h) (Or.inl ⟨by rfl, ?_⟩) (by assumption) ?_
              rotate_left
              · intro w hSw; (try dsimp only at hSw); go_simp; (try (with_reducible rfl))
              try simp only [Act.put, List.setIfInBounds_toArray, List.set_cons_zero, List.set_cons_succ]
              refine wpAnyH_done (by kernel_rfl) ?_ _
              have o6 : X5.ownsRow wr.heap.size 9 1 (.slice A5 (out.length + 1) c5) (out.length + 1) (strV (insP out p)) := by rw [HINS.out]; exact o5
              have b6 := b.trans (d5.mono b.size)
              have l6 : (insP out p).length = out.length + 1 := by have := o6.1; rw [strV_length] at this; omega
              have f6 : out.length + 1 ≤ c5 := by obtain ⟨-, A9, c9, e9, h9, -⟩ := own_form o6; injection e9 with e1 e2 e3; rw [e3]; exact h9
              have r6 := Rd.of_own o6
              clear hHeld o6 o5 o4 HR4 HR5 hs1 hs2 hq1 hq2
              go_wp2
              go_roundw
              case rel => exact ⟨j + 1, A5, c5, insP out p, by omega, by go_num, by rw [l6], by omega, by omega, HFOLD, r6, b6⟩
              case measure => simp [intOf]; omega
      · have hjl : j - n < fs.length := by rw [HL2.out]; omega
        obtain ⟨g, og, rfl, x0, -⟩ := (hr2.below b).fil hjl
        have hpe : fs[j - n].1 = p := by
          have := hp
          rw [pthL, List.getElem?_append_right (by rw [List.length_map, HL.out]; omega), List.length_map, HL.out, List.getElem?_map, List.getElem?_eq_getElem hjl] at this
          injection this
        rw [hpe] at x0
        have hjE' : ¬ (j : Int) < n := by omega
        have hjn1 : (j : Int) - n = ((j - n : Nat) : Int) := by omega
        have hjn2 : (0 : Int) ≤ ((j - n : Nat) : Int) := by omega
        have hjn3 : ((j - n : Nat) : Int) < m := by omega
        clear hp hpe
        go_wp2_with fail
        go_loop [8] (fun i => ∃ k : Nat, k ≤ out.length ∧ i = .int .i64 k ∧ Hid (∀ i (hi : i < out.length), i < k → lessS out[i] p = true)) (fun i => out.length - (intOf i).toNat)
        case atStart => exact ⟨0, by omega, rfl, hid (fun i _ hi => absurd hi (by omega))⟩
        case round =>
          obtain ⟨k, hk, rfl, HK⟩ := hrel
          by_cases hko : k < out.length
          · have hkz : (0 : Int) ≤ k := by omega
            have hklt : (k : Int) < out.length := by omega
            obtain ⟨gs, os, rfl, y0, -⟩ := hro.at_ (k := k) (by rw [strV_length]; exact hko)
            rw [show (strV out)[k]'(by rw [strV_length]; exact hko) = .string out[k] by simp [strV]] at y0
            have hls : Op.bytesLess out[k].toList p.toList = lessS out[k] p := by rw [Lib.toList_data, Lib.toList_data]; rfl
            cases hle : lessS out[k] p with
            | true =>
              rw [hle] at hls
              have HK2 : Hid (∀ i (hi : i < out.length), i < k + 1 → lessS out[i] p = true) := fun i hi hik => by
                by_cases e : i = k
                · subst e; exact hle
                · exact HK.out i hi (by omega)
              clear hle
              go_wp2
              go_round
              case rel => exact ⟨k + 1, by omega, by go_num, HK2⟩
              case measure => simp [intOf]; omega
            | false =>
              rw [hle] at hls
              have hat : atS out p = k := atS_is hk HK.out (fun _ => hle)
              have hsq := str_eqb out[k] p
              clear hle
              by_cases hpq : out[k] = p
              · have HINS : Hid (insP out p = out) := by show _ = _; rw [insP, hat, if_pos (by rw [List.getElem?_eq_getElem hko, hpq])]
                rw [decide_eq_true hpq] at hsq
                clear hat hpq
                have HF2 : Hid (out = ((pthL es fs).take (j + 1)).foldl insP []) := by show _ = _; rw [← HFOLD.out, HINS.out]
                go_wp2
                go_roundw
                case rel => exact ⟨j + 1, _, q, out, by omega, by go_num, rfl, hoq, by omega, HF2, hro, b⟩
                case measure => simp [intOf]; omega
              · have HINS : Hid (insP out p = out.take k ++ [p] ++ out.drop k) := by show _ = _; rw [insP, hat, if_neg (by rw [List.getElem?_eq_getElem hko]; exact fun e => hpq (by injection e))]; simp
                rw [decide_eq_false hpq] at hsq
                clear hat hpq
                go_wp2_with fail
                obtain ⟨B1, B2, hs1, hs2, hq1, hq2⟩ := cuts (k := k) hro hoq (by omega)
                have hz3 : (0 : Int) ≤ ((k : Nat) : Int) := by omega
                refine wp_region_held_drew (S := fun _ => True) (by kernel_rfl) trivial (fun hHeld => ?_)
                refine wpAnyH_take (i := 1) (oi := ⟨_, _, _, _, _, _⟩) (v := ?_) rfl (by kernel_rfl) (by kernel_rfl) (by kernel_rfl) (fun _ _ _ h => h) (Or.inl ⟨by rfl, ?_⟩) (by assumption) ?_
                rotate_left
                · intro w hSw; (try dsimp only at hSw); go_simp; (try (with_reducible rfl))
                try simp only [Act.put, List.setIfInBounds_toArray, List.set_cons_zero, List.set_cons_succ]
                refine wpAnyH_take (i := 2) (oi := ⟨_, _, _, _, _, _⟩) (v := ?_) rfl (by kernel_rfl) (by kernel_rfl) (by kernel_rfl) (fun _ _ _ h => h) (Or.inl ⟨by rfl, ?_⟩) (by assumption) ?_
                rotate_left
                · intro w hSw; (try dsimp only at hSw); go_simp; (try (with_reducible rfl))
                try simp only [Act.put, List.setIfInBounds_toArray, List.set_cons_zero, List.set_cons_succ]
                refine wpAnyH_take (i := 3) (oi := ⟨_, _, _, _, _, _⟩) (v := ?_) rfl (by kernel_rfl) (by kernel_rfl) (by kernel_rfl) (fun _ _ _ h => h) (Or.inl ⟨by rfl, ?_⟩) (by assumption) ?_
                rotate_left
                · intro w hSw; (try dsimp only at hSw); go_simp; (try (with_reducible rfl))
                try simp only [Act.put, List.setIfInBounds_toArray, List.set_cons_zero, List.set_cons_succ]
                refine wpAnyH_take (i := 5) (oi := ⟨_, _, _, _, _, _⟩) (v := ?_) rfl (by kernel_rfl) (by kernel_rfl) (by kernel_rfl) (fun _ _ _ h => h) (Or.inl ⟨by rfl, ?_⟩) (by assumption) ?_
                rotate_left
                · intro w hSw; (try dsimp only at hSw); go_simp; (try (with_reducible rfl))
                try simp only [Act.put, List.setIfInBounds_toArray, List.set_cons_zero, List.set_cons_succ]
                refine wpAnyH_take (i := 8) (oi := ⟨_, _, _, _, _, _⟩) (v := ?_) rfl (by kernel_rfl) (by kernel_rfl) (by kernel_rfl) (fun _ _ _ h => h) (Or.inl ⟨by rfl, ?_⟩) (by assumption) ?_
                rotate_left
                · intro w hSw; (try dsimp only at hSw); go_simp; (try (with_reducible rfl))
                try simp only [Act.put, List.setIfInBounds_toArray, List.set_cons_zero, List.set_cons_succ]
                refine wpAnyH_take (i := 9) (oi := ⟨_, _, _, _, _, _⟩) (v := ?_) rfl (by kernel_rfl) (by kernel_rfl) (by kernel_rfl) (fun _ _ _ h => h) (Or.inl ⟨by rfl, ?_⟩) (by assumption) ?_
                rotate_left
                · intro w hSw; (try dsimp only at hSw); go_simp; (try (with_reducible rfl))
                try simp only [Act.put, List.setIfInBounds_toArray, List.set_cons_zero, List.set_cons_succ]
                refine wpAnyH_take (i := 10) (oi := ⟨_, _, _, _, _, _⟩) (v := ?_) rfl (by kernel_rfl) (by kernel_rfl) (by kernel_rfl) (fun _ _ _ h => h) (Or.inl ⟨by rfl, ?_⟩) (by assumption) ?_
                rotate_left
                · intro w hSw; (try dsimp only at hSw); go_simp; (try (with_reducible rfl))
                try simp only [Act.put, List.setIfInBounds_toArray, List.set_cons_zero, List.set_cons_succ]
                have d0 : Below wr.heap.size wr wr.drew := ⟨rfl, rfl, rfl, Nat.le_refl _, fun _ _ => rfl⟩
                obtain ⟨X0, hX0⟩ : ∃ X0, wr.drew = X0 := ⟨_, rfl⟩
                rw [hX0] at d0 ⊢
                have hs0 : Hid (X0.heap.size = wr.heap.size) := by show _ = _; rw [← hX0]; rfl
                clear hX0
                refine wpAnyH_ready (rs := [0, 6]) (by kernel_rfl) (by simp) ?_
                refine AllReadyH.cons (o := ⟨_, _, _, _, _, _⟩) rfl (fun K hK => ?_) (AllReadyH.cons (o := ⟨_, _, _, _, _, _⟩) rfl (fun K hK => ?_) (AllReadyH.nil))
                · go_simp
                  refine hK.out _ _ trivial (fun hHeld => ?_)
                  clear hK K
                  try simp only [Act.put, List.setIfInBounds_toArray, List.set_cons_zero, List.set_cons_succ]
                  have o1 := own_none X0 wr.heap.size (by have := hs0.out; omega)
                  have d1 := d0.alloc (by have := hs0.out; omega) (.cells #[] 9)
                  refine wpAnyH_ready (rs := [4, 6]) (by kernel_rfl) (by simp) ?_
                  refine AllReadyH.cons (o := ⟨_, _, _, _, _, _⟩) rfl (fun K hK => ?_) (AllReadyH.cons (o := ⟨_, _, _, _, _, _⟩) rfl (fun K hK => ?_) (AllReadyH.nil))
                  · have o2 := o1
                    have d2 := d1
                    obtain ⟨A3, c3, X3, HR3, o3', g3, e3⟩ := app_strs (d := q) o2 (by have := d2.size; omega) (ys := out.take k) (m := k) (by rw [List.length_take]; omega) (hq1.below d2) (t := k) (by omega) (by omega)
                    refine stepApp2 (by rfl) (.tmp 61) (.tmp 64) 27 rfl _ _ _ rfl rfl HR3.out ?_
                    refine hK.out _ _ trivial (fun hHeld => ?_)
                    clear hK K
                    try simp only [Act.put, List.setIfInBounds_toArray, List.set_cons_zero, List.set_cons_succ]
                    have d3' := d2.trans e3
                    refine wpAnyH_ready (rs := [6]) (by kernel_rfl) (by simp) ?_
                    refine AllReadyH.cons (o := ⟨_, _, _, _, _, _⟩) rfl (fun K hK => ?_) (AllReadyH.nil)
                    go_simp
                    refine hK.out _ _ trivial (fun hHeld => ?_)
                    clear hK K
                    try simp only [Act.put, List.setIfInBounds_toArray, List.set_cons_zero, List.set_cons_succ]
                    have o3 := own_below o3' ((Below.refl _ _).alloc (Nat.le_refl _) (.cells #[.string p] 9))
                    have pR3 := rd_one X3 p
                    have d3 := d3'.alloc d3'.size (.cells #[.string p] 9)
                    obtain ⟨A4, c4, X4, HR4, o4, -, e4⟩ := app_strs (d := 1) o3 (by have := d3.size; omega) (ys := [p]) (m := 1) rfl pR3 (t := k + 1) (by omega) (by omega)
                    refine wpAnyH_ready (rs := [7]) (by kernel_rfl) (by simp) ?_
                    refine AllReadyH.cons (o := ⟨_, _, _, _, _, _⟩) rfl (fun K hK => ?_) AllReadyH.nil
                    refine stepApp2 (by rfl) (.tmp 65) (.tmp 67) 27 rfl _ _ _ rfl rfl HR4.out ?_
                    refine hK.out _ _ trivial (fun hHeld => ?_)
                    clear hK K
                    try simp only [Act.put, List.setIfInBounds_toArray, List.set_cons_zero, List.set_cons_succ]
                    have d4 := d3.trans e4
                    obtain ⟨A5, c5, X5, HR5, o5, -, e5⟩ := app_strs (d := q - k) o4 (by have := d4.size; omega) (ys := out.drop k) (m := out.length - k) (by simp) (hq2.below d4) (t := out.length + 1) (by omega) (by omega)
                    refine wpAnyH_ready (rs := [11]) (by kernel_rfl) (by simp) ?_
                    refine AllReadyH.cons (o := ⟨_, _, _, _, _, _⟩) rfl (fun K hK => ?_) AllReadyH.nil
                    refine stepApp2 (by rfl) (.tmp 68) (.tmp 71) 27 rfl _ _ _ rfl rfl HR5.out ?_
                    refine hK.out _ _ trivial (fun hHeld => ?_)
                    clear hK K
                    try simp only [Act.put, List.setIfInBounds_toArray, List.set_cons_zero, List.set_cons_succ]
                    have d5 := d4.trans e5
                    refine wpAnyH_take (i := 12) (oi := ⟨_, _, _, _, _, _⟩) (v := ?_) rfl (by kernel_rfl) (by kernel_rfl) (by kernel_rfl) (fun _ _ _ h => h) (Or.inl ⟨by rfl, ?_⟩) (by assumption) ?_
                    rotate_left
                    · intro w hSw; (try dsimp only at hSw); go_simp; (try (with_reducible rfl))
                    try simp only [Act.put, List.setIfInBounds_toArray, List.set_cons_zero, List.set_cons_succ]
                    refine wpAnyH_done (by kernel_rfl) ?_ _
                    have o6 : X5.ownsRow wr.heap.size 9 1 (.slice A5 (out.length + 1) c5) (out.length + 1) (strV (insP out p)) := by rw [HINS.out]; exact o5
                    have b6 := b.trans (d5.mono b.size)
                    have l6 : (insP out p).length = out.length + 1 := by have := o6.1; rw [strV_length] at this; omega
                    have f6 : out.length + 1 ≤ c5 := by obtain ⟨-, A9, c9, e9, h9, -⟩ := own_form o6; injection e9 with e1 e2 e3; rw [e3]; exact h9
                    have r6 := Rd.of_own o6
                    clear hHeld o6 o5 o4 HR4 HR5 hs1 hs2 hq1 hq2
                    go_wp2
                    go_roundw
                    case rel => exact ⟨j + 1, A5, c5, insP out p, by omega, by go_num, by rw [l6], by omega, by omega, HFOLD, r6, b6⟩
                    case measure => simp [intOf]; omega
                  · go_simp
                    refine hK.out _ _ trivial (fun hHeld => ?_)
                    clear hK K
                    try simp only [Act.put, List.setIfInBounds_toArray, List.set_cons_zero, List.set_cons_succ]
                    have o2 := own_below o1 ((Below.refl _ _).alloc (Nat.le_refl _) (.cells #[.string p] 9))
                    have pR2 := rd_one (X0.alloc (.cells #[] 9)) p
                    have d2 := d1.alloc d1.size (.cells #[.string p] 9)
                    simp only [World.size_alloc] at pR2
                    have hlt2 : X0.heap.size + 1 < ((X0.alloc (.cells #[] 9)).alloc (.cells #[.string p] 9)).heap.size := by simp
                    obtain ⟨A3, c3, X3, HR3, o3, g3, e3⟩ := app_strs (d := q) o2 (by have := d2.size; omega) (ys := out.take k) (m := k) (by rw [List.length_take]; omega) (hq1.below d2) (t := k) (by omega) (by omega)
                    refine wpAnyH_ready (rs := [4]) (by kernel_rfl) (by simp) ?_
                    refine AllReadyH.cons (o := ⟨_, _, _, _, _, _⟩) rfl (fun K hK => ?_) AllReadyH.nil
                    refine stepApp2 (by rfl) (.tmp 61) (.tmp 64) 27 rfl _ _ _ rfl rfl HR3.out ?_
                    refine hK.out _ _ trivial (fun hHeld => ?_)
                    clear hK K
                    try simp only [Act.put, List.setIfInBounds_toArray, List.set_cons_zero, List.set_cons_succ]
                    have d3 := d2.trans e3
                    have pR3 := rd_apart pR2 g3 hlt2 (by simp [Value.ownBlock])
                    obtain ⟨A4, c4, X4, HR4, o4, -, e4⟩ := app_strs (d := 1) o3 (by have := d3.size; omega) (ys := [p]) (m := 1) rfl pR3 (t := k + 1) (by omega) (by omega)
                    refine wpAnyH_ready (rs := [7]) (by kernel_rfl) (by simp) ?_
                    refine AllReadyH.cons (o := ⟨_, _, _, _, _, _⟩) rfl (fun K hK => ?_) AllReadyH.nil
                    refine stepApp2 (by rfl) (.tmp 65) (.tmp 67) 27 rfl _ _ _ rfl rfl HR4.out ?_
                    refine hK.out _ _ trivial (fun hHeld => ?_)
                    clear hK K
                    try simp only [Act.put, List.setIfInBounds_toArray, List.set_cons_zero, List.set_cons_succ]
                    have d4 := d3.trans e4
                    obtain ⟨A5, c5, X5, HR5, o5, -, e5⟩ := app_strs (d := q - k) o4 (by have := d4.size; omega) (ys := out.drop k) (m := out.length - k) (by simp) (hq2.below d4) (t := out.length + 1) (by omega) (by omega)
                    refine wpAnyH_ready (rs := [11]) (by kernel_rfl) (by simp) ?_
                    refine AllReadyH.cons (o := ⟨_, _, _, _, _, _⟩) rfl (fun K hK => ?_) AllReadyH.nil
                    refine stepApp2 (by rfl) (.tmp 68) (.tmp 71) 27 rfl _ _ _ rfl rfl HR5.out ?_
                    refine hK.out _ _ trivial (fun hHeld => ?_)
                    clear hK K
                    try simp only [Act.put, List.setIfInBounds_toArray, List.set_cons_zero, List.set_cons_succ]
                    have d5 := d4.trans e5
                    refine wpAnyH_take (i := 12) (oi := ⟨_, _, _, _, _, _⟩) (v := ?_) rfl (by kernel_rfl) (by kernel_rfl) (by kernel_rfl) (fun _ _ _ h => h) (Or.inl ⟨by rfl, ?_⟩) (by assumption) ?_
                    rotate_left
                    · intro w hSw; (try dsimp only at hSw); go_simp; (try (with_reducible rfl))
                    try simp only [Act.put, List.setIfInBounds_toArray, List.set_cons_zero, List.set_cons_succ]
                    refine wpAnyH_done (by kernel_rfl) ?_ _
                    have o6 : X5.ownsRow wr.heap.size 9 1 (.slice A5 (out.length + 1) c5) (out.length + 1) (strV (insP out p)) := by rw [HINS.out]; exact o5
                    have b6 := b.trans (d5.mono b.size)
                    have l6 : (insP out p).length = out.length + 1 := by have := o6.1; rw [strV_length] at this; omega
                    have f6 : out.length + 1 ≤ c5 := by obtain ⟨-, A9, c9, e9, h9, -⟩ := own_form o6; injection e9 with e1 e2 e3; rw [e3]; exact h9
                    have r6 := Rd.of_own o6
                    clear hHeld o6 o5 o4 HR4 HR5 hs1 hs2 hq1 hq2
                    go_wp2
                    go_roundw
                    case rel => exact ⟨j + 1, A5, c5, insP out p, by omega, by go_num, by rw [l6], by omega, by omega, HFOLD, r6, b6⟩
                    case measure => simp [intOf]; omega
                · go_simp
                  refine hK.out _ _ trivial (fun hHeld => ?_)
                  clear hK K
                  try simp only [Act.put, List.setIfInBounds_toArray, List.set_cons_zero, List.set_cons_succ]
                  refine wpAnyH_ready (rs := [0]) (by kernel_rfl) (by simp) ?_
                  refine AllReadyH.cons (o := ⟨_, _, _, _, _, _⟩) rfl (fun K hK => ?_) (AllReadyH.nil)
                  go_simp
                  refine hK.out _ _ trivial (fun hHeld => ?_)
                  clear hK K
                  try simp only [Act.put, List.setIfInBounds_toArray, List.set_cons_zero, List.set_cons_succ]
                  have pR2 := (rd_one X0 p).below ((Below.refl _ _).alloc (Nat.le_refl _) (.cells #[] 9))
                  have o2 := own_none (X0.alloc (.cells #[.string p] 9)) wr.heap.size (by have := hs0.out; simp; omega)
                  have d2 := (d0.alloc (by have := hs0.out; omega) (.cells #[.string p] 9)).alloc (by have := hs0.out; simp; omega) (.cells #[] 9)
                  simp only [World.size_alloc] at o2
                  have hlt2 : X0.heap.size < ((X0.alloc (.cells #[.string p] 9)).alloc (.cells #[] 9)).heap.size := by simp; omega
                  obtain ⟨A3, c3, X3, HR3, o3, g3, e3⟩ := app_strs (d := q) o2 (by have := d2.size; omega) (ys := out.take k) (m := k) (by rw [List.length_take]; omega) (hq1.below d2) (t := k) (by omega) (by omega)
                  refine wpAnyH_ready (rs := [4]) (by kernel_rfl) (by simp) ?_
                  refine AllReadyH.cons (o := ⟨_, _, _, _, _, _⟩) rfl (fun K hK => ?_) AllReadyH.nil
                  refine stepApp2 (by rfl) (.tmp 61) (.tmp 64) 27 rfl _ _ _ rfl rfl HR3.out ?_
                  refine hK.out _ _ trivial (fun hHeld => ?_)
                  clear hK K
                  try simp only [Act.put, List.setIfInBounds_toArray, List.set_cons_zero, List.set_cons_succ]
                  have d3 := d2.trans e3
                  have pR3 := rd_apart pR2 g3 hlt2 (by simp [Value.ownBlock])
                  obtain ⟨A4, c4, X4, HR4, o4, -, e4⟩ := app_strs (d := 1) o3 (by have := d3.size; omega) (ys := [p]) (m := 1) rfl pR3 (t := k + 1) (by omega) (by omega)
                  refine wpAnyH_ready (rs := [7]) (by kernel_rfl) (by simp) ?_
                  refine AllReadyH.cons (o := ⟨_, _, _, _, _, _⟩) rfl (fun K hK => ?_) AllReadyH.nil
                  refine stepApp2 (by rfl) (.tmp 65) (.tmp 67) 27 rfl _ _ _ rfl rfl HR4.out ?_
                  refine hK.out _ _ trivial (fun hHeld => ?_)
                  clear hK K
                  try simp only [Act.put, List.setIfInBounds_toArray, List.set_cons_zero, List.set_cons_succ]
                  have d4 := d3.trans e4
                  obtain ⟨A5, c5, X5, HR5, o5, -, e5⟩ := app_strs (d := q - k) o4 (by have := d4.size; omega) (ys := out.drop k) (m := out.length - k) (by simp) (hq2.below d4) (t := out.length + 1) (by omega) (by omega)
                  refine wpAnyH_ready (rs := [11]) (by kernel_rfl) (by simp) ?_
                  refine AllReadyH.cons (o := ⟨_, _, _, _, _, _⟩) rfl (fun K hK => ?_) AllReadyH.nil
                  refine stepApp2 (by rfl) (.tmp 68) (.tmp 71) 27 rfl _ _ _ rfl rfl HR5.out ?_
                  refine hK.out _ _ trivial (fun hHeld => ?_)
                  clear hK K
                  try simp only [Act.put, List.setIfInBounds_toArray, List.set_cons_zero, List.set_cons_succ]
                  have d5 := d4.trans e5
                  refine wpAnyH_take (i := 12) (oi := ⟨_, _, _, _, _, _⟩) (v := ?_) rfl (by kernel_rfl) (by kernel_rfl) (by kernel_rfl) (fun _ _ _ h => h) (Or.inl ⟨by rfl, ?_⟩) (by assumption) ?_
                  rotate_left
                  · intro w hSw; (try dsimp only at hSw); go_simp; (try (with_reducible rfl))
                  try simp only [Act.put, List.setIfInBounds_toArray, List.set_cons_zero, List.set_cons_succ]
                  refine wpAnyH_done (by kernel_rfl) ?_ _
                  have o6 : X5.ownsRow wr.heap.size 9 1 (.slice A5 (out.length + 1) c5) (out.length + 1) (strV (insP out p)) := by rw [HINS.out]; exact o5
                  have b6 := b.trans (d5.mono b.size)
                  have l6 : (insP out p).length = out.length + 1 := by have := o6.1; rw [strV_length] at this; omega
                  have f6 : out.length + 1 ≤ c5 := by obtain ⟨-, A9, c9, e9, h9, -⟩ := own_form o6; injection e9 with e1 e2 e3; rw [e3]; exact h9
                  have r6 := Rd.of_own o6
                  clear hHeld o6 o5 o4 HR4 HR5 hs1 hs2 hq1 hq2
                  go_wp2
                  go_roundw
                  case rel => exact ⟨j + 1, A5, c5, insP out p, by omega, by go_num, by rw [l6], by omega, by omega, HFOLD, r6, b6⟩
                  case measure => simp [intOf]; omega
          · have hkn : ¬ (k : Int) < out.length := by omega
            have hkeq : ((k : Int) == (out.length : Int)) = true := by simp; omega
            have hat : atS out p = k := atS_is hk HK.out (fun h => absurd h hko)
            have HINS : Hid (insP out p = out.take k ++ [p] ++ out.drop k) := by show _ = _; rw [insP, hat, if_neg (by rw [List.getElem?_eq_none (by omega)]; simp)]; simp
            clear hat
            go_wp2_with fail
            obtain ⟨B1, B2, hs1, hs2, hq1, hq2⟩ := cuts (k := k) hro hoq (by omega)
            have hz3 : (0 : Int) ≤ ((k : Nat) : Int) := by omega
            refine wp_region_held_drew (S := fun _ => True) (by kernel_rfl) trivial (fun hHeld => ?_)
            refine wpAnyH_take (i := 1) (oi := ⟨_, _, _, _, _, _⟩) (v := ?_) rfl (by kernel_rfl) (by kernel_rfl) (by kernel_rfl) (fun _ _ _ h => h) (Or.inl ⟨by rfl, ?_⟩) (by assumption) ?_
            rotate_left
            · intro w hSw; (try dsimp only at hSw); go_simp; (try (with_reducible rfl))
            try simp only [Act.put, List.setIfInBounds_toArray, List.set_cons_zero, List.set_cons_succ]
            refine wpAnyH_take (i := 2) (oi := ⟨_, _, _, _, _, _⟩) (v := ?_) rfl (by kernel_rfl) (by kernel_rfl) (by kernel_rfl) (fun _ _ _ h => h) (Or.inl ⟨by rfl, ?_⟩) (by assumption) ?_
            rotate_left
            · intro w hSw; (try dsimp only at hSw); go_simp; (try (with_reducible rfl))
            try simp only [Act.put, List.setIfInBounds_toArray, List.set_cons_zero, List.set_cons_succ]
            refine wpAnyH_take (i := 3) (oi := ⟨_, _, _, _, _, _⟩) (v := ?_) rfl (by kernel_rfl) (by kernel_rfl) (by kernel_rfl) (fun _ _ _ h => h) (Or.inl ⟨by rfl, ?_⟩) (by assumption) ?_
            rotate_left
            · intro w hSw; (try dsimp only at hSw); go_simp; (try (with_reducible rfl))
            try simp only [Act.put, List.setIfInBounds_toArray, List.set_cons_zero, List.set_cons_succ]
            refine wpAnyH_take (i := 5) (oi := ⟨_, _, _, _, _, _⟩) (v := ?_) rfl (by kernel_rfl) (by kernel_rfl) (by kernel_rfl) (fun _ _ _ h => h) (Or.inl ⟨by rfl, ?_⟩) (by assumption) ?_
            rotate_left
            · intro w hSw; (try dsimp only at hSw); go_simp; (try (with_reducible rfl))
            try simp only [Act.put, List.setIfInBounds_toArray, List.set_cons_zero, List.set_cons_succ]
            refine wpAnyH_take (i := 8) (oi := ⟨_, _, _, _, _, _⟩) (v := ?_) rfl (by kernel_rfl) (by kernel_rfl) (by kernel_rfl) (fun _ _ _ h => h) (Or.inl ⟨by rfl, ?_⟩) (by assumption) ?_
            rotate_left
            · intro w hSw; (try dsimp only at hSw); go_simp; (try (with_reducible rfl))
            try simp only [Act.put, List.setIfInBounds_toArray, List.set_cons_zero, List.set_cons_succ]
            refine wpAnyH_take (i := 9) (oi := ⟨_, _, _, _, _, _⟩) (v := ?_) rfl (by kernel_rfl) (by kernel_rfl) (by kernel_rfl) (fun _ _ _ h => h) (Or.inl ⟨by rfl, ?_⟩) (by assumption) ?_
            rotate_left
            · intro w hSw; (try dsimp only at hSw); go_simp; (try (with_reducible rfl))
            try simp only [Act.put, List.setIfInBounds_toArray, List.set_cons_zero, List.set_cons_succ]
            refine wpAnyH_take (i := 10) (oi := ⟨_, _, _, _, _, _⟩) (v := ?_) rfl (by kernel_rfl) (by kernel_rfl) (by kernel_rfl) (fun _ _ _ h => h) (Or.inl ⟨by rfl, ?_⟩) (by assumption) ?_
            rotate_left
            · intro w hSw; (try dsimp only at hSw); go_simp; (try (with_reducible rfl))
            try simp only [Act.put, List.setIfInBounds_toArray, List.set_cons_zero, List.set_cons_succ]
            have d0 : Below wr.heap.size wr wr.drew := ⟨rfl, rfl, rfl, Nat.le_refl _, fun _ _ => rfl⟩
            obtain ⟨X0, hX0⟩ : ∃ X0, wr.drew = X0 := ⟨_, rfl⟩
            rw [hX0] at d0 ⊢
            have hs0 : Hid (X0.heap.size = wr.heap.size) := by show _ = _; rw [← hX0]; rfl
            clear hX0
            refine wpAnyH_ready (rs := [0, 6]) (by kernel_rfl) (by simp) ?_
            refine AllReadyH.cons (o := ⟨_, _, _, _, _, _⟩) rfl (fun K hK => ?_) (AllReadyH.cons (o := ⟨_, _, _, _, _, _⟩) rfl (fun K hK => ?_) (AllReadyH.nil))
            · go_simp
              refine hK.out _ _ trivial (fun hHeld => ?_)
              clear hK K
              try simp only [Act.put, List.setIfInBounds_toArray, List.set_cons_zero, List.set_cons_succ]
              have o1 := own_none X0 wr.heap.size (by have := hs0.out; omega)
              have d1 := d0.alloc (by have := hs0.out; omega) (.cells #[] 9)
              refine wpAnyH_ready (rs := [4, 6]) (by kernel_rfl) (by simp) ?_
              refine AllReadyH.cons (o := ⟨_, _, _, _, _, _⟩) rfl (fun K hK => ?_) (AllReadyH.cons (o := ⟨_, _, _, _, _, _⟩) rfl (fun K hK => ?_) (AllReadyH.nil))
              · have o2 := o1
                have d2 := d1
                obtain ⟨A3, c3, X3, HR3, o3', g3, e3⟩ := app_strs (d := q) o2 (by have := d2.size; omega) (ys := out.take k) (m := k) (by rw [List.length_take]; omega) (hq1.below d2) (t := k) (by omega) (by omega)
                refine stepApp2 (by rfl) (.tmp 61) (.tmp 64) 27 rfl _ _ _ rfl rfl HR3.out ?_
                refine hK.out _ _ trivial (fun hHeld => ?_)
                clear hK K
                try simp only [Act.put, List.setIfInBounds_toArray, List.set_cons_zero, List.set_cons_succ]
                have d3' := d2.trans e3
                refine wpAnyH_ready (rs := [6]) (by kernel_rfl) (by simp) ?_
                refine AllReadyH.cons (o := ⟨_, _, _, _, _, _⟩) rfl (fun K hK => ?_) (AllReadyH.nil)
                go_simp
                refine hK.out _ _ trivial (fun hHeld => ?_)
                clear hK K
                try simp only [Act.put, List.setIfInBounds_toArray, List.set_cons_zero, List.set_cons_succ]
                have o3 := own_below o3' ((Below.refl _ _).alloc (Nat.le_refl _) (.cells #[.string p] 9))
                have pR3 := rd_one X3 p
                have d3 := d3'.alloc d3'.size (.cells #[.string p] 9)
                obtain ⟨A4, c4, X4, HR4, o4, -, e4⟩ := app_strs (d := 1) o3 (by have := d3.size; omega) (ys := [p]) (m := 1) rfl pR3 (t := k + 1) (by omega) (by omega)
                refine wpAnyH_ready (rs := [7]) (by kernel_rfl) (by simp) ?_
                refine AllReadyH.cons (o := ⟨_, _, _, _, _, _⟩) rfl (fun K hK => ?_) AllReadyH.nil
                refine stepApp2 (by rfl) (.tmp 65) (.tmp 67) 27 rfl _ _ _ rfl rfl HR4.out ?_
                refine hK.out _ _ trivial (fun hHeld => ?_)
                clear hK K
                try simp only [Act.put, List.setIfInBounds_toArray, List.set_cons_zero, List.set_cons_succ]
                have d4 := d3.trans e4
                obtain ⟨A5, c5, X5, HR5, o5, -, e5⟩ := app_strs (d := q - k) o4 (by have := d4.size; omega) (ys := out.drop k) (m := out.length - k) (by simp) (hq2.below d4) (t := out.length + 1) (by omega) (by omega)
                refine wpAnyH_ready (rs := [11]) (by kernel_rfl) (by simp) ?_
                refine AllReadyH.cons (o := ⟨_, _, _, _, _, _⟩) rfl (fun K hK => ?_) AllReadyH.nil
                refine stepApp2 (by rfl) (.tmp 68) (.tmp 71) 27 rfl _ _ _ rfl rfl HR5.out ?_
                refine hK.out _ _ trivial (fun hHeld => ?_)
                clear hK K
                try simp only [Act.put, List.setIfInBounds_toArray, List.set_cons_zero, List.set_cons_succ]
                have d5 := d4.trans e5
                refine wpAnyH_take (i := 12) (oi := ⟨_, _, _, _, _, _⟩) (v := ?_) rfl (by kernel_rfl) (by kernel_rfl) (by kernel_rfl) (fun _ _ _ h => h) (Or.inl ⟨by rfl, ?_⟩) (by assumption) ?_
                rotate_left
                · intro w hSw; (try dsimp only at hSw); go_simp; (try (with_reducible rfl))
                try simp only [Act.put, List.setIfInBounds_toArray, List.set_cons_zero, List.set_cons_succ]
                refine wpAnyH_done (by kernel_rfl) ?_ _
                have o6 : X5.ownsRow wr.heap.size 9 1 (.slice A5 (out.length + 1) c5) (out.length + 1) (strV (insP out p)) := by rw [HINS.out]; exact o5
                have b6 := b.trans (d5.mono b.size)
                have l6 : (insP out p).length = out.length + 1 := by have := o6.1; rw [strV_length] at this; omega
                have f6 : out.length + 1 ≤ c5 := by obtain ⟨-, A9, c9, e9, h9, -⟩ := own_form o6; injection e9 with e1 e2 e3; rw [e3]; exact h9
                have r6 := Rd.of_own o6
                clear hHeld o6 o5 o4 HR4 HR5 hs1 hs2 hq1 hq2
                go_wp2
                go_roundw
                case rel => exact ⟨j + 1, A5, c5, insP out p, by omega, by go_num, by rw [l6], by omega, by omega, HFOLD, r6, b6⟩
                case measure => simp [intOf]; omega
              · go_simp
                refine hK.out _ _ trivial (fun hHeld => ?_)
                clear hK K
                try simp only [Act.put, List.setIfInBounds_toArray, List.set_cons_zero, List.set_cons_succ]
                have o2 := own_below o1 ((Below.refl _ _).alloc (Nat.le_refl _) (.cells #[.string p] 9))
                have pR2 := rd_one (X0.alloc (.cells #[] 9)) p
                have d2 := d1.alloc d1.size (.cells #[.string p] 9)
                simp only [World.size_alloc] at pR2
                have hlt2 : X0.heap.size + 1 < ((X0.alloc (.cells #[] 9)).alloc (.cells #[.string p] 9)).heap.size := by simp
                obtain ⟨A3, c3, X3, HR3, o3, g3, e3⟩ := app_strs (d := q) o2 (by have := d2.size; omega) (ys := out.take k) (m := k) (by rw [List.length_take]; omega) (hq1.below d2) (t := k) (by omega) (by omega)
                refine wpAnyH_ready (rs := [4]) (by kernel_rfl) (by simp) ?_
                refine AllReadyH.cons (o := ⟨_, _, _, _, _, _⟩) rfl (fun K hK => ?_) AllReadyH.nil
                refine stepApp2 (by rfl) (.tmp 61) (.tmp 64) 27 rfl _ _ _ rfl rfl HR3.out ?_
                refine hK.out _ _ trivial (fun hHeld => ?_)
                clear hK K
                try simp only [Act.put, List.setIfInBounds_toArray, List.set_cons_zero, List.set_cons_succ]
                have d3 := d2.trans e3
                have pR3 := rd_apart pR2 g3 hlt2 (by simp [Value.ownBlock])
                obtain ⟨A4, c4, X4, HR4, o4, -, e4⟩ := app_strs (d := 1) o3 (by have := d3.size; omega) (ys := [p]) (m := 1) rfl pR3 (t := k + 1) (by omega) (by omega)
                refine wpAnyH_ready (rs := [7]) (by kernel_rfl) (by simp) ?_
                refine AllReadyH.cons (o := ⟨_, _, _, _, _, _⟩) rfl (fun K hK => ?_) AllReadyH.nil
                refine stepApp2 (by rfl) (.tmp 65) (.tmp 67) 27 rfl _ _ _ rfl rfl HR4.out ?_
                refine hK.out _ _ trivial (fun hHeld => ?_)
                clear hK K
                try simp only [Act.put, List.setIfInBounds_toArray, List.set_cons_zero, List.set_cons_succ]
                have d4 := d3.trans e4
                obtain ⟨A5, c5, X5, HR5, o5, -, e5⟩ := app_strs (d := q - k) o4 (by have := d4.size; omega) (ys := out.drop k) (m := out.length - k) (by simp) (hq2.below d4) (t := out.length + 1) (by omega) (by omega)
                refine wpAnyH_ready (rs := [11]) (by kernel_rfl) (by simp) ?_
                refine AllReadyH.cons (o := ⟨_, _, _, _, _, _⟩) rfl (fun K hK => ?_) AllReadyH.nil
                refine stepApp2 (by rfl) (.tmp 68) (.tmp 71) 27 rfl _ _ _ rfl rfl HR5.out ?_
                refine hK.out _ _ trivial (fun hHeld => ?_)
                clear hK K
                try simp only [Act.put, List.setIfInBounds_toArray, List.set_cons_zero, List.set_cons_succ]
                have d5 := d4.trans e5
                refine wpAnyH_take (i := 12) (oi := ⟨_, _, _, _, _, _⟩) (v := ?_) rfl (by kernel_rfl) (by kernel_rfl) (by kernel_rfl) (fun _ _ _ h => h) (Or.inl ⟨by rfl, ?_⟩) (by assumption) ?_
                rotate_left
                · intro w hSw; (try dsimp only at hSw); go_simp; (try (with_reducible rfl))
                try simp only [Act.put, List.setIfInBounds_toArray, List.set_cons_zero, List.set_cons_succ]
                refine wpAnyH_done (by kernel_rfl) ?_ _
                have o6 : X5.ownsRow wr.heap.size 9 1 (.slice A5 (out.length + 1) c5) (out.length + 1) (strV (insP out p)) := by rw [HINS.out]; exact o5
                have b6 := b.trans (d5.mono b.size)
                have l6 : (insP out p).length = out.length + 1 := by have := o6.1; rw [strV_length] at this; omega
                have f6 : out.length + 1 ≤ c5 := by obtain ⟨-, A9, c9, e9, h9, -⟩ := own_form o6; injection e9 with e1 e2 e3; rw [e3]; exact h9
                have r6 := Rd.of_own o6
                clear hHeld o6 o5 o4 HR4 HR5 hs1 hs2 hq1 hq2
                go_wp2
                go_roundw
                case rel => exact ⟨j + 1, A5, c5, insP out p, by omega, by go_num, by rw [l6], by omega, by omega, HFOLD, r6, b6⟩
                case measure => simp [intOf]; omega
            · go_simp
              refine hK.out _ _ trivial (fun hHeld => ?_)
              clear hK K
              try simp only [Act.put, List.setIfInBounds_toArray, List.set_cons_zero, List.set_cons_succ]
              refine wpAnyH_ready (rs := [0]) (by kernel_rfl) (by simp) ?_
              refine AllReadyH.cons (o := ⟨_, _, _, _, _, _⟩) rfl (fun K hK => ?_) (AllReadyH.nil)
              go_simp
              refine hK.out _ _ trivial (fun hHeld => ?_)
              clear hK K
              try simp only [Act.put, List.setIfInBounds_toArray, List.set_cons_zero, List.set_cons_succ]
              have pR2 := (rd_one X0 p).below ((Below.refl _ _).alloc (Nat.le_refl _) (.cells #[] 9))
              have o2 := own_none (X0.alloc (.cells #[.string p] 9)) wr.heap.size (by have := hs0.out; simp; omega)
              have d2 := (d0.alloc (by have := hs0.out; omega) (.cells #[.string p] 9)).alloc (by have := hs0.out; simp; omega) (.cells #[] 9)
              simp only [World.size_alloc] at o2
              have hlt2 : X0.heap.size < ((X0.alloc (.cells #[.string p] 9)).alloc (.cells #[] 9)).heap.size := by simp; omega
              obtain ⟨A3, c3, X3, HR3, o3, g3, e3⟩ := app_strs (d := q) o2 (by have := d2.size; omega) (ys := out.take k) (m := k) (by rw [List.length_take]; omega) (hq1.below d2) (t := k) (by omega) (by omega)
              refine wpAnyH_ready (rs := [4]) (by kernel_rfl) (by simp) ?_
              refine AllReadyH.cons (o := ⟨_, _, _, _, _, _⟩) rfl (fun K hK => ?_) AllReadyH.nil
              refine stepApp2 (by rfl) (.tmp 61) (.tmp 64) 27 rfl _ _ _ rfl rfl HR3.out ?_
              refine hK.out _ _ trivial (fun hHeld => ?_)
              clear hK K
              try simp only [Act.put, List.setIfInBounds_toArray, List.set_cons_zero, List.set_cons_succ]
              have d3 := d2.trans e3
              have pR3 := rd_apart pR2 g3 hlt2 (by simp [Value.ownBlock])
              obtain ⟨A4, c4, X4, HR4, o4, -, e4⟩ := app_strs (d := 1) o3 (by have := d3.size; omega) (ys := [p]) (m := 1) rfl pR3 (t := k + 1) (by omega) (by omega)
              refine wpAnyH_ready (rs := [7]) (by kernel_rfl) (by simp) ?_
              refine AllReadyH.cons (o := ⟨_, _, _, _, _, _⟩) rfl (fun K hK => ?_) AllReadyH.nil
              refine stepApp2 (by rfl) (.tmp 65) (.tmp 67) 27 rfl _ _ _ rfl rfl HR4.out ?_
              refine hK.out _ _ trivial (fun hHeld => ?_)
              clear hK K
              try simp only [Act.put, List.setIfInBounds_toArray, List.set_cons_zero, List.set_cons_succ]
              have d4 := d3.trans e4
              obtain ⟨A5, c5, X5, HR5, o5, -, e5⟩ := app_strs (d := q - k) o4 (by have := d4.size; omega) (ys := out.drop k) (m := out.length - k) (by simp) (hq2.below d4) (t := out.length + 1) (by omega) (by omega)
              refine wpAnyH_ready (rs := [11]) (by kernel_rfl) (by simp) ?_
              refine AllReadyH.cons (o := ⟨_, _, _, _, _, _⟩) rfl (fun K hK => ?_) AllReadyH.nil
              refine stepApp2 (by rfl) (.tmp 68) (.tmp 71) 27 rfl _ _ _ rfl rfl HR5.out ?_
              refine hK.out _ _ trivial (fun hHeld => ?_)
              clear hK K
              try simp only [Act.put, List.setIfInBounds_toArray, List.set_cons_zero, List.set_cons_succ]
              have d5 := d4.trans e5
              refine wpAnyH_take (i := 12) (oi := ⟨_, _, _, _, _, _⟩) (v := ?_) rfl (by kernel_rfl) (by kernel_rfl) (by kernel_rfl) (fun _ _ _ h => h) (Or.inl ⟨by rfl, ?_⟩) (by assumption) ?_
              rotate_left
              · intro w hSw; (try dsimp only at hSw); go_simp; (try (with_reducible rfl))
              try simp only [Act.put, List.setIfInBounds_toArray, List.set_cons_zero, List.set_cons_succ]
              refine wpAnyH_done (by kernel_rfl) ?_ _
              have o6 : X5.ownsRow wr.heap.size 9 1 (.slice A5 (out.length + 1) c5) (out.length + 1) (strV (insP out p)) := by rw [HINS.out]; exact o5
              have b6 := b.trans (d5.mono b.size)
              have l6 : (insP out p).length = out.length + 1 := by have := o6.1; rw [strV_length] at this; omega
              have f6 : out.length + 1 ≤ c5 := by obtain ⟨-, A9, c9, e9, h9, -⟩ := own_form o6; injection e9 with e1 e2 e3; rw [e3]; exact h9
              have r6 := Rd.of_own o6
              clear hHeld o6 o5 o4 HR4 HR5 hs1 hs2 hq1 hq2
              go_wp2
              go_roundw
              case rel => exact ⟨j + 1, A5, c5, insP out p, by omega, by go_num, by rw [l6], by omega, by omega, HFOLD, r6, b6⟩
              case measure => simp [intOf]; omega
    · have hnlt : ¬ (j : Int) < (n : Int) + m := by omega
      have hsum : (n : Int) + m ≤ 1000000 := by omega
      have HE : Hid (out = allL es fs) := by show _ = _; rw [HF.out, allL, List.take_of_length_le (by rw [HPL.out]; omega)]
      obtain rfl := HE.out
      go_wp2
      go_ret
      exact ⟨C, q, rfl, hoq, hro, b⟩
end Go.Proofs.YtnkkjedckehoaaaDoor
