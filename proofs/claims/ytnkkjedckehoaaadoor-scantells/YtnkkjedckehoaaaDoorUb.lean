/- The document's answers of layer 4: Right. -/
import Derived.Test.YtnkkjedckehoaaaDoorUa
namespace Go.Proofs.YtnkkjedckehoaaaDoor
open Go.RowKit

def ltAt (fs : List Fil) (j : Nat) (hj : j < fs.length) : Prop := ∀ _ : 0 < j, pth fs[j - 1] < pth fs[j]
theorem lt_none {fs : List Fil} {j : Nat} (hj : j < fs.length) : ¬ 0 < j → ltAt fs j hj := fun h0 h => absurd h h0
def okAt (fs : List Fil) (i : Nat) (hi : i < fs.length) : Prop :=
  rightL (pth fs[i]) = true ∧ fs[i].2.size ≤ 600 ∧ (∀ _ : 0 < i, pth fs[i - 1] < pth fs[i]) ∧ ∀ k (hk : k < i), underL (pth fs[i]) (pth (fs[k]'(by omega))) = false
theorem tree_bad {fs : List Fil} (h : treeR fs = true) (i : Nat) (hi : i < fs.length) : okAt fs i hi := by
  have hR := (treeR_iff fs).1 h
  have hs := List.pairwise_iff_getElem.1 hR.srt
  exact ⟨hR.paths _ (List.getElem_mem hi), hR.datas _ (List.getElem_mem hi), fun h0 => hs (i - 1) i (by omega) hi (by omega), fun k hk => hR.apart _ (List.getElem_mem hi) _ (List.getElem_mem _)⟩
theorem tree_good {fs : List Fil} (h16 : fs.length ≤ 16) (h : ∀ i (hi : i < fs.length), okAt fs i hi) : treeR fs = true := by
  have hl : (fs.map pth).length = fs.length := by simp
  have e : ∀ i (hi : i < fs.length), (fs.map pth).getD i [] = pth fs[i] := fun i hi => by simp [List.getD, hi]
  unfold treeR
  rw [Bool.and_eq_true, Bool.and_eq_true, Bool.and_eq_true, decide_eq_true_eq]
  refine ⟨⟨⟨h16, List.all_eq_true.2 fun f hf => ?_⟩, List.all_eq_true.2 fun i hi => ?_⟩, (apart_idx _).2 fun i k hik hk => ?_⟩
  · obtain ⟨i, hi, rfl⟩ := List.mem_iff_getElem.1 hf
    exact decide_eq_true (h i hi).2.1
  · have hi' : i < fs.length := by rw [← hl]; exact List.mem_range.1 hi
    unfold srtAt
    rw [Bool.and_eq_true, Bool.or_eq_true, e i hi']
    refine ⟨(h i hi').1, ?_⟩
    by_cases h0 : i = 0
    · left; simp [h0]
    · right
      rw [e (i - 1) (by omega), less_iff]
      exact (h i hi').2.2.1 (by omega)
  · rw [List.getElem_map, List.getElem_map]
    exact (h k (by rw [← hl]; exact hk)).2.2.2 i hik

set_option maxHeartbeats 4000000 in
set_option maxRecDepth 10000 in
theorem refTree {w : World} {A : Option Addr} {n c : Nat} {fs : List Fil} (h : Ft w A n c fs) :
    Calls Tryd.prog 36 #[.slice A n c] w fun e w' => e = .returned (.bool (treeR fs)) ∧ Below w.heap.size w w' := by
  have HL := hid h.len
  have HS := hid h.sz
  have hr := h.rd
  clear h
  by_cases h16 : (16 : Int) < n
  · go_enter Tryd.func36, Tryd.ntmps36
    go_wp2
    go_ret
    refine ⟨ret_bool ?_, Below.refl _ _⟩
    symm
    refine treeR_no fun h => ?_
    have h1 := h.few
    have h2 := HL.out
    omega
  · have hn16 : n ≤ 16 := by omega
    go_enter Tryd.func36, Tryd.ntmps36
    go_wp2_with fail
    go_loopw [3] (fun i wr => ∃ j : Nat, j ≤ n ∧ i = .int .i64 j ∧ Hid (∀ i (hi : i < fs.length), i < j → okAt fs i hi) ∧ Below w.heap.size w wr) (fun i _ => n - (intOf i).toNat)
    case atStart => exact ⟨0, by omega, rfl, hid (fun i _ h => absurd h (by omega)), Below.refl _ _⟩
    case round =>
      obtain ⟨j, hj, rfl, HO, hb⟩ := hrel
      by_cases hjn : j < n
      · have hjl : j < fs.length := by rw [HL.out]; exact hjn
        have hr1 := hr.below hb
        obtain ⟨b, off, rfl, h1, h2, -⟩ := hr1.fil hjl
        have hz : (0 : Int) ≤ j := by omega
        have hlt : (j : Int) < n := by omega
        have hsx := (HS.out fs[j] (List.getElem_mem hjl)).1
        obtain ⟨x, hx⟩ : ∃ x, fs[j].1 = x := ⟨_, rfl⟩
        obtain ⟨d, hd⟩ : ∃ d, fs[j].2 = d := ⟨_, rfl⟩
        have HX := hid hx
        have HD := hid hd
        rw [hx] at h1 hsx
        rw [hd] at h2
        clear hx hd hr1
        go_wp2_with fail
        refine (refRight x _ hsx).mono ?_
        rintro e w2 ⟨rfl, hb2⟩
        have k1 := (hb2.cell (p := ⟨b, off + j * 2, none⟩) (World.block_lt_of_cell? _ _ h1)).trans h1
        have k2 := (hb2.cell (p := ⟨b, off + j * 2 + 1, none⟩) (World.block_lt_of_cell? _ _ h2)).trans h2
        have b2 := below2 hb hb2
        have hr2 := hr.below b2
        clear h1 h2 hb hb2
        cases hf : rightL x.data.toList
        · have HF := hid hf
          clear hf
          go_wp2_with fail
          go_quiet (fail)
          go_wp2
          go_ret
          refine ⟨ret_bool ?_, below_drewN b2 _⟩
          symm
          refine not_true fun hT => ?_
          have := (tree_bad hT j hjl).1
          rw [pth, HX.out, HF.out] at this
          cases this
        · have HF := hid hf
          clear hf
          by_cases hd6 : (600 : Int) < d.size
          · go_wp2_with fail
            go_quiet (fail)
            go_wp2
            go_ret
            refine ⟨ret_bool ?_, below_drewN b2 _⟩
            symm
            refine not_true fun hT => ?_
            have := (tree_bad hT j hjl).2.1
            rw [HD.out] at this
            omega
          · have hd6b : decide ((600 : Int) < d.size) = false := by simp; omega
            by_cases hj0 : 0 < j
            · have hj0z : (0 : Int) < j := by omega
              have hjl2 : j - 1 < fs.length := by omega
              obtain ⟨b', off', he, k3, -, -⟩ := hr2.fil hjl2
              injection he with he
              injection he with he1 he2
              subst he1 he2
              obtain ⟨y, hy⟩ : ∃ y, fs[j - 1].1 = y := ⟨_, rfl⟩
              have HY := hid hy
              rw [hy] at k3
              clear hy
              have hj1 : ((j : Int) - 1) = ((j - 1 : Nat) : Int) := by omega
              have hj1z : (0 : Int) ≤ (j - 1 : Nat) := by omega
              have hj1n : ((j - 1 : Nat) : Int) < n := by omega
              have hfl := less_flip y.data.toList x.data.toList
              cases hls : Op.bytesLess y.data.toList x.data.toList
              · rw [hls] at hfl
                rw [← Lib.toList_data, ← Lib.toList_data] at hfl
                have HLS := hid hls
                clear hls
                go_wp2_with fail
                go_quiet (fail)
                go_wp2
                go_ret
                refine ⟨ret_bool ?_, below_drewN b2 _⟩
                symm
                refine not_true fun hT => ?_
                have := (tree_bad hT j hjl).2.2.1 hj0
                rw [show pth fs[j - 1] = y.data.toList by rw [pth, HY.out], show pth fs[j] = x.data.toList by rw [pth, HX.out], ← less_iff, HLS.out] at this
                cases this
              · rw [hls] at hfl
                rw [← Lib.toList_data, ← Lib.toList_data] at hfl
                have HLT := hid (show ∀ _ : 0 < j, pth fs[j - 1] < pth fs[j] from fun _ => by
                  rw [show pth fs[j - 1] = y.data.toList by rw [pth, HY.out], show pth fs[j] = x.data.toList by rw [pth, HX.out], ← less_iff]
                  exact hls)
                clear hls
                go_wp2_with fail
                go_quiet (fail)
                clear k1 k2 k3 hr2 hj1 hj1z hj1n hfl hd6b
                go_wp2_with fail
                go_loopw [5] (fun v wx => ∃ k : Nat, k ≤ j ∧ v = .int .i64 k ∧ Hid (∀ i (hi : i < fs.length), i < k → underL x.data.toList (pth fs[i]) = false) ∧ Below w.heap.size w wx) (fun v _ => j - (intOf v).toNat)
                case atStart => exact ⟨0, by omega, rfl, hid (fun i _ h => absurd h (by omega)), below_drewN b2 _⟩
                case round =>
                  clear b2
                  obtain ⟨k, hk, rfl, HU, hb4⟩ := hrel
                  by_cases hkj : k < j
                  · have hkl : k < fs.length := by omega
                    have hr4 := hr.below hb4
                    obtain ⟨b', off', he, m1, -, -⟩ := hr4.fil hjl
                    injection he with he
                    injection he with he1 he2
                    subst he1 he2
                    obtain ⟨b', off', he, m2, -, -⟩ := hr4.fil hkl
                    injection he with he
                    injection he with he1 he2
                    subst he1 he2
                    rw [HX.out] at m1
                    have hsy := (HS.out fs[k] (List.getElem_mem hkl)).1
                    obtain ⟨y, hy⟩ : ∃ y, fs[k].1 = y := ⟨_, rfl⟩
                    have HYY := hid hy
                    rw [hy] at m2 hsy
                    clear hy hr4
                    have hkz : (0 : Int) ≤ k := by omega
                    have hkz1 : (k : Int) < j := by omega
                    have hkz2 : (k : Int) < n := by omega
                    go_wp2_with fail
                    refine wp_region_held_drew (S := fun w' => w'.cell? ⟨b, off + j * 2, none⟩ = some (.string x) ∧ w'.cell? ⟨b, off + k * 2, none⟩ = some (.string y)) (by kernel_rfl) ⟨m1, m2⟩ (fun hHeld => ?_)
                    refine wpAnyH_take (i := 0) (oi := ⟨_, _, _, _, _, _⟩) (v := ?_) rfl (by kernel_rfl) (by kernel_rfl) (by kernel_rfl) (fun _ _ _ h => h) (Or.inl ⟨by rfl, ?_⟩) (by assumption) ?_
                    rotate_left
                    · intro w hSw; (try dsimp only at hSw); go_simp; (try (with_reducible rfl))
                    try simp only [Act.put, List.setIfInBounds_toArray, List.set_cons_zero, List.set_cons_succ]
                    refine wpAnyH_take (i := 1) (oi := ⟨_, _, _, _, _, _⟩) (v := ?_) rfl (by kernel_rfl) (by kernel_rfl) (by kernel_rfl) (fun _ _ _ h => h) (Or.inl ⟨by rfl, ?_⟩) (by assumption) ?_
                    rotate_left
                    · intro w hSw; (try dsimp only at hSw); go_simp; (try (with_reducible rfl))
                    try simp only [Act.put, List.setIfInBounds_toArray, List.set_cons_zero, List.set_cons_succ]
                    refine wpAnyH_take (i := 2) (oi := ⟨_, _, _, _, _, _⟩) (v := ?_) rfl (by kernel_rfl) (by kernel_rfl) (by kernel_rfl) (fun _ _ _ h => h) (Or.inl ⟨by rfl, ?_⟩) (by assumption) ?_
                    rotate_left
                    · intro w hSw; (try dsimp only at hSw); go_simp; (try (with_reducible rfl))
                    try simp only [Act.put, List.setIfInBounds_toArray, List.set_cons_zero, List.set_cons_succ]
                    refine wpAnyH_take (i := 3) (oi := ⟨_, _, _, _, _, _⟩) (v := ?_) rfl (by kernel_rfl) (by kernel_rfl) (by kernel_rfl) (fun _ _ _ h => h) (Or.inl ⟨by rfl, ?_⟩) (by assumption) ?_
                    rotate_left
                    · intro w hSw; (try dsimp only at hSw); go_simp; (try (with_reducible rfl))
                    try simp only [Act.put, List.setIfInBounds_toArray, List.set_cons_zero, List.set_cons_succ]
                    refine wpAnyH_take (i := 4) (oi := ⟨_, _, _, _, _, _⟩) (v := ?_) rfl (by kernel_rfl) (by kernel_rfl) (by kernel_rfl) (fun _ _ _ h => h) (Or.inl ⟨by rfl, ?_⟩) (by assumption) ?_
                    rotate_left
                    · intro w hSw; (try dsimp only at hSw); go_simp; (try (with_reducible rfl))
                    try simp only [Act.put, List.setIfInBounds_toArray, List.set_cons_zero, List.set_cons_succ]
                    refine wpAnyH_take (i := 5) (oi := ⟨_, _, _, _, _, _⟩) (v := ?_) rfl (by kernel_rfl) (by kernel_rfl) (by kernel_rfl) (fun _ _ _ h => h) (Or.inl ⟨by rfl, ?_⟩) (by assumption) ?_
                    rotate_left
                    · intro w hSw; (try dsimp only at hSw); go_simp; (try (with_reducible rfl))
                    try simp only [Act.put, List.setIfInBounds_toArray, List.set_cons_zero, List.set_cons_succ]
                    refine wpAnyH_take (i := 6) (oi := ⟨_, _, _, _, _, _⟩) (v := ?_) rfl (by kernel_rfl) (by kernel_rfl) (by kernel_rfl) (fun _ _ _ h => h) (Or.inl ⟨by rfl, ?_⟩) (by assumption) ?_
                    rotate_left
                    · intro w hSw; (try dsimp only at hSw); go_simp; (try (with_reducible rfl))
                    try simp only [Act.put, List.setIfInBounds_toArray, List.set_cons_zero, List.set_cons_succ]
                    refine wpAnyH_take (i := 7) (oi := ⟨_, _, _, _, _, _⟩) (v := ?_) rfl (by kernel_rfl) (by kernel_rfl) (by kernel_rfl) (fun _ _ _ h => h) (Or.inl ⟨by rfl, ?_⟩) (by assumption) ?_
                    rotate_left
                    · intro w hSw; (try dsimp only at hSw); go_simp; (try (with_reducible rfl))
                    try simp only [Act.put, List.setIfInBounds_toArray, List.set_cons_zero, List.set_cons_succ]
                    refine wpAnyH_take (i := 8) (oi := ⟨_, _, _, _, _, _⟩) (v := ?_) rfl (by kernel_rfl) (by kernel_rfl) (by kernel_rfl) (fun _ _ _ h => h) (Or.inl ⟨by rfl, ?_⟩) (by assumption) ?_
                    rotate_left
                    · intro w hSw; (try dsimp only at hSw); go_simp; (try (with_reducible rfl))
                    try simp only [Act.put, List.setIfInBounds_toArray, List.set_cons_zero, List.set_cons_succ]
                    refine wpAnyH_take (i := 9) (oi := ⟨_, _, _, _, _, _⟩) (v := ?_) rfl (by kernel_rfl) (by kernel_rfl) (by kernel_rfl) (fun _ _ _ h => h) (Or.inl ⟨by rfl, ?_⟩) (by assumption) ?_
                    rotate_left
                    · intro w hSw; (try dsimp only at hSw); go_simp; (try (with_reducible rfl))
                    try simp only [Act.put, List.setIfInBounds_toArray, List.set_cons_zero, List.set_cons_succ]
                    refine wpAnyH_ready (rs := [10]) (by kernel_rfl) (by simp) ?_
                    refine AllReadyH.cons (o := ⟨_, _, _, _, _, _⟩) rfl (fun K hK => ?_) AllReadyH.nil
                    go_simp
                    refine (refUnder x y _ hsx hsy).mono ?_
                    rintro e w5 ⟨rfl, hb5⟩
                    have n1 := (hb5.cell (p := ⟨b, off + j * 2, none⟩) (World.block_lt_of_cell? _ _ m1)).trans m1
                    have n2 := (hb5.cell (p := ⟨b, off + k * 2, none⟩) (World.block_lt_of_cell? _ _ m2)).trans m2
                    have b5 := hb4.drew.trans (hb5.mono hb4.drew.size)
                    refine hK.out _ _ ⟨n1, n2⟩ (fun hHeld => ?_)
                    clear hK K
                    try simp only [Act.put, List.setIfInBounds_toArray, List.set_cons_zero, List.set_cons_succ]
                    refine wpAnyH_done (by kernel_rfl) ?_ _
                    cases hu : underL x.data.toList y.data.toList
                    · have HUU := hid hu
                      clear hu hHeld
                      go_wp2
                      go_roundw
                      case rel =>
                        refine ⟨k + 1, by omega, by go_num, hid (fun i hi hik => ?_), b5⟩
                        by_cases e : i = k
                        · subst e
                          rw [pth, HYY.out]
                          exact HUU.out
                        · exact HU.out i hi (by omega)
                      case measure => simp [intOf]; omega
                    · have HUU := hid hu
                      clear hu hHeld
                      go_wp2
                      go_ret
                      refine ⟨ret_bool ?_, b5⟩
                      symm
                      refine not_true fun hT => ?_
                      have := (tree_bad hT j hjl).2.2.2 k hkj
                      rw [show pth fs[k] = y.data.toList by rw [pth, HYY.out], show pth fs[j] = x.data.toList by rw [pth, HX.out], HUU.out] at this
                      cases this
                  · have hnk : ¬ (k : Int) < j := by omega
                    go_wp2
                    go_roundw
                    case rel =>
                      refine ⟨j + 1, by omega, by go_num, hid (fun i hi hij => ?_), hb4⟩
                      by_cases e : i = j
                      · subst e
                        refine ⟨by rw [pth, HX.out]; exact HF.out, by rw [HD.out]; omega, HLT.out, fun q hq => ?_⟩
                        rw [show pth fs[i] = x.data.toList by rw [pth, HX.out]]
                        exact HU.out q (by omega) (by omega)
                      · exact HO.out i hi (by omega)
                    case measure => simp [intOf]; omega
            · have HLT := hid (lt_none hjl hj0)
              have hj0b : decide ((0 : Int) < j) = false := by simp; omega
              have hj0n : ¬ (0 : Int) < j := by omega
              have hj0c : decide (0 < j) = false := decide_eq_false hj0
              clear hj0
              go_wp2_with fail
              go_quiet (fail)
              clear k1 k2 hr2 hd6b hj0b hj0n hj0c
              go_wp2_with fail
              go_loopw [5] (fun v wx => ∃ k : Nat, k ≤ j ∧ v = .int .i64 k ∧ Hid (∀ i (hi : i < fs.length), i < k → underL x.data.toList (pth fs[i]) = false) ∧ Below w.heap.size w wx) (fun v _ => j - (intOf v).toNat)
              case atStart => exact ⟨0, by omega, rfl, hid (fun i _ h => absurd h (by omega)), below_drewN b2 _⟩
              case round =>
                clear b2
                obtain ⟨k, hk, rfl, HU, hb4⟩ := hrel
                by_cases hkj : k < j
                · have hkl : k < fs.length := by omega
                  have hr4 := hr.below hb4
                  obtain ⟨b', off', he, m1, -, -⟩ := hr4.fil hjl
                  injection he with he
                  injection he with he1 he2
                  subst he1 he2
                  obtain ⟨b', off', he, m2, -, -⟩ := hr4.fil hkl
                  injection he with he
                  injection he with he1 he2
                  subst he1 he2
                  rw [HX.out] at m1
                  have hsy := (HS.out fs[k] (List.getElem_mem hkl)).1
                  obtain ⟨y, hy⟩ : ∃ y, fs[k].1 = y := ⟨_, rfl⟩
                  have HYY := hid hy
                  rw [hy] at m2 hsy
                  clear hy hr4
                  have hkz : (0 : Int) ≤ k := by omega
                  have hkz1 : (k : Int) < j := by omega
                  have hkz2 : (k : Int) < n := by omega
                  go_wp2_with fail
                  refine wp_region_held_drew (S := fun w' => w'.cell? ⟨b, off + j * 2, none⟩ = some (.string x) ∧ w'.cell? ⟨b, off + k * 2, none⟩ = some (.string y)) (by kernel_rfl) ⟨m1, m2⟩ (fun hHeld => ?_)
                  refine wpAnyH_take (i := 0) (oi := ⟨_, _, _, _, _, _⟩) (v := ?_) rfl (by kernel_rfl) (by kernel_rfl) (by kernel_rfl) (fun _ _ _ h => h) (Or.inl ⟨by rfl, ?_⟩) (by assumption) ?_
                  rotate_left
                  · intro w hSw; (try dsimp only at hSw); go_simp; (try (with_reducible rfl))
                  try simp only [Act.put, List.setIfInBounds_toArray, List.set_cons_zero, List.set_cons_succ]
                  refine wpAnyH_take (i := 1) (oi := ⟨_, _, _, _, _, _⟩) (v := ?_) rfl (by kernel_rfl) (by kernel_rfl) (by kernel_rfl) (fun _ _ _ h => h) (Or.inl ⟨by rfl, ?_⟩) (by assumption) ?_
                  rotate_left
                  · intro w hSw; (try dsimp only at hSw); go_simp; (try (with_reducible rfl))
                  try simp only [Act.put, List.setIfInBounds_toArray, List.set_cons_zero, List.set_cons_succ]
                  refine wpAnyH_take (i := 2) (oi := ⟨_, _, _, _, _, _⟩) (v := ?_) rfl (by kernel_rfl) (by kernel_rfl) (by kernel_rfl) (fun _ _ _ h => h) (Or.inl ⟨by rfl, ?_⟩) (by assumption) ?_
                  rotate_left
                  · intro w hSw; (try dsimp only at hSw); go_simp; (try (with_reducible rfl))
                  try simp only [Act.put, List.setIfInBounds_toArray, List.set_cons_zero, List.set_cons_succ]
                  refine wpAnyH_take (i := 3) (oi := ⟨_, _, _, _, _, _⟩) (v := ?_) rfl (by kernel_rfl) (by kernel_rfl) (by kernel_rfl) (fun _ _ _ h => h) (Or.inl ⟨by rfl, ?_⟩) (by assumption) ?_
                  rotate_left
                  · intro w hSw; (try dsimp only at hSw); go_simp; (try (with_reducible rfl))
                  try simp only [Act.put, List.setIfInBounds_toArray, List.set_cons_zero, List.set_cons_succ]
                  refine wpAnyH_take (i := 4) (oi := ⟨_, _, _, _, _, _⟩) (v := ?_) rfl (by kernel_rfl) (by kernel_rfl) (by kernel_rfl) (fun _ _ _ h => h) (Or.inl ⟨by rfl, ?_⟩) (by assumption) ?_
                  rotate_left
                  · intro w hSw; (try dsimp only at hSw); go_simp; (try (with_reducible rfl))
                  try simp only [Act.put, List.setIfInBounds_toArray, List.set_cons_zero, List.set_cons_succ]
                  refine wpAnyH_take (i := 5) (oi := ⟨_, _, _, _, _, _⟩) (v := ?_) rfl (by kernel_rfl) (by kernel_rfl) (by kernel_rfl) (fun _ _ _ h => h) (Or.inl ⟨by rfl, ?_⟩) (by assumption) ?_
                  rotate_left
                  · intro w hSw; (try dsimp only at hSw); go_simp; (try (with_reducible rfl))
                  try simp only [Act.put, List.setIfInBounds_toArray, List.set_cons_zero, List.set_cons_succ]
                  refine wpAnyH_take (i := 6) (oi := ⟨_, _, _, _, _, _⟩) (v := ?_) rfl (by kernel_rfl) (by kernel_rfl) (by kernel_rfl) (fun _ _ _ h => h) (Or.inl ⟨by rfl, ?_⟩) (by assumption) ?_
                  rotate_left
                  · intro w hSw; (try dsimp only at hSw); go_simp; (try (with_reducible rfl))
                  try simp only [Act.put, List.setIfInBounds_toArray, List.set_cons_zero, List.set_cons_succ]
                  refine wpAnyH_take (i := 7) (oi := ⟨_, _, _, _, _, _⟩) (v := ?_) rfl (by kernel_rfl) (by kernel_rfl) (by kernel_rfl) (fun _ _ _ h => h) (Or.inl ⟨by rfl, ?_⟩) (by assumption) ?_
                  rotate_left
                  · intro w hSw; (try dsimp only at hSw); go_simp; (try (with_reducible rfl))
                  try simp only [Act.put, List.setIfInBounds_toArray, List.set_cons_zero, List.set_cons_succ]
                  refine wpAnyH_take (i := 8) (oi := ⟨_, _, _, _, _, _⟩) (v := ?_) rfl (by kernel_rfl) (by kernel_rfl) (by kernel_rfl) (fun _ _ _ h => h) (Or.inl ⟨by rfl, ?_⟩) (by assumption) ?_
                  rotate_left
                  · intro w hSw; (try dsimp only at hSw); go_simp; (try (with_reducible rfl))
                  try simp only [Act.put, List.setIfInBounds_toArray, List.set_cons_zero, List.set_cons_succ]
                  refine wpAnyH_take (i := 9) (oi := ⟨_, _, _, _, _, _⟩) (v := ?_) rfl (by kernel_rfl) (by kernel_rfl) (by kernel_rfl) (fun _ _ _ h => h) (Or.inl ⟨by rfl, ?_⟩) (by assumption) ?_
                  rotate_left
                  · intro w hSw; (try dsimp only at hSw); go_simp; (try (with_reducible rfl))
                  try simp only [Act.put, List.setIfInBounds_toArray, List.set_cons_zero, List.set_cons_succ]
                  refine wpAnyH_ready (rs := [10]) (by kernel_rfl) (by simp) ?_
                  refine AllReadyH.cons (o := ⟨_, _, _, _, _, _⟩) rfl (fun K hK => ?_) AllReadyH.nil
                  go_simp
                  refine (refUnder x y _ hsx hsy).mono ?_
                  rintro e w5 ⟨rfl, hb5⟩
                  have n1 := (hb5.cell (p := ⟨b, off + j * 2, none⟩) (World.block_lt_of_cell? _ _ m1)).trans m1
                  have n2 := (hb5.cell (p := ⟨b, off + k * 2, none⟩) (World.block_lt_of_cell? _ _ m2)).trans m2
                  have b5 := hb4.drew.trans (hb5.mono hb4.drew.size)
                  refine hK.out _ _ ⟨n1, n2⟩ (fun hHeld => ?_)
                  clear hK K
                  try simp only [Act.put, List.setIfInBounds_toArray, List.set_cons_zero, List.set_cons_succ]
                  refine wpAnyH_done (by kernel_rfl) ?_ _
                  cases hu : underL x.data.toList y.data.toList
                  · have HUU := hid hu
                    clear hu hHeld
                    go_wp2
                    go_roundw
                    case rel =>
                      refine ⟨k + 1, by omega, by go_num, hid (fun i hi hik => ?_), b5⟩
                      by_cases e : i = k
                      · subst e
                        rw [pth, HYY.out]
                        exact HUU.out
                      · exact HU.out i hi (by omega)
                    case measure => simp [intOf]; omega
                  · have HUU := hid hu
                    clear hu hHeld
                    go_wp2
                    go_ret
                    refine ⟨ret_bool ?_, b5⟩
                    symm
                    refine not_true fun hT => ?_
                    have := (tree_bad hT j hjl).2.2.2 k hkj
                    rw [show pth fs[k] = y.data.toList by rw [pth, HYY.out], show pth fs[j] = x.data.toList by rw [pth, HX.out], HUU.out] at this
                    cases this
                · have hnk : ¬ (k : Int) < j := by omega
                  go_wp2
                  go_roundw
                  case rel =>
                    refine ⟨j + 1, by omega, by go_num, hid (fun i hi hij => ?_), hb4⟩
                    by_cases e : i = j
                    · subst e
                      refine ⟨by rw [pth, HX.out]; exact HF.out, by rw [HD.out]; omega, HLT.out, fun q hq => ?_⟩
                      rw [show pth fs[i] = x.data.toList by rw [pth, HX.out]]
                      exact HU.out q (by omega) (by omega)
                    · exact HO.out i hi (by omega)
                  case measure => simp [intOf]; omega
      · have HE := hid (show j = n by omega)
        have hnlt : ¬ (j : Int) < n := by omega
        go_wp2
        go_ret
        refine ⟨ret_bool ?_, hb⟩
        symm
        exact tree_good (by rw [HL.out]; exact hn16) (fun i hi => HO.out i hi (by have h1 := HE.out; have h2 := HL.out; omega))
end Go.Proofs.YtnkkjedckehoaaaDoor
