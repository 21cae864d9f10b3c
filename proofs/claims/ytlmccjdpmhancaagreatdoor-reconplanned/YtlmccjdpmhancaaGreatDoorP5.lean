/- The texts Ub, Uc, Xa, Cr, Ck, Cl, Xb, App, Shelf2, Jc, Jd, Xc, Je, in one. -/
import Derived.Test.YtlmccjdpmhancaaGreatDoorP4
import Derived.Deep.RegionHeld3
import Derived.Lib.AppendZeros
import Derived.Shelf.Sort.Plain
import Derived.Shelf.Slices.CompactS
import Derived.Shelf.Slices.In.SortNone
import Derived.Test.YtlmccjdpmhancaaGreatDoorProg
import Derived.Lib.OwnBridge
import Derived.Sort.OwnSorted
import Derived.Sort.Grow
import Derived.Deep.DeepCutAuto
namespace Go.Proofs.YtlmccjdpmhancaaGreatDoor
open Go.RowKit

def ltAt (fs : List Fil) (j : Nat) (hj : j < fs.length) : Prop := ∀ _ : 0 < j, pth fs[j - 1] < pth fs[j]
theorem lt_none {fs : List Fil} {j : Nat} (hj : j < fs.length) : ¬ 0 < j → ltAt fs j hj := fun h0 h => absurd h h0
def okAt (fs : List Fil) (i : Nat) (hi : i < fs.length) : Prop :=
  rightL (pth fs[i]) = true ∧ fs[i].2.size ≤ 600 ∧ (∀ _ : 0 < i, pth fs[i - 1] < pth fs[i]) ∧ ∀ k (hk : k < i), underL (pth fs[i]) (pth (fs[k]'(by omega))) = false
theorem tree_bad {fs : List Fil} (h : treeR fs = true) (i : Nat) (hi : i < fs.length) : okAt fs i hi := by
  have hR := (treeR_iff fs).1 h
  have hs := List.pairwise_iff_getElem.1 hR.srt
  exact ⟨hR.paths _ (List.getElem_mem hi), hR.datas _ (List.getElem_mem hi), fun h0 => hs (i - 1) i (by omega) hi (by omega), fun k hk => hR.apart _ (List.getElem_mem hi) _ (List.getElem_mem _)⟩
theorem tree_good {fs : List Fil} (h16 : fs.length ≤ 16) (h : ∀ i (hi : i < fs.length), okAt fs i hi) : treeR fs = true := by
  have hl : (fs.map pth).length = fs.length := by simp
  have e : ∀ i (hi : i < fs.length), (fs.map pth).getD i [] = pth fs[i] := fun i hi => by simp [List.getD, hi]
  unfold treeR
  rw [Bool.and_eq_true, Bool.and_eq_true, Bool.and_eq_true, decide_eq_true_eq]
  refine ⟨⟨⟨h16, List.all_eq_true.2 fun f hf => ?_⟩, List.all_eq_true.2 fun i hi => ?_⟩, (apart_idx _).2 fun i k hik hk => ?_⟩
  · obtain ⟨i, hi, rfl⟩ := List.mem_iff_getElem.1 hf
    exact decide_eq_true (h i hi).2.1
  · have hi' : i < fs.length := by rw [← hl]; exact List.mem_range.1 hi
    unfold srtAt
    rw [Bool.and_eq_true, Bool.or_eq_true, e i hi']
    refine ⟨(h i hi').1, ?_⟩
    by_cases h0 : i = 0
    · left; simp [h0]
    · right
      rw [e (i - 1) (by omega), less_iff]
      exact (h i hi').2.2.1 (by omega)
  · rw [List.getElem_map, List.getElem_map]
    exact (h k (by rw [← hl]; exact hk)).2.2.2 i hik

set_option maxHeartbeats 4000000 in
set_option maxRecDepth 10000 in
theorem refTree {w : World} {A : Option Addr} {n c : Nat} {fs : List Fil} (h : Ft w A n c fs) :
    Calls Tryz.prog 46 #[.slice A n c] w fun e w' => e = .returned (.bool (treeR fs)) ∧ Below w.heap.size w w' := by
  have HL := hid h.len
  have HS := hid h.sz
  have hr := h.rd
  clear h
  by_cases h16 : (16 : Int) < n
  · go_enter Tryz.func46, Tryz.ntmps46
    go_wp2
    go_ret
    refine ⟨ret_bool ?_, Below.refl _ _⟩
    symm
    refine treeR_no fun h => ?_
    have h1 := h.few
    have h2 := HL.out
    omega
  · have hn16 : n ≤ 16 := by omega
    go_enter Tryz.func46, Tryz.ntmps46
    go_wp2_with fail
    go_loopw [3] (fun i wr => ∃ j : Nat, j ≤ n ∧ i = .int .i64 j ∧ Hid (∀ i (hi : i < fs.length), i < j → okAt fs i hi) ∧ Below w.heap.size w wr) (fun i _ => n - (intOf i).toNat)
    case atStart => exact ⟨0, by omega, rfl, hid (fun i _ h => absurd h (by omega)), Below.refl _ _⟩
    case round =>
      obtain ⟨j, hj, rfl, HO, hb⟩ := hrel
      by_cases hjn : j < n
      · have hjl : j < fs.length := by rw [HL.out]; exact hjn
        have hr1 := hr.below hb
        obtain ⟨b, off, rfl, h1, h2, -⟩ := hr1.fil hjl
        have hz : (0 : Int) ≤ j := by omega
        have hlt : (j : Int) < n := by omega
        have hsx := (HS.out fs[j] (List.getElem_mem hjl)).1
        obtain ⟨x, hx⟩ : ∃ x, fs[j].1 = x := ⟨_, rfl⟩
        obtain ⟨d, hd⟩ : ∃ d, fs[j].2 = d := ⟨_, rfl⟩
        have HX := hid hx
        have HD := hid hd
        rw [hx] at h1 hsx
        rw [hd] at h2
        clear hx hd hr1
        go_wp2_with fail
        refine (refRight x _ hsx).mono ?_
        rintro e w2 ⟨rfl, hb2⟩
        have k1 := (hb2.cell (p := ⟨b, off + j * 2, none⟩) (World.block_lt_of_cell? _ _ h1)).trans h1
        have k2 := (hb2.cell (p := ⟨b, off + j * 2 + 1, none⟩) (World.block_lt_of_cell? _ _ h2)).trans h2
        have b2 := below2 hb hb2
        have hr2 := hr.below b2
        clear h1 h2 hb hb2
        cases hf : rightL x.data.toList
        · have HF := hid hf
          clear hf
          go_wp2_with fail
          go_quiet (fail)
          go_wp2
          go_ret
          refine ⟨ret_bool ?_, below_drewN b2 _⟩
          symm
          refine not_true fun hT => ?_
          have := (tree_bad hT j hjl).1
          rw [pth, HX.out, HF.out] at this
          cases this
        · have HF := hid hf
          clear hf
          by_cases hd6 : (600 : Int) < d.size
          · go_wp2_with fail
            go_quiet (fail)
            go_wp2
            go_ret
            refine ⟨ret_bool ?_, below_drewN b2 _⟩
            symm
            refine not_true fun hT => ?_
            have := (tree_bad hT j hjl).2.1
            rw [HD.out] at this
            omega
          · have hd6b : decide ((600 : Int) < d.size) = false := by simp; omega
            by_cases hj0 : 0 < j
            · have hj0z : (0 : Int) < j := by omega
              have hjl2 : j - 1 < fs.length := by omega
              obtain ⟨b', off', he, k3, -, -⟩ := hr2.fil hjl2
              injection he with he
              injection he with he1 he2
              subst he1 he2
              obtain ⟨y, hy⟩ : ∃ y, fs[j - 1].1 = y := ⟨_, rfl⟩
              have HY := hid hy
              rw [hy] at k3
              clear hy
              have hj1 : ((j : Int) - 1) = ((j - 1 : Nat) : Int) := by omega
              have hj1z : (0 : Int) ≤ (j - 1 : Nat) := by omega
              have hj1n : ((j - 1 : Nat) : Int) < n := by omega
              have hfl := less_flip y.data.toList x.data.toList
              cases hls : Op.bytesLess y.data.toList x.data.toList
              · rw [hls] at hfl
                rw [← Lib.toList_data, ← Lib.toList_data] at hfl
                have HLS := hid hls
                clear hls
                go_wp2_with fail
                go_quiet (fail)
                go_wp2
                go_ret
                refine ⟨ret_bool ?_, below_drewN b2 _⟩
                symm
                refine not_true fun hT => ?_
                have := (tree_bad hT j hjl).2.2.1 hj0
                rw [show pth fs[j - 1] = y.data.toList by rw [pth, HY.out], show pth fs[j] = x.data.toList by rw [pth, HX.out], ← less_iff, HLS.out] at this
                cases this
              · rw [hls] at hfl
                rw [← Lib.toList_data, ← Lib.toList_data] at hfl
                have HLT := hid (show ∀ _ : 0 < j, pth fs[j - 1] < pth fs[j] from fun _ => by
                  rw [show pth fs[j - 1] = y.data.toList by rw [pth, HY.out], show pth fs[j] = x.data.toList by rw [pth, HX.out], ← less_iff]
                  exact hls)
                clear hls
                go_wp2_with fail
                go_quiet (fail)
                clear k1 k2 k3 hr2 hj1 hj1z hj1n hfl hd6b
                go_wp2_with fail
                go_loopw [5] (fun v wx => ∃ k : Nat, k ≤ j ∧ v = .int .i64 k ∧ Hid (∀ i (hi : i < fs.length), i < k → underL x.data.toList (pth fs[i]) = false) ∧ Below w.heap.size w wx) (fun v _ => j - (intOf v).toNat)
                case atStart => exact ⟨0, by omega, rfl, hid (fun i _ h => absurd h (by omega)), below_drewN b2 _⟩
                case round =>
                  clear b2
                  obtain ⟨k, hk, rfl, HU, hb4⟩ := hrel
                  by_cases hkj : k < j
                  · have hkl : k < fs.length := by omega
                    have hr4 := hr.below hb4
                    obtain ⟨b', off', he, m1, -, -⟩ := hr4.fil hjl
                    injection he with he
                    injection he with he1 he2
                    subst he1 he2
                    obtain ⟨b', off', he, m2, -, -⟩ := hr4.fil hkl
                    injection he with he
                    injection he with he1 he2
                    subst he1 he2
                    rw [HX.out] at m1
                    have hsy := (HS.out fs[k] (List.getElem_mem hkl)).1
                    obtain ⟨y, hy⟩ : ∃ y, fs[k].1 = y := ⟨_, rfl⟩
                    have HYY := hid hy
                    rw [hy] at m2 hsy
                    clear hy hr4
                    have hkz : (0 : Int) ≤ k := by omega
                    have hkz1 : (k : Int) < j := by omega
                    have hkz2 : (k : Int) < n := by omega
                    go_wp2_with fail
                    refine wp_region_held_drew (S := fun w' => w'.cell? ⟨b, off + j * 2, none⟩ = some (.string x) ∧ w'.cell? ⟨b, off + k * 2, none⟩ = some (.string y)) (by kernel_rfl) ⟨m1, m2⟩ (fun hHeld => ?_)
                    refine wpAnyH_take (i := 0) (oi := ⟨_, _, _, _, _, _⟩) (v := ?_) rfl (by kernel_rfl) (by kernel_rfl) (by kernel_rfl) (fun _ _ _ h => h) (Or.inl ⟨by rfl, ?_⟩) (by assumption) ?_
                    rotate_left
                    · intro w hSw; (try dsimp only at hSw); go_simp; (try (with_reducible rfl))
                    try simp only [Act.put, List.setIfInBounds_toArray, List.set_cons_zero, List.set_cons_succ]
                    refine wpAnyH_take (i := 1) (oi := ⟨_, _, _, _, _, _⟩) (v := ?_) rfl (by kernel_rfl) (by kernel_rfl) (by kernel_rfl) (fun _ _ _ h => h) (Or.inl ⟨by rfl, ?_⟩) (by assumption) ?_
                    rotate_left
                    · intro w hSw; (try dsimp only at hSw); go_simp; (try (with_reducible rfl))
                    try simp only [Act.put, List.setIfInBounds_toArray, List.set_cons_zero, List.set_cons_succ]
                    refine wpAnyH_take (i := 2) (oi := ⟨_, _, _, _, _, _⟩) (v := ?_) rfl (by kernel_rfl) (by kernel_rfl) (by kernel_rfl) (fun _ _ _ h => h) (Or.inl ⟨by rfl, ?_⟩) (by assumption) ?_
                    rotate_left
                    · intro w hSw; (try dsimp only at hSw); go_simp; (try (with_reducible rfl))
                    try simp only [Act.put, List.setIfInBounds_toArray, List.set_cons_zero, List.set_cons_succ]
                    refine wpAnyH_take (i := 3) (oi := ⟨_, _, _, _, _, _⟩) (v := ?_) rfl (by kernel_rfl) (by kernel_rfl) (by kernel_rfl) (fun _ _ _ h => h) (Or.inl ⟨by rfl, ?_⟩) (by assumption) ?_
                    rotate_left
                    · intro w hSw; (try dsimp only at hSw); go_simp; (try (with_reducible rfl))
                    try simp only [Act.put, List.setIfInBounds_toArray, List.set_cons_zero, List.set_cons_succ]
                    refine wpAnyH_take (i := 4) (oi := ⟨_, _, _, _, _, _⟩) (v := ?_) rfl (by kernel_rfl) (by kernel_rfl) (by kernel_rfl) (fun _ _ _ h => h) (Or.inl ⟨by rfl, ?_⟩) (by assumption) ?_
                    rotate_left
                    · intro w hSw; (try dsimp only at hSw); go_simp; (try (with_reducible rfl))
                    try simp only [Act.put, List.setIfInBounds_toArray, List.set_cons_zero, List.set_cons_succ]
                    refine wpAnyH_take (i := 5) (oi := ⟨_, _, _, _, _, _⟩) (v := ?_) rfl (by kernel_rfl) (by kernel_rfl) (by kernel_rfl) (fun _ _ _ h => h) (Or.inl ⟨by rfl, ?_⟩) (by assumption) ?_
                    rotate_left
                    · intro w hSw; (try dsimp only at hSw); go_simp; (try (with_reducible rfl))
                    try simp only [Act.put, List.setIfInBounds_toArray, List.set_cons_zero, List.set_cons_succ]
                    refine wpAnyH_take (i := 6) (oi := ⟨_, _, _, _, _, _⟩) (v := ?_) rfl (by kernel_rfl) (by kernel_rfl) (by kernel_rfl) (fun _ _ _ h => h) (Or.inl ⟨by rfl, ?_⟩) (by assumption) ?_
                    rotate_left
                    · intro w hSw; (try dsimp only at hSw); go_simp; (try (with_reducible rfl))
                    try simp only [Act.put, List.setIfInBounds_toArray, List.set_cons_zero, List.set_cons_succ]
                    refine wpAnyH_take (i := 7) (oi := ⟨_, _, _, _, _, _⟩) (v := ?_) rfl (by kernel_rfl) (by kernel_rfl) (by kernel_rfl) (fun _ _ _ h => h) (Or.inl ⟨by rfl, ?_⟩) (by assumption) ?_
                    rotate_left
                    · intro w hSw; (try dsimp only at hSw); go_simp; (try (with_reducible rfl))
                    try simp only [Act.put, List.setIfInBounds_toArray, List.set_cons_zero, List.set_cons_succ]
                    refine wpAnyH_take (i := 8) (oi := ⟨_, _, _, _, _, _⟩) (v := ?_) rfl (by kernel_rfl) (by kernel_rfl) (by kernel_rfl) (fun _ _ _ h => h) (Or.inl ⟨by rfl, ?_⟩) (by assumption) ?_
                    rotate_left
                    · intro w hSw; (try dsimp only at hSw); go_simp; (try (with_reducible rfl))
                    try simp only [Act.put, List.setIfInBounds_toArray, List.set_cons_zero, List.set_cons_succ]
                    refine wpAnyH_take (i := 9) (oi := ⟨_, _, _, _, _, _⟩) (v := ?_) rfl (by kernel_rfl) (by kernel_rfl) (by kernel_rfl) (fun _ _ _ h => h) (Or.inl ⟨by rfl, ?_⟩) (by assumption) ?_
                    rotate_left
                    · intro w hSw; (try dsimp only at hSw); go_simp; (try (with_reducible rfl))
                    try simp only [Act.put, List.setIfInBounds_toArray, List.set_cons_zero, List.set_cons_succ]
                    refine wpAnyH_ready (rs := [10]) (by kernel_rfl) (by simp) ?_
                    refine AllReadyH.cons (o := ⟨_, _, _, _, _, _⟩) rfl (fun K hK => ?_) AllReadyH.nil
                    go_simp
                    refine (refUnder x y _ hsx hsy).mono ?_
                    rintro e w5 ⟨rfl, hb5⟩
                    have n1 := (hb5.cell (p := ⟨b, off + j * 2, none⟩) (World.block_lt_of_cell? _ _ m1)).trans m1
                    have n2 := (hb5.cell (p := ⟨b, off + k * 2, none⟩) (World.block_lt_of_cell? _ _ m2)).trans m2
                    have b5 := hb4.drew.trans (hb5.mono hb4.drew.size)
                    refine hK.out _ _ ⟨n1, n2⟩ (fun hHeld => ?_)
                    clear hK K
                    try simp only [Act.put, List.setIfInBounds_toArray, List.set_cons_zero, List.set_cons_succ]
                    refine wpAnyH_done (by kernel_rfl) ?_ _
                    cases hu : underL x.data.toList y.data.toList
                    · have HUU := hid hu
                      clear hu hHeld
                      go_wp2
                      go_roundw
                      case rel =>
                        refine ⟨k + 1, by omega, by go_num, hid (fun i hi hik => ?_), b5⟩
                        by_cases e : i = k
                        · subst e
                          rw [pth, HYY.out]
                          exact HUU.out
                        · exact HU.out i hi (by omega)
                      case measure => simp [intOf]; omega
                    · have HUU := hid hu
                      clear hu hHeld
                      go_wp2
                      go_ret
                      refine ⟨ret_bool ?_, b5⟩
                      symm
                      refine not_true fun hT => ?_
                      have := (tree_bad hT j hjl).2.2.2 k hkj
                      rw [show pth fs[k] = y.data.toList by rw [pth, HYY.out], show pth fs[j] = x.data.toList by rw [pth, HX.out], HUU.out] at this
                      cases this
                  · have hnk : ¬ (k : Int) < j := by omega
                    go_wp2
                    go_roundw
                    case rel =>
                      refine ⟨j + 1, by omega, by go_num, hid (fun i hi hij => ?_), hb4⟩
                      by_cases e : i = j
                      · subst e
                        refine ⟨by rw [pth, HX.out]; exact HF.out, by rw [HD.out]; omega, HLT.out, fun q hq => ?_⟩
                        rw [show pth fs[i] = x.data.toList by rw [pth, HX.out]]
                        exact HU.out q (by omega) (by omega)
                      · exact HO.out i hi (by omega)
                    case measure => simp [intOf]; omega
            · have HLT := hid (lt_none hjl hj0)
              have hj0b : decide ((0 : Int) < j) = false := by simp; omega
              have hj0n : ¬ (0 : Int) < j := by omega
              have hj0c : decide (0 < j) = false := decide_eq_false hj0
              clear hj0
              go_wp2_with fail
              go_quiet (fail)
              clear k1 k2 hr2 hd6b hj0b hj0n hj0c
              go_wp2_with fail
              go_loopw [5] (fun v wx => ∃ k : Nat, k ≤ j ∧ v = .int .i64 k ∧ Hid (∀ i (hi : i < fs.length), i < k → underL x.data.toList (pth fs[i]) = false) ∧ Below w.heap.size w wx) (fun v _ => j - (intOf v).toNat)
              case atStart => exact ⟨0, by omega, rfl, hid (fun i _ h => absurd h (by omega)), below_drewN b2 _⟩
              case round =>
                clear b2
                obtain ⟨k, hk, rfl, HU, hb4⟩ := hrel
                by_cases hkj : k < j
                · have hkl : k < fs.length := by omega
                  have hr4 := hr.below hb4
                  obtain ⟨b', off', he, m1, -, -⟩ := hr4.fil hjl
                  injection he with he
                  injection he with he1 he2
                  subst he1 he2
                  obtain ⟨b', off', he, m2, -, -⟩ := hr4.fil hkl
                  injection he with he
                  injection he with he1 he2
                  subst he1 he2
                  rw [HX.out] at m1
                  have hsy := (HS.out fs[k] (List.getElem_mem hkl)).1
                  obtain ⟨y, hy⟩ : ∃ y, fs[k].1 = y := ⟨_, rfl⟩
                  have HYY := hid hy
                  rw [hy] at m2 hsy
                  clear hy hr4
                  have hkz : (0 : Int) ≤ k := by omega
                  have hkz1 : (k : Int) < j := by omega
                  have hkz2 : (k : Int) < n := by omega
                  go_wp2_with fail
                  refine wp_region_held_drew (S := fun w' => w'.cell? ⟨b, off + j * 2, none⟩ = some (.string x) ∧ w'.cell? ⟨b, off + k * 2, none⟩ = some (.string y)) (by kernel_rfl) ⟨m1, m2⟩ (fun hHeld => ?_)
                  refine wpAnyH_take (i := 0) (oi := ⟨_, _, _, _, _, _⟩) (v := ?_) rfl (by kernel_rfl) (by kernel_rfl) (by kernel_rfl) (fun _ _ _ h => h) (Or.inl ⟨by rfl, ?_⟩) (by assumption) ?_
                  rotate_left
                  · intro w hSw; (try dsimp only at hSw); go_simp; (try (with_reducible rfl))
                  try simp only [Act.put, List.setIfInBounds_toArray, List.set_cons_zero, List.set_cons_succ]
                  refine wpAnyH_take (i := 1) (oi := ⟨_, _, _, _, _, _⟩) (v := ?_) rfl (by kernel_rfl) (by kernel_rfl) (by kernel_rfl) (fun _ _ _ h => h) (Or.inl ⟨by rfl, ?_⟩) (by assumption) ?_
                  rotate_left
                  · intro w hSw; (try dsimp only at hSw); go_simp; (try (with_reducible rfl))
                  try simp only [Act.put, List.setIfInBounds_toArray, List.set_cons_zero, List.set_cons_succ]
                  refine wpAnyH_take (i := 2) (oi := ⟨_, _, _, _, _, _⟩) (v := ?_) rfl (by kernel_rfl) (by kernel_rfl) (by kernel_rfl) (fun _ _ _ h => h) (Or.inl ⟨by rfl, ?_⟩) (by assumption) ?_
                  rotate_left
                  · intro w hSw; (try dsimp only at hSw); go_simp; (try (with_reducible rfl))
                  try simp only [Act.put, List.setIfInBounds_toArray, List.set_cons_zero, List.set_cons_succ]
                  refine wpAnyH_take (i := 3) (oi := ⟨_, _, _, _, _, _⟩) (v := ?_) rfl (by kernel_rfl) (by kernel_rfl) (by kernel_rfl) (fun _ _ _ h => h) (Or.inl ⟨by rfl, ?_⟩) (by assumption) ?_
                  rotate_left
                  · intro w hSw; (try dsimp only at hSw); go_simp; (try (with_reducible rfl))
                  try simp only [Act.put, List.setIfInBounds_toArray, List.set_cons_zero, List.set_cons_succ]
                  refine wpAnyH_take (i := 4) (oi := ⟨_, _, _, _, _, _⟩) (v := ?_) rfl (by kernel_rfl) (by kernel_rfl) (by kernel_rfl) (fun _ _ _ h => h) (Or.inl ⟨by rfl, ?_⟩) (by assumption) ?_
                  rotate_left
                  · intro w hSw; (try dsimp only at hSw); go_simp; (try (with_reducible rfl))
                  try simp only [Act.put, List.setIfInBounds_toArray, List.set_cons_zero, List.set_cons_succ]
                  refine wpAnyH_take (i := 5) (oi := ⟨_, _, _, _, _, _⟩) (v := ?_) rfl (by kernel_rfl) (by kernel_rfl) (by kernel_rfl) (fun _ _ _ h => h) (Or.inl ⟨by rfl, ?_⟩) (by assumption) ?_
                  rotate_left
                  · intro w hSw; (try dsimp only at hSw); go_simp; (try (with_reducible rfl))
                  try simp only [Act.put, List.setIfInBounds_toArray, List.set_cons_zero, List.set_cons_succ]
                  refine wpAnyH_take (i := 6) (oi := ⟨_, _, _, _, _, _⟩) (v := ?_) rfl (by kernel_rfl) (by kernel_rfl) (by kernel_rfl) (fun _ _ _ h => h) (Or.inl ⟨by rfl, ?_⟩) (by assumption) ?_
                  rotate_left
                  · intro w hSw; (try dsimp only at hSw); go_simp; (try (with_reducible rfl))
                  try simp only [Act.put, List.setIfInBounds_toArray, List.set_cons_zero, List.set_cons_succ]
                  refine wpAnyH_take (i := 7) (oi := ⟨_, _, _, _, _, _⟩) (v := ?_) rfl (by kernel_rfl) (by kernel_rfl) (by kernel_rfl) (fun _ _ _ h => h) (Or.inl ⟨by rfl, ?_⟩) (by assumption) ?_
                  rotate_left
                  · intro w hSw; (try dsimp only at hSw); go_simp; (try (with_reducible rfl))
                  try simp only [Act.put, List.setIfInBounds_toArray, List.set_cons_zero, List.set_cons_succ]
                  refine wpAnyH_take (i := 8) (oi := ⟨_, _, _, _, _, _⟩) (v := ?_) rfl (by kernel_rfl) (by kernel_rfl) (by kernel_rfl) (fun _ _ _ h => h) (Or.inl ⟨by rfl, ?_⟩) (by assumption) ?_
                  rotate_left
                  · intro w hSw; (try dsimp only at hSw); go_simp; (try (with_reducible rfl))
                  try simp only [Act.put, List.setIfInBounds_toArray, List.set_cons_zero, List.set_cons_succ]
                  refine wpAnyH_take (i := 9) (oi := ⟨_, _, _, _, _, _⟩) (v := ?_) rfl (by kernel_rfl) (by kernel_rfl) (by kernel_rfl) (fun _ _ _ h => h) (Or.inl ⟨by rfl, ?_⟩) (by assumption) ?_
                  rotate_left
                  · intro w hSw; (try dsimp only at hSw); go_simp; (try (with_reducible rfl))
                  try simp only [Act.put, List.setIfInBounds_toArray, List.set_cons_zero, List.set_cons_succ]
                  refine wpAnyH_ready (rs := [10]) (by kernel_rfl) (by simp) ?_
                  refine AllReadyH.cons (o := ⟨_, _, _, _, _, _⟩) rfl (fun K hK => ?_) AllReadyH.nil
                  go_simp
                  refine (refUnder x y _ hsx hsy).mono ?_
                  rintro e w5 ⟨rfl, hb5⟩
                  have n1 := (hb5.cell (p := ⟨b, off + j * 2, none⟩) (World.block_lt_of_cell? _ _ m1)).trans m1
                  have n2 := (hb5.cell (p := ⟨b, off + k * 2, none⟩) (World.block_lt_of_cell? _ _ m2)).trans m2
                  have b5 := hb4.drew.trans (hb5.mono hb4.drew.size)
                  refine hK.out _ _ ⟨n1, n2⟩ (fun hHeld => ?_)
                  clear hK K
                  try simp only [Act.put, List.setIfInBounds_toArray, List.set_cons_zero, List.set_cons_succ]
                  refine wpAnyH_done (by kernel_rfl) ?_ _
                  cases hu : underL x.data.toList y.data.toList
                  · have HUU := hid hu
                    clear hu hHeld
                    go_wp2
                    go_roundw
                    case rel =>
                      refine ⟨k + 1, by omega, by go_num, hid (fun i hi hik => ?_), b5⟩
                      by_cases e : i = k
                      · subst e
                        rw [pth, HYY.out]
                        exact HUU.out
                      · exact HU.out i hi (by omega)
                    case measure => simp [intOf]; omega
                  · have HUU := hid hu
                    clear hu hHeld
                    go_wp2
                    go_ret
                    refine ⟨ret_bool ?_, b5⟩
                    symm
                    refine not_true fun hT => ?_
                    have := (tree_bad hT j hjl).2.2.2 k hkj
                    rw [show pth fs[k] = y.data.toList by rw [pth, HYY.out], show pth fs[j] = x.data.toList by rw [pth, HX.out], HUU.out] at this
                    cases this
                · have hnk : ¬ (k : Int) < j := by omega
                  go_wp2
                  go_roundw
                  case rel =>
                    refine ⟨j + 1, by omega, by go_num, hid (fun i hi hij => ?_), hb4⟩
                    by_cases e : i = j
                    · subst e
                      refine ⟨by rw [pth, HX.out]; exact HF.out, by rw [HD.out]; omega, HLT.out, fun q hq => ?_⟩
                      rw [show pth fs[i] = x.data.toList by rw [pth, HX.out]]
                      exact HU.out q (by omega) (by omega)
                    · exact HO.out i hi (by omega)
                  case measure => simp [intOf]; omega
      · have HE := hid (show j = n by omega)
        have hnlt : ¬ (j : Int) < n := by omega
        go_wp2
        go_ret
        refine ⟨ret_bool ?_, hb⟩
        symm
        exact tree_good (by rw [HL.out]; exact hn16) (fun i hi => HO.out i hi (by have h1 := HE.out; have h2 := HL.out; omega))
end Go.Proofs.YtlmccjdpmhancaaGreatDoor
namespace Go.Proofs.YtlmccjdpmhancaaGreatDoor
open Go.RowKit

set_option maxHeartbeats 400000 in
theorem refFind {w : World} {A : Option Addr} {n c : Nat} {fs : List Fil} (h : Ft w A n c fs) (p : ByteArray) :
    Calls Tryz.prog 84 #[.slice A n c, .string p] w fun e w' => e = .returned (.int .i64 (findT fs p.data.toList)) ∧ Below w.heap.size w w' := by
  go_enter Tryz.func84, Tryz.ntmps84
  go_wp2_with fail
  refine (refTree h).mono ?_
  rintro e w1 ⟨rfl, hb1⟩
  cases hR : treeR fs
  · go_wp2
    go_ret
    exact ⟨ret_int (by rw [findT, hR]; rfl), hb1⟩
  · have HR := hid hR
    have hT := (treeR_iff fs).1 hR
    have h1 := h.below hb1
    clear hR h
    go_wp2_with fail
    refine (refPos h1 hT.srt p).mono ?_
    rintro e w2 ⟨rfl, rfl⟩
    go_wp2
    go_ret
    exact ⟨ret_int (by rw [findT, HR.out, posT, Bool.true_and]), hb1⟩

set_option maxHeartbeats 400000 in
theorem refGet {w : World} {A : Option Addr} {n c : Nat} {fs : List Fil} (h : Ft w A n c fs) (p : ByteArray) :
    Calls Tryz.prog 48 #[.slice A n c, .string p] w fun e w' => e = .returned (getV (getT fs p.data.toList)) ∧ Below w.heap.size w w' := by
  have c0 := refFind h p
  have HG := hid (@get_of fs p)
  have HN := hid (@get_none fs p)
  unfold findT at c0
  go_enter Tryz.func48, Tryz.ntmps48
  go_wp2_with fail
  refine c0.mono ?_
  clear c0
  rintro e w1 ⟨rfl, hb1⟩
  have h1 := h.below hb1
  clear h
  cases hc : (treeR fs && thereT fs p.data.toList)
  · rw [if_neg (by simp)]
    have HC := hid hc
    clear hc
    go_wp2
    go_ret2
    rw [HN.out HC.out]
    exact ⟨rfl, hb1⟩
  · rw [if_pos rfl]
    rw [Bool.and_eq_true] at hc
    obtain ⟨hl, he⟩ := HG.out hc.1 hc.2
    obtain ⟨b, off, rfl, -, k2, -⟩ := h1.rd.fil hl
    have HE := hid he
    have hln := h1.len
    clear hc he h1 HN HG
    generalize fs[(lowT fs p.data.toList).length].2 = x at *
    generalize (lowT fs p.data.toList).length = k at *
    have hz : ¬ (k : Int) < 0 := by omega
    have hz0 : (0 : Int) ≤ k := by omega
    have hlt : (k : Int) < n := by omega
    go_wp2
    go_ret2
    rw [HE.out]
    exact ⟨rfl, hb1⟩

/-! ### append onto files of the call's own -/
/-- Files in memory of the call's own, as an append leaves them. -/
def OwnR (base : Nat) (w : World) (A : Option Addr) (n c : Nat) (fs : List Fil) : Prop := fs.length = n ∧ w.ownsRow base 57 2 (.slice A n c) n (filV fs)
theorem OwnR.form {base : Nat} {w : World} {A : Option Addr} {n c : Nat} {fs : List Fil} (h : OwnR base w A n c fs) : n ≤ c ∧ c ≤ 9223372036854775807 ∧ Rd w A (filV fs) := by
  obtain ⟨hl, h⟩ := h
  rcases h.2 with ⟨hv, hn⟩ | ⟨g, cap, cur, hv, _, _, h1, h2, _⟩
  · injection hv with a1 a2 a3
    subst a1 a2 a3
    exact ⟨Nat.le_refl _, by omega, .inl (List.eq_nil_of_length_eq_zero (by rw [filV_length, hl]))⟩
  · injection hv with a1 a2 a3
    subst a1 a3
    exact ⟨h1, h2, .inr ⟨_, rfl, h.cells (g := g) rfl⟩⟩
theorem OwnR.ft {base : Nat} {w : World} {A : Option Addr} {n c : Nat} {fs : List Fil} (h : OwnR base w A n c fs) (hn : n ≤ 140737488355328) (hs : ∀ f ∈ fs, f.1.size < 4294967281 ∧ f.2.size ≤ 140737488355328) : Ft w A n c fs := ⟨h.1, h.form.2.2, h.form.1, hn, h.form.2.1, hs⟩
theorem OwnR.empty (w : World) : OwnR w.heap.size (w.alloc (.cells #[] 57)) (some ⟨w.heap.size, 0, none⟩) 0 0 [] :=
  ⟨rfl, World.ownsRow_made w #[] 0 (Nat.le_refl _) (by unfold maxLen; omega) (by simp)⟩
theorem app_nilF {w : World} (base : Nat) (ty : TypeId) (v : Value) (n : Nat) (xs : List Value) (hown : w.ownsRow base 57 2 v n xs) (c : Nat) : (Builtin.append_ #[36, 36] ty #[v, .slice none 0 c]).run Tryz.prog w = .ok v w := by
  obtain ⟨i, hi, hz0, hz1, hz2⟩ := info_parts Tryz.infoF
  rcases hown.2 with ⟨rfl, rfl⟩ | ⟨g, cap, cur, rfl, _, _, hnc, _⟩
  · simp [Builtin.append_, run_underlying Tryz.underlying36, sizeOf, typeInfo, hi, Builtin.lenOf, Builtin.firstCells]
  · simp [Builtin.append_, run_underlying Tryz.underlying36, sizeOf, typeInfo, hi, Builtin.lenOf, Builtin.firstCells, hnc, storeCells]
/-- append(v, x...), v files of the call's own: its run. -/
theorem run_appF {w : World} {base : Nat} {A : Option Addr} {n c : Nat} {fs : List Fil} (hown : OwnR base w A n c fs) (B : Option Addr) (m d : Nat) (gs : List Fil) (hl : gs.length = m) (hr : Rd w B (filV gs)) (hnm : n + m ≤ 1000000) (hbase : base ≤ w.heap.size) :
    ∃ A' c' w', Hid (∀ ty, (Builtin.append_ #[36, 36] ty #[.slice A n c, .slice B m d]).run Tryz.prog w = .ok (.slice A' (n + m) c') w') ∧ OwnR base w' A' (n + m) c' (fs ++ gs) ∧ w.grownBy w' (Value.slice A n c).ownBlock := by
  obtain ⟨i, hi, hz0, hz1, hz2⟩ := info_parts Tryz.infoF
  have hll : (fs ++ gs).length = n + m := by rw [List.length_append, hown.1, hl]
  have own : ∀ ad, (∀ j u, (filV gs)[j]? = some u → w.cell? (ad.add j) = some u) → ∃ A' c' w', Hid (∀ ty, (Builtin.append_ #[36, 36] ty #[.slice A n c, .slice (some ad) m d]).run Tryz.prog w = .ok (.slice A' (n + m) c') w') ∧ OwnR base w' A' (n + m) c' (fs ++ gs) ∧ w.grownBy w' (Value.slice A n c).ownBlock := by
    intro ad hc
    have key := fun ty => run_append_own (P := Tryz.prog) w base 36 ty 57 i _ 2 32 Tryz.underlying36 hi hz0 hz1 hz2 rfl (by decide) _ n (filV fs) hown.2 ad m d (filV gs) (by rw [filV_length, hl]) hc (filV_one _) (by unfold maxLen; omega) (by omega) hbase
    obtain ⟨v', w', h2, h3, h4, _⟩ := key 0
    have hv : ∃ A' c', v' = .slice A' (n + m) c' := by
      rcases h3.2 with ⟨rfl, e⟩ | ⟨g, cap, cur, rfl, _⟩
      · exact ⟨none, 0, by rw [e]⟩
      · exact ⟨_, cap, rfl⟩
    obtain ⟨A', c', rfl⟩ := hv
    exact ⟨A', c', w', fun ty => h2, ⟨hll, by rw [filV_append]; exact h3⟩, h4⟩
  rcases hr with h0 | ⟨ad, rfl, hc⟩
  · have hg : gs = [] := List.eq_nil_of_length_eq_zero (by have h5 := congrArg List.length h0; rw [filV_length, List.length_nil] at h5; omega)
    subst hg
    obtain rfl : m = 0 := hl.symm
    cases B with
    | none => exact ⟨A, c, w, fun ty => app_nilF base ty _ n _ hown.2 d, by rw [List.append_nil]; exact hown, World.grownBy.refl _ _⟩
    | some ad => exact own ad (by simp [filV])
  · exact own ad hc
theorem OwnR.block {base : Nat} {w : World} {A : Option Addr} {n c : Nat} {fs : List Fil} (h : OwnR base w A n c fs) : ∀ k, (Value.slice A n c).ownBlock = some k → base ≤ k := fun k hk => (h.2.lt k hk).1

/-- Files, and an error's number, were answered: what is read of them. -/
def OutR (w : World) (out : List Fil) (er : Nat) (e : Ending) (w' : World) : Prop :=
  ∃ A n c, e = .returned (.tuple #[.slice A n c, .int .i64 er]) ∧ Ft w' A n c out ∧ Below w.heap.size w w'
theorem outR_err {w w' : World} {out : List Fil} {er e : Nat} (h : er = e) (ho : out = []) (hb : Below w.heap.size w w') : OutR w out er (.returned (.tuple #[.slice none 0 0, .int .i64 (e : Int)])) w' := by
  subst h ho
  exact ⟨none, 0, 0, rfl, ⟨rfl, .inl rfl, Nat.le_refl _, by omega, by omega, by simp⟩, hb⟩

theorem Rd.pre {w : World} {A : Option Addr} {xs : List Value} (h : Rd w A xs) (q : Nat) : Rd w A (xs.take q) := by
  rcases h with rfl | ⟨ad, rfl, hc⟩
  · exact .inl (by simp)
  · refine .inr ⟨ad, rfl, fun j u hu => hc j u ?_⟩
    rw [List.getElem?_take] at hu
    split at hu
    · exact hu
    · cases hu
theorem Rd.post {w : World} {b off : Nat} {xs : List Value} (h : Rd w (some ⟨b, off, none⟩) xs) (q : Nat) : Rd w (some ⟨b, off + q, none⟩) (xs.drop q) := by
  refine .inr ⟨_, rfl, fun j u hu => ?_⟩
  rw [List.getElem?_drop] at hu
  rw [Addr.add_lit, Nat.add_assoc]
  exact h.cells _ _ hu
theorem take_szs {fs : List Fil} {P : Fil → Prop} (h : ∀ f ∈ fs, P f) {gs : List Fil} (hg : ∀ f ∈ gs, f ∈ fs) : ∀ f ∈ gs, P f := fun f hf => h f (hg f hf)

end Go.Proofs.YtlmccjdpmhancaaGreatDoor
namespace Go.Proofs.YtlmccjdpmhancaaGreatDoor
open Go.RowKit

set_option maxHeartbeats 1000000 in
theorem rsame_any {w : World} {A B : Option Addr} {n c m d : Nat} {fs gs : List Ent} (hl : fs.length = n) (hr : Rd w A (entV fs)) (hl2 : gs.length = m) (hr2 : Rd w B (entV gs)) (hn : n ≤ 1000000) :
    Calls Tryz.prog 13 #[.slice A n c, .slice B m d] w fun e w' => e = .returned (.bool (decide (fs = gs))) ∧ Below w.heap.size w w' := by
  have HL := hid hl
  have HL2 := hid hl2
  clear hl hl2
  by_cases hnm : n = m
  · subst hnm
    go_enter Tryz.func13, Tryz.ntmps13
    go_wp2
    go_loopw [5] (fun i wr => ∃ j : Nat, j ≤ n ∧ i = .int .i64 j ∧ Hid (fs.take j = gs.take j) ∧ ∃ q, wr = w.drewN q) (fun i _ => n - (intOf i).toNat)
    case atStart => exact ⟨0, by omega, rfl, by simp [Hid], 0, rfl⟩
    case round =>
      obtain ⟨j, hj, rfl, HO, q, rfl⟩ := hrel
      by_cases hjn : j < n
      · have hjl : j < fs.length := by rw [HL.out]; exact hjn
        have hjl2 : j < gs.length := by rw [HL2.out]; exact hjn
        obtain ⟨b, off, rfl, h1, h2, h3, h4, h5, -⟩ := hr.ent hjl
        obtain ⟨b', off', rfl, g1, g2, g3, g4, g5, -⟩ := hr2.ent hjl2
        have HN := hid (@same_noE fs gs j hjl hjl2)
        have HT1 := hid (show fs.take (j + 1) = fs.take j ++ [fs[j]] by rw [List.take_add_one, List.getElem?_eq_getElem hjl]; rfl)
        have HT2 := hid (show gs.take (j + 1) = gs.take j ++ [gs[j]] by rw [List.take_add_one, List.getElem?_eq_getElem hjl2]; rfl)
        have hz : (0 : Int) ≤ j := by omega
        have hlt : (j : Int) < n := by omega
        have hneq := neqE fs[j] gs[j]
        generalize fs[j] = f at *
        generalize gs[j] = g at *
        by_cases hfg : f = g
        · rw [decide_eq_true hfg] at hneq
          have HFG := hid hfg
          clear hfg
          go_wp2_with fail
          go_quiet (fail)
          go_wp2
          go_roundw
          case rel => exact ⟨j + 1, by omega, by go_num, hid (by rw [HT1.out, HT2.out, HO.out, HFG.out]), _, rfl⟩
          case measure => simp [intOf]; omega
        · rw [decide_eq_false hfg] at hneq
          have HFG := hid hfg
          clear hfg
          go_wp2_with fail
          go_quiet (fail)
          go_wp2
          go_ret
          exact ⟨ret_bool (decide_eq_false (HN.out HFG.out)).symm, below_drewN (below_drewN (Below.refl _ _) _) _⟩
      · have HE := hid (show j = n by omega)
        have hnlt : ¬ (j : Int) < n := by omega
        go_wp2
        go_ret
        refine ⟨ret_bool ?_, below_drewN (Below.refl _ _) _⟩
        have ho := HO.out
        have e1 := HE.out
        rw [e1, List.take_of_length_le (by rw [HL.out]; omega), List.take_of_length_le (by rw [HL2.out]; omega)] at ho
        exact (decide_eq_true ho).symm
  · have hnz : ¬ (n : Int) = m := by omega
    go_enter Tryz.func13, Tryz.ntmps13
    go_wp2
    go_ret
    refine ⟨ret_bool ?_, Below.refl _ _⟩
    refine (decide_eq_false ?_).symm
    intro e
    subst e
    exact hnm (by rw [← HL.out, HL2.out])

end Go.Proofs.YtlmccjdpmhancaaGreatDoor
namespace Go.Proofs.YtlmccjdpmhancaaGreatDoor
open Go.RowKit

/-- A pair lies there. -/
def PairAt (w : World) (g : Nat) (l r : Int) : Prop := w.cell? ⟨g, 0, none⟩ = some (.int .i64 l) ∧ w.cell? ⟨g, 1, none⟩ = some (.int .i64 r)
theorem PairAt.below {w w' : World} {g : Nat} {l r : Int} (h : PairAt w g l r) (hb : Below w.heap.size w w') : PairAt w' g l r :=
  ⟨(hb.cell (World.block_lt_of_cell? w _ h.1)).trans h.1, (hb.cell (World.block_lt_of_cell? w _ h.2)).trans h.2⟩
theorem PairAt.lt {w : World} {g : Nat} {l r : Int} (h : PairAt w g l r) : g < w.heap.size := World.block_lt_of_cell? w _ h.1
theorem PairAt.new (w : World) (l r : Int) (t : TypeId) : PairAt (w.alloc (.cells #[.int .i64 l, .int .i64 r] t)) w.heap.size l r :=
  ⟨new_cells w t [.int .i64 l, .int .i64 r] 0 _ rfl, new_cells w t [.int .i64 l, .int .i64 r] 1 _ rfl⟩
theorem PairAt.alloc {w : World} {g : Nat} {l r : Int} (h : PairAt w g l r) (o : Obj) : PairAt (w.alloc o) g l r := h.below ((Below.refl _ _).alloc (Nat.le_refl _) o)

theorem below_al {w w' : World} (o : Obj) (h : Below (w.alloc o).heap.size (w.alloc o) w') : Below w.heap.size w w' := below2 ((Below.refl _ _).alloc (Nat.le_refl _) o) h
end Go.Proofs.YtlmccjdpmhancaaGreatDoor
namespace Go.Proofs.YtlmccjdpmhancaaGreatDoor
open Go.RowKit

set_option maxHeartbeats 400000 in
theorem rclamp_any (n : Int) (w : World) :
    Calls Tryz.prog 91 #[.int .i64 n] w fun e w' => e = .returned (.int .i64 (cl n)) ∧ w' = w := by
  go_enter Tryz.func91, Tryz.ntmps91
  go_wp2
  all_goals
    go_ret
    exact ⟨ret_int (by unfold cl; omega), rfl⟩

set_option maxHeartbeats 1000000 in
theorem rfit_any (l r : Int) (w : World) :
    Calls Tryz.prog 90 #[.agg #[.int .i64 l, .int .i64 r]] w fun e w' => e = .returned (.agg #[.int .i64 (cl l : Nat), .int .i64 (cl r : Nat)]) ∧ Below w.heap.size w w' := by
  have p0 := (PairAt.new w l r 32).alloc (.cells #[.int .i64 0, .int .i64 0] 32)
  go_enter Tryz.func90, Tryz.ntmps90
  go_wp2_with fail
  have ⟨d1, d2⟩ := p0
  refine wp_region_held_drew (S := fun w' => w'.cell? ⟨w.heap.size, 0, none⟩ = some (.int .i64 l) ∧ w'.cell? ⟨w.heap.size, 1, none⟩ = some (.int .i64 r)) (by kernel_rfl) ⟨d1, d2⟩ (fun hHeld => ?_)
  refine wpAnyH_take (i := 0) (oi := ⟨_, _, _, _, _, _⟩) (v := ?_) rfl (by kernel_rfl) (by kernel_rfl) (by kernel_rfl) (fun _ _ _ h => h) (Or.inl ⟨by rfl, ?_⟩) (by assumption) ?_
  rotate_left
  · intro w hSw; (try dsimp only at hSw); go_simp; (try (with_reducible rfl))
  try simp only [Act.put, List.setIfInBounds_toArray, List.set_cons_zero, List.set_cons_succ]
  refine wpAnyH_take (i := 1) (oi := ⟨_, _, _, _, _, _⟩) (v := ?_) rfl (by kernel_rfl) (by kernel_rfl) (by kernel_rfl) (fun _ _ _ h => h) (Or.inl ⟨by rfl, ?_⟩) (by assumption) ?_
  rotate_left
  · intro w hSw; (try dsimp only at hSw); go_simp; (try (with_reducible rfl))
  try simp only [Act.put, List.setIfInBounds_toArray, List.set_cons_zero, List.set_cons_succ]
  refine wpAnyH_take (i := 3) (oi := ⟨_, _, _, _, _, _⟩) (v := ?_) rfl (by kernel_rfl) (by kernel_rfl) (by kernel_rfl) (fun _ _ _ h => h) (Or.inl ⟨by rfl, ?_⟩) (by assumption) ?_
  rotate_left
  · intro w hSw; (try dsimp only at hSw); go_simp; (try (with_reducible rfl))
  try simp only [Act.put, List.setIfInBounds_toArray, List.set_cons_zero, List.set_cons_succ]
  refine wpAnyH_take (i := 4) (oi := ⟨_, _, _, _, _, _⟩) (v := ?_) rfl (by kernel_rfl) (by kernel_rfl) (by kernel_rfl) (fun _ _ _ h => h) (Or.inl ⟨by rfl, ?_⟩) (by assumption) ?_
  rotate_left
  · intro w hSw; (try dsimp only at hSw); go_simp; (try (with_reducible rfl))
  try simp only [Act.put, List.setIfInBounds_toArray, List.set_cons_zero, List.set_cons_succ]
  refine wpAnyH_ready (rs := [2]) (by kernel_rfl) (by simp) ?_
  refine AllReadyH.cons (o := ⟨_, _, _, _, _, _⟩) rfl (fun K hK => ?_) AllReadyH.nil
  go_simp
  refine (rclamp_any _ _).mono ?_
  rintro e wu ⟨rfl, rfl⟩
  refine hK.out _ _ ⟨d1, d2⟩ (fun hHeld => ?_)
  clear hK K
  try simp only [Act.put, List.setIfInBounds_toArray, List.set_cons_zero, List.set_cons_succ]
  refine wpAnyH_ready (rs := [5]) (by kernel_rfl) (by simp) ?_
  refine AllReadyH.cons (o := ⟨_, _, _, _, _, _⟩) rfl (fun K hK => ?_) AllReadyH.nil
  go_simp
  refine (rclamp_any _ _).mono ?_
  rintro e wu ⟨rfl, rfl⟩
  refine hK.out _ _ ⟨d1, d2⟩ (fun hHeld => ?_)
  clear hK K
  try simp only [Act.put, List.setIfInBounds_toArray, List.set_cons_zero, List.set_cons_succ]
  refine wpAnyH_take (i := 6) (oi := ⟨_, _, _, _, _, _⟩) (v := ?_) rfl (by kernel_rfl) (by kernel_rfl) (by kernel_rfl) (fun _ _ _ h => h) (Or.inl ⟨by rfl, ?_⟩) (by assumption) ?_
  rotate_left
  · intro w hSw; (try dsimp only at hSw); go_simp; (try (with_reducible rfl))
  try simp only [Act.put, List.setIfInBounds_toArray, List.set_cons_zero, List.set_cons_succ]
  refine wpAnyH_ready (rs := [7]) (by kernel_rfl) (by simp) ?_
  refine AllReadyH.cons (o := ⟨_, _, _, _, _, _⟩) rfl (fun K hK => ?_) AllReadyH.nil
  go_simp
  refine hK.out _ _ ((PairAt.new w l r 32).alloc (.cells #[.int .i64 (cl l : Nat), .int .i64 (cl r : Nat)] 32)) (fun hHeld => ?_)
  clear hK K
  try simp only [Act.put, List.setIfInBounds_toArray, List.set_cons_zero, List.set_cons_succ]
  refine wpAnyH_done (by kernel_rfl) ?_ _
  go_wp2
  go_returns
  refine ⟨rfl, ?_⟩
  go_grown
end Go.Proofs.YtlmccjdpmhancaaGreatDoor
namespace Go.Proofs.YtlmccjdpmhancaaGreatDoor
open Go.RowKit

theorem and_bit (n : Int) : bits BinOp.and IntKind.i64 n 1 = n % 2 := by
  show IntKind.i64.wrap ((BitVec.ofInt 64 n &&& BitVec.ofInt 64 1).toNat : Int) = _
  rw [BitVec.toNat_and, show (BitVec.ofInt 64 1).toNat = 1 by decide, Nat.and_one_is_mod, BitVec.toNat_ofInt, IntKind.wrap_i64]
  have e : ((2 ^ 64 : Nat) : Int) = 18446744073709551616 := by decide
  rw [e]
  omega
theorem and_odd (n : Int) : (bits BinOp.and IntKind.i64 n 1 == 1) = odd n := by
  rw [and_bit]
  unfold odd
  rw [Bool.eq_iff_iff]
  simp only [beq_iff_eq, bne_iff_ne]
  omega

set_option maxHeartbeats 1000000 in
theorem rright_any (l r : Int) (w : World) :
    Calls Tryz.prog 76 #[.agg #[.int .i64 l, .int .i64 r]] w fun e w' => e = .returned (.bool (rt l r)) ∧ Below w.heap.size w w' := by
  go_enter Tryz.func76, Tryz.ntmps76
  go_wp2
  all_goals
    go_ret
    refine ⟨?_, ?_⟩
    · refine congrArg (fun b => Ending.returned (.bool b)) ?_
      unfold rt
      rw [Bool.eq_iff_iff]
      simp
      omega
    · go_grown

set_option maxHeartbeats 1000000 in
set_option maxRecDepth 10000 in
theorem rtick_even (l r author : Int) (w : World) (ho : odd author = false) :
    Calls Tryz.prog 55 #[.agg #[.int .i64 l, .int .i64 r], .int .i64 author] w fun e w' => e = .returned (.agg #[.int .i64 (up (cl l) : Nat), .int .i64 (cl r : Nat)]) ∧ Below w.heap.size w w' := by
  have k1 := cl_le l
  have hu := hid (cl_up k1)
  rw [← and_odd] at ho
  go_enter Tryz.func55, Tryz.ntmps55
  go_wp2_with fail
  refine (rfit_any _ _ _).mono ?_
  rintro e w1 ⟨rfl, hb1⟩
  have p1 : Blk w1 w.heap.size [.int .i64 l, .int .i64 r] 32 := ((Blk.new w [.int .i64 l, .int .i64 r] 32).below ((Below.refl _ _).alloc (Nat.le_refl _) (.cells #[.int .i64 0, .int .i64 0] 32))).below hb1
  have q1 := (Blk.new (w.alloc (.cells #[.int .i64 l, .int .i64 r] 32)) [.int .i64 0, .int .i64 0] 32).below hb1
  simp only [World.size_alloc] at q1
  have b1 : Below w.heap.size w w1 := below_al _ (below_al _ hb1)
  have d1 := p1.cell 0
  have d2 := p1.cell 1
  have z1 := p1.frozen 0
  have z2 := p1.frozen 1
  have d3 := q1.cell 0
  have d4 := q1.cell 1
  have z3 := q1.frozen 0
  have z4 := q1.frozen 1
  simp only [List.getElem?_cons_zero, List.getElem?_cons_succ] at d1 d2 d3 d4
  clear hb1
  go_wp2_with fail
  refine (rclamp_any _ _).mono ?_
  rintro e wu ⟨rfl, rfl⟩
  rw [hu.out]
  go_wp2
  refine bodyPost_ret (v := .agg #[.int .i64 (up (cl l) : Nat), .int .i64 (cl r : Nat)]) (by simp [results, Tryz.results55, go_sem, d3, d4]) rfl ⟨rfl, ?_⟩
  go_grown

set_option maxHeartbeats 1000000 in
set_option maxRecDepth 10000 in
theorem rtick_odd (l r author : Int) (w : World) (ho : odd author = true) :
    Calls Tryz.prog 55 #[.agg #[.int .i64 l, .int .i64 r], .int .i64 author] w fun e w' => e = .returned (.agg #[.int .i64 (cl l : Nat), .int .i64 (up (cl r) : Nat)]) ∧ Below w.heap.size w w' := by
  have k1 := cl_le r
  have hu := hid (cl_up k1)
  rw [← and_odd] at ho
  go_enter Tryz.func55, Tryz.ntmps55
  go_wp2_with fail
  refine (rfit_any _ _ _).mono ?_
  rintro e w1 ⟨rfl, hb1⟩
  have p1 : Blk w1 w.heap.size [.int .i64 l, .int .i64 r] 32 := ((Blk.new w [.int .i64 l, .int .i64 r] 32).below ((Below.refl _ _).alloc (Nat.le_refl _) (.cells #[.int .i64 0, .int .i64 0] 32))).below hb1
  have q1 := (Blk.new (w.alloc (.cells #[.int .i64 l, .int .i64 r] 32)) [.int .i64 0, .int .i64 0] 32).below hb1
  simp only [World.size_alloc] at q1
  have b1 : Below w.heap.size w w1 := below_al _ (below_al _ hb1)
  have d1 := p1.cell 0
  have d2 := p1.cell 1
  have z1 := p1.frozen 0
  have z2 := p1.frozen 1
  have d3 := q1.cell 0
  have d4 := q1.cell 1
  have z3 := q1.frozen 0
  have z4 := q1.frozen 1
  simp only [List.getElem?_cons_zero, List.getElem?_cons_succ] at d1 d2 d3 d4
  clear hb1
  go_wp2_with fail
  refine (rclamp_any _ _).mono ?_
  rintro e wu ⟨rfl, hwu⟩
  rw [hu.out]
  have p2 : Blk wu w.heap.size [.int .i64 (cl l : Nat), .int .i64 (cl r : Nat)] 32 := by rw [hwu]; exact (p1.set_ 0 _).set_ 1 _
  have q2 : Blk wu (w.heap.size + 1) [.int .i64 0, .int .i64 0] 32 := by rw [hwu]; exact (q1.other (by omega) 0 _).other (by omega) 1 _
  have b2 : Below w.heap.size w wu := by rw [hwu]; go_grown
  clear hwu d1 d2 d3 d4 z1 z2 z3 z4 p1 q1 b1
  have d1 := p2.cell 0
  have d2 := p2.cell 1
  have z2 := p2.frozen 1
  have d3 := q2.cell 0
  have d4 := q2.cell 1
  have z3 := q2.frozen 0
  have z4 := q2.frozen 1
  simp only [List.getElem?_cons_zero, List.getElem?_cons_succ] at d1 d2 d3 d4
  go_wp2
  refine bodyPost_ret (v := .agg #[.int .i64 (cl l : Nat), .int .i64 (up (cl r) : Nat)]) (by simp [results, Tryz.results55, go_sem, d3, d4]) rfl ⟨rfl, ?_⟩
  go_grown
end Go.Proofs.YtlmccjdpmhancaaGreatDoor
namespace Go.Proofs.YtlmccjdpmhancaaGreatDoor
open Go.RowKit

/-- append of one, onto a row of the call's own. -/
theorem app_own2 {W : World} {n₀ : Nat} {v : Value} {k : Nat} {xs : List Value} {T E : TypeId} {z : Value} {size bytes : Nat} (hT : Tryz.prog.underlying T = some (.slice E)) (hinf : (Tryz.prog.info? E).map (fun i => (i.zero, i.size, i.bytes)) = some (some z, size, bytes)) (hz : z.cells.size = size) (h0 : 0 < size)
    (hrow : W.ownsRow n₀ E size v k xs) (hn : n₀ ≤ W.heap.size) (hk : (k + 1) * bytes ≤ 140737488355328) (hk2 : k + 1 ≤ maxLen) (cs : List Value) (hcs : cs.length = 1 * size) (hc1 : ∀ u ∈ cs, u.oneCell' = true) :
    ∃ A' c' w1, Hid ((Builtin.append_ #[T, T] T #[v, .slice (some ⟨W.heap.size, 0, none⟩) 1 1]).run Tryz.prog (W.alloc (.cells cs.toArray E)) = .ok (.slice A' (k + 1) c') w1) ∧ w1.ownsRow n₀ E size (.slice A' (k + 1) c') (k + 1) (xs ++ cs) ∧ (W.alloc (.cells cs.toArray E)).grownBy w1 v.ownBlock ∧ Below n₀ W w1 := by
  obtain ⟨i, hi, hz0, hz1, hz2⟩ := info_parts hinf
  obtain ⟨v', w1, h2, h3, h4, -⟩ := run_append_own (P := Tryz.prog) (W.alloc (.cells cs.toArray E)) n₀ T T E i z size bytes hT hi hz0 hz1 hz2 hz h0 v k xs (hrow.alloc _) ⟨W.heap.size, 0, none⟩ 1 1 cs hcs (new_cells W E cs) hc1 hk2 hk (by simp; omega)
  obtain ⟨g', cap', rfl⟩ := ownsRow_succ h3
  exact ⟨_, _, w1, h2, h3, h4, ((Below.refl n₀ W).alloc hn _).grown h4 (by simp; omega) fun j ej => (hrow.lt j ej).1⟩
theorem filesOf_more (es : List Ent) (j : Nat) (h : j < es.length) : filesOf (es.take (j + 1)) = filesOf (es.take j) ++ (if es[j].has then [(es[j].path, es[j].data)] else []) := by
  rw [List.take_add_one, List.getElem?_eq_getElem h, filesOf_append]
  congr 1
  simp only [Option.toList, filesOf_cons]
  rfl
set_option maxHeartbeats 2000000 in
theorem rfiles_any {w : World} {A : Option Addr} {n c : Nat} {es : List Ent} (h : Et w A n c es) :
    Calls Tryz.prog 77 #[.slice A n c] w fun e w' => ∃ B d, e = .returned (.slice B (filesOf es).length d) ∧ Ft w' B (filesOf es).length d (filesOf es) ∧ Below w.heap.size w w' := by
  have hr := h.rd
  have hnb := h.big
  have HS : Hid (∀ e ∈ es, SzE e) := h.sz
  have HL := hid h.len
  clear h
  go_enter Tryz.func77, Tryz.ntmps77
  go_wp2_with fail
  go_loopw [3, 4] (fun x i wr => ∃ (j : Nat) (A' : Option Addr) (c' : Nat) (fs : List Fil), j ≤ n ∧ i = .int .i64 j ∧ x = .slice A' fs.length c' ∧ Hid (fs = filesOf (es.take j)) ∧ wr.ownsRow w.heap.size 57 2 (.slice A' fs.length c') fs.length (filV fs) ∧ Below w.heap.size w wr) (fun _ i _ => n - (intOf i).toNat)
  case atStart => exact ⟨0, none, 0, [], by omega, rfl, rfl, by simp [Hid, filesOf], World.ownsRow_nil _ _ _ _, Below.refl _ _⟩
  case round =>
    obtain ⟨j, A', c', fs, hj, rfl, rfl, HF, oj, b⟩ := hrel
    by_cases hjn : j < n
    · have hjl : j < es.length := by rw [HL.out]; exact hjn
      obtain ⟨g, og, rfl, h1, h2, h3, -, -, hg⟩ := (hr.below b).ent hjl
      have hgw : g < w.heap.size := by
        obtain ⟨g', og', e', -, -, -, -, -, hgw⟩ := hr.ent hjl
        injection e' with e'
        injection e' with e1 e2
        rw [e1]; exact hgw
      have hz : (0 : Int) ≤ j := by omega
      have hlt : (j : Int) < n := by omega
      have HM := hid (filesOf_more es j hjl)
      have hfl : fs.length ≤ 1000000 := by rw [HF.out]; have := filesOf_len (es.take j); rw [List.length_take] at this; omega
      generalize es[j] = x at *
      obtain ⟨p, hh, dd, l, r⟩ := x
      simp only at h1 h2 h3 HM
      cases hh with
      | false =>
        have HM2 : Hid (fs = filesOf (es.take (j + 1))) := by show _ = _; rw [HM.out, HF.out, if_neg (by simp), List.append_nil]
        go_wp2
        go_roundw
        case rel => exact ⟨j + 1, A', c', fs, by omega, by go_num, rfl, HM2, oj, b⟩
        case measure => simp [intOf]; omega
      | true =>
        have HM2 : Hid (fs ++ [(p, dd)] = filesOf (es.take (j + 1))) := by show _ = _; rw [HM.out, HF.out, if_pos rfl]
        go_wp2_with fail
        refine wp_region_held_drew (S := fun w' => w'.cell? ⟨g, og + j * 5, none⟩ = some (.string p) ∧ w'.cell? ⟨g, og + j * 5 + 2, none⟩ = some (.string dd)) (by kernel_rfl) ⟨h1, h3⟩ (fun hHeld => ?_)
        refine wpAnyH_take (i := 0) (oi := ⟨_, _, _, _, _, _⟩) (v := ?_) rfl (by kernel_rfl) (by kernel_rfl) (by kernel_rfl) (fun _ _ _ h => h) (Or.inl ⟨by rfl, ?_⟩) (by assumption) ?_
        rotate_left
        · intro w hSw; (try dsimp only at hSw); go_simp; (try (with_reducible rfl))
        try simp only [Act.put, List.setIfInBounds_toArray, List.set_cons_zero, List.set_cons_succ]
        refine wpAnyH_take (i := 1) (oi := ⟨_, _, _, _, _, _⟩) (v := ?_) rfl (by kernel_rfl) (by kernel_rfl) (by kernel_rfl) (fun _ _ _ h => h) (Or.inl ⟨by rfl, ?_⟩) (by assumption) ?_
        rotate_left
        · intro w hSw; (try dsimp only at hSw); go_simp; (try (with_reducible rfl))
        try simp only [Act.put, List.setIfInBounds_toArray, List.set_cons_zero, List.set_cons_succ]
        refine wpAnyH_take (i := 2) (oi := ⟨_, _, _, _, _, _⟩) (v := ?_) rfl (by kernel_rfl) (by kernel_rfl) (by kernel_rfl) (fun _ _ _ h => h) (Or.inl ⟨by rfl, ?_⟩) (by assumption) ?_
        rotate_left
        · intro w hSw; (try dsimp only at hSw); go_simp; (try (with_reducible rfl))
        try simp only [Act.put, List.setIfInBounds_toArray, List.set_cons_zero, List.set_cons_succ]
        refine wpAnyH_take (i := 3) (oi := ⟨_, _, _, _, _, _⟩) (v := ?_) rfl (by kernel_rfl) (by kernel_rfl) (by kernel_rfl) (fun _ _ _ h => h) (Or.inl ⟨by rfl, ?_⟩) (by assumption) ?_
        rotate_left
        · intro w hSw; (try dsimp only at hSw); go_simp; (try (with_reducible rfl))
        try simp only [Act.put, List.setIfInBounds_toArray, List.set_cons_zero, List.set_cons_succ]
        refine wpAnyH_take (i := 4) (oi := ⟨_, _, _, _, _, _⟩) (v := ?_) rfl (by kernel_rfl) (by kernel_rfl) (by kernel_rfl) (fun _ _ _ h => h) (Or.inl ⟨by rfl, ?_⟩) (by assumption) ?_
        rotate_left
        · intro w hSw; (try dsimp only at hSw); go_simp; (try (with_reducible rfl))
        try simp only [Act.put, List.setIfInBounds_toArray, List.set_cons_zero, List.set_cons_succ]
        refine wpAnyH_take (i := 5) (oi := ⟨_, _, _, _, _, _⟩) (v := ?_) rfl (by kernel_rfl) (by kernel_rfl) (by kernel_rfl) (fun _ _ _ h => h) (Or.inl ⟨by rfl, ?_⟩) (by assumption) ?_
        rotate_left
        · intro w hSw; (try dsimp only at hSw); go_simp; (try (with_reducible rfl))
        try simp only [Act.put, List.setIfInBounds_toArray, List.set_cons_zero, List.set_cons_succ]
        refine wpAnyH_take (i := 6) (oi := ⟨_, _, _, _, _, _⟩) (v := ?_) rfl (by kernel_rfl) (by kernel_rfl) (by kernel_rfl) (fun _ _ _ h => h) (Or.inl ⟨by rfl, ?_⟩) (by assumption) ?_
        rotate_left
        · intro w hSw; (try dsimp only at hSw); go_simp; (try (with_reducible rfl))
        try simp only [Act.put, List.setIfInBounds_toArray, List.set_cons_zero, List.set_cons_succ]
        refine wpAnyH_take (i := 7) (oi := ⟨_, _, _, _, _, _⟩) (v := ?_) rfl (by kernel_rfl) (by kernel_rfl) (by kernel_rfl) (fun _ _ _ h => h) (Or.inl ⟨by rfl, ?_⟩) (by assumption) ?_
        rotate_left
        · intro w hSw; (try dsimp only at hSw); go_simp; (try (with_reducible rfl))
        try simp only [Act.put, List.setIfInBounds_toArray, List.set_cons_zero, List.set_cons_succ]
        refine wpAnyH_take (i := 8) (oi := ⟨_, _, _, _, _, _⟩) (v := ?_) rfl (by kernel_rfl) (by kernel_rfl) (by kernel_rfl) (fun _ _ _ h => h) (Or.inl ⟨by rfl, ?_⟩) (by assumption) ?_
        rotate_left
        · intro w hSw; (try dsimp only at hSw); go_simp; (try (with_reducible rfl))
        try simp only [Act.put, List.setIfInBounds_toArray, List.set_cons_zero, List.set_cons_succ]
        refine wpAnyH_take (i := 9) (oi := ⟨_, _, _, _, _, _⟩) (v := ?_) rfl (by kernel_rfl) (by kernel_rfl) (by kernel_rfl) (fun _ _ _ h => h) (Or.inl ⟨by rfl, ?_⟩) (by assumption) ?_
        rotate_left
        · intro w hSw; (try dsimp only at hSw); go_simp; (try (with_reducible rfl))
        try simp only [Act.put, List.setIfInBounds_toArray, List.set_cons_zero, List.set_cons_succ]
        refine wpAnyH_take (i := 10) (oi := ⟨_, _, _, _, _, _⟩) (v := ?_) rfl (by kernel_rfl) (by kernel_rfl) (by kernel_rfl) (fun _ _ _ h => h) (Or.inl ⟨by rfl, ?_⟩) (by assumption) ?_
        rotate_left
        · intro w hSw; (try dsimp only at hSw); go_simp; (try (with_reducible rfl))
        try simp only [Act.put, List.setIfInBounds_toArray, List.set_cons_zero, List.set_cons_succ]
        refine wpAnyH_take (i := 11) (oi := ⟨_, _, _, _, _, _⟩) (v := ?_) rfl (by kernel_rfl) (by kernel_rfl) (by kernel_rfl) (fun _ _ _ h => h) (Or.inl ⟨by rfl, ?_⟩) (by assumption) ?_
        rotate_left
        · intro w hSw; (try dsimp only at hSw); go_simp; (try (with_reducible rfl))
        try simp only [Act.put, List.setIfInBounds_toArray, List.set_cons_zero, List.set_cons_succ]
        obtain ⟨A2, c2, w3, HRUN, o3, hgr, hb3⟩ := app_own2 (W := wr.drew) (n₀ := w.heap.size) Tryz.underlying36 Tryz.infoF rfl (by decide) (show wr.drew.ownsRow w.heap.size 57 2 (.slice A' fs.length c') fs.length (filV fs) from oj) b.size (by omega) (by unfold maxLen; omega) [.string p, .string dd] rfl (by simp [Value.oneCell'])
        have hal : Below wr.heap.size wr (wr.drew.alloc (.cells #[.string p, .string dd] 57)) := (show Below wr.heap.size wr wr.drew from ⟨rfl, rfl, rfl, Nat.le_refl _, fun _ _ => rfl⟩).alloc (Nat.le_refl _) _
        have f1 := (hal.cell (p := ⟨g, og + j * 5, none⟩) hg).trans h1
        have f3 := (hal.cell (p := ⟨g, og + j * 5 + 2, none⟩) hg).trans h3
        refine wpAnyH_ready (rs := [12]) (by kernel_rfl) (by simp) ?_
        refine AllReadyH.cons (o := ⟨_, _, _, _, _, _⟩) rfl (fun K hK => ?_) AllReadyH.nil
        go_simp
        refine hK.out _ _ ⟨f1, f3⟩ (fun hHeld => ?_)
        clear hK K
        try simp only [Act.put, List.setIfInBounds_toArray, List.set_cons_zero, List.set_cons_succ]
        have f5 := (hb3.cell (p := ⟨g, og + j * 5, none⟩) hgw).trans (show wr.drew.cell? ⟨g, og + j * 5, none⟩ = some (.string p) from h1)
        have f6 := (hb3.cell (p := ⟨g, og + j * 5 + 2, none⟩) hgw).trans (show wr.drew.cell? ⟨g, og + j * 5 + 2, none⟩ = some (.string dd) from h3)
        refine wpAnyH_ready (rs := [13]) (by kernel_rfl) (by simp) ?_
        refine AllReadyH.cons (o := ⟨_, _, _, _, _, _⟩) rfl (fun K hK => ?_) AllReadyH.nil
        refine stepApp2 (by rfl) (.tmp 16) (.tmp 28) 36 rfl _ _ _ rfl rfl HRUN.out ?_
        refine hK.out _ _ ⟨f5, f6⟩ (fun hHeld => ?_)
        clear hK K
        try simp only [Act.put, List.setIfInBounds_toArray, List.set_cons_zero, List.set_cons_succ]
        refine wpAnyH_take (i := 14) (oi := ⟨_, _, _, _, _, _⟩) (v := ?_) rfl (by kernel_rfl) (by kernel_rfl) (by kernel_rfl) (fun _ _ _ h => h) (Or.inl ⟨by rfl, ?_⟩) (by assumption) ?_
        rotate_left
        · intro w hSw; (try dsimp only at hSw); go_simp; (try (with_reducible rfl))
        try simp only [Act.put, List.setIfInBounds_toArray, List.set_cons_zero, List.set_cons_succ]
        refine wpAnyH_done (by kernel_rfl) ?_ _
        have o4 : w3.ownsRow w.heap.size 57 2 (.slice A2 (fs ++ [(p, dd)]).length c2) (fs ++ [(p, dd)]).length (filV (fs ++ [(p, dd)])) := by rw [List.length_append, filV_append]; exact o3
        have b4 := b.trans (show Below w.heap.size wr w3 from ⟨hb3.os, hb3.tape, hb3.output, hb3.size, hb3.block⟩)
        clear hHeld o3 hb3 HRUN
        go_wp2
        go_roundw
        case rel => exact ⟨j + 1, A2, c2, fs ++ [(p, dd)], by omega, by go_num, by simp, HM2, o4, b4⟩
        case measure => simp [intOf]; omega
    · have hnlt : ¬ (j : Int) < n := by omega
      have HE : Hid (fs = filesOf es) := by show _ = _; rw [HF.out, List.take_of_length_le (by rw [HL.out]; omega)]
      obtain rfl := HE.out
      obtain ⟨A9, c9, e9, F9⟩ := own2_ft oj (by have := filesOf_len es; have := HL.out; omega) (files_sz HS.out)
      injection e9 with e91 e92 e93
      subst e91 e93
      go_wp2
      go_ret
      exact ⟨A', c', rfl, F9, b⟩

/-! ### Right -/
def okE (es : List Ent) (i : Nat) (hi : i < es.length) : Prop := rightL (epth es[i]) = true ∧ fineE es[i] = true ∧ ∀ _ : 0 < i, epth es[i - 1] < epth es[i]
theorem arch_bad {es : List Ent} (h : archR es = true) (i : Nat) (hi : i < es.length) : okE es i hi := by
  have hR := (archR_iff es).1 h
  have hs := List.pairwise_iff_getElem.1 hR.srt
  exact ⟨hR.paths _ (List.getElem_mem hi), hR.fine _ (List.getElem_mem hi), fun h0 => hs (i - 1) i (by omega) hi (by omega)⟩
theorem arch_good {es : List Ent} (h32 : es.length ≤ 32) (h : ∀ i (hi : i < es.length), okE es i hi) : archR es = treeR (filesOf es) := by
  have hl : (es.map epth).length = es.length := by simp
  have e : ∀ i (hi : i < es.length), (es.map epth).getD i [] = epth es[i] := fun i hi => by simp [List.getD, hi]
  have h1 : es.all fineE = true := List.all_eq_true.2 fun f hf => by
    obtain ⟨i, hi, rfl⟩ := List.mem_iff_getElem.1 hf
    exact (h i hi).2.1
  have h2 : sortedL (es.map epth) = true := List.all_eq_true.2 fun i hi => by
    have hi' : i < es.length := by rw [← hl]; exact List.mem_range.1 hi
    unfold srtAt
    rw [Bool.and_eq_true, Bool.or_eq_true, e i hi']
    refine ⟨(h i hi').1, ?_⟩
    by_cases h0 : i = 0
    · left; simp [h0]
    · right
      rw [e (i - 1) (by omega), less_iff]
      exact (h i hi').2.2 (by omega)
  unfold archR
  rw [h1, h2, decide_eq_true h32]
  rfl
theorem fine_bool (e : Ent) : fineE e = (rt e.l e.r && !((e.l == 0) && (e.r == 0)) && (e.has || decide (e.data = noS))) := by
  unfold fineE
  rw [show decide (e.l = 0) = (e.l == 0) from rfl, show decide (e.r = 0) = (e.r == 0) from rfl]

set_option maxRecDepth 20000 in
set_option maxHeartbeats 8000000 in
theorem rright9_any {w : World} {A : Option Addr} {n c : Nat} {es : List Ent} (h : Et w A n c es) :
    Calls Tryz.prog 37 #[.slice A n c] w fun e w' => e = .returned (.bool (archR es)) ∧ Below w.heap.size w w' := by
  have hr := h.rd
  have hE := h
  have HS : Hid (∀ e ∈ es, SzE e) := h.sz
  have HL := hid h.len
  clear h
  by_cases h32 : (32 : Int) < n
  · go_enter Tryz.func37, Tryz.ntmps37
    go_wp2
    go_ret
    refine ⟨ret_bool ?_, Below.refl _ _⟩
    symm
    refine archR_no fun h => ?_
    have := h.few
    have := HL.out
    omega
  · go_enter Tryz.func37, Tryz.ntmps37
    go_wp2_with fail
    go_loopw [3] (fun i wr => ∃ j : Nat, j ≤ n ∧ i = .int .i64 j ∧ Hid (∀ k (hk : k < es.length), k < j → okE es k hk) ∧ Below w.heap.size w wr) (fun i _ => n - (intOf i).toNat)
    case atStart => exact ⟨0, by omega, rfl, hid (fun k _ hk => absurd hk (by omega)), Below.refl _ _⟩
    case round =>
      obtain ⟨j, hj, rfl, HO, b⟩ := hrel
      by_cases hjn : j < n
      · have hjl : j < es.length := by rw [HL.out]; exact hjn
        obtain ⟨g, og, rfl, h1, h2, h3, h4, h5, hg⟩ := (hr.below b).ent hjl
        have hz : (0 : Int) ≤ j := by omega
        have hlt : (j : Int) < n := by omega
        have hsz := (HS.out es[j] (List.getElem_mem hjl)).1
        have HNO : Hid (¬ okE es j hjl → archR es = false) := fun hno => not_true fun hT => hno (arch_bad hT j hjl)
        have HYES : Hid (okE es j hjl → ∀ k (hk : k < es.length), k < j + 1 → okE es k hk) := fun hy k hk hkj => by
          by_cases e : k = j
          · subst e; exact hy
          · exact HO.out k hk (by omega)
        have HOK : Hid (okE es j hjl = (rightL (epth es[j]) = true ∧ fineE es[j] = true ∧ ∀ _ : 0 < j, epth es[j - 1] < epth es[j])) := rfl
        have HFB := hid (fine_bool es[j])
        have HPV : Hid (∀ _ : 0 < j, ∃ y, epth es[j - 1] = y.data.toList ∧ (wr.cell? ⟨g, og + (j - 1) * 5, none⟩ = some (.string y))) := fun h0 => by
          obtain ⟨g', og', e', k0, -⟩ := (hr.below b).ent (j := j - 1) (by omega)
          injection e' with e'
          injection e' with e1 e2
          subst e1 e2
          exact ⟨_, rfl, k0⟩
        generalize okE es j hjl = OK at *
        generalize es[j] = x at *
        go_wp2_with fail
        refine (refRight x.path _ hsz).mono ?_
        rintro e w2 ⟨rfl, hb2⟩
        have p2 := (Blk.new wr [.string x.path, .bool x.has, .string x.data, .int .i64 x.l, .int .i64 x.r] 34).below hb2
        have b2 := below2 b (below_new _ hb2)
        have hg2 : wr.heap.size ≤ w2.heap.size := by have := hb2.size; simp at this; omega
        have q3 := p2.cell 3
        have q4 := p2.cell 4
        simp only [List.getElem?_cons_zero, List.getElem?_cons_succ] at q3 q4
        go_wp2_with fail
        refine (rright_any x.l x.r _).mono ?_
        rintro e w3 ⟨rfl, hb3⟩
        have p3 := p2.below hb3
        have b3 := below2 b2 hb3
        have hbw := (below2 (below_new _ hb2) hb3)
        have HPV3 : Hid (∀ _ : 0 < j, ∃ y, epth es[j - 1] = y.data.toList ∧ (w3.cell? ⟨g, og + (j - 1) * 5, none⟩ = some (.string y))) := fun h0 => by
          obtain ⟨y, e1, e2⟩ := HPV.out h0
          exact ⟨y, e1, (hbw.cell (p := ⟨g, og + (j - 1) * 5, none⟩) (World.block_lt_of_cell? _ _ e2)).trans e2⟩
        have c0 := p3.cell 0
        have c1 := p3.cell 1
        have c2 := p3.cell 2
        have c3 := p3.cell 3
        have c4 := p3.cell 4
        simp only [List.getElem?_cons_zero, List.getElem?_cons_succ] at c0 c1 c2 c3 c4
        clear hb2 hb3 p2 p3 b2 q3 q4 hbw HPV h1 h2 h3 h4 h5 b
        generalize wr.heap.size = gb at *
        cases hf : rightL x.path.data.toList
        · have HF := hid hf
          clear hf
          go_wp2_with fail
          go_quiet (fail)
          go_wp2
          go_ret
          refine ⟨ret_bool (HNO.out ?_).symm, below_drewN b3 _⟩
          rw [HOK.out]
          rintro ⟨k1, k2, k3⟩
          rw [epth, HF.out] at k1
          cases k1
        have HF : Hid (rightL (epth x) = true) := hf
        clear hf
        cases hrt : rt x.l x.r
        · rw [hrt] at HFB
          clear hrt
          go_wp2_with fail
          go_quiet (fail)
          go_wp2
          go_ret
          refine ⟨ret_bool (HNO.out ?_).symm, below_drewN b3 _⟩
          rw [HOK.out]
          rintro ⟨k1, k2, k3⟩
          rw [HFB.out] at k2
          cases k2
        rw [hrt] at HFB
        clear hrt
        cases hL : x.l == 0
        · rw [hL] at HFB
          cases hh : x.has
          · rw [hh] at HFB c1
            have hie := isEmpty_no x.data
            have hsq := str_eqb x.data noS
            cases hdd : decide (x.data = noS)
            · rw [hdd] at hie HFB hsq
              clear hdd
              go_wp2_with fail
              go_quiet (fail)
              go_wp2
              go_ret
              refine ⟨ret_bool (HNO.out ?_).symm, below_drewN b3 _⟩
              rw [HOK.out]
              rintro ⟨k1, k2, k3⟩
              rw [HFB.out] at k2
              cases k2
            · rw [hdd] at hie HFB hsq
              clear hdd
              have HFI := hid (HFB.out.trans rfl)
              by_cases hj0 : 0 < j
              · have hj0z : (0 : Int) < j := by omega
                obtain ⟨y, hy1, hy2⟩ := HPV3.out hj0
                have HY1 := hid hy1
                have hj1 : ((j : Int) - 1) = ((j - 1 : Nat) : Int) := by omega
                have hj1z : (0 : Int) ≤ (j - 1 : Nat) := by omega
                have hj1n : ((j - 1 : Nat) : Int) < n := by omega
                have hfl := less_flip y.data.toList x.path.data.toList
                clear hy1
                cases hls : Op.bytesLess y.data.toList x.path.data.toList
                · rw [hls] at hfl
                  rw [← Lib.toList_data, ← Lib.toList_data] at hfl
                  have HLS := hid hls
                  clear hls
                  go_wp2_with fail
                  go_quiet (fail)
                  go_wp2
                  go_ret
                  refine ⟨ret_bool (HNO.out ?_).symm, below_drewN b3 _⟩
                  rw [HOK.out]
                  rintro ⟨k1, k2, k3⟩
                  have k4 := k3 hj0
                  rw [HY1.out, ← less_iff] at k4
                  rw [epth, HLS.out] at k4
                  cases k4
                · rw [hls] at hfl
                  rw [← Lib.toList_data, ← Lib.toList_data] at hfl
                  have HPR : Hid (∀ _ : 0 < j, epth es[j - 1] < epth x) := fun _ => by rw [HY1.out, ← less_iff]; exact hls
                  clear hls
                  go_wp2_with fail
                  go_quiet (fail)
                  go_wp2
                  go_roundw
                  case rel => exact ⟨j + 1, by omega, by go_num, hid (HYES.out (by rw [HOK.out]; exact ⟨HF.out, HFI.out, HPR.out⟩)), below_drewN b3 _⟩
                  case measure => simp [intOf]; omega
              · have hj0z : decide ((0 : Int) < j) = false := by simp; omega
                have HPR : Hid (∀ _ : 0 < j, epth es[j - 1] < epth x) := fun h => absurd h hj0
                have hj0y : ¬ (0 : Int) < j := by omega
                go_wp2_with fail
                go_quiet (fail)
                go_wp2
                go_roundw
                case rel => exact ⟨j + 1, by omega, by go_num, hid (HYES.out (by rw [HOK.out]; exact ⟨HF.out, HFI.out, HPR.out⟩)), below_drewN b3 _⟩
                case measure => simp [intOf]; omega
          · rw [hh] at HFB c1
            have HFI := hid (HFB.out.trans rfl)
            by_cases hj0 : 0 < j
            · have hj0z : (0 : Int) < j := by omega
              obtain ⟨y, hy1, hy2⟩ := HPV3.out hj0
              have HY1 := hid hy1
              have hj1 : ((j : Int) - 1) = ((j - 1 : Nat) : Int) := by omega
              have hj1z : (0 : Int) ≤ (j - 1 : Nat) := by omega
              have hj1n : ((j - 1 : Nat) : Int) < n := by omega
              have hfl := less_flip y.data.toList x.path.data.toList
              clear hy1
              cases hls : Op.bytesLess y.data.toList x.path.data.toList
              · rw [hls] at hfl
                rw [← Lib.toList_data, ← Lib.toList_data] at hfl
                have HLS := hid hls
                clear hls
                go_wp2_with fail
                go_quiet (fail)
                go_wp2
                go_ret
                refine ⟨ret_bool (HNO.out ?_).symm, below_drewN b3 _⟩
                rw [HOK.out]
                rintro ⟨k1, k2, k3⟩
                have k4 := k3 hj0
                rw [HY1.out, ← less_iff] at k4
                rw [epth, HLS.out] at k4
                cases k4
              · rw [hls] at hfl
                rw [← Lib.toList_data, ← Lib.toList_data] at hfl
                have HPR : Hid (∀ _ : 0 < j, epth es[j - 1] < epth x) := fun _ => by rw [HY1.out, ← less_iff]; exact hls
                clear hls
                go_wp2_with fail
                go_quiet (fail)
                go_wp2
                go_roundw
                case rel => exact ⟨j + 1, by omega, by go_num, hid (HYES.out (by rw [HOK.out]; exact ⟨HF.out, HFI.out, HPR.out⟩)), below_drewN b3 _⟩
                case measure => simp [intOf]; omega
            · have hj0z : decide ((0 : Int) < j) = false := by simp; omega
              have HPR : Hid (∀ _ : 0 < j, epth es[j - 1] < epth x) := fun h => absurd h hj0
              have hj0y : ¬ (0 : Int) < j := by omega
              go_wp2_with fail
              go_quiet (fail)
              go_wp2
              go_roundw
              case rel => exact ⟨j + 1, by omega, by go_num, hid (HYES.out (by rw [HOK.out]; exact ⟨HF.out, HFI.out, HPR.out⟩)), below_drewN b3 _⟩
              case measure => simp [intOf]; omega
        · rw [hL] at HFB
          cases hR0 : x.r == 0
          · rw [hR0] at HFB
            cases hh : x.has
            · rw [hh] at HFB c1
              have hie := isEmpty_no x.data
              have hsq := str_eqb x.data noS
              cases hdd : decide (x.data = noS)
              · rw [hdd] at hie HFB hsq
                clear hdd
                go_wp2_with fail
                go_quiet (fail)
                go_wp2
                go_ret
                refine ⟨ret_bool (HNO.out ?_).symm, below_drewN b3 _⟩
                rw [HOK.out]
                rintro ⟨k1, k2, k3⟩
                rw [HFB.out] at k2
                cases k2
              · rw [hdd] at hie HFB hsq
                clear hdd
                have HFI := hid (HFB.out.trans rfl)
                by_cases hj0 : 0 < j
                · have hj0z : (0 : Int) < j := by omega
                  obtain ⟨y, hy1, hy2⟩ := HPV3.out hj0
                  have HY1 := hid hy1
                  have hj1 : ((j : Int) - 1) = ((j - 1 : Nat) : Int) := by omega
                  have hj1z : (0 : Int) ≤ (j - 1 : Nat) := by omega
                  have hj1n : ((j - 1 : Nat) : Int) < n := by omega
                  have hfl := less_flip y.data.toList x.path.data.toList
                  clear hy1
                  cases hls : Op.bytesLess y.data.toList x.path.data.toList
                  · rw [hls] at hfl
                    rw [← Lib.toList_data, ← Lib.toList_data] at hfl
                    have HLS := hid hls
                    clear hls
                    go_wp2_with fail
                    go_quiet (fail)
                    go_wp2
                    go_ret
                    refine ⟨ret_bool (HNO.out ?_).symm, below_drewN b3 _⟩
                    rw [HOK.out]
                    rintro ⟨k1, k2, k3⟩
                    have k4 := k3 hj0
                    rw [HY1.out, ← less_iff] at k4
                    rw [epth, HLS.out] at k4
                    cases k4
                  · rw [hls] at hfl
                    rw [← Lib.toList_data, ← Lib.toList_data] at hfl
                    have HPR : Hid (∀ _ : 0 < j, epth es[j - 1] < epth x) := fun _ => by rw [HY1.out, ← less_iff]; exact hls
                    clear hls
                    go_wp2_with fail
                    go_quiet (fail)
                    go_wp2
                    go_roundw
                    case rel => exact ⟨j + 1, by omega, by go_num, hid (HYES.out (by rw [HOK.out]; exact ⟨HF.out, HFI.out, HPR.out⟩)), below_drewN b3 _⟩
                    case measure => simp [intOf]; omega
                · have hj0z : decide ((0 : Int) < j) = false := by simp; omega
                  have HPR : Hid (∀ _ : 0 < j, epth es[j - 1] < epth x) := fun h => absurd h hj0
                  have hj0y : ¬ (0 : Int) < j := by omega
                  go_wp2_with fail
                  go_quiet (fail)
                  go_wp2
                  go_roundw
                  case rel => exact ⟨j + 1, by omega, by go_num, hid (HYES.out (by rw [HOK.out]; exact ⟨HF.out, HFI.out, HPR.out⟩)), below_drewN b3 _⟩
                  case measure => simp [intOf]; omega
            · rw [hh] at HFB c1
              have HFI := hid (HFB.out.trans rfl)
              by_cases hj0 : 0 < j
              · have hj0z : (0 : Int) < j := by omega
                obtain ⟨y, hy1, hy2⟩ := HPV3.out hj0
                have HY1 := hid hy1
                have hj1 : ((j : Int) - 1) = ((j - 1 : Nat) : Int) := by omega
                have hj1z : (0 : Int) ≤ (j - 1 : Nat) := by omega
                have hj1n : ((j - 1 : Nat) : Int) < n := by omega
                have hfl := less_flip y.data.toList x.path.data.toList
                clear hy1
                cases hls : Op.bytesLess y.data.toList x.path.data.toList
                · rw [hls] at hfl
                  rw [← Lib.toList_data, ← Lib.toList_data] at hfl
                  have HLS := hid hls
                  clear hls
                  go_wp2_with fail
                  go_quiet (fail)
                  go_wp2
                  go_ret
                  refine ⟨ret_bool (HNO.out ?_).symm, below_drewN b3 _⟩
                  rw [HOK.out]
                  rintro ⟨k1, k2, k3⟩
                  have k4 := k3 hj0
                  rw [HY1.out, ← less_iff] at k4
                  rw [epth, HLS.out] at k4
                  cases k4
                · rw [hls] at hfl
                  rw [← Lib.toList_data, ← Lib.toList_data] at hfl
                  have HPR : Hid (∀ _ : 0 < j, epth es[j - 1] < epth x) := fun _ => by rw [HY1.out, ← less_iff]; exact hls
                  clear hls
                  go_wp2_with fail
                  go_quiet (fail)
                  go_wp2
                  go_roundw
                  case rel => exact ⟨j + 1, by omega, by go_num, hid (HYES.out (by rw [HOK.out]; exact ⟨HF.out, HFI.out, HPR.out⟩)), below_drewN b3 _⟩
                  case measure => simp [intOf]; omega
              · have hj0z : decide ((0 : Int) < j) = false := by simp; omega
                have HPR : Hid (∀ _ : 0 < j, epth es[j - 1] < epth x) := fun h => absurd h hj0
                have hj0y : ¬ (0 : Int) < j := by omega
                go_wp2_with fail
                go_quiet (fail)
                go_wp2
                go_roundw
                case rel => exact ⟨j + 1, by omega, by go_num, hid (HYES.out (by rw [HOK.out]; exact ⟨HF.out, HFI.out, HPR.out⟩)), below_drewN b3 _⟩
                case measure => simp [intOf]; omega
          · rw [hR0] at HFB
            go_wp2_with fail
            go_quiet (fail)
            go_wp2
            go_ret
            refine ⟨ret_bool (HNO.out ?_).symm, below_drewN b3 _⟩
            rw [HOK.out]
            rintro ⟨k1, k2, k3⟩
            rw [HFB.out] at k2
            cases k2
      · have hnlt : ¬ (j : Int) < n := by omega
        have HT := hid (arch_good (es := es) (by have := HL.out; omega) fun i hi => HO.out i hi (by have := HL.out; omega))
        have k1 := rfiles_any (hE.below b)
        go_wp2_with fail
        refine k1.mono ?_
        rintro e w2 ⟨B2, d2, rfl, F2, hb2⟩
        have b2 := below2 b hb2
        have k2 := refTree F2
        go_wp2_with fail
        refine k2.mono ?_
        rintro e w3 ⟨rfl, hb3⟩
        have b3 := below2 b2 hb3
        go_wp2
        go_ret
        exact ⟨ret_bool HT.out.symm, b3⟩

set_option maxHeartbeats 1000000 in
theorem rtree9_any {w : World} {A : Option Addr} {n c : Nat} {es : List Ent} (h : Et w A n c es) :
    Calls Tryz.prog 47 #[.slice A n c] w fun e w' => ∃ B d, e = .returned (.slice B (treeE es).length d) ∧ Ft w' B (treeE es).length d (treeE es) ∧ Below w.heap.size w w' := by
  have k0 := rright9_any h
  go_enter Tryz.func47, Tryz.ntmps47
  cases hR : archR es with
  | false =>
    rw [hR] at k0
    have HR : Hid (treeE es = []) := by show _ = _; rw [treeE, hR]; rfl
    clear hR
    go_wp2_with fail
    refine k0.mono ?_
    rintro e w1 ⟨rfl, hb1⟩
    go_wp2
    go_ret
    rw [HR.out]
    exact ⟨none, 0, rfl, ft_nil w1, hb1⟩
  | true =>
    rw [hR] at k0
    have HR : Hid (treeE es = filesOf es) := by show _ = _; rw [treeE, hR]; rfl
    clear hR
    go_wp2_with fail
    refine k0.mono ?_
    rintro e w1 ⟨rfl, hb1⟩
    have k1 := rfiles_any (h.below hb1)
    clear h k0
    go_wp2_with fail
    refine k1.mono ?_
    rintro e w2 ⟨B2, d2, rfl, F2, hb2⟩
    go_wp2
    go_ret
    rw [HR.out]
    exact ⟨B2, d2, rfl, F2, below2 hb1 hb2⟩
end Go.Proofs.YtlmccjdpmhancaaGreatDoor
namespace Go.Proofs.YtlmccjdpmhancaaGreatDoor
open Go.RowKit

/-- append(v, x...), v the call's own, elements of one cell. -/
theorem run_app {P : Program} (w : World) (base : Nat) (t ty e : TypeId) (z : Value) (bytes : Nat) (ht : P.underlying t = some (.slice e)) (hinf : (P.info? e).map (fun i => (i.zero, i.size, i.bytes)) = some (some z, 1, bytes)) (hz : z.cells.size = 1)
    (A : Option Addr) (n c : Nat) (xs : List Value) (hown : w.ownsRow base e 1 (.slice A n c) n xs)
    (B : Option Addr) (m d : Nat) (news : List Value) (hl : news.length = m) (hr : Rd w B news) (h1 : ∀ u ∈ news, u.oneCell' = true)
    (hbytes : (n + m) * bytes ≤ 140737488355328) (hbase : base ≤ w.heap.size) (h63 : n + m ≤ maxLen) :
    ∃ A' c' w', (Builtin.append_ #[t, t] ty #[.slice A n c, .slice B m d]).run P w = .ok (.slice A' (n + m) c') w' ∧ w'.ownsRow base e 1 (.slice A' (n + m) c') (n + m) (xs ++ news) ∧ w.grownBy w' (Value.slice A n c).ownBlock := by
  obtain ⟨i, hi, hz0, hz1, hz2⟩ := info_parts hinf
  have own : ∀ ad, (∀ j u, news[j]? = some u → w.cell? (ad.add j) = some u) → ∃ A' c' w', (Builtin.append_ #[t, t] ty #[.slice A n c, .slice (some ad) m d]).run P w = .ok (.slice A' (n + m) c') w' ∧ w'.ownsRow base e 1 (.slice A' (n + m) c') (n + m) (xs ++ news) ∧ w.grownBy w' (Value.slice A n c).ownBlock := by
    intro ad hc
    obtain ⟨v', w', h2, h3, h4, _⟩ := run_append_own (P := P) w base t ty e i z 1 bytes ht hi hz0 hz1 hz2 hz (by decide) _ n xs hown ad m d news (by omega) hc h1 h63 hbytes hbase
    obtain ⟨_, A', c', rfl, _⟩ := own_form h3
    exact ⟨A', c', w', h2, h3, h4⟩
  rcases hr with rfl | ⟨ad, rfl, hc⟩
  · have hm : m = 0 := by simpa using hl.symm
    subst hm
    cases B with
    | none => exact ⟨A, c, w, run_app_nil (P := P) w base t ty e i ht hi _ n xs hown d, by simpa using hown, World.grownBy.refl _ _⟩
    | some ad => exact own ad (by simp)
  · exact own ad hc

/-- append where the order is open: its run is known. -/
theorem stepApp {P : Program} {w w' : World} {ops : Array Oper} {o : Oper} {a : Act} {K : Act → World → Prop} {Q : Exit → Act → World → Prop} {E : Prop} (hw : Region.wanted o (yielded ops a.tmps) = true) (s x : Operand) (t : TypeId)
    (ho : o.op = .call { callee := .builtin .append, args := #[s, x], argTypes := #[t, t] }) (v1 v2 v : Value) (hs : a.eval s = v1) (hx : a.eval x = v2)
    (hrun : (Builtin.append_ #[t, t] o.type #[v1, v2]).run P w = .ok v w') (h : K (a.put o.dst v) w') : if Region.wanted o (yielded ops a.tmps) = true then Oper.wp P o a w K Q else E := by
  rw [if_pos hw]
  unfold Oper.wp
  simp [execOp, ho, resolve, invoke, builtin, hs, hx, hrun, Result.andThen]
  exact h

/-- append behind a guard that holds: its run is known. -/
theorem wpAppG {P : Program} {w w' : World} {ops : Array Oper} {rest : List Oper} {o : Oper} {a : Act} {Q : Exit → Act → World → Prop} (hw : Region.wanted o (yielded ops a.tmps) = true) (s x : Operand) (t : TypeId)
    (ho : o.op = .call { callee := .builtin .append, args := #[s, x], argTypes := #[t, t] }) (v1 v2 v : Value) (hs : a.eval s = v1) (hx : a.eval x = v2)
    (hrun : (Builtin.append_ #[t, t] o.type #[v1, v2]).run P w = .ok v w') (h : wpList P ops Q rest (a.put o.dst v) w') : wpList P ops Q (o :: rest) a w :=
  wpList_step fun _ hK => stepApp hw s x t ho v1 v2 v hs hx hrun (hK _ _ h)

end Go.Proofs.YtlmccjdpmhancaaGreatDoor
namespace Go.Proofs
open Go.Shelf
def Tryz.lays190_ren : Go.Shelf.Ren := ⟨fun | 190 => 69 | 125 => 103 | 258 => 102 | 128 => 121 | 129 => 122 | 302 => 112 | 303 => 113 | 304 => 114 | 305 => 115 | 306 => 116 | 307 => 117 | 308 => 118 | 309 => 119 | 310 => 120 | 333 => 126 | 329 => 127 | 330 => 128 | 334 => 129 | 335 => 130 | 336 => 131 | 344 => 135 | n => n, fun | 31 => 25 | 9 => 9 | 3 => 3 | 46 => 119 | 0 => 0 | 51 => 132 | 53 => 134 | 4 => 4 | 183 => 126 | 182 => 125 | 131 => 90 | 5 => 5 | 218 => 137 | 222 => 141 | 228 => 145 | 229 => 146 | n => n, fun | n => n⟩
theorem Tryz.lays190 : Go.Proofs.Lays.n190 Tryz.prog Tryz.lays190_ren := {
  mixed := by kernel_rfl
  f125 := Tryz.func103.trans (congrArg some (by kernel_rfl))
  f128 := Tryz.func121.trans (congrArg some (by kernel_rfl))
  f129 := Tryz.func122.trans (congrArg some (by kernel_rfl))
  f190 := Tryz.func69.trans (congrArg some (by kernel_rfl))
  f258 := Tryz.func102.trans (congrArg some (by kernel_rfl))
  f302 := Tryz.func112.trans (congrArg some (by kernel_rfl))
  f303 := Tryz.func113.trans (congrArg some (by kernel_rfl))
  f304 := Tryz.func114.trans (congrArg some (by kernel_rfl))
  f305 := Tryz.func115.trans (congrArg some (by kernel_rfl))
  f306 := Tryz.func116.trans (congrArg some (by kernel_rfl))
  f307 := Tryz.func117.trans (congrArg some (by kernel_rfl))
  f308 := Tryz.func118.trans (congrArg some (by kernel_rfl))
  f309 := Tryz.func119.trans (congrArg some (by kernel_rfl))
  f310 := Tryz.func120.trans (congrArg some (by kernel_rfl))
  f329 := Tryz.func127.trans (congrArg some (by kernel_rfl))
  f330 := Tryz.func128.trans (congrArg some (by kernel_rfl))
  f333 := Tryz.func126.trans (congrArg some (by kernel_rfl))
  f334 := Tryz.func129.trans (congrArg some (by kernel_rfl))
  f335 := Tryz.func130.trans (congrArg some (by kernel_rfl))
  f336 := Tryz.func131.trans (congrArg some (by kernel_rfl))
  f344 := Tryz.func135.trans (congrArg some (by kernel_rfl))
  t0 := Tryz.underlying0
  a0 := Tryz.isAgg0
  z0 := Tryz.sizeOf0
  v0 := Tryz.zeroValue0
  t3 := Tryz.underlying3
  a3 := Tryz.isAgg3
  z3 := Tryz.sizeOf3
  v3 := Tryz.zeroValue3
  t4 := Tryz.underlying4
  a4 := Tryz.isAgg4
  z4 := Tryz.sizeOf4
  v4 := Tryz.zeroValue4
  t5 := Tryz.underlying5
  a5 := Tryz.isAgg5
  z5 := Tryz.sizeOf5
  v5 := Tryz.zeroValue5
  t9 := Tryz.underlying9
  a9 := Tryz.isAgg9
  z9 := Tryz.sizeOf9
  v9 := Tryz.zeroValue9
  t31 := Tryz.underlying25
  a31 := Tryz.isAgg25
  z31 := Tryz.sizeOf25
  v31 := Tryz.zeroValue25
  t46 := Tryz.underlying119
  a46 := Tryz.isAgg119
  z46 := Tryz.sizeOf119
  v46 := Tryz.zeroValue119
  t51 := Tryz.underlying132
  a51 := Tryz.isAgg132
  z51 := Tryz.sizeOf132
  v51 := Tryz.zeroValue132
  t53 := Tryz.underlying134
  a53 := Tryz.isAgg134
  z53 := Tryz.sizeOf134
  v53 := Tryz.zeroValue134
  t131 := Tryz.underlying90
  a131 := Tryz.isAgg90
  z131 := Tryz.sizeOf90
  v131 := Tryz.zeroValue90
  t182 := Tryz.underlying125
  a182 := Tryz.isAgg125
  z182 := Tryz.sizeOf125
  v182 := Tryz.zeroValue125
  t183 := Tryz.underlying126
  a183 := Tryz.isAgg126
  z183 := Tryz.sizeOf126
  v183 := Tryz.zeroValue126
  t218 := Tryz.underlying137
  a218 := Tryz.isAgg137
  z218 := Tryz.sizeOf137
  v218 := Tryz.zeroValue137
  t222 := Tryz.underlying141
  a222 := Tryz.isAgg141
  z222 := Tryz.sizeOf141
  v222 := Tryz.zeroValue141
  t228 := Tryz.underlying145
  a228 := Tryz.isAgg145
  z228 := Tryz.sizeOf145
  v228 := Tryz.zeroValue145
  t229 := Tryz.underlying146
  a229 := Tryz.isAgg146
  z229 := Tryz.sizeOf146
  v229 := Tryz.zeroValue146 }
open Go.Sort Go.RowKit in
theorem Tryz.slices_Sort_string (blk off cap : Nat) (ss : List (List UInt8)) (w : World) (hH : Holds encStr w blk off ss.toArray) (hblk : blk < w.heap.size) (hsz : ss.length < 4611686018427387904) :
    Calls Tryz.prog 69 #[.slice (some ⟨blk, off, none⟩) ss.length cap] w fun e w' =>
      e = .returned (.tuple #[]) ∧ ∃ n os, w' = grow (putRow encStr (Sort.ahead w n) blk off (ss.mergeSort fun x y => decide (x ≤ y)).toArray) os := Any.slices_Sort_string Tryz.lays190 blk off cap ss w hH hblk hsz
def Tryz.lays194_ren : Go.Shelf.Ren := ⟨fun | 194 => 70 | n => n, fun | 31 => 25 | 9 => 9 | 3 => 3 | 4 => 4 | 0 => 0 | n => n, fun | n => n⟩
theorem Tryz.lays194 : Go.Proofs.Lays.n194 Tryz.prog Tryz.lays194_ren := {
  mixed := by kernel_rfl
  f194 := Tryz.func70.trans (congrArg some (by kernel_rfl))
  t0 := Tryz.underlying0
  a0 := Tryz.isAgg0
  z0 := Tryz.sizeOf0
  v0 := Tryz.zeroValue0
  t3 := Tryz.underlying3
  a3 := Tryz.isAgg3
  z3 := Tryz.sizeOf3
  v3 := Tryz.zeroValue3
  t4 := Tryz.underlying4
  a4 := Tryz.isAgg4
  z4 := Tryz.sizeOf4
  v4 := Tryz.zeroValue4
  t9 := Tryz.underlying9
  a9 := Tryz.isAgg9
  z9 := Tryz.sizeOf9
  v9 := Tryz.zeroValue9
  t31 := Tryz.underlying25
  a31 := Tryz.isAgg25
  z31 := Tryz.sizeOf25
  v31 := Tryz.zeroValue25 }
open Go.RowKit Go.Lib Go.Sort in
theorem Tryz.slices_Compact_string_arr (blk off cap : Nat) (d : Array (List UInt8)) (w : World) (hH : Holds encStr w blk off d) (hsz : d.size ≤ 9223372036854775807) (hcap : d.size ≤ cap) :
    Calls Tryz.prog 70 #[.slice (some ⟨blk, off, none⟩) d.size cap] w fun e w' => e = .returned (.slice (some ⟨blk, off, none⟩) (compactUpTo d d.size).length cap) ∧ ∃ q, w' = putRow encStr (Sort.ahead w q) blk off (compactUpTo d d.size ++ List.replicate (d.size - (compactUpTo d d.size).length) []).toArray := Any.slices_Compact_string_arr Tryz.lays194 blk off cap d w hH hsz hcap
open Go.RowKit Go.Lib Go.Sort in
theorem Tryz.slices_Compact_string (blk off cap : Nat) (zs : List (List UInt8)) (w : World) (hH : Holds encStr w blk off zs.toArray) (hsz : zs.length ≤ 9223372036854775807) (hcap : zs.length ≤ cap) :
    Calls Tryz.prog 70 #[.slice (some ⟨blk, off, none⟩) zs.length cap] w fun e w' => e = .returned (.slice (some ⟨blk, off, none⟩) (Lib.compact zs).length cap) ∧ ∃ q, w' = putRow encStr (Sort.ahead w q) blk off (Lib.compact zs ++ List.replicate (zs.length - (Lib.compact zs).length) []).toArray := Any.slices_Compact_string Tryz.lays194 blk off cap zs w hH hsz hcap
open Go.RowKit Go.Lib Go.Sort in
theorem Tryz.slices_Compact_string_empty (a : Option Addr) (cap : Nat) (w : World) :
    Calls Tryz.prog 70 #[.slice a 0 cap] w fun e w' => e = .returned (.slice a 0 cap) ∧ w' = w := Any.slices_Compact_string_empty Tryz.lays194 a cap w
open Go.RowKit Go.Sort in
theorem Tryz.slices_Sort_string_none (p : Option Addr) (cap : Nat) (w : World) :
    Calls Tryz.prog 69 #[.slice p 0 cap] w fun e w' => e = .returned (.tuple #[]) ∧ w' = w := Any.slices_Sort_string_none Tryz.lays190 p cap w
end Go.Proofs
namespace Go.Proofs.YtlmccjdpmhancaaGreatDoor
open Go.RowKit Go.Sort

/-! ### Room for entries -/
set_option maxHeartbeats 1000000 in
set_option maxRecDepth 100000 in
theorem egrow_any (k : Nat) (hk : k ≤ 1000000) (w : World) :
    Calls Tryz.prog 101 #[.slice none 0 0, .int .i64 (k : Int)] w fun e w' => ∃ v, e = .returned v ∧ w'.ownsRow w.heap.size 34 5 v 0 [] ∧ Below w.heap.size w w' := by
  by_cases h0 : k = 0
  · subst h0
    go_enter Tryz.func101, Tryz.ntmps101
    go_wp2
    go_ret
    exact ⟨_, rfl, ⟨rfl, .inl ⟨rfl, rfl⟩⟩, Below.refl _ _⟩
  · obtain ⟨i, hi, hz0, hz1, hz2⟩ := info_parts Tryz.infoE
    have HRUN := hid (Lib.run_append_nil_zeros (P := Tryz.prog) w 22 3 22 34 i (eA zE) .i64 .i64 Tryz.underlying22 Tryz.underlying3 hi hz0 k (by omega) (by rw [hz1]; decide) (by omega) (by rw [hz2]; omega))
    have hc1 := grownCap_ge w k 0 34
    have hc2 := grownCap_le_maxLen w k 0 34 (by unfold maxLen; omega)
    have HO := hid (World.ownsRow_made (base := w.heap.size) (e := 34) (size := 5) w.drew (Builtin.zeroCells (eA zE).cells k ++ Builtin.zeroCells (eA zE).cells (grownCap w k 0 34 - k)) (grownCap w k 0 34) (Nat.le_refl _) hc2 (by
      have h5 : (eA zE).cells.size = 5 := rfl
      simp only [Array.size_append, size_zeroCells, h5]
      omega))
    have hb : Below w.heap.size w (w.drew.alloc (.cells (Builtin.zeroCells (eA zE).cells k ++ Builtin.zeroCells (eA zE).cells (grownCap w k 0 34 - k)) 34)) := (Below.refl _ _).drew.alloc (Nat.le_refl _) _
    generalize w.drew.alloc (.cells (Builtin.zeroCells (eA zE).cells k ++ Builtin.zeroCells (eA zE).cells (grownCap w k 0 34 - k)) 34) = W at *
    generalize grownCap w k 0 34 = q at *
    have hkz : (0 : Int) < k := by omega
    have hkn : ¬ (k : Int) < 0 := by omega
    clear hi hz0 hz1 hz2 h0
    unfold maxLen at hc2
    go_enter Tryz.func101, Tryz.ntmps101
    go_wp2_with (at_builtin; refine Lib.wpList_append_run _ rfl _ _ _ _ rfl _ _ rfl rfl _ _ HRUN.out ?_)
    go_ret
    exact ⟨_, rfl, HO.out, hb⟩

/-- append of entries onto a row of the call's own. -/
theorem app_ents {W : World} {n₀ : Nat} {v : Value} {xs : List Ent} (hrow : W.ownsRow n₀ 34 5 v xs.length (entV xs)) (hn : n₀ ≤ W.heap.size) {B : Option Addr} {m d : Nat} {ys : List Ent} (hl : ys.length = m) (hr : Rd W B (entV ys)) (hk : xs.length + m ≤ 1000000) :
    ∃ v' w1, Hid ((Builtin.append_ #[22, 22] 22 #[v, .slice B m d]).run Tryz.prog W = .ok v' w1) ∧ w1.ownsRow n₀ 34 5 v' (xs ++ ys).length (entV (xs ++ ys)) ∧ Below n₀ W w1 := by
  obtain ⟨i, hi, hz0, hz1, hz2⟩ := info_parts Tryz.infoE
  have own : ∀ ad : Addr, (∀ j u, (entV ys)[j]? = some u → W.cell? (ad.add j) = some u) → ∃ v' w1, Hid ((Builtin.append_ #[22, 22] 22 #[v, .slice (some ad) m d]).run Tryz.prog W = .ok v' w1) ∧ w1.ownsRow n₀ 34 5 v' (xs ++ ys).length (entV (xs ++ ys)) ∧ Below n₀ W w1 := by
    intro ad hc
    obtain ⟨v', w', h2, h3, h4, -⟩ := run_append_own (P := Tryz.prog) W n₀ 22 22 34 i (eA zE) 5 56 Tryz.underlying22 hi hz0 hz1 hz2 rfl (by decide) v xs.length (entV xs) hrow ad m d (entV ys) (by rw [entV_length, hl]) hc (entV_one _) (by unfold maxLen; omega) (by omega) hn
    refine ⟨v', w', h2, ?_, (Below.refl n₀ W).grown h4 hn fun j ej => (hrow.lt j ej).1⟩
    rw [entV_append, List.length_append, hl]
    exact h3
  rcases hr with hr | ⟨ad, rfl, hc⟩
  · have hy : ys = [] := by
      have := entV_length ys
      rw [hr] at this
      exact List.eq_nil_of_length_eq_zero (by simp at this; omega)
    subst hy
    subst hl
    cases B with
    | none =>
      refine ⟨v, W, ?_, by rw [List.append_nil]; exact hrow, Below.refl _ _⟩
      show _ = _
      rcases hrow.2 with ⟨e1, e0⟩ | ⟨g, cap, cur, e1, _, _, hnc, _⟩
      · rw [e1]
        simp [Builtin.append_, run_underlying Tryz.underlying22, sizeOf, typeInfo, hi, Builtin.lenOf, Builtin.firstCells]
      · rw [e1]
        simp [Builtin.append_, run_underlying Tryz.underlying22, sizeOf, typeInfo, hi, Builtin.lenOf, Builtin.firstCells, hnc, storeCells]
    | some ad => exact own ad (by simp [entV])
  · exact own ad hc

set_option maxHeartbeats 2000000 in
set_option maxRecDepth 100000 in
theorem concat_any {w : World} {A B : Option Addr} {n c m d g : Nat} {es fs : List Ent} (h : Et w A n c es) (k : Et w B m d fs) (hn : n ≤ 100000) (hm : m ≤ 100000) (hg : Blk w g [.slice A n c, .slice B m d] 22) :
    Calls Tryz.prog 68 #[.slice (some ⟨g, 0, none⟩) 2 2] w fun e w' => ∃ v, e = .returned v ∧ w'.ownsRow w.heap.size 34 5 v (es ++ fs).length (entV (es ++ fs)) ∧ Below w.heap.size w w' := by
  have hr := h.rd
  have hr2 := k.rd
  have HL := hid h.len
  have HL2 := hid k.len
  have g0 := hg.cell 0
  have g1 := hg.cell 1
  have lg := hg.lt
  simp only [List.getElem?_cons_zero, List.getElem?_cons_succ] at g0 g1
  clear h k hg
  go_enter Tryz.func68, Tryz.ntmps68
  go_wp2_with fail
  go_loop [3, 11] (fun s i => (i = .int .i64 0 ∧ s = .int .i64 0) ∨ (i = .int .i64 1 ∧ s = .int .i64 (n : Int)) ∨ (i = .int .i64 2 ∧ s = .int .i64 ((n + m : Nat) : Int))) (fun _ i => 2 - (intOf i).toNat)
  case atStart => exact .inl ⟨rfl, rfl⟩
  case round =>
    have hnz : ¬ (n : Int) < 0 := by omega
    have hnm : ¬ (n : Int) + m < 0 := by omega
    rcases hrel with ⟨rfl, rfl⟩ | ⟨rfl, rfl⟩ | ⟨rfl, rfl⟩
    · go_wp2
      go_round
      case rel => exact .inr (.inl ⟨rfl, rfl⟩)
      case measure => decide
    · go_wp2
      go_round
      case rel => exact .inr (.inr ⟨rfl, by simp⟩)
      case measure => decide
    · go_wp2_with fail
      refine (egrow_any (n + m) (by omega) w).mono ?_
      rintro e w1 ⟨v1, rfl, o1, b1⟩
      go_wp2_with fail
      go_loopw [6, 27] (fun v i wr => ∃ xs : List Ent, ((i = .int .i64 0 ∧ xs = []) ∨ (i = .int .i64 1 ∧ xs = es) ∨ (i = .int .i64 2 ∧ xs = es ++ fs)) ∧ wr.ownsRow w.heap.size 34 5 v xs.length (entV xs) ∧ Below w.heap.size w wr) (fun _ i _ => 2 - (intOf i).toNat)
      case atStart => exact ⟨[], .inl ⟨rfl, rfl⟩, o1, b1⟩
      case round =>
        obtain ⟨xs, hx, o, b⟩ := hrel
        have y0 := (b.cell (p := ⟨g, 0, none⟩) lg).trans g0
        have y1 := (b.cell (p := ⟨g, 1, none⟩) lg).trans g1
        rcases hx with ⟨rfl, rfl⟩ | ⟨rfl, rfl⟩ | ⟨rfl, rfl⟩
        · obtain ⟨v', w2, HRUN, o2, b2⟩ := app_ents (W := wr) o b.size (d := c) HL.out (hr.below b) (by simp; omega)
          have b3 := b.trans b2
          clear o b2
          go_wp2_with (at_builtin; refine Lib.wpList_append_run _ rfl _ _ _ _ rfl _ _ rfl rfl _ _ HRUN.out ?_)
          go_roundw
          case rel => exact ⟨es, .inr (.inl ⟨rfl, rfl⟩), o2, b3⟩
          case measure => decide
        · obtain ⟨v', w2, HRUN, o2, b2⟩ := app_ents (W := wr) o b.size (d := d) HL2.out (hr2.below b) (by have := HL.out; omega)
          have b3 := b.trans b2
          clear o b2
          go_wp2_with (at_builtin; refine Lib.wpList_append_run _ rfl _ _ _ _ rfl _ _ rfl rfl _ _ HRUN.out ?_)
          go_roundw
          case rel => exact ⟨_, .inr (.inr ⟨rfl, rfl⟩), o2, b3⟩
          case measure => decide
        · go_wp2
          go_ret
          exact ⟨_, rfl, o, b⟩
end Go.Proofs.YtlmccjdpmhancaaGreatDoor
namespace Go.Proofs.YtlmccjdpmhancaaGreatDoor
open Go.RowKit Go.Sort

/-! ### Sorted, and each once: plain lists -/
theorem compact_has {zs : List (List UInt8)} {x : List UInt8} : x ∈ Lib.compact zs ↔ x ∈ zs := by
  unfold Lib.compact Lib.compactUpTo
  constructor
  · intro h
    obtain ⟨i, hi, rfl⟩ := List.mem_map.1 h
    have hi' : i < zs.length := List.mem_range.1 (List.mem_filter.1 hi).1
    simp [getElem!_pos, hi']
  · intro h
    obtain ⟨i, hi, rfl⟩ := List.mem_iff_getElem.1 h
    have key : ∀ i (hi : i < zs.length), ∃ j, j ≤ i ∧ Lib.keeps zs.toArray j = true ∧ zs.toArray[j]! = zs[i] := by
      intro i
      induction i with
      | zero => intro hi; exact ⟨0, Nat.le_refl _, Lib.keeps_lt_one _ 0 (by omega), by simp [getElem!_pos, hi]⟩
      | succ i ih =>
        intro hi
        by_cases e : zs.toArray[i + 1]! = zs.toArray[i + 1 - 1]!
        · obtain ⟨j, h1, h2, h3⟩ := ih (by omega)
          refine ⟨j, by omega, h2, ?_⟩
          rw [h3]
          simp only [Nat.add_sub_cancel] at e
          rw [getElem!_pos _ _ (by simpa using hi), getElem!_pos _ _ (by simp; omega)] at e
          simpa using e.symm
        · exact ⟨i + 1, Nat.le_refl _, Lib.keeps_pos e, by simp [getElem!_pos, hi]⟩
    obtain ⟨j, h1, h2, h3⟩ := key i hi
    exact List.mem_map.2 ⟨j, List.mem_filter.2 ⟨List.mem_range.2 (by omega), h2⟩, h3⟩
theorem compact_rises {zs : List (List UInt8)} (hs : zs.Pairwise fun a b => a ≤ b) : (Lib.compact zs).Pairwise fun a b => a < b := by
  have hle : ∀ i j (hi : i < zs.length) (hj : j < zs.length), i ≤ j → zs[i] ≤ zs[j] := fun i j hi hj h => by
    rcases Nat.lt_or_ge i j with e | e
    · exact List.pairwise_iff_getElem.1 hs i j hi hj e
    · have : i = j := by omega
      subst this
      exact List.le_refl _
  unfold Lib.compact Lib.compactUpTo
  rw [List.pairwise_map]
  have hr := (List.pairwise_lt_range (n := zs.toArray.size)).filter (Lib.keeps zs.toArray)
  refine hr.imp_of_mem ?_
  intro a b ha hb hab
  have hb1 : b < zs.length := by simpa using List.mem_range.1 (List.mem_filter.1 hb).1
  have hk := (List.mem_filter.1 hb).2
  have hne : zs.toArray[b]! ≠ zs.toArray[b - 1]! := fun e => by
    rw [Lib.keeps_neg (by omega) e] at hk
    cases hk
  rw [getElem!_pos zs.toArray b (by simpa using hb1), getElem!_pos zs.toArray (b - 1) (by simp; omega)] at hne
  rw [getElem!_pos zs.toArray b (by simpa using hb1), getElem!_pos zs.toArray a (by simp; omega)]
  simp only [List.getElem_toArray] at hne ⊢
  have h1 := hle a (b - 1) (by omega) (by omega) (by omega)
  have h2 := hle (b - 1) b (by omega) hb1 (by omega)
  rcases List.le_iff_lt_or_eq.1 h2 with e | e
  · exact List.lt_of_le_of_lt h1 e
  · exact absurd e.symm hne
def knownL (ss : List (List UInt8)) : List (List UInt8) := Lib.compact (ss.mergeSort fun x y => decide (x ≤ y))
theorem known_has {ss : List (List UInt8)} {x : List UInt8} : x ∈ knownL ss ↔ x ∈ ss := by
  rw [knownL, compact_has]
  exact (List.mergeSort_perm ss _).mem_iff
theorem known_rises (ss : List (List UInt8)) : (knownL ss).Pairwise fun a b => a < b := by
  refine compact_rises ?_
  have := List.pairwise_mergeSort (le := fun x y => decide (x ≤ y)) (fun a b c h1 h2 => by simp only [decide_eq_true_eq] at *; exact List.le_trans h1 h2) (fun a b => by
    simp only [Bool.or_eq_true, decide_eq_true_eq]; exact List.le_total a b) ss
  exact this.imp fun h => by simpa using h
theorem known_is {l m : List Ent} (hl : SrtE l) (hm : SrtE m) : (knownL ((l ++ m).map epth)).map mkS = (mrgL l m).map (·.1.path) := by
  refine mrg_paths hl hm ?_ fun x => ?_
  · refine List.pairwise_map.2 ((known_rises _).imp fun h => ?_)
    simpa [mkS] using h
  · rw [List.mem_map]
    constructor
    · rintro ⟨y, hy, rfl⟩
      obtain ⟨e, he, rfl⟩ := List.mem_map.1 (known_has.1 hy)
      have : mkS (epth e) = e.path := data_inj (by simp [mkS, epth])
      rw [this]
      rcases List.mem_append.1 he with h | h
      · exact .inl (List.mem_map.2 ⟨e, h, rfl⟩)
      · exact .inr (List.mem_map.2 ⟨e, h, rfl⟩)
    · intro h
      refine ⟨x.data.toList, known_has.2 ?_, data_inj (by simp [mkS])⟩
      rcases h with h | h <;> obtain ⟨e, he, rfl⟩ := List.mem_map.1 h
      · exact List.mem_map.2 ⟨e, List.mem_append_left _ he, rfl⟩
      · exact List.mem_map.2 ⟨e, List.mem_append_right _ he, rfl⟩

/-! ### known -/
def KnownPost (w : World) (ss : List (List UInt8)) (e : Ending) (w' : World) : Prop :=
  ∃ C q, e = .returned (.slice C (knownL ss).length q) ∧ Rd w' C (strV ((knownL ss).map mkS)) ∧ Below w.heap.size w w'
theorem strV_enc (L : List (List UInt8)) : strV (L.map mkS) = L.map encStr := by
  rw [strV, List.map_map]
  rfl
theorem known_end {w w1 : World} {g cap n nn q base : Nat} {os : Array Obj} {ss : List (List UInt8)} (hown : w1.ownsRow base 9 1 (.slice (some ⟨g, 0, none⟩) n cap) n (ss.map encStr)) (hbel : Below w.heap.size w w1) (hbg : base ≤ g) (hwb : w.heap.size ≤ base) (hlen : ss.length = n) :
    KnownPost w ss (.returned (.slice (some ⟨g, 0, none⟩) (knownL ss).length cap))
      (putRow encStr (Sort.ahead (grow (putRow encStr (Sort.ahead w1 nn) g 0 (ss.mergeSort fun x y => decide (x ≤ y)).toArray) os) q) g 0 (knownL ss ++ List.replicate (n - (knownL ss).length) []).toArray) := by
  have hl2 : (ss.mergeSort fun x y => decide (x ≤ y)).length = ss.length := List.length_mergeSort ss
  have hle : (knownL ss).length ≤ ss.length := by rw [← hl2]; exact Lib.compact_length_le _
  subst hlen
  rcases hown.2 with ⟨h0, _⟩ | ⟨g', cap', cur, hv, hbase, hb, h1, h2, h3, h4⟩
  · cases h0
  cases hv
  have hs := ownsRow_sorted (n := nn) (os := os) (ts := ss.mergeSort fun x y => decide (x ≤ y)) hl2 hbase hb h1 h2 h3
  have hc := Lib.ownsRow_putRow (q := q) (k := (knownL ss).length) (ys := knownL ss ++ List.replicate (ss.length - (knownL ss).length) []) hs (by simp; omega) (by omega)
  rw [List.take_left] at hc
  refine ⟨_, cap, rfl, ?_, Lib.below_putRow (hbel.grown (grownBy_sorted _) hbel.size (fun j hj => by cases hj; omega)) (by omega)⟩
  rw [strV_enc]
  exact Rd.of_own hc

set_option maxHeartbeats 2000000 in
set_option maxRecDepth 100000 in
theorem known_any {w : World} {A B : Option Addr} {n c m d : Nat} {es fs : List Ent} (h : Et w A n c es) (k : Et w B m d fs) (hn : n ≤ 100000) (hm : m ≤ 100000) :
    Calls Tryz.prog 33 #[.slice A n c, .slice B m d] w (KnownPost w ((es ++ fs).map epth)) := by
  have hal : ∀ (W : World) (o : Obj), Below W.heap.size W (W.alloc o) := fun W o => (Below.refl _ _).alloc (Nat.le_refl _) o
  have c0 := concat_any (h.below (hal w (.cells #[.slice A n c, .slice B m d] 22))) (k.below (hal w _)) hn hm (Blk.new w [.slice A n c, .slice B m d] 22)
  have HN : Hid ((es ++ fs).length ≤ 200000) := by show _ ≤ _; rw [List.length_append, h.len, k.len]; omega
  clear h k
  generalize es ++ fs = xs at *
  go_enter Tryz.func33, Tryz.ntmps33
  go_wp2_with fail
  refine c0.mono ?_
  rintro e w1 ⟨v1, rfl, o1, hb1⟩
  clear c0
  have b1 := below2 (hal w _) hb1
  clear hb1
  obtain ⟨A1, q1, rfl⟩ := own_slice o1
  have r1 : Rd w1 A1 (entV xs) := by
    rcases o1.2 with ⟨e1, e0⟩ | ⟨g, cap, cur, e1, _⟩
    · have : xs = [] := List.eq_nil_of_length_eq_zero e0
      subst this; exact .inl rfl
    · injection e1 with e1 e2 e3
      subst e1
      exact .inr ⟨_, rfl, o1.cells (g := g) rfl⟩
  clear o1
  have hN := HN.out
  go_wp2_with fail
  go_loopw [5, 13] (fun v i wr => ∃ j : Nat, j ≤ xs.length ∧ i = .int .i64 j ∧ wr.ownsRow w1.heap.size 9 1 v j (strV ((xs.take j).map (·.path))) ∧ Below w1.heap.size w1 wr) (fun _ i _ => xs.length - (intOf i).toNat)
  case atStart => exact ⟨0, by omega, rfl, ⟨rfl, .inl ⟨rfl, rfl⟩⟩, Below.refl _ _⟩
  case round =>
    obtain ⟨j, hj, rfl, o, b⟩ := hrel
    by_cases hjn : j < xs.length
    · have hz : (0 : Int) ≤ j := by omega
      have hlt : (j : Int) < xs.length := by omega
      obtain ⟨g, og, rfl, x0, x1, x2, x3, x4, lg⟩ := (r1.below b).ent hjn
      have HT : Hid (strV ((xs.take (j + 1)).map (·.path)) = strV ((xs.take j).map (·.path)) ++ [.string xs[j].path]) := by
        show _ = _
        rw [List.take_add_one, List.getElem?_eq_getElem hjn, List.map_append, strV, List.map_append]
        rfl
      generalize xs[j] = x at *
      have hal2 := hal wr (.cells #[.string x.path, .bool x.has, .string x.data, .int .i64 x.l, .int .i64 x.r] 34)
      have o2 := own_below o hal2
      have b2 := b.trans (hal2.mono b.size)
      obtain ⟨A2, c2, w3, HRUN, o3, hgr, hb3⟩ := app_own2 (n₀ := w1.heap.size) Tryz.underlying25 Tryz.infoS rfl (by decide) o2 b2.size (by omega) (by unfold maxLen; omega) [.string x.path] rfl (by simp [Value.oneCell'])
      rw [← HT.out] at o3
      have b3 := b2.trans hb3
      clear o o2 b hb3 hgr hal2
      rw [show (wr.alloc (.cells #[.string x.path, .bool x.has, .string x.data, .int .i64 x.l, .int .i64 x.r] 34)).heap.size = wr.heap.size + 1 by simp] at HRUN
      go_wp2_with (at_builtin; refine Lib.wpList_append_run _ rfl _ _ _ _ rfl _ _ rfl rfl _ _ HRUN.out ?_)
      go_roundw
      case rel => exact ⟨j + 1, by omega, by go_num, o3, b3⟩
      case measure => simp [intOf]; omega
    · have HE := hid (show j = xs.length by omega)
      have hnlt : ¬ (j : Int) < xs.length := by omega
      have hjL : j ≤ 200000 := by omega
      have HO : Hid (wr.ownsRow w1.heap.size 9 1 u5 j ((xs.map epth).map encStr)) := by
        have := o
        rw [HE.out, List.take_length] at this
        show World.ownsRow _ _ _ _ _ _ _
        rw [HE.out]
        have e : strV (xs.map (·.path)) = (xs.map epth).map encStr := by rw [strV, ← Lib.map_encStr]; simp only [List.map_map]; rfl
        rw [← e]
        exact this
      have b2 := below2 b1 b
      clear o r1
      by_cases hv : u5 = .slice none 0 0
      · subst hv
        have hj0 : j = 0 := by
          have := HO.out.1
          rcases HO.out.2 with ⟨_, e⟩ | ⟨g, cap, cur, e, _⟩
          · exact e
          · cases e
        subst hj0
        have hxs : xs = [] := List.eq_nil_of_length_eq_zero HE.out.symm
        subst hxs
        go_wp2_with fail
        refine (Tryz.slices_Sort_string_none none 0 _).mono ?_
        rintro e w2 ⟨rfl, rfl⟩
        go_wp2_with fail
        refine (Tryz.slices_Compact_string_empty none 0 _).mono ?_
        rintro e w2 ⟨rfl, rfl⟩
        go_wp2
        go_ret
        have hk0 : knownL (List.map epth []) = [] := by simp [knownL, Lib.compact, Lib.compactUpTo]
        unfold KnownPost
        rw [hk0]
        exact ⟨none, 0, rfl, .inl rfl, b2⟩
      · obtain ⟨g, cap, rfl, hbg, hgl, hncap, hcm, hlen, hH⟩ := Lib.holds_of_ownsRow HO.out hv
        have hsort := Tryz.slices_Sort_string g 0 cap (xs.map epth) wr hH hgl (by omega)
        rw [hlen] at hsort
        unfold maxLen at hcm
        have HX := hid hlen
        have HHH := hid hH
        have hwb := b1.size
        clear hv hlen hH
        generalize xs.map epth = ss at *
        go_wp2_with fail
        refine hsort.mono ?_
        rintro e w2 ⟨rfl, nn, os, rfl⟩
        clear hsort
        have hl2 : (ss.mergeSort fun x y => decide (x ≤ y)).length = j := by rw [List.length_mergeSort]; exact HX.out
        have hH2 : Holds encStr (grow (putRow encStr (Sort.ahead wr nn) g 0 (ss.mergeSort fun x y => decide (x ≤ y)).toArray) os) g 0 (ss.mergeSort fun x y => decide (x ≤ y)).toArray :=
          holds_grow encStr _ os g 0 _ (by simpa [putRow, mapBlock, Sort.ahead] using hgl) (holds_putRow encStr _ g 0 _ _ (holds_ahead encStr wr nn g 0 _ HHH.out) (by simp))
        have hcomp := Tryz.slices_Compact_string g 0 cap (ss.mergeSort fun x y => decide (x ≤ y)) _ hH2 (by omega) (by omega)
        rw [hl2] at hcomp
        have HF := hid (fun q => known_end (w := w) (nn := nn) (os := os) (q := q) HO.out b2 hbg hwb HX.out)
        clear hH2 hl2
        go_wp2_with fail
        refine hcomp.mono ?_
        rintro e w3 ⟨rfl, q, rfl⟩
        clear hcomp
        go_wp2
        go_ret
        exact HF.out q
end Go.Proofs.YtlmccjdpmhancaaGreatDoor
namespace Go.Proofs.YtlmccjdpmhancaaGreatDoor
open Go.RowKit

/-! ### A path is put at its place -/
def lessS (s p : ByteArray) : Bool := Op.bytesLess s.data.toList p.data.toList
def atS (out : List ByteArray) (p : ByteArray) : Nat := out.findIdx fun s => !lessS s p
def insP (out : List ByteArray) (p : ByteArray) : List ByteArray := if out[atS out p]? = some p then out else out.take (atS out p) ++ p :: out.drop (atS out p)
def SrtS (out : List ByteArray) : Prop := out.Pairwise fun a b => a.data.toList < b.data.toList
theorem atS_le (out : List ByteArray) (p : ByteArray) : atS out p ≤ out.length := List.findIdx_le_length
theorem atS_low {out : List ByteArray} {p : ByteArray} {k : Nat} (hk : k < out.length) (h : k < atS out p) : lessS out[k] p = true := by
  have := List.not_of_lt_findIdx h
  simpa using this
theorem atS_at {out : List ByteArray} {p : ByteArray} (h : atS out p < out.length) : lessS out[atS out p] p = false := by
  have h1 : (!lessS out[atS out p] p) = true := List.findIdx_getElem (p := fun s => !lessS s p) (w := h)
  simpa using h1
theorem atS_is {out : List ByteArray} {p : ByteArray} {k : Nat} (hk : k ≤ out.length) (h1 : ∀ i (hi : i < out.length), i < k → lessS out[i] p = true) (h2 : ∀ hi : k < out.length, lessS out[k] p = false) : atS out p = k := by
  by_cases hlt : k < out.length
  · exact (List.findIdx_eq hlt).2 ⟨by simp [h2 hlt], fun i hi => by simp [h1 i (by omega) hi]⟩
  · obtain rfl : k = out.length := by omega
    refine List.findIdx_eq_length.2 fun x hx => ?_
    obtain ⟨i, hi, rfl⟩ := List.mem_iff_getElem.1 hx
    simp [h1 i hi hi]
theorem ins_mem {out : List ByteArray} {p x : ByteArray} : x ∈ insP out p ↔ x = p ∨ x ∈ out := by
  unfold insP
  split
  · rename_i h
    have := List.mem_of_getElem? h
    constructor
    · exact .inr
    · rintro (rfl | h)
      · exact this
      · exact h
  · have e : ∀ y, y ∈ out ↔ y ∈ out.take (atS out p) ∨ y ∈ out.drop (atS out p) := fun y => by
      conv => lhs; rw [← List.take_append_drop (atS out p) out]
      rw [List.mem_append]
    rw [List.mem_append, List.mem_cons, e x]
    constructor
    · rintro (h | h | h)
      · exact .inr (.inl h)
      · exact .inl h
      · exact .inr (.inr h)
    · rintro (h | h | h)
      · exact .inr (.inl h)
      · exact .inl h
      · exact .inr (.inr h)
theorem ins_srt {out : List ByteArray} {p : ByteArray} (h : SrtS out) : SrtS (insP out p) := by
  unfold insP
  split
  · exact h
  · rename_i hne
    have hh := List.pairwise_iff_getElem.1 h
    have low : ∀ a ∈ out.take (atS out p), a.data.toList < p.data.toList := by
      intro a ha
      obtain ⟨i, hi, rfl⟩ := List.mem_iff_getElem.1 ha
      rw [List.length_take] at hi
      rw [List.getElem_take]
      exact (less_iff _ _).1 (atS_low (by omega) (by omega))
    have high : ∀ b ∈ out.drop (atS out p), p.data.toList < b.data.toList := by
      intro b hb
      obtain ⟨i, hi, rfl⟩ := List.mem_iff_getElem.1 hb
      rw [List.length_drop] at hi
      rw [List.getElem_drop]
      have h0 : atS out p < out.length := by omega
      have h1 : p.data.toList < out[atS out p].data.toList := by
        rcases lt_tri p.data.toList out[atS out p].data.toList with x | x | x
        · exact x
        · exact absurd ((List.getElem?_eq_getElem h0).trans (congrArg some (data_inj x).symm)) hne
        · have := atS_at h0
          rw [lessS, (less_iff _ _).2 x] at this
          cases this
      by_cases hi0 : i = 0
      · subst hi0; exact h1
      · exact List.lt_trans h1 (hh _ _ h0 (by omega) (by omega))
    refine List.pairwise_append.2 ⟨h.sublist (List.take_sublist _ _), List.pairwise_cons.2 ⟨high, h.sublist (List.drop_sublist _ _)⟩, ?_⟩
    intro a ha b hb
    rcases List.mem_cons.1 hb with rfl | hb
    · exact low a ha
    · exact List.lt_trans (low a ha) (high b hb)
def pthL (l : List Ent) (t : List Fil) : List ByteArray := l.map (·.path) ++ t.map (·.1)
def allL (l : List Ent) (t : List Fil) : List ByteArray := (pthL l t).foldl insP []
theorem fold_ins (xs : List ByteArray) : ∀ (out : List ByteArray), SrtS out → SrtS (xs.foldl insP out) ∧ ∀ x, x ∈ xs.foldl insP out ↔ x ∈ xs ∨ x ∈ out := by
  induction xs with
  | nil => exact fun out h => ⟨h, fun x => by simp⟩
  | cons y xs ih =>
    intro out h
    obtain ⟨h1, h2⟩ := ih (insP out y) (ins_srt h)
    refine ⟨h1, fun x => ?_⟩
    rw [List.foldl_cons, h2, ins_mem, List.mem_cons]
    constructor
    · rintro (h | h | h)
      · exact .inl (.inr h)
      · exact .inl (.inl h)
      · exact .inr h
    · rintro ((h | h) | h)
      · exact .inr (.inl h)
      · exact .inl h
      · exact .inr (.inr h)
theorem srtS_one : ∀ {a b : List ByteArray}, SrtS a → SrtS b → (∀ x, x ∈ a ↔ x ∈ b) → a = b := by
  intro a b ha hb h
  have e := Srt.unique (a := a.map fun s => (s, noS)) (b := b.map fun s => (s, noS)) (List.pairwise_map.2 ha) (List.pairwise_map.2 hb) (fun f => by
    simp only [List.mem_map]
    constructor
    · rintro ⟨x, hx, rfl⟩; exact ⟨x, (h x).1 hx, rfl⟩
    · rintro ⟨x, hx, rfl⟩; exact ⟨x, (h x).2 hx, rfl⟩)
  have := congrArg (List.map Prod.fst) e
  simpa [List.map_map, Function.comp_def] using this
theorem all_both {l : List Ent} {t : List Fil} (hl : SrtE l) (ht : Srt t) : allL l t = (bothL l t).map (·.2.path) := by
  obtain ⟨h1, h2⟩ := fold_ins (pthL l t) [] List.Pairwise.nil
  refine srtS_one h1 (List.pairwise_map.2 (both_srt l t hl ht)) fun x => ?_
  rw [show allL l t = (pthL l t).foldl insP [] from rfl] at *
  rw [h2, both_path, pthL, List.mem_append]
  simp
theorem ins_len (out : List ByteArray) (p : ByteArray) : (insP out p).length ≤ out.length + 1 := by
  unfold insP
  split
  · omega
  · rw [List.length_append, List.length_take, List.length_cons, List.length_drop]; have := atS_le out p; omega
theorem fold_len (xs : List ByteArray) : ∀ (out : List ByteArray), (xs.foldl insP out).length ≤ out.length + xs.length := by
  induction xs with
  | nil => simp
  | cons y xs ih => intro out; rw [List.foldl_cons]; have := ih (insP out y); have := ins_len out y; simp; omega

/-! ### Slices of strings, cut -/
theorem cut_pre (B : Option Addr) (n c k : Nat) (hk : k ≤ c) (w : World) : (Instr.slice 25 (.slice B n c) none (some (.int .i64 (k : Int))) none).run Tryz.prog w = .ok (.slice (if c = 0 then B else B.map (·.add 0)) k c) w := by
  simp [Instr.slice, Instr.sliceBounds, Instr.sliceBound, run_underlying Tryz.underlying25, Tryz.sizeOf9, asIntOf]
  intro h
  omega
theorem cut_post (B : Option Addr) (n c k : Nat) (hk : k ≤ n) (w : World) : (Instr.slice 25 (.slice B n c) (some (.int .i64 (k : Int))) none none).run Tryz.prog w = .ok (.slice (if c = k then B else B.map (·.add k)) (n - k) (c - k)) w := by
  simp [Instr.slice, Instr.sliceBounds, Instr.sliceBound, run_underlying Tryz.underlying25, Tryz.sizeOf9, asIntOf]
  intro h
  omega
theorem cuts {w : World} {B : Option Addr} {c k : Nat} {out : List ByteArray} (h : Rd w B (strV out)) (hc : out.length ≤ c) (hk : k ≤ out.length) :
    ∃ B1 B2, (∀ w, (Instr.slice 25 (.slice B out.length c) none (some (.int .i64 (k : Int))) none).run Tryz.prog w = .ok (.slice B1 k c) w) ∧ (∀ w, (Instr.slice 25 (.slice B out.length c) (some (.int .i64 (k : Int))) none none).run Tryz.prog w = .ok (.slice B2 (out.length - k) (c - k)) w) ∧
      Rd w B1 (strV (out.take k)) ∧ Rd w B2 (strV (out.drop k)) := by
  have hl := strV_length out
  refine ⟨_, _, cut_pre B out.length c k (by omega), cut_post B out.length c k hk, ?_, ?_⟩
  · have := h.cut (k := 0) (m := k) (cap := c) (by omega) (by omega)
    rw [List.drop_zero] at this
    rw [show strV (out.take k) = (strV out).take k by simp [strV, List.map_take]]
    exact this
  · have := h.cut (k := k) (m := out.length - k) (cap := c) (by omega) (by omega)
    rw [List.take_of_length_le (by rw [List.length_drop]; omega)] at this
    rw [show strV (out.drop k) = (strV out).drop k by simp [strV, List.map_drop]]
    exact this
/-- append of strings onto a row of the call's own. -/
theorem app_strs {W : World} {n₀ : Nat} {A : Option Addr} {k c : Nat} {xs : List ByteArray} (hrow : W.ownsRow n₀ 9 1 (.slice A k c) k (strV xs)) (hn : n₀ ≤ W.heap.size) {B : Option Addr} {m d : Nat} {ys : List ByteArray} (hl : ys.length = m) (hr : Rd W B (strV ys)) {t : Nat} (ht : k + m = t) (hk : t ≤ 1000000) :
    ∃ A' c' w1, Hid ((Builtin.append_ #[25, 25] 25 #[.slice A k c, .slice B m d]).run Tryz.prog W = .ok (.slice A' t c') w1) ∧ w1.ownsRow n₀ 9 1 (.slice A' t c') t (strV (xs ++ ys)) ∧ W.grownBy w1 (Value.slice A k c).ownBlock ∧ Below n₀ W w1 := by
  subst ht
  obtain ⟨A', c', w1, h1, h2, h3⟩ := run_app (P := Tryz.prog) W n₀ 25 25 9 (.string ⟨#[]⟩) 16 Tryz.underlying25 Tryz.infoS rfl A k c (strV xs) hrow B m d (strV ys) (by rw [strV_length]; exact hl) hr (strV_one _) (by omega) hn (by unfold maxLen; omega)
  exact ⟨A', c', w1, h1, by rw [strV_append]; exact h2, h3, (Below.refl n₀ W).grown h3 hn fun j ej => (hrow.lt j ej).1⟩
theorem own_none (w : World) (base : Nat) (h : base ≤ w.heap.size) : (w.alloc (.cells #[] 9)).ownsRow base 9 1 (.slice (some ⟨w.heap.size, 0, none⟩) 0 0) 0 (strV []) := World.ownsRow_made w #[] 0 h (by unfold maxLen; omega) (by simp)
theorem rd_one (w : World) (p : ByteArray) : Rd (w.alloc (.cells #[.string p] 9)) (some ⟨w.heap.size, 0, none⟩) (strV [p]) := (Blk.new w [.string p] 9).rd
theorem rd_apart {w w' : World} {g : Nat} {row : Option Nat} {ys : List Value} (h : Rd w (some ⟨g, 0, none⟩) ys) (hg : w.grownBy w' row) (hlt : g < w.heap.size) (hne : some g ≠ row) : Rd w' (some ⟨g, 0, none⟩) ys := by
  rcases h with h | ⟨ad, e, hc⟩
  · exact .inl h
  · injection e with e
    subst e
    refine .inr ⟨_, rfl, fun j u hu => ?_⟩
    rw [← hc j u hu]
    exact World.cell?_of_block (by rw [add_block]; exact hg.block g hlt hne)

end Go.Proofs.YtlmccjdpmhancaaGreatDoor
namespace Go.Proofs.YtlmccjdpmhancaaGreatDoor
open Go.RowKit

/-! ### Does one of these clash with a path? -/
def clB (a b : ByteArray) : Bool := clashL a.data.toList b.data.toList
set_option maxHeartbeats 400000 in
theorem fits1_any (bx : Nat) (a b : ByteArray) (W : World) (hx : W.cell? ⟨bx, 0, none⟩ = some (.string a)) (ha : a.size < 4294967281) (hb : b.size < 4294967281) :
    Calls Tryz.prog 73 (#[.string b] ++ #[.pointer (some ⟨bx, 0, none⟩)]) W fun x w' => x = .returned (.bool (clB a b)) ∧ Below W.heap.size W w' := by
  have c0 := clash_any a b W ha hb
  have HV : Hid (clashL a.data.toList b.data.toList = clB a b) := rfl
  go_enter Tryz.func73, Tryz.ntmps73
  go_wp2_with fail
  refine c0.mono ?_
  rintro e w1 ⟨rfl, hb1⟩
  clear c0
  rw [HV.out]
  go_wp2
  go_ret
  exact ⟨rfl, hb1⟩
def idxB (l : List ByteArray) (q : ByteArray → Bool) : Int := if l.any q then (l.findIdx q : Int) else -1
theorem idxB_at {l : List ByteArray} {q : ByteArray → Bool} {j : Nat} (hj : j < l.length) (h : q l[j] = true) (hn : ∀ k (hk : k < l.length), k < j → q l[k] = false) : idxB l q = j := by
  have h1 : l.any q = true := List.any_eq_true.2 ⟨_, List.getElem_mem hj, h⟩
  have h2 : l.findIdx q = j := by
    refine (List.findIdx_eq hj).2 ⟨h, fun k hk => ?_⟩
    rw [hn k (by omega) hk]
  rw [idxB, if_pos h1, h2]
theorem idxB_no {l : List ByteArray} {q : ByteArray → Bool} (hn : ∀ k (hk : k < l.length), q l[k] = false) : idxB l q = -1 := by
  have : l.any q = false := List.any_eq_false.2 fun x hx => by
    obtain ⟨k, hk, rfl⟩ := List.mem_iff_getElem.1 hx
    simp [hn k hk]
  rw [idxB, this]; rfl
theorem idxB_pos (l : List ByteArray) (q : ByteArray → Bool) : decide (0 ≤ idxB l q) = l.any q := by
  unfold idxB
  cases h : l.any q with
  | true => rw [if_pos rfl]; simp
  | false => rfl
theorem str_at {w : World} {B : Option Addr} {l : List ByteArray} (h : Rd w B (strV l)) {j : Nat} (hj : j < l.length) : ∃ g o, B = some ⟨g, o, none⟩ ∧ w.cell? ⟨g, o + j, none⟩ = some (.string l[j]) ∧ g < w.heap.size := by
  obtain ⟨g, o, e, hc, hg⟩ := h.at_ (k := j) (by rw [strV_length]; exact hj)
  exact ⟨g, o, e, by rw [hc]; simp [strV], hg⟩

set_option maxHeartbeats 1000000 in
theorem idxC_any (bx : Nat) (B : Option Addr) (c : Nat) (l : List ByteArray) (a : ByteArray) (w : World) (hx : w.cell? ⟨bx, 0, none⟩ = some (.string a)) (hr : Rd w B (strV l)) (hn : l.length ≤ 1000000) (ha : a.size < 4294967281) (hs : ∀ b ∈ l, b.size < 4294967281) :
    Calls Tryz.prog 104 #[.slice B l.length c, .func (.func 73) #[] #[.pointer (some ⟨bx, 0, none⟩)]] w fun x w' => x = .returned (.int .i64 (idxB l (clB a))) ∧ Below w.heap.size w w' := by
  have eg := enters_of Tryz.func73 (by kernel_rfl) rfl
  have hbx := World.block_lt_of_cell? _ _ hx
  go_enter Tryz.func104, Tryz.ntmps104
  go_wp2_with fail
  go_loopw [8] (fun i wr => ∃ j : Nat, j ≤ l.length ∧ i = .int .i64 j ∧ Hid (∀ k (hk : k < l.length), k < j → clB a l[k] = false) ∧ Below w.heap.size w wr) (fun i _ => l.length - (intOf i).toNat)
  case atStart => exact ⟨0, by omega, rfl, hid (fun k _ hk => absurd hk (by omega)), Below.refl _ _⟩
  case round =>
    obtain ⟨j, hj, rfl, HO, hb⟩ := hrel
    by_cases hjn : j < l.length
    · obtain ⟨g, o, rfl, h1, -⟩ := str_at (hr.below hb) hjn
      have hx1 := (hb.cell (p := ⟨bx, 0, none⟩) hbx).trans hx
      have cc := fits1_any bx a l[j] wr hx1 ha (hs _ (List.getElem_mem hjn))
      have HY := hid (fun h => @idxB_at l (clB a) j hjn h HO.out)
      have HN : Hid (clB a l[j] = false → ∀ k (hk : k < l.length), k < j + 1 → clB a l[k] = false) := fun h k hk hkj => by
        by_cases e : k = j
        · subst e; exact h
        · exact HO.out k hk (by omega)
      generalize l[j] = f at *
      have hz : (0 : Int) ≤ j := by omega
      have hlt : (j : Int) < l.length := by omega
      go_wp2_with fail
      refine cc.mono ?_
      rintro e w1 ⟨rfl, hb1⟩
      have hb1' := below2 hb hb1
      clear cc hb hb1 hx1
      cases hq : clB a f with
      | true =>
        have HQ := hid hq
        clear hq
        go_wp2
        go_ret
        exact ⟨ret_int (HY.out HQ.out).symm, hb1'⟩
      | false =>
        have HQ := hid hq
        clear hq
        go_wp2
        go_roundw
        case rel => exact ⟨j + 1, by omega, by go_num, hid (HN.out HQ.out), hb1'⟩
        case measure => simp [intOf]; omega
    · have HE := hid (show j = l.length by omega)
      have hnlt : ¬ (j : Int) < l.length := by omega
      go_wp2
      go_ret
      refine ⟨ret_int ?_, hb⟩
      symm
      exact idxB_no fun k hk => HO.out k hk (by rw [HE.out]; exact hk)
set_option maxHeartbeats 400000 in
theorem contC_any (bx : Nat) (B : Option Addr) (c : Nat) (l : List ByteArray) (a : ByteArray) (w : World) (hx : w.cell? ⟨bx, 0, none⟩ = some (.string a)) (hr : Rd w B (strV l)) (hn : l.length ≤ 1000000) (ha : a.size < 4294967281) (hs : ∀ b ∈ l, b.size < 4294967281) :
    Calls Tryz.prog 72 #[.slice B l.length c, .func (.func 73) #[] #[.pointer (some ⟨bx, 0, none⟩)]] w fun x w' => x = .returned (.bool (l.any (clB a))) ∧ Below w.heap.size w w' := by
  have c0 := idxC_any bx B c l a w hx hr hn ha hs
  have HP := hid (idxB_pos l (clB a))
  clear hx hr ha hs
  generalize l.any (clB a) = b at *
  generalize idxB l (clB a) = z at *
  go_enter Tryz.func72, Tryz.ntmps72
  go_wp2_with fail
  refine c0.mono ?_
  rintro e w1 ⟨rfl, hb1⟩
  clear c0
  go_wp2
  go_ret
  exact ⟨ret_bool HP.out, hb1⟩

/-! ### fits -/
def fpaths (es : List Ent) : List ByteArray := (filesOf es).map (·.1)
theorem fpaths_more (es : List Ent) (j : Nat) (h : j < es.length) : fpaths (es.take (j + 1)) = fpaths (es.take j) ++ (if es[j].has then [es[j].path] else []) := by
  rw [fpaths, filesOf_more es j h, List.map_append, fpaths]
  congr 1
  split <;> rfl
theorem fpaths_len (es : List Ent) : (fpaths es).length = (filesOf es).length := by rw [fpaths, List.length_map]
abbrev Apt (l : List ByteArray) : Prop := l.Pairwise fun b a => clB a b = false
def fitN (es : List Ent) : Nat := if 32 < es.length ∨ 16 < (filesOf es).length then 2 else if Apt (fpaths es) then 0 else 6
theorem apt_more {l : List ByteArray} {j : Nat} (hj : j < l.length) : Apt (l.take (j + 1)) ↔ Apt (l.take j) ∧ (l.take j).any (clB l[j]) = false := by
  rw [List.take_add_one, List.getElem?_eq_getElem hj]
  simp only [Option.toList_some, Apt, List.pairwise_append, List.any_eq_false, List.mem_singleton]
  constructor
  · rintro ⟨h1, -, h2⟩
    exact ⟨h1, fun x hx => by simp [h2 x hx _ rfl]⟩
  · rintro ⟨h1, h2⟩
    exact ⟨h1, List.pairwise_singleton .., fun x hx y hy => by subst hy; simpa using h2 x hx⟩
theorem apt_no {l : List ByteArray} {j : Nat} (hj : j < l.length) (h : (l.take j).any (clB l[j]) = true) : ¬ Apt l := fun hA => by
  have := (apt_more hj).1 (List.Pairwise.sublist (List.take_sublist _ _) hA)
  rw [h] at this
  cases this.2
end Go.Proofs.YtlmccjdpmhancaaGreatDoor
