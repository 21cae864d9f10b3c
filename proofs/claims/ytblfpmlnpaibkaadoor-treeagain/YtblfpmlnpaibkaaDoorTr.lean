/- TreeAgain: the walk. -/
import Derived.Test.YtblfpmlnpaibkaaDoorTm
import Derived.Deep.RegionHeld3
namespace Go.Proofs.YtblfpmlnpaibkaaDoor
open Go.RowKit

theorem size_bound {b : Nat} : ∀ {fs : List Fil}, (∀ f ∈ fs, f.2.size ≤ b) → sizeT fs ≤ fs.length * b
  | [], _ => by simp [sizeT]
  | f :: r, h => by
    have h1 := h f (by simp)
    have h2 := size_bound (fs := r) fun g hg => h g (by simp [hg])
    rw [sizeT, List.map_cons, List.sum_cons, List.length_cons, Nat.succ_mul]
    rw [sizeT] at h2
    omega
theorem size_app (a b : List Fil) : sizeT (a ++ b) = sizeT a + sizeT b := by rw [sizeT, List.map_append, List.sum_append]; rfl
theorem Ft.drew {w : World} {A : Option Addr} {n c : Nat} {fs : List Fil} (h : Ft w A n c fs) : Ft w.drew A n c fs := ⟨h.len, h.rd, h.cap, h.big, h.capm, h.sz⟩
theorem own_there {fs : List Fil} {f : Fil} (_ : RightT fs) (hf : f ∈ fs) : thereT fs f.1.data.toList = true := there_iff.2 ⟨f, hf, rfl⟩
section
variable {fs : List Fil} {f : Fil} (hR : RightT fs) (hf : f ∈ fs)
include hR hf
theorem own_clash : clashT fs f.1.data.toList = false := clash_no.2 fun g hg => ⟨hR.apart g hg f hf, hR.apart f hf g hg⟩
theorem again_ok : putE fs f.1 f.2 = 0 := putE_zero.2 ⟨hR, hR.paths f hf, own_clash hR hf, hR.datas f hf, .inl (own_there hR hf)⟩
theorem again_same : putL fs f.1 f.2 = fs := by
  refine Srt.unique (right_putT (again_ok hR hf)).srt hR.srt fun g => ?_
  rw [mem_put]
  constructor
  · rintro (e | e)
    · rw [e]; exact hf
    · exact e.1
  · intro hg
    by_cases e : pth g = pth f
    · exact .inl (hR.srt.inj hg hf e)
    · exact .inr ⟨hg, e⟩
theorem gone_ok : dropE fs f.1.data.toList = 0 := dropE_zero.2 ⟨hR, own_there hR hf⟩
theorem back_ok : putE (dropL fs f.1.data.toList) f.1 f.2 = 0 := by
  refine putE_zero.2 ⟨right_drop hR _, hR.paths f hf, clash_no.2 fun g hg => ⟨hR.apart g (mem_drop.1 hg).1 f hf, hR.apart f hf g (mem_drop.1 hg).1⟩, hR.datas f hf, .inr ?_⟩
  have h1 := drop_len hR.srt f.1.data.toList
  rw [own_there hR hf] at h1
  simp only [if_true] at h1
  have h2 := hR.few
  have h3 := List.length_pos_of_mem hf
  omega
theorem back_same : putL (dropL fs f.1.data.toList) f.1 f.2 = fs := by
  refine Srt.unique (right_putT (back_ok hR hf)).srt hR.srt fun g => ?_
  rw [mem_put, mem_drop]
  constructor
  · rintro (e | e)
    · rw [e]; exact hf
    · exact e.1.1
  · intro hg
    by_cases e : pth g = pth f
    · exact .inl (hR.srt.inj hg hf e)
    · exact .inr ⟨⟨hg, e⟩, e⟩
theorem gone_size : sizeT (dropL fs f.1.data.toList) + f.2.size = sizeT fs := by
  rcases split_tree f.1.data.toList hR.srt with ⟨a, _⟩ | ⟨d, _, b⟩
  · rw [own_there hR hf] at a; cases a
  · have hm : (mkS f.1.data.toList, d) ∈ fs := by rw [b]; simp
    have e : (mkS f.1.data.toList, d) = f := hR.srt.inj hm hf (by rw [pth_mk, mkS_data]; rfl)
    rw [e] at b
    have h1 := congrArg sizeT b
    rw [size_app, show sizeT (f :: highT fs f.1.data.toList) = f.2.size + sizeT (highT fs f.1.data.toList) from rfl] at h1
    rw [dropL, size_app]
    omega
end
theorem own_find {fs : List Fil} (hR : RightT fs) {k : Nat} (hk : k < fs.length) : findT fs fs[k].1.data.toList = k := by
  have ht := own_there hR (List.getElem_mem hk)
  obtain ⟨hl, e⟩ := (there_at hR.srt).1 ht
  rw [findT, (treeR_iff fs).2 hR, ht]
  have hs := List.pairwise_iff_getElem.1 hR.srt
  have : (lowT fs fs[k].1.data.toList).length = k := by
    generalize (lowT fs fs[k].1.data.toList).length = j at *
    rcases Nat.lt_trichotomy j k with h | h | h
    · have h1 := hs j k hl hk h
      rw [e] at h1
      exact absurd h1 (List.lt_irrefl _)
    · exact h
    · have h1 := hs k j hk hl h
      rw [e] at h1
      exact absurd h1 (List.lt_irrefl _)
  rw [this]
  rfl

set_option maxHeartbeats 4000000 in
set_option maxRecDepth 20000 in
theorem treeAgain_walk (A : Option Addr) (c : Nat) (fs : List Fil) (z : Int) (w : World) (hr : Rd w A (filV fs)) (hlc : fs.length ≤ c) (hc : c ≤ maxLen) (_ : True) (_ : (Lit.int .i64 z).wf = true) :
    Calls Tryd.prog 7 #[.slice A fs.length c, .int .i64 z] w fun e w' => e = .returned (.bool true) ∧ Below w.heap.size w w' := by
  generalize hl : fs.length = n at *
  go_enter Tryd.func7, Tryd.ntmps7
  go_wp2_with fail
  refine (small_any _).mono ?_
  rintro e w1 ⟨rfl, b1⟩
  go_wp2_with fail
  refine (few_any A n c fs _ hl (hr.below b1)).mono ?_
  rintro e wx ⟨rfl, rfl⟩
  cases hf : fewB fs
  · go_wp2
    go_ret
    exact ⟨rfl, b1⟩
  · have t1 : Ft w1 A n c fs := few_ft hf hl (hr.below b1) hlc hc
    have HFW := hid hf
    clear hf hr hl
    go_wp2_with fail
    refine (tree_any t1).mono ?_
    rintro e w2 ⟨rfl, hb2⟩
    have t2 := t1.below hb2
    have b2 := below2 b1 hb2
    clear t1 b1 hb2
    cases hR : treeR fs
    · go_wp2
      go_ret
      exact ⟨rfl, b2⟩
    · have HR := hid hR
      clear hR
      by_cases hz0 : z < 0
      · go_wp2
        go_ret
        exact ⟨rfl, b2⟩
      have hz0b : decide (z < 0) = false := by simp; omega
      by_cases hzn : (n : Int) ≤ z
      · go_wp2
        go_ret
        exact ⟨rfl, b2⟩
      have hznb : decide ((n : Int) ≤ z) = false := by simp; omega
      have hR := (treeR_iff fs).1 HR.out
      obtain ⟨k, rfl⟩ : ∃ k : Nat, z = k := ⟨z.toNat, by omega⟩
      have hkl : k < fs.length := by have := t2.len; omega
      obtain ⟨bk, ok, rfl, k1, k2, -⟩ := t2.rd.fil hkl
      have hlt : (k : Int) < n := by omega
      have hk0 : (0 : Int) ≤ k := by omega
      have hfm : fs[k] ∈ fs := List.getElem_mem hkl
      have HFI := hid (own_find hR hkl)
      have hsz := t2.sz fs[k] hfm
      have HB := hid (size_bound hR.datas)
      have HN := hid (show fs.length ≤ 16 from hR.few)
      generalize fs[k] = f at *
      obtain ⟨x, y⟩ := f
      simp only at k1 k2 HFI hsz
      have E1 := hid (again_ok hR hfm)
      have S1 := hid (again_same hR hfm)
      have E2 := hid (gone_ok hR hfm)
      have E3 := hid (back_ok hR hfm)
      have S3 := hid (back_same hR hfm)
      have Z3 := hid (gone_size hR hfm)
      simp only at E1 S1 E2 E3 S3 Z3
      clear hR hfm hkl
      go_upto_region 6 with (fail)
      have t3 := t2.below ((Below.refl _ _).alloc (Nat.le_refl _) (.cells #[.string x, .string y] 33))
      have b3 := b2.alloc b2.size (.cells #[.string x, .string y] 33)
      have p3 := Blk.new w2 [.string x, .string y] 33
      clear t2 b2 k1 k2
      generalize w2.alloc (.cells #[.string x, .string y] 33) = w3 at *
      generalize w2.heap.size = g at *
      have d3a := p3.cell 0
      have d3b := p3.cell 1
      simp only [List.getElem?_cons_zero, List.getElem?_cons_succ] at d3a d3b
      go_wp2_with fail
      refine (put_yes t3 x y (by omega) (by omega) E1.out).mono ?_
      rw [S1.out]
      rintro e w4 ⟨A4, n4, c4, rfl, x4, -, hb4⟩
      have t4 := t3.below hb4
      have p4 := p3.below hb4
      have b4 := below2 b3 hb4
      clear t3 p3 b3 d3a d3b hb4
      have d4a := p4.cell 0
      have d4b := p4.cell 1
      simp only [List.getElem?_cons_zero, List.getElem?_cons_succ] at d4a d4b
      go_wp2_with fail
      refine (drop_yes t4 x E2.out).mono ?_
      rintro e w5 ⟨A5, n5, c5, rfl, y5, -, hb5⟩
      have t5 := t4.below hb5
      have x5 := x4.below hb5
      have p5 := p4.below hb5
      have b5 := below2 b4 hb5
      clear t4 x4 p4 b4 d4a d4b hb5
      have d5a := p5.cell 0
      have d5b := p5.cell 1
      simp only [List.getElem?_cons_zero, List.getElem?_cons_succ] at d5a d5b
      go_wp2_with fail
      refine (put_yes y5 x y (by omega) (by omega) E3.out).mono ?_
      rw [S3.out]
      rintro e w6 ⟨A6, n6, c6, rfl, z6, -, hb6⟩
      have t6 := (t5.below hb6).drew
      have x6 := (x5.below hb6).drew
      have y6 := (y5.below hb6).drew
      have z6' := z6.drew
      have p6 := (p5.below hb6)
      have b6 := (below2 b5 hb6).drew
      clear t5 x5 y5 z6 p5 b5 d5a d5b hb6
      have d6a := p6.cell 0
      have d6b := p6.cell 1
      simp only [List.getElem?_cons_zero, List.getElem?_cons_succ] at d6a d6b
      have HS := hid (show sizeT fs ≤ 140737488355328 by have h1 := HB.out; have h2 := HN.out; omega)
      have HS2 := hid (show sizeT (dropL fs x.data.toList) ≤ 140737488355328 by have h1 := Z3.out; have h2 := HS.out; omega)
      go_upto_region 9 with (fail)
      refine wp_region_held_drew (S := fun w' => w'.cell? ⟨g, 0, none⟩ = some (.string x) ∧ w'.cell? ⟨g, 1, none⟩ = some (.string y)) (by kernel_rfl) ⟨d6a, d6b⟩ (fun hHeld => ?_)
      refine wpAnyH_take (i := 0) (oi := ⟨_, _, _, _, _, _⟩) (v := ?_) rfl (by kernel_rfl) (by kernel_rfl) (by kernel_rfl) (fun _ _ _ h => h) (Or.inl ⟨by rfl, ?_⟩) (by assumption) ?_
      rotate_left
      · intro w hSw; (try dsimp only at hSw); go_simp; (try (with_reducible rfl))
      try simp only [Act.put, List.setIfInBounds_toArray, List.set_cons_zero, List.set_cons_succ]
      refine wpAnyH_take (i := 1) (oi := ⟨_, _, _, _, _, _⟩) (v := ?_) rfl (by kernel_rfl) (by kernel_rfl) (by kernel_rfl) (fun _ _ _ h => h) (Or.inl ⟨by rfl, ?_⟩) (by assumption) ?_
      rotate_left
      · intro w hSw; (try dsimp only at hSw); go_simp; (try (with_reducible rfl))
      try simp only [Act.put, List.setIfInBounds_toArray, List.set_cons_zero, List.set_cons_succ]
      refine wpAnyH_take (i := 2) (oi := ⟨_, _, _, _, _, _⟩) (v := ?_) rfl (by kernel_rfl) (by kernel_rfl) (by kernel_rfl) (fun _ _ _ h => h) (Or.inl ⟨by rfl, ?_⟩) (by assumption) ?_
      rotate_left
      · intro w hSw; (try dsimp only at hSw); go_simp; (try (with_reducible rfl))
      try simp only [Act.put, List.setIfInBounds_toArray, List.set_cons_zero, List.set_cons_succ]
      refine wpAnyH_take (i := 3) (oi := ⟨_, _, _, _, _, _⟩) (v := ?_) rfl (by kernel_rfl) (by kernel_rfl) (by kernel_rfl) (fun _ _ _ h => h) (Or.inl ⟨by rfl, ?_⟩) (by assumption) ?_
      rotate_left
      · intro w hSw; (try dsimp only at hSw); go_simp; (try (with_reducible rfl))
      try simp only [Act.put, List.setIfInBounds_toArray, List.set_cons_zero, List.set_cons_succ]
      refine wpAnyH_take (i := 4) (oi := ⟨_, _, _, _, _, _⟩) (v := ?_) rfl (by kernel_rfl) (by kernel_rfl) (by kernel_rfl) (fun _ _ _ h => h) (Or.inl ⟨by rfl, ?_⟩) (by assumption) ?_
      rotate_left
      · intro w hSw; (try dsimp only at hSw); go_simp; (try (with_reducible rfl))
      try simp only [Act.put, List.setIfInBounds_toArray, List.set_cons_zero, List.set_cons_succ]
      refine wpAnyH_take (i := 5) (oi := ⟨_, _, _, _, _, _⟩) (v := ?_) rfl (by kernel_rfl) (by kernel_rfl) (by kernel_rfl) (fun _ _ _ h => h) (Or.inl ⟨by rfl, ?_⟩) (by assumption) ?_
      rotate_left
      · intro w hSw; (try dsimp only at hSw); go_simp; (try (with_reducible rfl))
      try simp only [Act.put, List.setIfInBounds_toArray, List.set_cons_zero, List.set_cons_succ]
      refine wpAnyH_take (i := 6) (oi := ⟨_, _, _, _, _, _⟩) (v := ?_) rfl (by kernel_rfl) (by kernel_rfl) (by kernel_rfl) (fun _ _ _ h => h) (Or.inl ⟨by rfl, ?_⟩) (by assumption) ?_
      rotate_left
      · intro w hSw; (try dsimp only at hSw); go_simp; (try (with_reducible rfl))
      try simp only [Act.put, List.setIfInBounds_toArray, List.set_cons_zero, List.set_cons_succ]
      refine wpAnyH_take (i := 7) (oi := ⟨_, _, _, _, _, _⟩) (v := ?_) rfl (by kernel_rfl) (by kernel_rfl) (by kernel_rfl) (fun _ _ _ h => h) (Or.inl ⟨by rfl, ?_⟩) (by assumption) ?_
      rotate_left
      · intro w hSw; (try dsimp only at hSw); go_simp; (try (with_reducible rfl))
      try simp only [Act.put, List.setIfInBounds_toArray, List.set_cons_zero, List.set_cons_succ]
      refine wpAnyH_ready (rs := [8]) (by kernel_rfl) (by simp) ?_
      refine AllReadyH.cons (o := ⟨_, _, _, _, _, _⟩) rfl (fun K hK => ?_) AllReadyH.nil
      go_simp
      refine (same_any x6 t6).mono ?_
      rintro e w7 ⟨he, hb7⟩
      obtain rfl : e = .returned (.bool true) := he.trans (ret_bool (decide_eq_true rfl))
      clear he
      have t7 := t6.below hb7
      have y7 := y6.below hb7
      have z7 := z6'.below hb7
      have p7 := Blk.below (w := w6.drew) p6 hb7
      have b7 := b6.trans (hb7.mono b6.size)
      have d7a := p7.cell 0
      have d7b := p7.cell 1
      simp only [List.getElem?_cons_zero, List.getElem?_cons_succ] at d7a d7b
      refine hK.out _ _ ⟨d7a, d7b⟩ (fun hHeld => ?_)
      clear hK K
      try simp only [Act.put, List.setIfInBounds_toArray, List.set_cons_zero, List.set_cons_succ]
      refine wpAnyH_take (i := 9) (oi := ⟨_, _, _, _, _, _⟩) (v := ?_) rfl (by kernel_rfl) (by kernel_rfl) (by kernel_rfl) (fun _ _ _ h => h) (Or.inl ⟨by rfl, ?_⟩) (by assumption) ?_
      rotate_left
      · intro w hSw; (try dsimp only at hSw); go_simp; (try (with_reducible rfl))
      try simp only [Act.put, List.setIfInBounds_toArray, List.set_cons_zero, List.set_cons_succ]
      refine wpAnyH_take (i := 10) (oi := ⟨_, _, _, _, _, _⟩) (v := ?_) rfl (by kernel_rfl) (by kernel_rfl) (by kernel_rfl) (fun _ _ _ h => h) (Or.inl ⟨by rfl, ?_⟩) (by assumption) ?_
      rotate_left
      · intro w hSw; (try dsimp only at hSw); go_simp; (try (with_reducible rfl))
      try simp only [Act.put, List.setIfInBounds_toArray, List.set_cons_zero, List.set_cons_succ]
      refine wpAnyH_take (i := 11) (oi := ⟨_, _, _, _, _, _⟩) (v := ?_) rfl (by kernel_rfl) (by kernel_rfl) (by kernel_rfl) (fun _ _ _ h => h) (Or.inl ⟨by rfl, ?_⟩) (by assumption) ?_
      rotate_left
      · intro w hSw; (try dsimp only at hSw); go_simp; (try (with_reducible rfl))
      try simp only [Act.put, List.setIfInBounds_toArray, List.set_cons_zero, List.set_cons_succ]
      refine wpAnyH_take (i := 12) (oi := ⟨_, _, _, _, _, _⟩) (v := ?_) rfl (by kernel_rfl) (by kernel_rfl) (by kernel_rfl) (fun _ _ _ h => h) (Or.inl ⟨by rfl, ?_⟩) (by assumption) ?_
      rotate_left
      · intro w hSw; (try dsimp only at hSw); go_simp; (try (with_reducible rfl))
      try simp only [Act.put, List.setIfInBounds_toArray, List.set_cons_zero, List.set_cons_succ]
      refine wpAnyH_take (i := 13) (oi := ⟨_, _, _, _, _, _⟩) (v := ?_) rfl (by kernel_rfl) (by kernel_rfl) (by kernel_rfl) (fun _ _ _ h => h) (Or.inl ⟨by rfl, ?_⟩) (by assumption) ?_
      rotate_left
      · intro w hSw; (try dsimp only at hSw); go_simp; (try (with_reducible rfl))
      try simp only [Act.put, List.setIfInBounds_toArray, List.set_cons_zero, List.set_cons_succ]
      refine wpAnyH_take (i := 14) (oi := ⟨_, _, _, _, _, _⟩) (v := ?_) rfl (by kernel_rfl) (by kernel_rfl) (by kernel_rfl) (fun _ _ _ h => h) (Or.inl ⟨by rfl, ?_⟩) (by assumption) ?_
      rotate_left
      · intro w hSw; (try dsimp only at hSw); go_simp; (try (with_reducible rfl))
      try simp only [Act.put, List.setIfInBounds_toArray, List.set_cons_zero, List.set_cons_succ]
      refine wpAnyH_take (i := 15) (oi := ⟨_, _, _, _, _, _⟩) (v := ?_) rfl (by kernel_rfl) (by kernel_rfl) (by kernel_rfl) (fun _ _ _ h => h) (Or.inl ⟨by rfl, ?_⟩) (by assumption) ?_
      rotate_left
      · intro w hSw; (try dsimp only at hSw); go_simp; (try (with_reducible rfl))
      try simp only [Act.put, List.setIfInBounds_toArray, List.set_cons_zero, List.set_cons_succ]
      refine wpAnyH_take (i := 16) (oi := ⟨_, _, _, _, _, _⟩) (v := ?_) rfl (by kernel_rfl) (by kernel_rfl) (by kernel_rfl) (fun _ _ _ h => h) (Or.inl ⟨by rfl, ?_⟩) (by assumption) ?_
      rotate_left
      · intro w hSw; (try dsimp only at hSw); go_simp; (try (with_reducible rfl))
      try simp only [Act.put, List.setIfInBounds_toArray, List.set_cons_zero, List.set_cons_succ]
      refine wpAnyH_take (i := 17) (oi := ⟨_, _, _, _, _, _⟩) (v := ?_) rfl (by kernel_rfl) (by kernel_rfl) (by kernel_rfl) (fun _ _ _ h => h) (Or.inl ⟨by rfl, ?_⟩) (by assumption) ?_
      rotate_left
      · intro w hSw; (try dsimp only at hSw); go_simp; (try (with_reducible rfl))
      try simp only [Act.put, List.setIfInBounds_toArray, List.set_cons_zero, List.set_cons_succ]
      refine wpAnyH_take (i := 19) (oi := ⟨_, _, _, _, _, _⟩) (v := ?_) rfl (by kernel_rfl) (by kernel_rfl) (by kernel_rfl) (fun _ _ _ h => h) (Or.inl ⟨by rfl, ?_⟩) (by assumption) ?_
      rotate_left
      · intro w hSw; (try dsimp only at hSw); go_simp; (try (with_reducible rfl))
      try simp only [Act.put, List.setIfInBounds_toArray, List.set_cons_zero, List.set_cons_succ]
      refine wpAnyH_ready (rs := [18]) (by kernel_rfl) (by simp) ?_
      refine AllReadyH.cons (o := ⟨_, _, _, _, _, _⟩) rfl (fun K hK => ?_) AllReadyH.nil
      go_simp
      refine (find_any t7 x).mono ?_
      rintro e w8 ⟨he, hb8⟩
      obtain rfl : e = .returned (.int .i64 k) := he.trans (ret_int HFI.out)
      clear he
      have t8 := t7.below hb8
      have y8 := y7.below hb8
      have z8 := z7.below hb8
      have p8 := Blk.below p7 hb8
      have b8 := b7.trans (hb8.mono b7.size)
      have d8a := p8.cell 0
      have d8b := p8.cell 1
      simp only [List.getElem?_cons_zero, List.getElem?_cons_succ] at d8a d8b
      refine hK.out _ _ ⟨d8a, d8b⟩ (fun hHeld => ?_)
      clear hK K
      try simp only [Act.put, List.setIfInBounds_toArray, List.set_cons_zero, List.set_cons_succ]
      refine wpAnyH_take (i := 20) (oi := ⟨_, _, _, _, _, _⟩) (v := ?_) rfl (by kernel_rfl) (by kernel_rfl) (by kernel_rfl) (fun _ _ _ h => h) (Or.inl ⟨by rfl, ?_⟩) (by assumption) ?_
      rotate_left
      · intro w hSw; (try dsimp only at hSw); go_simp; (try (with_reducible rfl))
      try simp only [Act.put, List.setIfInBounds_toArray, List.set_cons_zero, List.set_cons_succ]
      refine wpAnyH_take (i := 21) (oi := ⟨_, _, _, _, _, _⟩) (v := ?_) rfl (by kernel_rfl) (by kernel_rfl) (by kernel_rfl) (fun _ _ _ h => h) (Or.inl ⟨by rfl, ?_⟩) (by assumption) ?_
      rotate_left
      · intro w hSw; (try dsimp only at hSw); go_simp; (try (with_reducible rfl))
      try simp only [Act.put, List.setIfInBounds_toArray, List.set_cons_zero, List.set_cons_succ]
      refine wpAnyH_take (i := 22) (oi := ⟨_, _, _, _, _, _⟩) (v := ?_) rfl (by kernel_rfl) (by kernel_rfl) (by kernel_rfl) (fun _ _ _ h => h) (Or.inl ⟨by rfl, ?_⟩) (by assumption) ?_
      rotate_left
      · intro w hSw; (try dsimp only at hSw); go_simp; (try (with_reducible rfl))
      try simp only [Act.put, List.setIfInBounds_toArray, List.set_cons_zero, List.set_cons_succ]
      refine wpAnyH_take (i := 23) (oi := ⟨_, _, _, _, _, _⟩) (v := ?_) rfl (by kernel_rfl) (by kernel_rfl) (by kernel_rfl) (fun _ _ _ h => h) (Or.inl ⟨by rfl, ?_⟩) (by assumption) ?_
      rotate_left
      · intro w hSw; (try dsimp only at hSw); go_simp; (try (with_reducible rfl))
      try simp only [Act.put, List.setIfInBounds_toArray, List.set_cons_zero, List.set_cons_succ]
      refine wpAnyH_take (i := 24) (oi := ⟨_, _, _, _, _, _⟩) (v := ?_) rfl (by kernel_rfl) (by kernel_rfl) (by kernel_rfl) (fun _ _ _ h => h) (Or.inl ⟨by rfl, ?_⟩) (by assumption) ?_
      rotate_left
      · intro w hSw; (try dsimp only at hSw); go_simp; (try (with_reducible rfl))
      try simp only [Act.put, List.setIfInBounds_toArray, List.set_cons_zero, List.set_cons_succ]
      refine wpAnyH_take (i := 25) (oi := ⟨_, _, _, _, _, _⟩) (v := ?_) rfl (by kernel_rfl) (by kernel_rfl) (by kernel_rfl) (fun _ _ _ h => h) (Or.inl ⟨by rfl, ?_⟩) (by assumption) ?_
      rotate_left
      · intro w hSw; (try dsimp only at hSw); go_simp; (try (with_reducible rfl))
      try simp only [Act.put, List.setIfInBounds_toArray, List.set_cons_zero, List.set_cons_succ]
      refine wpAnyH_take (i := 26) (oi := ⟨_, _, _, _, _, _⟩) (v := ?_) rfl (by kernel_rfl) (by kernel_rfl) (by kernel_rfl) (fun _ _ _ h => h) (Or.inl ⟨by rfl, ?_⟩) (by assumption) ?_
      rotate_left
      · intro w hSw; (try dsimp only at hSw); go_simp; (try (with_reducible rfl))
      try simp only [Act.put, List.setIfInBounds_toArray, List.set_cons_zero, List.set_cons_succ]
      refine wpAnyH_take (i := 27) (oi := ⟨_, _, _, _, _, _⟩) (v := ?_) rfl (by kernel_rfl) (by kernel_rfl) (by kernel_rfl) (fun _ _ _ h => h) (Or.inl ⟨by rfl, ?_⟩) (by assumption) ?_
      rotate_left
      · intro w hSw; (try dsimp only at hSw); go_simp; (try (with_reducible rfl))
      try simp only [Act.put, List.setIfInBounds_toArray, List.set_cons_zero, List.set_cons_succ]
      refine wpAnyH_take (i := 28) (oi := ⟨_, _, _, _, _, _⟩) (v := ?_) rfl (by kernel_rfl) (by kernel_rfl) (by kernel_rfl) (fun _ _ _ h => h) (Or.inl ⟨by rfl, ?_⟩) (by assumption) ?_
      rotate_left
      · intro w hSw; (try dsimp only at hSw); go_simp; (try (with_reducible rfl))
      try simp only [Act.put, List.setIfInBounds_toArray, List.set_cons_zero, List.set_cons_succ]
      refine wpAnyH_ready (rs := [29]) (by kernel_rfl) (by simp) ?_
      refine AllReadyH.cons (o := ⟨_, _, _, _, _, _⟩) rfl (fun K hK => ?_) AllReadyH.nil
      go_simp
      refine (same_any z8 t8).mono ?_
      rintro e w9 ⟨he, hb9⟩
      obtain rfl : e = .returned (.bool true) := he.trans (ret_bool (decide_eq_true rfl))
      clear he
      have t9 := t8.below hb9
      have y9 := y8.below hb9
      have p9 := Blk.below p8 hb9
      have b9 := b8.trans (hb9.mono b8.size)
      have d9a := p9.cell 0
      have d9b := p9.cell 1
      simp only [List.getElem?_cons_zero, List.getElem?_cons_succ] at d9a d9b
      refine hK.out _ _ ⟨d9a, d9b⟩ (fun hHeld => ?_)
      clear hK K
      try simp only [Act.put, List.setIfInBounds_toArray, List.set_cons_zero, List.set_cons_succ]
      refine wpAnyH_take (i := 30) (oi := ⟨_, _, _, _, _, _⟩) (v := ?_) rfl (by kernel_rfl) (by kernel_rfl) (by kernel_rfl) (fun _ _ _ h => h) (Or.inl ⟨by rfl, ?_⟩) (by assumption) ?_
      rotate_left
      · intro w hSw; (try dsimp only at hSw); go_simp; (try (with_reducible rfl))
      try simp only [Act.put, List.setIfInBounds_toArray, List.set_cons_zero, List.set_cons_succ]
      refine wpAnyH_take (i := 31) (oi := ⟨_, _, _, _, _, _⟩) (v := ?_) rfl (by kernel_rfl) (by kernel_rfl) (by kernel_rfl) (fun _ _ _ h => h) (Or.inl ⟨by rfl, ?_⟩) (by assumption) ?_
      rotate_left
      · intro w hSw; (try dsimp only at hSw); go_simp; (try (with_reducible rfl))
      try simp only [Act.put, List.setIfInBounds_toArray, List.set_cons_zero, List.set_cons_succ]
      refine wpAnyH_take (i := 32) (oi := ⟨_, _, _, _, _, _⟩) (v := ?_) rfl (by kernel_rfl) (by kernel_rfl) (by kernel_rfl) (fun _ _ _ h => h) (Or.inl ⟨by rfl, ?_⟩) (by assumption) ?_
      rotate_left
      · intro w hSw; (try dsimp only at hSw); go_simp; (try (with_reducible rfl))
      try simp only [Act.put, List.setIfInBounds_toArray, List.set_cons_zero, List.set_cons_succ]
      refine wpAnyH_take (i := 34) (oi := ⟨_, _, _, _, _, _⟩) (v := ?_) rfl (by kernel_rfl) (by kernel_rfl) (by kernel_rfl) (fun _ _ _ h => h) (Or.inl ⟨by rfl, ?_⟩) (by assumption) ?_
      rotate_left
      · intro w hSw; (try dsimp only at hSw); go_simp; (try (with_reducible rfl))
      try simp only [Act.put, List.setIfInBounds_toArray, List.set_cons_zero, List.set_cons_succ]
      refine wpAnyH_take (i := 36) (oi := ⟨_, _, _, _, _, _⟩) (v := ?_) rfl (by kernel_rfl) (by kernel_rfl) (by kernel_rfl) (fun _ _ _ h => h) (Or.inl ⟨by rfl, ?_⟩) (by assumption) ?_
      rotate_left
      · intro w hSw; (try dsimp only at hSw); go_simp; (try (with_reducible rfl))
      try simp only [Act.put, List.setIfInBounds_toArray, List.set_cons_zero, List.set_cons_succ]
      refine wpAnyH_take (i := 37) (oi := ⟨_, _, _, _, _, _⟩) (v := ?_) rfl (by kernel_rfl) (by kernel_rfl) (by kernel_rfl) (fun _ _ _ h => h) (Or.inl ⟨by rfl, ?_⟩) (by assumption) ?_
      rotate_left
      · intro w hSw; (try dsimp only at hSw); go_simp; (try (with_reducible rfl))
      try simp only [Act.put, List.setIfInBounds_toArray, List.set_cons_zero, List.set_cons_succ]
      refine wpAnyH_take (i := 38) (oi := ⟨_, _, _, _, _, _⟩) (v := ?_) rfl (by kernel_rfl) (by kernel_rfl) (by kernel_rfl) (fun _ _ _ h => h) (Or.inl ⟨by rfl, ?_⟩) (by assumption) ?_
      rotate_left
      · intro w hSw; (try dsimp only at hSw); go_simp; (try (with_reducible rfl))
      try simp only [Act.put, List.setIfInBounds_toArray, List.set_cons_zero, List.set_cons_succ]
      refine wpAnyH_ready (rs := [33]) (by kernel_rfl) (by simp) ?_
      refine AllReadyH.cons (o := ⟨_, _, _, _, _, _⟩) rfl (fun K hK => ?_) AllReadyH.nil
      go_simp
      refine (size_any y9 HS2.out).mono ?_
      rintro e w10 ⟨he, hb10⟩
      subst he
      have t10 := t9.below hb10
      have p10 := Blk.below p9 hb10
      have b10 := b9.trans (hb10.mono b9.size)
      have d10a := p10.cell 0
      have d10b := p10.cell 1
      simp only [List.getElem?_cons_zero, List.getElem?_cons_succ] at d10a d10b
      refine hK.out _ _ ⟨d10a, d10b⟩ (fun hHeld => ?_)
      clear hK K
      try simp only [Act.put, List.setIfInBounds_toArray, List.set_cons_zero, List.set_cons_succ]
      refine wpAnyH_ready (rs := [35]) (by kernel_rfl) (by simp) ?_
      refine AllReadyH.cons (o := ⟨_, _, _, _, _, _⟩) rfl (fun K hK => ?_) AllReadyH.nil
      go_simp
      refine (size_any t10 HS.out).mono ?_
      rintro e w11 ⟨he, hb11⟩
      subst he
      have p11 := Blk.below p10 hb11
      have b11 := b10.trans (hb11.mono b10.size)
      have d11a := p11.cell 0
      have d11b := p11.cell 1
      simp only [List.getElem?_cons_zero, List.getElem?_cons_succ] at d11a d11b
      refine hK.out _ _ ⟨d11a, d11b⟩ (fun hHeld => ?_)
      clear hK K
      try simp only [Act.put, List.setIfInBounds_toArray, List.set_cons_zero, List.set_cons_succ]
      have hsb : ((sizeT (dropL fs x.data.toList) : Nat) : Int) = ((sizeT fs : Nat) : Int) - (y.size : Int) := by have := Z3.out; omega
      have hw1 : IntKind.i64.wrap (((sizeT fs : Nat) : Int) - (y.size : Int)) = ((sizeT fs : Nat) : Int) - (y.size : Int) := by rw [IntKind.wrap_i64]; have := Z3.out; have := HS.out; omega
      refine wpAnyH_take (i := 39) (oi := ⟨_, _, _, _, _, _⟩) (v := ?_) rfl (by kernel_rfl) (by kernel_rfl) (by kernel_rfl) (fun _ _ _ h => h) (Or.inl ⟨by rfl, ?_⟩) (by assumption) ?_
      rotate_left
      · intro w hSw; (try dsimp only at hSw); go_simp; (try (with_reducible rfl))
      try simp only [Act.put, List.setIfInBounds_toArray, List.set_cons_zero, List.set_cons_succ]
      refine wpAnyH_take (i := 40) (oi := ⟨_, _, _, _, _, _⟩) (v := ?_) rfl (by kernel_rfl) (by kernel_rfl) (by kernel_rfl) (fun _ _ _ h => h) (Or.inl ⟨by rfl, ?_⟩) (by assumption) ?_
      rotate_left
      · intro w hSw; (try dsimp only at hSw); go_simp; (try (with_reducible rfl))
      try simp only [Act.put, List.setIfInBounds_toArray, List.set_cons_zero, List.set_cons_succ]
      refine wpAnyH_take (i := 41) (oi := ⟨_, _, _, _, _, _⟩) (v := ?_) rfl (by kernel_rfl) (by kernel_rfl) (by kernel_rfl) (fun _ _ _ h => h) (Or.inl ⟨by rfl, ?_⟩) (by assumption) ?_
      rotate_left
      · intro w hSw; (try dsimp only at hSw); go_simp; (try (with_reducible rfl))
      try simp only [Act.put, List.setIfInBounds_toArray, List.set_cons_zero, List.set_cons_succ]
      refine wpAnyH_take (i := 42) (oi := ⟨_, _, _, _, _, _⟩) (v := ?_) rfl (by kernel_rfl) (by kernel_rfl) (by kernel_rfl) (fun _ _ _ h => h) (Or.inl ⟨by rfl, ?_⟩) (by assumption) ?_
      rotate_left
      · intro w hSw; (try dsimp only at hSw); go_simp; (try (with_reducible rfl))
      try simp only [Act.put, List.setIfInBounds_toArray, List.set_cons_zero, List.set_cons_succ]
      refine wpAnyH_done (by kernel_rfl) ?_ _
      clear hHeld
      go_wp2
      go_ret
      refine ⟨ret_bool ?_, b11⟩
      simp
end Go.Proofs.YtblfpmlnpaibkaaDoor
