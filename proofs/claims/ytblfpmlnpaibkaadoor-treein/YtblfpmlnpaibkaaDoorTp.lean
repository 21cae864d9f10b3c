/- TreeIn: the walk. -/
import Derived.Test.YtblfpmlnpaibkaaDoorTm
namespace Go.Proofs.YtblfpmlnpaibkaaDoor
open Go.RowKit

theorem in_mem {fs : List Fil} {d : List UInt8} {s : ByteArray} (hR : treeR fs = true) : s ∈ inT fs d ↔ ∃ f ∈ fs, underL (pth f) d = true ∧ f.1 = s := by
  rw [inT, if_pos hR]
  simp only [List.mem_map, List.mem_filter]
  constructor
  · rintro ⟨f, ⟨h1, h2⟩, h3⟩
    exact ⟨f, h1, h2, h3⟩
  · rintro ⟨f, h1, h2, h3⟩
    exact ⟨f, ⟨h1, h2⟩, h3⟩
theorem in_sorted {fs : List Fil} (d : List UInt8) (hR : treeR fs = true) : sortedL (lst (inT fs d)) = true := by
  have hT := (treeR_iff fs).1 hR
  have e : lst (inT fs d) = (fs.filter fun f => underL (pth f) d).map pth := by
    rw [inT, if_pos hR, lst, List.map_map]
    rfl
  rw [e]
  refine srt_mk (fun s hs => ?_) (List.pairwise_map.2 (hT.srt.filter _))
  obtain ⟨f, hf, rfl⟩ := List.mem_map.1 hs
  exact hT.paths f (List.mem_filter.1 hf).1
theorem in_size {fs : List Fil} {d : List UInt8} (hR : treeR fs = true) (hs : ∀ f ∈ fs, f.1.size < 4294967281 ∧ f.2.size ≤ 140737488355328) : ∀ s ∈ inT fs d, s.size < 4294967281 := by
  intro s hm
  obtain ⟨f, hf, _, rfl⟩ := (in_mem hR).1 hm
  exact (hs f hf).1
theorem in_len {fs : List Fil} (d : List UInt8) : (inT fs d).length ≤ fs.length := by
  unfold inT
  split
  · exact inTo_len fs d
  · simp
theorem in_find {fs : List Fil} {d : List UInt8} (hR : treeR fs = true) (h : 0 < (inT fs d).length) : findT fs d = -1 := by
  have hT := (treeR_iff fs).1 hR
  obtain ⟨f, hf, hu, _⟩ := (in_mem hR).1 (List.getElem_mem h)
  have : thereT fs d = false := there_no.2 fun g hg e => by
    have := hT.apart f hf g hg
    rw [e, hu] at this
    cases this
  rw [findT, this, Bool.and_false]
  rfl
theorem in_own {fs : List Fil} {f : Fil} (hR : treeR fs = true) (hf : f ∈ fs) : inT fs f.1.data.toList = [] := by
  have hT := (treeR_iff fs).1 hR
  refine List.eq_nil_iff_forall_not_mem.2 fun s hs => ?_
  obtain ⟨g, hg, hu, _⟩ := (in_mem hR).1 hs
  have h2 := hT.apart g hg f hf
  rw [show pth f = f.1.data.toList from rfl, hu] at h2
  cases h2
theorem in_parent {fs : List Fil} {f : Fil} (hR : treeR fs = true) (hf : f ∈ fs) (hp : parentL (pth f) ≠ []) : 0 < (inT fs (parentL (pth f))).length := by
  have := (in_mem (d := parentL (pth f)) hR).2 ⟨f, hf, parent_under hp, rfl⟩
  exact List.length_pos_of_mem this
theorem parent_len (s : List UInt8) (h : s.length < 4294967281) : (mkS (parentL s)).size < 4294967281 := by
  show (parentL s).length < _
  by_cases hp : parentL s = []
  · rw [hp]; simp
  · have h1 := under_right (parent_under hp)
    have h2 : underL s (parentL s) = true := parent_under hp
    unfold underL at h2
    rw [Bool.and_eq_true, pre_iff] at h2
    obtain ⟨_, r, e⟩ := h2
    have := congrArg List.length e
    rw [List.length_append, List.length_cons] at this
    omega
/-- How many stand under it, so far. -/
def cntTo (fs : List Fil) (d : List UInt8) (j : Nat) : Nat := (inTo (fs.take j) d).length
theorem cnt_more (fs : List Fil) (d : List UInt8) (j : Nat) (h : j < fs.length) : cntTo fs d (j + 1) = cntTo fs d j + (if underL (pth fs[j]) d then 1 else 0) := by
  unfold cntTo
  rw [inTo_more fs d j h, List.length_append]
  split <;> rfl
theorem cnt_le (fs : List Fil) (d : List UInt8) (j : Nat) : cntTo fs d j ≤ fs.length := by
  have h1 := inTo_len (fs.take j) d
  rw [List.length_take] at h1
  unfold cntTo
  omega

set_option maxHeartbeats 4000000 in
set_option maxRecDepth 20000 in
theorem treeIn_walk (A : Option Addr) (c : Nat) (fs : List Fil) (d : ByteArray) (w : World) (hr : Rd w A (filV fs)) (hlc : fs.length ≤ c) (hc : c ≤ maxLen) (_ : True) (_ : d.size ≤ 140737488351232) :
    Calls Tryd.prog 6 #[.slice A fs.length c, .string d] w fun e w' => e = .returned (.bool true) ∧ Below w.heap.size w w' := by
  generalize hl : fs.length = n at *
  go_enter Tryd.func6, Tryd.ntmps6
  go_wp2_with fail
  refine (small_any _).mono ?_
  rintro e w1 ⟨rfl, b1⟩
  go_wp2_with fail
  refine (few_any A n c fs _ hl (hr.below b1)).mono ?_
  rintro e wx ⟨rfl, rfl⟩
  cases hf : fewB fs
  · go_wp2
    go_ret
    exact ⟨rfl, b1⟩
  · have t1 : Ft w1 A n c fs := few_ft hf hl (hr.below b1) hlc hc
    have HFW := hid hf
    clear hf hr hl
    go_wp2_with fail
    refine (tree_any t1).mono ?_
    rintro e w2 ⟨rfl, hb2⟩
    have t2 := t1.below hb2
    have b2 := below2 b1 hb2
    clear t1 b1 hb2
    cases hR : treeR fs
    · go_wp2
      go_ret
      exact ⟨rfl, b2⟩
    · have HR := hid hR
      clear hR
      by_cases hd : (100 : Int) < d.size
      · go_wp2
        go_ret
        exact ⟨rfl, b2⟩
      have hdb : decide ((100 : Int) < d.size) = false := by simp; omega
      have hn16 : n ≤ 16 := by have := ((treeR_iff fs).1 HR.out).few; have := t2.len; omega
      go_wp2_with fail
      refine (in_any t2 d (by omega)).mono ?_
      rintro e w3 ⟨A3, c3, rfl, hr3, hc3, hcm3, hb3⟩
      have t3 := t2.below hb3
      have b3 := below2 b2 hb3
      have HLI := hid (in_len (fs := fs) d.data.toList)
      rw [t2.len] at HLI
      have HLN := hid t2.len
      clear t2 b2 hb3
      generalize hil : (inT fs d.data.toList).length = q at *
      have HQ := hid hil
      clear hil
      have hq16 : q ≤ 16 := by have := HLI.out; omega
      go_wp2_with fail
      refine (sorted_any A3 q c3 (inT fs d.data.toList) _ HQ.out hr3 (by omega) (in_size HR.out t3.sz)).mono ?_
      rintro e w4 ⟨rfl, hb4⟩
      rw [in_sorted _ HR.out]
      have t4 := t3.below hb4
      have b4 := below2 b3 hb4
      clear t3 b3 hb4 hr3
      have HS4 := hid t4.sz
      by_cases hq0 : (0 : Int) < q
      · have HFI := hid (in_find (d := d.data.toList) HR.out (by rw [HQ.out]; omega))
        go_wp2_with fail
        refine (find_any t4 d).mono ?_
        rintro e w5 ⟨rfl, hb5⟩
        rw [HFI.out]
        have t5 := t4.below hb5
        have b5 := below2 b4 hb5
        clear t4 b4 hb5
        go_wp2_with fail
        go_loopw [8, 9] (fun s i wr => ∃ j : Nat, j ≤ n ∧ i = .int .i64 j ∧ s = .int .i64 (cntTo fs d.data.toList j : Nat) ∧ Ft wr A n c fs ∧ Below w.heap.size w wr) (fun _ i _ => n - (intOf i).toNat)
        case atStart => exact ⟨0, by omega, rfl, rfl, t5, b5⟩
        case round =>
          clear t5 b5
          obtain ⟨j, hj, rfl, rfl, t6, b6⟩ := hrel
          by_cases hjn : j < n
          · have hjl : j < fs.length := by rw [HLN.out]; exact hjn
            obtain ⟨b, off, rfl, k1, -, -⟩ := t6.rd.fil hjl
            have hz : (0 : Int) ≤ j := by omega
            have hlt : (j : Int) < n := by omega
            have hsf := (HS4.out fs[j] (List.getElem_mem hjl)).1
            have HMO := hid (cnt_more fs d.data.toList j hjl)
            have HLE := hid (cnt_le fs d.data.toList j)
            rw [HLN.out] at HLE
            have hle := HLE.out
            have HOW := hid (in_own HR.out (List.getElem_mem hjl))
            have HPA := hid (fun h => in_parent HR.out (List.getElem_mem hjl) h)
            unfold pth at HMO HPA
            generalize fs[j] = f at *
            obtain ⟨x, y⟩ := f
            simp only at k1 hsf HMO HOW HPA
            generalize hcn : cntTo fs d.data.toList j = cn at *
            clear hcn
            go_wp2_with fail
            refine (under_any x d _ hsf (by omega)).mono ?_
            rintro e w7 ⟨rfl, hb7⟩
            have t7 := t6.below hb7
            have k2 := (hb7.cell (p := ⟨b, off + j * 2, none⟩) (World.block_lt_of_cell? _ _ k1)).trans k1
            have b7 := below2 b6 hb7
            clear t6 k1 b6 hb7
            cases hu : underL x.data.toList d.data.toList
            · have HCN := hid (show cntTo fs d.data.toList (j + 1) = cn by rw [HMO.out, if_neg (by rw [hu]; simp)]; rfl)
              clear hu
              go_wp2_with fail
              refine (parent_any x _ hsf).mono ?_
              rintro e w8 ⟨rfl, hb8⟩
              have t8 := t7.below hb8
              have k3 := (hb8.cell (p := ⟨b, off + j * 2, none⟩) (World.block_lt_of_cell? _ _ k2)).trans k2
              have b8 := below2 b7 hb8
              clear t7 k2 b7 hb8
              have hps := parent_len x.data.toList (by rw [← size_len]; exact hsf)
              by_cases hpe : parentL x.data.toList = []
              · rw [hpe]
                have hme : mkS [] = ⟨#[]⟩ := rfl
                rw [hme]
                clear hps
                go_wp2_with fail
                refine (in_any t8 x hsf).mono ?_
                rw [HOW.out]
                rintro e w9 ⟨A9, c9, rfl, -, -, -, hb9⟩
                have t9 := t8.below hb9
                have b9 := below2 b8 hb9
                rw [show ([] : List ByteArray).length = 0 from rfl]
                clear t8 k3 b8 hb9
                go_wp2
                go_roundw
                case rel => exact ⟨j + 1, by omega, by go_num, by rw [HCN.out], t9, b9⟩
                case measure => simp [intOf]; omega
              · have HPL := HPA.out hpe
                have hpn : ¬ (mkS (parentL x.data.toList)).toList = [] := by rw [Lib.toList_data, mkS_data]; exact hpe
                have hpn2 : ((mkS (parentL x.data.toList)).toList == []) = false := by rw [beq_eq_false_iff_ne]; exact hpn
                have hpd : (mkS (parentL x.data.toList)).data.toList = parentL x.data.toList := mkS_data _
                have c9 := in_any t8 (mkS (parentL x.data.toList)) hps
                rw [hpd] at c9
                clear hpd hpe hps
                generalize inT fs (parentL x.data.toList) = ip at *
                generalize mkS (parentL x.data.toList) = px at *
                go_wp2_with fail
                refine c9.mono ?_
                clear c9
                rintro e w9 ⟨A9, c9, rfl, -, -, -, hb9⟩
                have t9 := t8.below hb9
                have k4 := (hb9.cell (p := ⟨b, off + j * 2, none⟩) (World.block_lt_of_cell? _ _ k3)).trans k3
                have b9 := below2 b8 hb9
                clear t8 k3 b8 hb9
                have hpb : ((ip.length : Int) == 0) = false := by simp; exact fun e => by rw [e] at HPL; simp at HPL
                go_wp2_with fail
                refine (in_any t9 x hsf).mono ?_
                rw [HOW.out]
                rintro e w10 ⟨A10, c10, rfl, -, -, -, hb10⟩
                have t10 := t9.below hb10
                have b10 := below2 b9 hb10
                rw [show ([] : List ByteArray).length = 0 from rfl]
                clear t9 k4 b9 hb10
                go_wp2
                go_roundw
                case rel => exact ⟨j + 1, by omega, by go_num, by rw [HCN.out], t10, b10⟩
                case measure => simp [intOf]; omega
            · have HCN := hid (show cntTo fs d.data.toList (j + 1) = cn + 1 by rw [HMO.out, if_pos hu])
              clear hu
              go_wp2_with fail
              refine (parent_any x _ hsf).mono ?_
              rintro e w8 ⟨rfl, hb8⟩
              have t8 := t7.below hb8
              have k3 := (hb8.cell (p := ⟨b, off + j * 2, none⟩) (World.block_lt_of_cell? _ _ k2)).trans k2
              have b8 := below2 b7 hb8
              clear t7 k2 b7 hb8
              have hps := parent_len x.data.toList (by rw [← size_len]; exact hsf)
              by_cases hpe : parentL x.data.toList = []
              · rw [hpe]
                have hme : mkS [] = ⟨#[]⟩ := rfl
                rw [hme]
                clear hps
                go_wp2_with fail
                refine (in_any t8 x hsf).mono ?_
                rw [HOW.out]
                rintro e w9 ⟨A9, c9, rfl, -, -, -, hb9⟩
                have t9 := t8.below hb9
                have b9 := below2 b8 hb9
                rw [show ([] : List ByteArray).length = 0 from rfl]
                clear t8 k3 b8 hb9
                go_wp2
                go_roundw
                case rel => exact ⟨j + 1, by omega, by go_num, by rw [HCN.out]; go_num, t9, b9⟩
                case measure => simp [intOf]; omega
              · have HPL := HPA.out hpe
                have hpn : ¬ (mkS (parentL x.data.toList)).toList = [] := by rw [Lib.toList_data, mkS_data]; exact hpe
                have hpn2 : ((mkS (parentL x.data.toList)).toList == []) = false := by rw [beq_eq_false_iff_ne]; exact hpn
                have hpd : (mkS (parentL x.data.toList)).data.toList = parentL x.data.toList := mkS_data _
                have c9 := in_any t8 (mkS (parentL x.data.toList)) hps
                rw [hpd] at c9
                clear hpd hpe hps
                generalize inT fs (parentL x.data.toList) = ip at *
                generalize mkS (parentL x.data.toList) = px at *
                go_wp2_with fail
                refine c9.mono ?_
                clear c9
                rintro e w9 ⟨A9, c9, rfl, -, -, -, hb9⟩
                have t9 := t8.below hb9
                have k4 := (hb9.cell (p := ⟨b, off + j * 2, none⟩) (World.block_lt_of_cell? _ _ k3)).trans k3
                have b9 := below2 b8 hb9
                clear t8 k3 b8 hb9
                have hpb : ((ip.length : Int) == 0) = false := by simp; exact fun e => by rw [e] at HPL; simp at HPL
                go_wp2_with fail
                refine (in_any t9 x hsf).mono ?_
                rw [HOW.out]
                rintro e w10 ⟨A10, c10, rfl, -, -, -, hb10⟩
                have t10 := t9.below hb10
                have b10 := below2 b9 hb10
                rw [show ([] : List ByteArray).length = 0 from rfl]
                clear t9 k4 b9 hb10
                go_wp2
                go_roundw
                case rel => exact ⟨j + 1, by omega, by go_num, by rw [HCN.out]; go_num, t10, b10⟩
                case measure => simp [intOf]; omega
          · have hnlt : ¬ (j : Int) < n := by omega
            have HE := hid (show cntTo fs d.data.toList j = q by
              rw [cntTo, List.take_of_length_le (by rw [HLN.out]; omega), ← HQ.out, inT, if_pos HR.out]; rfl)
            rw [HE.out]
            go_wp2
            go_ret
            exact ⟨rfl, b6⟩
      · have t5 := t4
        have b5 := b4
        clear t4 b4
        go_wp2_with fail
        go_loopw [8, 9] (fun s i wr => ∃ j : Nat, j ≤ n ∧ i = .int .i64 j ∧ s = .int .i64 (cntTo fs d.data.toList j : Nat) ∧ Ft wr A n c fs ∧ Below w.heap.size w wr) (fun _ i _ => n - (intOf i).toNat)
        case atStart => exact ⟨0, by omega, rfl, rfl, t5, b5⟩
        case round =>
          clear t5 b5
          obtain ⟨j, hj, rfl, rfl, t6, b6⟩ := hrel
          by_cases hjn : j < n
          · have hjl : j < fs.length := by rw [HLN.out]; exact hjn
            obtain ⟨b, off, rfl, k1, -, -⟩ := t6.rd.fil hjl
            have hz : (0 : Int) ≤ j := by omega
            have hlt : (j : Int) < n := by omega
            have hsf := (HS4.out fs[j] (List.getElem_mem hjl)).1
            have HMO := hid (cnt_more fs d.data.toList j hjl)
            have HLE := hid (cnt_le fs d.data.toList j)
            rw [HLN.out] at HLE
            have hle := HLE.out
            have HOW := hid (in_own HR.out (List.getElem_mem hjl))
            have HPA := hid (fun h => in_parent HR.out (List.getElem_mem hjl) h)
            unfold pth at HMO HPA
            generalize fs[j] = f at *
            obtain ⟨x, y⟩ := f
            simp only at k1 hsf HMO HOW HPA
            generalize hcn : cntTo fs d.data.toList j = cn at *
            clear hcn
            go_wp2_with fail
            refine (under_any x d _ hsf (by omega)).mono ?_
            rintro e w7 ⟨rfl, hb7⟩
            have t7 := t6.below hb7
            have k2 := (hb7.cell (p := ⟨b, off + j * 2, none⟩) (World.block_lt_of_cell? _ _ k1)).trans k1
            have b7 := below2 b6 hb7
            clear t6 k1 b6 hb7
            cases hu : underL x.data.toList d.data.toList
            · have HCN := hid (show cntTo fs d.data.toList (j + 1) = cn by rw [HMO.out, if_neg (by rw [hu]; simp)]; rfl)
              clear hu
              go_wp2_with fail
              refine (parent_any x _ hsf).mono ?_
              rintro e w8 ⟨rfl, hb8⟩
              have t8 := t7.below hb8
              have k3 := (hb8.cell (p := ⟨b, off + j * 2, none⟩) (World.block_lt_of_cell? _ _ k2)).trans k2
              have b8 := below2 b7 hb8
              clear t7 k2 b7 hb8
              have hps := parent_len x.data.toList (by rw [← size_len]; exact hsf)
              by_cases hpe : parentL x.data.toList = []
              · rw [hpe]
                have hme : mkS [] = ⟨#[]⟩ := rfl
                rw [hme]
                clear hps
                go_wp2_with fail
                refine (in_any t8 x hsf).mono ?_
                rw [HOW.out]
                rintro e w9 ⟨A9, c9, rfl, -, -, -, hb9⟩
                have t9 := t8.below hb9
                have b9 := below2 b8 hb9
                rw [show ([] : List ByteArray).length = 0 from rfl]
                clear t8 k3 b8 hb9
                go_wp2
                go_roundw
                case rel => exact ⟨j + 1, by omega, by go_num, by rw [HCN.out], t9, b9⟩
                case measure => simp [intOf]; omega
              · have HPL := HPA.out hpe
                have hpn : ¬ (mkS (parentL x.data.toList)).toList = [] := by rw [Lib.toList_data, mkS_data]; exact hpe
                have hpn2 : ((mkS (parentL x.data.toList)).toList == []) = false := by rw [beq_eq_false_iff_ne]; exact hpn
                have hpd : (mkS (parentL x.data.toList)).data.toList = parentL x.data.toList := mkS_data _
                have c9 := in_any t8 (mkS (parentL x.data.toList)) hps
                rw [hpd] at c9
                clear hpd hpe hps
                generalize inT fs (parentL x.data.toList) = ip at *
                generalize mkS (parentL x.data.toList) = px at *
                go_wp2_with fail
                refine c9.mono ?_
                clear c9
                rintro e w9 ⟨A9, c9, rfl, -, -, -, hb9⟩
                have t9 := t8.below hb9
                have k4 := (hb9.cell (p := ⟨b, off + j * 2, none⟩) (World.block_lt_of_cell? _ _ k3)).trans k3
                have b9 := below2 b8 hb9
                clear t8 k3 b8 hb9
                have hpb : ((ip.length : Int) == 0) = false := by simp; exact fun e => by rw [e] at HPL; simp at HPL
                go_wp2_with fail
                refine (in_any t9 x hsf).mono ?_
                rw [HOW.out]
                rintro e w10 ⟨A10, c10, rfl, -, -, -, hb10⟩
                have t10 := t9.below hb10
                have b10 := below2 b9 hb10
                rw [show ([] : List ByteArray).length = 0 from rfl]
                clear t9 k4 b9 hb10
                go_wp2
                go_roundw
                case rel => exact ⟨j + 1, by omega, by go_num, by rw [HCN.out], t10, b10⟩
                case measure => simp [intOf]; omega
            · have HCN := hid (show cntTo fs d.data.toList (j + 1) = cn + 1 by rw [HMO.out, if_pos hu])
              clear hu
              go_wp2_with fail
              refine (parent_any x _ hsf).mono ?_
              rintro e w8 ⟨rfl, hb8⟩
              have t8 := t7.below hb8
              have k3 := (hb8.cell (p := ⟨b, off + j * 2, none⟩) (World.block_lt_of_cell? _ _ k2)).trans k2
              have b8 := below2 b7 hb8
              clear t7 k2 b7 hb8
              have hps := parent_len x.data.toList (by rw [← size_len]; exact hsf)
              by_cases hpe : parentL x.data.toList = []
              · rw [hpe]
                have hme : mkS [] = ⟨#[]⟩ := rfl
                rw [hme]
                clear hps
                go_wp2_with fail
                refine (in_any t8 x hsf).mono ?_
                rw [HOW.out]
                rintro e w9 ⟨A9, c9, rfl, -, -, -, hb9⟩
                have t9 := t8.below hb9
                have b9 := below2 b8 hb9
                rw [show ([] : List ByteArray).length = 0 from rfl]
                clear t8 k3 b8 hb9
                go_wp2
                go_roundw
                case rel => exact ⟨j + 1, by omega, by go_num, by rw [HCN.out]; go_num, t9, b9⟩
                case measure => simp [intOf]; omega
              · have HPL := HPA.out hpe
                have hpn : ¬ (mkS (parentL x.data.toList)).toList = [] := by rw [Lib.toList_data, mkS_data]; exact hpe
                have hpn2 : ((mkS (parentL x.data.toList)).toList == []) = false := by rw [beq_eq_false_iff_ne]; exact hpn
                have hpd : (mkS (parentL x.data.toList)).data.toList = parentL x.data.toList := mkS_data _
                have c9 := in_any t8 (mkS (parentL x.data.toList)) hps
                rw [hpd] at c9
                clear hpd hpe hps
                generalize inT fs (parentL x.data.toList) = ip at *
                generalize mkS (parentL x.data.toList) = px at *
                go_wp2_with fail
                refine c9.mono ?_
                clear c9
                rintro e w9 ⟨A9, c9, rfl, -, -, -, hb9⟩
                have t9 := t8.below hb9
                have k4 := (hb9.cell (p := ⟨b, off + j * 2, none⟩) (World.block_lt_of_cell? _ _ k3)).trans k3
                have b9 := below2 b8 hb9
                clear t8 k3 b8 hb9
                have hpb : ((ip.length : Int) == 0) = false := by simp; exact fun e => by rw [e] at HPL; simp at HPL
                go_wp2_with fail
                refine (in_any t9 x hsf).mono ?_
                rw [HOW.out]
                rintro e w10 ⟨A10, c10, rfl, -, -, -, hb10⟩
                have t10 := t9.below hb10
                have b10 := below2 b9 hb10
                rw [show ([] : List ByteArray).length = 0 from rfl]
                clear t9 k4 b9 hb10
                go_wp2
                go_roundw
                case rel => exact ⟨j + 1, by omega, by go_num, by rw [HCN.out]; go_num, t10, b10⟩
                case measure => simp [intOf]; omega
          · have hnlt : ¬ (j : Int) < n := by omega
            have HE := hid (show cntTo fs d.data.toList j = q by
              rw [cntTo, List.take_of_length_le (by rw [HLN.out]; omega), ← HQ.out, inT, if_pos HR.out]; rfl)
            rw [HE.out]
            go_wp2
            go_ret
            exact ⟨rfl, b6⟩
end Go.Proofs.YtblfpmlnpaibkaaDoor
