/- ScanKeeps: the walk. -/
import Derived.Test.YtnkkjedckehoaaaDoorSl
import Derived.Test.YtnkkjedckehoaaaDoorSu
import Derived.Deep.RegionHeld3
namespace Go.Proofs.YtnkkjedckehoaaaDoor
open Go.RowKit

theorem any_take9 (l : List ByteArray) (p : ByteArray) (j : Nat) (h : j < l.length) : inC p (l.take (j + 1)) = (inC p (l.take j) || decide (l[j] = p)) := by
  unfold inC
  rw [List.take_add_one, List.getElem?_eq_getElem h, List.any_append]
  simp
theorem str_at {w : World} {A : Option Addr} {ls : List ByteArray} (h : Rd w A (strV ls)) {k : Nat} (hk : k < ls.length) : ∃ b off, A = some ⟨b, off, none⟩ ∧ w.cell? ⟨b, off + k, none⟩ = some (.string ls[k]) ∧ b < w.heap.size := by
  obtain ⟨b, off, e, hc, hb⟩ := h.at_ (k := k) (by rw [strV_length]; exact hk)
  refine ⟨b, off, e, ?_, hb⟩
  rw [hc]
  simp [strV]

set_option maxRecDepth 20000 in
set_option maxHeartbeats 8000000 in
theorem scanKeeps_walk (A : Option Addr) (c : Nat) (es : List Ent) (B : Option Addr) (d : Nat) (fs : List Fil) (a o : Int) (w : World) (hr : Rd w A (entV es)) (hlc : es.length ≤ c) (hc : c ≤ maxLen) (_ : True) (hr2 : Rd w B (filV fs)) (hlc2 : fs.length ≤ d) (hc2 : d ≤ maxLen) (_ : True) (_ : (Lit.int .i64 a).wf = true) (_ : (Lit.int .i64 o).wf = true) :
    Calls Tryd.prog 4 #[.slice A es.length c, .slice B fs.length d, .int .i64 a, .int .i64 o] w fun e w' => e = .returned (.bool true) ∧ Below w.heap.size w w' := by
  generalize hl : es.length = n at *
  generalize hl2 : fs.length = m at *
  go_enter Tryd.func4, Tryd.ntmps4
  go_wp2_with fail
  refine (small_any _).mono ?_
  rintro e w1 ⟨rfl, b1⟩
  go_wp2_with fail
  refine (few9_any A n c es _ hl (hr.below b1)).mono ?_
  rintro e wx ⟨rfl, rfl⟩
  go_wp2_with fail
  refine (few_any B m d fs _ hl2 (hr2.below b1)).mono ?_
  rintro e wx ⟨rfl, rfl⟩
  cases hf : few9 es
  · go_wp2
    go_ret
    exact ⟨rfl, b1⟩
  cases hf2 : fewB fs
  · go_wp2
    go_ret
    exact ⟨rfl, b1⟩
  have E1 := few9_et hf hl (hr.below b1) hlc hc
  have F1 := few_ft hf2 hl2 (hr2.below b1) hlc2 hc2
  have hn60 : n ≤ 60 := by have := (few9_sz hf).1; omega
  clear hf hr hf2 hr2
  by_cases h0 : scanN es fs a = 0
  case neg =>
    have hno := scan_none h0
    have k2 := scan_val E1 F1 a hno.1 (show _ = 0 from rfl) hno.2 (show _ = 0 from rfl) rfl
    have h0' : ¬ ((scanN es fs a : Nat) : Int) = 0 := by omega
    go_wp2_with fail
    refine k2.mono ?_
    rintro e w2 ⟨A2, c2, B2, d2, rfl, -, -, hb2⟩
    have b2 := below2 b1 hb2
    go_wp2
    go_ret
    exact ⟨rfl, b2⟩
  case pos =>
    have k2 := scan_val E1 F1 a rfl rfl rfl rfl (show _ = 0 by rw [h0]; rfl)
    have HAT : Hid (∀ i e, (scanA es fs a)[i]? = some e → KeepsAt es e (inC e.path (scanC es fs a)) (findE es e.path)) := fun i e he => by
      obtain ⟨hi, rfl⟩ := List.getElem?_eq_some_iff.1 he
      exact scan_at h0 hi
    have HAG := hid (scan_again h0 o)
    have HRT := hid ((archR_iff _).2 (scan_right h0))
    have HTR := hid (scan_tree h0)
    have HCS := hid (scan_chgs h0)
    have HMO := hid (scan_more h0)
    have HCZ : Hid (∀ s ∈ scanC es fs a, s.size < 4294967281) := scanC_sz a E1.sz F1.sz
    have ha32 := scanA_len es fs a
    have hc32 := scanC_len es fs a
    clear h0
    generalize scanA es fs a = as_ at *
    generalize scanC es fs a = cs_ at *
    generalize hla : as_.length = na at *
    generalize hlc' : cs_.length = nc at *
    have HLA := hid hla
    have HLC := hid hlc'
    have HLE := hid hl
    have HLF := hid hl2
    clear hla hlc' hl hl2
    go_wp2_with fail
    refine k2.mono ?_
    rintro e w2 ⟨A2, c2, B2, d2, rfl, E2, R2, hb2⟩
    have E1' := E1.below hb2
    have F1' := F1.below hb2
    have b2 := below2 b1 hb2
    clear hb2 b1 E1 F1 k2
    have k3 := scan_val E2 F1' o HAG.out.2.1 HLA.out HAG.out.2.2 (show _ = 0 from rfl) (show _ = 0 by rw [HAG.out.1]; rfl)
    go_wp2_with fail
    refine k3.mono ?_
    rintro e w3 ⟨A3, c3, B3, d3, rfl, E3, -, hb3⟩
    have E13 := E1'.below hb3
    have F13 := F1'.below hb3
    have E23 := E2.below hb3
    have R23 := R2.below hb3
    have b3 := below2 b2 hb3
    clear hb3 b2 E1' F1' E2 R2 k3 HAG
    have k4 := archR_any E23
    rw [HRT.out] at k4
    go_wp2_with fail
    refine k4.mono ?_
    rintro e w4 ⟨rfl, hb4⟩
    have E24 := E23.below hb4
    have k5 := treeE_any E24
    rw [HTR.out, HLF.out] at k5
    go_wp2_with fail
    refine k5.mono ?_
    rintro e w5 ⟨B5, d5, rfl, F5, hb5⟩
    have hb45 := below2 hb4 hb5
    have k6 := same_any F5 (F13.below hb45)
    rw [decide_eq_true rfl] at k6
    go_wp2_with fail
    refine k6.mono ?_
    rintro e w6 ⟨rfl, hb6⟩
    have hb46 := below2 hb45 hb6
    have E16 := E13.below hb46
    have E26 := E23.below hb46
    have E36 := E3.below hb46
    have R26 := R23.below hb46
    have b6 := below2 b3 hb46
    clear hb4 hb5 hb6 hb45 hb46 k4 k5 k6 E13 E23 E3 R23 b3 F13 F5 E24
    have k7 := sameE_any (c := c2) (d := c3) E26.len E26.rd E36.len E36.rd E26.big
    rw [decide_eq_true rfl] at k7
    go_wp2_with fail
    refine k7.mono ?_
    rintro e w7 ⟨rfl, hb7⟩
    have k8 := sorted_any B2 nc d2 cs_ w7 HLC.out (R26.below hb7) (by omega) HCZ.out
    rw [HCS.out] at k8
    go_wp2_with fail
    refine k8.mono ?_
    rintro e w8 ⟨rfl, hb8⟩
    have hb78 := below2 hb7 hb8
    have E18 := E16.below hb78
    have E28 := E26.below hb78
    have R28 := R26.below hb78
    have b8 := below2 b6 hb78
    clear hb7 hb8 hb78 k7 k8 E16 E26 E36 R26 b6
    have rl := E18.rd
    have ra := E28.rd
    go_wp2_with fail
    go_loopw [18] (fun i wr => ∃ j : Nat, j ≤ na ∧ i = .int .i64 j ∧ Below w8.heap.size w8 wr) (fun i _ => na - (intOf i).toNat)
    case atStart => exact ⟨0, by omega, rfl, Below.refl _ _⟩
    case round =>
      obtain ⟨j, hj, rfl, hb⟩ := hrel
      by_cases hjn : j < na
      · have hjl : j < as_.length := by rw [HLA.out]; exact hjn
        have hz : (0 : Int) ≤ j := by omega
        have hlt : (j : Int) < na := by omega
        obtain ⟨ga, oa, rfl, -, -, -, -, -, hga⟩ := (ra.below hb).ent hjl
        obtain ⟨ch, hch⟩ : ∃ ch, inC as_[j].path cs_ = ch := ⟨_, rfl⟩
        have HK := hid (HAT.out j _ (List.getElem?_eq_getElem hjl))
        rw [hch] at HK
        have HCH := hid hch
        clear hch
        obtain ⟨wA, rfl⟩ : ∃ wA, wA = wr := ⟨_, rfl⟩
        go_wp2_with fail
        go_loopw [19, 20] (fun x i wx => ∃ (k : Nat) (q : Bool), k ≤ nc ∧ i = .int .i64 k ∧ x = .bool q ∧ Hid (q = inC as_[j].path (cs_.take k)) ∧ Below w8.heap.size w8 wx) (fun _ i _ => nc - (intOf i).toNat)
        case atStart => exact ⟨0, false, by omega, rfl, rfl, by simp [Hid, inC], hb⟩
        case round =>
          obtain ⟨k, q, hk, rfl, rfl, HQ, hb1⟩ := hrel
          by_cases hkn : k < nc
          · have hkl : k < cs_.length := by rw [HLC.out]; exact hkn
            have hz2 : (0 : Int) ≤ k := by omega
            have hlt2 : (k : Int) < nc := by omega
            obtain ⟨g, og, rfl, y0, hg⟩ := str_at (R28.below hb1) hkl
            obtain ⟨g', og', e', x0, -⟩ := (ra.below hb1).ent hjl
            injection e' with e'
            injection e' with e1 e2
            subst e1 e2
            have HT := hid (any_take9 cs_ as_[j].path k hkl)
            have hsq := str_eqb cs_[k] as_[j].path
            cases q with
            | true =>
              go_wp2_with fail
              go_quiet (fail)
              go_wp2
              go_roundw
              case rel => exact ⟨k + 1, true, by omega, by go_num, rfl, hid (by rw [HT.out, ← HQ.out]; rfl), below_drewN hb1 _⟩
              case measure => simp [intOf]; omega
            | false =>
              cases hqq : decide (cs_[k] = as_[j].path) with
              | true =>
                rw [hqq] at hsq HT
                go_wp2_with fail
                go_quiet (fail)
                go_wp2
                go_roundw
                case rel => exact ⟨k + 1, true, by omega, by go_num, rfl, hid (by rw [HT.out, ← HQ.out]; rfl), below_drewN hb1 _⟩
                case measure => simp [intOf]; omega
              | false =>
                rw [hqq] at hsq HT
                go_wp2_with fail
                go_quiet (fail)
                go_wp2
                go_roundw
                case rel => exact ⟨k + 1, false, by omega, by go_num, rfl, hid (by rw [HT.out, ← HQ.out]; rfl), below_drewN hb1 _⟩
                case measure => simp [intOf]; omega
          · have hnlt2 : ¬ (k : Int) < nc := by omega
            have HQ2 : Hid (q = ch) := by show _ = _; rw [HQ.out, List.take_of_length_le (by rw [HLC.out]; omega), HCH.out]
            obtain rfl := HQ2.out
            clear HQ HQ2 HCH
            obtain ⟨g', og', e', x0, x1, x2, x3, x4, -⟩ := (ra.below hb1).ent hjl
            injection e' with e'
            injection e' with e1 e2
            subst e1 e2
            have k9 := findE_any (E18.below hb1) as_[j].path
            go_wp2_with fail
            refine k9.mono ?_
            rintro e w9 ⟨rfl, hb9⟩
            have hb2 := hb1.trans (hb9.mono hb1.size)
            clear k9
            have v0 := (hb9.cell (p := ⟨ga, oa + j * 5, none⟩) (World.block_lt_of_cell? _ _ x0)).trans x0
            have v1 := (hb9.cell (p := ⟨ga, oa + j * 5 + 1, none⟩) (World.block_lt_of_cell? _ _ x1)).trans x1
            have v2 := (hb9.cell (p := ⟨ga, oa + j * 5 + 2, none⟩) (World.block_lt_of_cell? _ _ x2)).trans x2
            have v3 := (hb9.cell (p := ⟨ga, oa + j * 5 + 3, none⟩) (World.block_lt_of_cell? _ _ x3)).trans x3
            have v4 := (hb9.cell (p := ⟨ga, oa + j * 5 + 4, none⟩) (World.block_lt_of_cell? _ _ x4)).trans x4
            clear x0 x1 x2 x3 x4 hb9 hb1 hb
            generalize findE es as_[j].path = fk at *
            generalize as_[j] = z at *
            rcases HK.out with ⟨rfl, i, hi, rfl, he⟩ | ⟨rfl, rfl⟩ | ⟨rfl, i, hi, rfl, hd, ho⟩
            · obtain ⟨gl, ol, rfl, t0, t1, t2, t3, t4, -⟩ := (rl.below hb2).ent hi
              rw [he] at t0 t1 t2 t3 t4
              have hnq := neqE z z
              rw [decide_eq_true rfl] at hnq
              have hi0 : (0 : Int) ≤ i := by omega
              have hin : (i : Int) < n := by have := HLE.out; omega
              have hib : decide ((i : Int) < 0) = false := by simp
              clear HK he hi
              go_wp2_with fail
              go_quiet (fail)
              go_wp2_with fail
              go_quiet (fail)
              go_wp2
              go_roundw
              case rel => exact ⟨j + 1, by omega, by go_num, below_drewN hb2 _⟩
              case measure => simp [intOf]; omega
            · clear HK
              go_wp2_with fail
              go_quiet (fail)
              go_wp2_with fail
              go_quiet (fail)
              go_wp2
              go_roundw
              case rel => exact ⟨j + 1, by omega, by go_num, below_drewN hb2 _⟩
              case measure => simp [intOf]; omega
            · obtain ⟨gl, ol, rfl, t0, t1, t2, t3, t4, hgl⟩ := (rl.below hb2).ent hi
              have hgz := World.block_lt_of_cell? _ _ v3
              have hi0 : (0 : Int) ≤ i := by omega
              have hin : (i : Int) < n := by have := HLE.out; omega
              have hib : decide ((i : Int) < 0) = false := by simp
              have hig : decide ((0 : Int) ≤ i) = true := by simp
              have co := fun W => order_any (cl_le es[i].l) (cl_le es[i].r) (cl_le z.l) (cl_le z.r) W
              rw [ho] at co
              generalize es[i] = y at *
              clear HK ho hi
              by_cases hh : y.has = z.has
              · have hdd : (y.data.toList == z.data.toList) = false := by rw [str_eqb]; exact decide_eq_false fun h => hd ⟨hh, h⟩
                have hhb : (y.has == z.has) = true := by simp [hh]
                clear hd hh
                go_wp2_with fail
                go_quiet (fail)
                go_wp2_with fail
                refine wp_region_held_drew (S := fun w' => w'.cell? ⟨gl, ol + i * 5 + 3, none⟩ = some (.int .i64 y.l) ∧ w'.cell? ⟨gl, ol + i * 5 + 4, none⟩ = some (.int .i64 y.r) ∧ w'.cell? ⟨ga, oa + j * 5 + 3, none⟩ = some (.int .i64 z.l) ∧ w'.cell? ⟨ga, oa + j * 5 + 4, none⟩ = some (.int .i64 z.r)) (by kernel_rfl) ⟨((show Below w9.heap.size w9 _ from ⟨rfl, rfl, rfl, Nat.le_refl _, fun _ _ => rfl⟩).cell (p := ⟨gl, ol + i * 5 + 3, none⟩) hgl).trans t3, ((show Below w9.heap.size w9 _ from ⟨rfl, rfl, rfl, Nat.le_refl _, fun _ _ => rfl⟩).cell (p := ⟨gl, ol + i * 5 + 4, none⟩) hgl).trans t4, ((show Below w9.heap.size w9 _ from ⟨rfl, rfl, rfl, Nat.le_refl _, fun _ _ => rfl⟩).cell (p := ⟨ga, oa + j * 5 + 3, none⟩) hgz).trans v3, ((show Below w9.heap.size w9 _ from ⟨rfl, rfl, rfl, Nat.le_refl _, fun _ _ => rfl⟩).cell (p := ⟨ga, oa + j * 5 + 4, none⟩) hgz).trans v4⟩ (fun hHeld => ?_)
                refine wpAnyH_take (i := 0) (oi := ⟨_, _, _, _, _, _⟩) (v := ?_) rfl (by kernel_rfl) (by kernel_rfl) (by kernel_rfl) (fun _ _ _ h => h) (Or.inl ⟨by rfl, ?_⟩) (by assumption) ?_
                rotate_left
                · intro w hSw; (try dsimp only at hSw); go_simp; (try (with_reducible rfl))
                try simp only [Act.put, List.setIfInBounds_toArray, List.set_cons_zero, List.set_cons_succ]
                refine wpAnyH_take (i := 1) (oi := ⟨_, _, _, _, _, _⟩) (v := ?_) rfl (by kernel_rfl) (by kernel_rfl) (by kernel_rfl) (fun _ _ _ h => h) (Or.inl ⟨by rfl, ?_⟩) (by assumption) ?_
                rotate_left
                · intro w hSw; (try dsimp only at hSw); go_simp; (try (with_reducible rfl))
                try simp only [Act.put, List.setIfInBounds_toArray, List.set_cons_zero, List.set_cons_succ]
                refine wpAnyH_take (i := 2) (oi := ⟨_, _, _, _, _, _⟩) (v := ?_) rfl (by kernel_rfl) (by kernel_rfl) (by kernel_rfl) (fun _ _ _ h => h) (Or.inl ⟨by rfl, ?_⟩) (by assumption) ?_
                rotate_left
                · intro w hSw; (try dsimp only at hSw); go_simp; (try (with_reducible rfl))
                try simp only [Act.put, List.setIfInBounds_toArray, List.set_cons_zero, List.set_cons_succ]
                refine wpAnyH_take (i := 3) (oi := ⟨_, _, _, _, _, _⟩) (v := ?_) rfl (by kernel_rfl) (by kernel_rfl) (by kernel_rfl) (fun _ _ _ h => h) (Or.inl ⟨by rfl, ?_⟩) (by assumption) ?_
                rotate_left
                · intro w hSw; (try dsimp only at hSw); go_simp; (try (with_reducible rfl))
                try simp only [Act.put, List.setIfInBounds_toArray, List.set_cons_zero, List.set_cons_succ]
                refine wpAnyH_take (i := 4) (oi := ⟨_, _, _, _, _, _⟩) (v := ?_) rfl (by kernel_rfl) (by kernel_rfl) (by kernel_rfl) (fun _ _ _ h => h) (Or.inl ⟨by rfl, ?_⟩) (by assumption) ?_
                rotate_left
                · intro w hSw; (try dsimp only at hSw); go_simp; (try (with_reducible rfl))
                try simp only [Act.put, List.setIfInBounds_toArray, List.set_cons_zero, List.set_cons_succ]
                refine wpAnyH_take (i := 5) (oi := ⟨_, _, _, _, _, _⟩) (v := ?_) rfl (by kernel_rfl) (by kernel_rfl) (by kernel_rfl) (fun _ _ _ h => h) (Or.inl ⟨by rfl, ?_⟩) (by assumption) ?_
                rotate_left
                · intro w hSw; (try dsimp only at hSw); go_simp; (try (with_reducible rfl))
                try simp only [Act.put, List.setIfInBounds_toArray, List.set_cons_zero, List.set_cons_succ]
                refine wpAnyH_take (i := 6) (oi := ⟨_, _, _, _, _, _⟩) (v := ?_) rfl (by kernel_rfl) (by kernel_rfl) (by kernel_rfl) (fun _ _ _ h => h) (Or.inl ⟨by rfl, ?_⟩) (by assumption) ?_
                rotate_left
                · intro w hSw; (try dsimp only at hSw); go_simp; (try (with_reducible rfl))
                try simp only [Act.put, List.setIfInBounds_toArray, List.set_cons_zero, List.set_cons_succ]
                refine wpAnyH_take (i := 7) (oi := ⟨_, _, _, _, _, _⟩) (v := ?_) rfl (by kernel_rfl) (by kernel_rfl) (by kernel_rfl) (fun _ _ _ h => h) (Or.inl ⟨by rfl, ?_⟩) (by assumption) ?_
                rotate_left
                · intro w hSw; (try dsimp only at hSw); go_simp; (try (with_reducible rfl))
                try simp only [Act.put, List.setIfInBounds_toArray, List.set_cons_zero, List.set_cons_succ]
                refine wpAnyH_take (i := 8) (oi := ⟨_, _, _, _, _, _⟩) (v := ?_) rfl (by kernel_rfl) (by kernel_rfl) (by kernel_rfl) (fun _ _ _ h => h) (Or.inl ⟨by rfl, ?_⟩) (by assumption) ?_
                rotate_left
                · intro w hSw; (try dsimp only at hSw); go_simp; (try (with_reducible rfl))
                try simp only [Act.put, List.setIfInBounds_toArray, List.set_cons_zero, List.set_cons_succ]
                refine wpAnyH_take (i := 9) (oi := ⟨_, _, _, _, _, _⟩) (v := ?_) rfl (by kernel_rfl) (by kernel_rfl) (by kernel_rfl) (fun _ _ _ h => h) (Or.inl ⟨by rfl, ?_⟩) (by assumption) ?_
                rotate_left
                · intro w hSw; (try dsimp only at hSw); go_simp; (try (with_reducible rfl))
                try simp only [Act.put, List.setIfInBounds_toArray, List.set_cons_zero, List.set_cons_succ]
                refine wpAnyH_take (i := 10) (oi := ⟨_, _, _, _, _, _⟩) (v := ?_) rfl (by kernel_rfl) (by kernel_rfl) (by kernel_rfl) (fun _ _ _ h => h) (Or.inl ⟨by rfl, ?_⟩) (by assumption) ?_
                rotate_left
                · intro w hSw; (try dsimp only at hSw); go_simp; (try (with_reducible rfl))
                try simp only [Act.put, List.setIfInBounds_toArray, List.set_cons_zero, List.set_cons_succ]
                refine wpAnyH_take (i := 12) (oi := ⟨_, _, _, _, _, _⟩) (v := ?_) rfl (by kernel_rfl) (by kernel_rfl) (by kernel_rfl) (fun _ _ _ h => h) (Or.inl ⟨by rfl, ?_⟩) (by assumption) ?_
                rotate_left
                · intro w hSw; (try dsimp only at hSw); go_simp; (try (with_reducible rfl))
                try simp only [Act.put, List.setIfInBounds_toArray, List.set_cons_zero, List.set_cons_succ]
                refine wpAnyH_take (i := 13) (oi := ⟨_, _, _, _, _, _⟩) (v := ?_) rfl (by kernel_rfl) (by kernel_rfl) (by kernel_rfl) (fun _ _ _ h => h) (Or.inl ⟨by rfl, ?_⟩) (by assumption) ?_
                rotate_left
                · intro w hSw; (try dsimp only at hSw); go_simp; (try (with_reducible rfl))
                try simp only [Act.put, List.setIfInBounds_toArray, List.set_cons_zero, List.set_cons_succ]
                refine wpAnyH_take (i := 14) (oi := ⟨_, _, _, _, _, _⟩) (v := ?_) rfl (by kernel_rfl) (by kernel_rfl) (by kernel_rfl) (fun _ _ _ h => h) (Or.inl ⟨by rfl, ?_⟩) (by assumption) ?_
                rotate_left
                · intro w hSw; (try dsimp only at hSw); go_simp; (try (with_reducible rfl))
                try simp only [Act.put, List.setIfInBounds_toArray, List.set_cons_zero, List.set_cons_succ]
                refine wpAnyH_take (i := 15) (oi := ⟨_, _, _, _, _, _⟩) (v := ?_) rfl (by kernel_rfl) (by kernel_rfl) (by kernel_rfl) (fun _ _ _ h => h) (Or.inl ⟨by rfl, ?_⟩) (by assumption) ?_
                rotate_left
                · intro w hSw; (try dsimp only at hSw); go_simp; (try (with_reducible rfl))
                try simp only [Act.put, List.setIfInBounds_toArray, List.set_cons_zero, List.set_cons_succ]
                refine wpAnyH_take (i := 16) (oi := ⟨_, _, _, _, _, _⟩) (v := ?_) rfl (by kernel_rfl) (by kernel_rfl) (by kernel_rfl) (fun _ _ _ h => h) (Or.inl ⟨by rfl, ?_⟩) (by assumption) ?_
                rotate_left
                · intro w hSw; (try dsimp only at hSw); go_simp; (try (with_reducible rfl))
                try simp only [Act.put, List.setIfInBounds_toArray, List.set_cons_zero, List.set_cons_succ]
                refine wpAnyH_ready (rs := [11]) (by kernel_rfl) (by simp) ?_
                refine AllReadyH.cons (o := ⟨_, _, _, _, _, _⟩) rfl (fun K hK => ?_) AllReadyH.nil
                go_simp
                refine (of_any y.l y.r _).mono ?_
                rintro e wa ⟨rfl, hba⟩
                have ba : Below w9.heap.size w9 wa := ⟨hba.os, hba.tape, hba.output, hba.size, hba.block⟩
                refine hK.out _ _ ⟨(ba.cell (p := ⟨gl, ol + i * 5 + 3, none⟩) hgl).trans t3, (ba.cell (p := ⟨gl, ol + i * 5 + 4, none⟩) hgl).trans t4, (ba.cell (p := ⟨ga, oa + j * 5 + 3, none⟩) hgz).trans v3, (ba.cell (p := ⟨ga, oa + j * 5 + 4, none⟩) hgz).trans v4⟩ (fun hHeld => ?_)
                clear hK K
                try simp only [Act.put, List.setIfInBounds_toArray, List.set_cons_zero, List.set_cons_succ]
                refine wpAnyH_ready (rs := [17]) (by kernel_rfl) (by simp) ?_
                refine AllReadyH.cons (o := ⟨_, _, _, _, _, _⟩) rfl (fun K hK => ?_) AllReadyH.nil
                go_simp
                refine (of_any z.l z.r _).mono ?_
                rintro e wb ⟨rfl, hbb⟩
                have bb := below2 ba hbb
                refine hK.out _ _ ⟨(bb.cell (p := ⟨gl, ol + i * 5 + 3, none⟩) hgl).trans t3, (bb.cell (p := ⟨gl, ol + i * 5 + 4, none⟩) hgl).trans t4, (bb.cell (p := ⟨ga, oa + j * 5 + 3, none⟩) hgz).trans v3, (bb.cell (p := ⟨ga, oa + j * 5 + 4, none⟩) hgz).trans v4⟩ (fun hHeld => ?_)
                clear hK K
                try simp only [Act.put, List.setIfInBounds_toArray, List.set_cons_zero, List.set_cons_succ]
                refine wpAnyH_ready (rs := [18]) (by kernel_rfl) (by simp) ?_
                refine AllReadyH.cons (o := ⟨_, _, _, _, _, _⟩) rfl (fun K hK => ?_) AllReadyH.nil
                go_simp
                refine (co _).mono ?_
                rintro e wc ⟨rfl, hbc⟩
                have bz := below2 bb hbc
                refine hK.out _ _ ⟨(bz.cell (p := ⟨gl, ol + i * 5 + 3, none⟩) hgl).trans t3, (bz.cell (p := ⟨gl, ol + i * 5 + 4, none⟩) hgl).trans t4, (bz.cell (p := ⟨ga, oa + j * 5 + 3, none⟩) hgz).trans v3, (bz.cell (p := ⟨ga, oa + j * 5 + 4, none⟩) hgz).trans v4⟩ (fun hHeld => ?_)
                clear hK K
                try simp only [Act.put, List.setIfInBounds_toArray, List.set_cons_zero, List.set_cons_succ]
                refine wpAnyH_take (i := 19) (oi := ⟨_, _, _, _, _, _⟩) (v := ?_) rfl (by kernel_rfl) (by kernel_rfl) (by kernel_rfl) (fun _ _ _ h => h) (Or.inl ⟨by rfl, ?_⟩) (by assumption) ?_
                rotate_left
                · intro w hSw; (try dsimp only at hSw); go_simp; (try (with_reducible rfl))
                try simp only [Act.put, List.setIfInBounds_toArray, List.set_cons_zero, List.set_cons_succ]
                refine wpAnyH_take (i := 20) (oi := ⟨_, _, _, _, _, _⟩) (v := ?_) rfl (by kernel_rfl) (by kernel_rfl) (by kernel_rfl) (fun _ _ _ h => h) (Or.inl ⟨by rfl, ?_⟩) (by assumption) ?_
                rotate_left
                · intro w hSw; (try dsimp only at hSw); go_simp; (try (with_reducible rfl))
                try simp only [Act.put, List.setIfInBounds_toArray, List.set_cons_zero, List.set_cons_succ]
                refine wpAnyH_done (by kernel_rfl) ?_ _
                clear hHeld hba hbb hbc ba bb t0 t1 t2 t3 t4 v0 v1 v2 v3 v4 co
                go_wp2
                go_roundw
                case rel => exact ⟨j + 1, by omega, by go_num, hb2.trans (bz.mono hb2.size)⟩
                case measure => simp [intOf]; omega
              · have hhb : (y.has == z.has) = false := by simp [hh]
                clear hd hh
                go_wp2_with fail
                go_quiet (fail)
                go_wp2_with fail
                refine wp_region_held_drew (S := fun w' => w'.cell? ⟨gl, ol + i * 5 + 3, none⟩ = some (.int .i64 y.l) ∧ w'.cell? ⟨gl, ol + i * 5 + 4, none⟩ = some (.int .i64 y.r) ∧ w'.cell? ⟨ga, oa + j * 5 + 3, none⟩ = some (.int .i64 z.l) ∧ w'.cell? ⟨ga, oa + j * 5 + 4, none⟩ = some (.int .i64 z.r)) (by kernel_rfl) ⟨((show Below w9.heap.size w9 _ from ⟨rfl, rfl, rfl, Nat.le_refl _, fun _ _ => rfl⟩).cell (p := ⟨gl, ol + i * 5 + 3, none⟩) hgl).trans t3, ((show Below w9.heap.size w9 _ from ⟨rfl, rfl, rfl, Nat.le_refl _, fun _ _ => rfl⟩).cell (p := ⟨gl, ol + i * 5 + 4, none⟩) hgl).trans t4, ((show Below w9.heap.size w9 _ from ⟨rfl, rfl, rfl, Nat.le_refl _, fun _ _ => rfl⟩).cell (p := ⟨ga, oa + j * 5 + 3, none⟩) hgz).trans v3, ((show Below w9.heap.size w9 _ from ⟨rfl, rfl, rfl, Nat.le_refl _, fun _ _ => rfl⟩).cell (p := ⟨ga, oa + j * 5 + 4, none⟩) hgz).trans v4⟩ (fun hHeld => ?_)
                refine wpAnyH_take (i := 0) (oi := ⟨_, _, _, _, _, _⟩) (v := ?_) rfl (by kernel_rfl) (by kernel_rfl) (by kernel_rfl) (fun _ _ _ h => h) (Or.inl ⟨by rfl, ?_⟩) (by assumption) ?_
                rotate_left
                · intro w hSw; (try dsimp only at hSw); go_simp; (try (with_reducible rfl))
                try simp only [Act.put, List.setIfInBounds_toArray, List.set_cons_zero, List.set_cons_succ]
                refine wpAnyH_take (i := 1) (oi := ⟨_, _, _, _, _, _⟩) (v := ?_) rfl (by kernel_rfl) (by kernel_rfl) (by kernel_rfl) (fun _ _ _ h => h) (Or.inl ⟨by rfl, ?_⟩) (by assumption) ?_
                rotate_left
                · intro w hSw; (try dsimp only at hSw); go_simp; (try (with_reducible rfl))
                try simp only [Act.put, List.setIfInBounds_toArray, List.set_cons_zero, List.set_cons_succ]
                refine wpAnyH_take (i := 2) (oi := ⟨_, _, _, _, _, _⟩) (v := ?_) rfl (by kernel_rfl) (by kernel_rfl) (by kernel_rfl) (fun _ _ _ h => h) (Or.inl ⟨by rfl, ?_⟩) (by assumption) ?_
                rotate_left
                · intro w hSw; (try dsimp only at hSw); go_simp; (try (with_reducible rfl))
                try simp only [Act.put, List.setIfInBounds_toArray, List.set_cons_zero, List.set_cons_succ]
                refine wpAnyH_take (i := 3) (oi := ⟨_, _, _, _, _, _⟩) (v := ?_) rfl (by kernel_rfl) (by kernel_rfl) (by kernel_rfl) (fun _ _ _ h => h) (Or.inl ⟨by rfl, ?_⟩) (by assumption) ?_
                rotate_left
                · intro w hSw; (try dsimp only at hSw); go_simp; (try (with_reducible rfl))
                try simp only [Act.put, List.setIfInBounds_toArray, List.set_cons_zero, List.set_cons_succ]
                refine wpAnyH_take (i := 4) (oi := ⟨_, _, _, _, _, _⟩) (v := ?_) rfl (by kernel_rfl) (by kernel_rfl) (by kernel_rfl) (fun _ _ _ h => h) (Or.inl ⟨by rfl, ?_⟩) (by assumption) ?_
                rotate_left
                · intro w hSw; (try dsimp only at hSw); go_simp; (try (with_reducible rfl))
                try simp only [Act.put, List.setIfInBounds_toArray, List.set_cons_zero, List.set_cons_succ]
                refine wpAnyH_take (i := 5) (oi := ⟨_, _, _, _, _, _⟩) (v := ?_) rfl (by kernel_rfl) (by kernel_rfl) (by kernel_rfl) (fun _ _ _ h => h) (Or.inl ⟨by rfl, ?_⟩) (by assumption) ?_
                rotate_left
                · intro w hSw; (try dsimp only at hSw); go_simp; (try (with_reducible rfl))
                try simp only [Act.put, List.setIfInBounds_toArray, List.set_cons_zero, List.set_cons_succ]
                refine wpAnyH_take (i := 6) (oi := ⟨_, _, _, _, _, _⟩) (v := ?_) rfl (by kernel_rfl) (by kernel_rfl) (by kernel_rfl) (fun _ _ _ h => h) (Or.inl ⟨by rfl, ?_⟩) (by assumption) ?_
                rotate_left
                · intro w hSw; (try dsimp only at hSw); go_simp; (try (with_reducible rfl))
                try simp only [Act.put, List.setIfInBounds_toArray, List.set_cons_zero, List.set_cons_succ]
                refine wpAnyH_take (i := 7) (oi := ⟨_, _, _, _, _, _⟩) (v := ?_) rfl (by kernel_rfl) (by kernel_rfl) (by kernel_rfl) (fun _ _ _ h => h) (Or.inl ⟨by rfl, ?_⟩) (by assumption) ?_
                rotate_left
                · intro w hSw; (try dsimp only at hSw); go_simp; (try (with_reducible rfl))
                try simp only [Act.put, List.setIfInBounds_toArray, List.set_cons_zero, List.set_cons_succ]
                refine wpAnyH_take (i := 8) (oi := ⟨_, _, _, _, _, _⟩) (v := ?_) rfl (by kernel_rfl) (by kernel_rfl) (by kernel_rfl) (fun _ _ _ h => h) (Or.inl ⟨by rfl, ?_⟩) (by assumption) ?_
                rotate_left
                · intro w hSw; (try dsimp only at hSw); go_simp; (try (with_reducible rfl))
                try simp only [Act.put, List.setIfInBounds_toArray, List.set_cons_zero, List.set_cons_succ]
                refine wpAnyH_take (i := 9) (oi := ⟨_, _, _, _, _, _⟩) (v := ?_) rfl (by kernel_rfl) (by kernel_rfl) (by kernel_rfl) (fun _ _ _ h => h) (Or.inl ⟨by rfl, ?_⟩) (by assumption) ?_
                rotate_left
                · intro w hSw; (try dsimp only at hSw); go_simp; (try (with_reducible rfl))
                try simp only [Act.put, List.setIfInBounds_toArray, List.set_cons_zero, List.set_cons_succ]
                refine wpAnyH_take (i := 10) (oi := ⟨_, _, _, _, _, _⟩) (v := ?_) rfl (by kernel_rfl) (by kernel_rfl) (by kernel_rfl) (fun _ _ _ h => h) (Or.inl ⟨by rfl, ?_⟩) (by assumption) ?_
                rotate_left
                · intro w hSw; (try dsimp only at hSw); go_simp; (try (with_reducible rfl))
                try simp only [Act.put, List.setIfInBounds_toArray, List.set_cons_zero, List.set_cons_succ]
                refine wpAnyH_take (i := 12) (oi := ⟨_, _, _, _, _, _⟩) (v := ?_) rfl (by kernel_rfl) (by kernel_rfl) (by kernel_rfl) (fun _ _ _ h => h) (Or.inl ⟨by rfl, ?_⟩) (by assumption) ?_
                rotate_left
                · intro w hSw; (try dsimp only at hSw); go_simp; (try (with_reducible rfl))
                try simp only [Act.put, List.setIfInBounds_toArray, List.set_cons_zero, List.set_cons_succ]
                refine wpAnyH_take (i := 13) (oi := ⟨_, _, _, _, _, _⟩) (v := ?_) rfl (by kernel_rfl) (by kernel_rfl) (by kernel_rfl) (fun _ _ _ h => h) (Or.inl ⟨by rfl, ?_⟩) (by assumption) ?_
                rotate_left
                · intro w hSw; (try dsimp only at hSw); go_simp; (try (with_reducible rfl))
                try simp only [Act.put, List.setIfInBounds_toArray, List.set_cons_zero, List.set_cons_succ]
                refine wpAnyH_take (i := 14) (oi := ⟨_, _, _, _, _, _⟩) (v := ?_) rfl (by kernel_rfl) (by kernel_rfl) (by kernel_rfl) (fun _ _ _ h => h) (Or.inl ⟨by rfl, ?_⟩) (by assumption) ?_
                rotate_left
                · intro w hSw; (try dsimp only at hSw); go_simp; (try (with_reducible rfl))
                try simp only [Act.put, List.setIfInBounds_toArray, List.set_cons_zero, List.set_cons_succ]
                refine wpAnyH_take (i := 15) (oi := ⟨_, _, _, _, _, _⟩) (v := ?_) rfl (by kernel_rfl) (by kernel_rfl) (by kernel_rfl) (fun _ _ _ h => h) (Or.inl ⟨by rfl, ?_⟩) (by assumption) ?_
                rotate_left
                · intro w hSw; (try dsimp only at hSw); go_simp; (try (with_reducible rfl))
                try simp only [Act.put, List.setIfInBounds_toArray, List.set_cons_zero, List.set_cons_succ]
                refine wpAnyH_take (i := 16) (oi := ⟨_, _, _, _, _, _⟩) (v := ?_) rfl (by kernel_rfl) (by kernel_rfl) (by kernel_rfl) (fun _ _ _ h => h) (Or.inl ⟨by rfl, ?_⟩) (by assumption) ?_
                rotate_left
                · intro w hSw; (try dsimp only at hSw); go_simp; (try (with_reducible rfl))
                try simp only [Act.put, List.setIfInBounds_toArray, List.set_cons_zero, List.set_cons_succ]
                refine wpAnyH_ready (rs := [11]) (by kernel_rfl) (by simp) ?_
                refine AllReadyH.cons (o := ⟨_, _, _, _, _, _⟩) rfl (fun K hK => ?_) AllReadyH.nil
                go_simp
                refine (of_any y.l y.r _).mono ?_
                rintro e wa ⟨rfl, hba⟩
                have ba : Below w9.heap.size w9 wa := ⟨hba.os, hba.tape, hba.output, hba.size, hba.block⟩
                refine hK.out _ _ ⟨(ba.cell (p := ⟨gl, ol + i * 5 + 3, none⟩) hgl).trans t3, (ba.cell (p := ⟨gl, ol + i * 5 + 4, none⟩) hgl).trans t4, (ba.cell (p := ⟨ga, oa + j * 5 + 3, none⟩) hgz).trans v3, (ba.cell (p := ⟨ga, oa + j * 5 + 4, none⟩) hgz).trans v4⟩ (fun hHeld => ?_)
                clear hK K
                try simp only [Act.put, List.setIfInBounds_toArray, List.set_cons_zero, List.set_cons_succ]
                refine wpAnyH_ready (rs := [17]) (by kernel_rfl) (by simp) ?_
                refine AllReadyH.cons (o := ⟨_, _, _, _, _, _⟩) rfl (fun K hK => ?_) AllReadyH.nil
                go_simp
                refine (of_any z.l z.r _).mono ?_
                rintro e wb ⟨rfl, hbb⟩
                have bb := below2 ba hbb
                refine hK.out _ _ ⟨(bb.cell (p := ⟨gl, ol + i * 5 + 3, none⟩) hgl).trans t3, (bb.cell (p := ⟨gl, ol + i * 5 + 4, none⟩) hgl).trans t4, (bb.cell (p := ⟨ga, oa + j * 5 + 3, none⟩) hgz).trans v3, (bb.cell (p := ⟨ga, oa + j * 5 + 4, none⟩) hgz).trans v4⟩ (fun hHeld => ?_)
                clear hK K
                try simp only [Act.put, List.setIfInBounds_toArray, List.set_cons_zero, List.set_cons_succ]
                refine wpAnyH_ready (rs := [18]) (by kernel_rfl) (by simp) ?_
                refine AllReadyH.cons (o := ⟨_, _, _, _, _, _⟩) rfl (fun K hK => ?_) AllReadyH.nil
                go_simp
                refine (co _).mono ?_
                rintro e wc ⟨rfl, hbc⟩
                have bz := below2 bb hbc
                refine hK.out _ _ ⟨(bz.cell (p := ⟨gl, ol + i * 5 + 3, none⟩) hgl).trans t3, (bz.cell (p := ⟨gl, ol + i * 5 + 4, none⟩) hgl).trans t4, (bz.cell (p := ⟨ga, oa + j * 5 + 3, none⟩) hgz).trans v3, (bz.cell (p := ⟨ga, oa + j * 5 + 4, none⟩) hgz).trans v4⟩ (fun hHeld => ?_)
                clear hK K
                try simp only [Act.put, List.setIfInBounds_toArray, List.set_cons_zero, List.set_cons_succ]
                refine wpAnyH_take (i := 19) (oi := ⟨_, _, _, _, _, _⟩) (v := ?_) rfl (by kernel_rfl) (by kernel_rfl) (by kernel_rfl) (fun _ _ _ h => h) (Or.inl ⟨by rfl, ?_⟩) (by assumption) ?_
                rotate_left
                · intro w hSw; (try dsimp only at hSw); go_simp; (try (with_reducible rfl))
                try simp only [Act.put, List.setIfInBounds_toArray, List.set_cons_zero, List.set_cons_succ]
                refine wpAnyH_take (i := 20) (oi := ⟨_, _, _, _, _, _⟩) (v := ?_) rfl (by kernel_rfl) (by kernel_rfl) (by kernel_rfl) (fun _ _ _ h => h) (Or.inl ⟨by rfl, ?_⟩) (by assumption) ?_
                rotate_left
                · intro w hSw; (try dsimp only at hSw); go_simp; (try (with_reducible rfl))
                try simp only [Act.put, List.setIfInBounds_toArray, List.set_cons_zero, List.set_cons_succ]
                refine wpAnyH_done (by kernel_rfl) ?_ _
                clear hHeld hba hbb hbc ba bb t0 t1 t2 t3 t4 v0 v1 v2 v3 v4 co
                go_wp2
                go_roundw
                case rel => exact ⟨j + 1, by omega, by go_num, hb2.trans (bz.mono hb2.size)⟩
                case measure => simp [intOf]; omega
      · have hnlt : ¬ (j : Int) < na := by omega
        have b9 := below2 b8 hb
        have hmo := HMO.out
        rw [HLE.out] at hmo
        have hge : (n : Int) ≤ na := by omega
        go_wp2
        go_ret
        exact ⟨rfl, b9⟩
end Go.Proofs.YtnkkjedckehoaaaDoor
