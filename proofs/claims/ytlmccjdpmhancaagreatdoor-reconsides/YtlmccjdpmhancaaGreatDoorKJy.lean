/- The text Jy. -/
import Derived.Test.YtlmccjdpmhancaaGreatDoorKJx
import Derived.Deep.DeepCutAuto
namespace Go.Proofs.YtlmccjdpmhancaaGreatDoor
open Go.RowKit

theorem getV_vl (g : Option ByteArray) : getV g = .tuple #[.string (vlO g).2, .bool (vlO g).1] := by cases g <;> rfl
theorem vl_same (g h : Option ByteArray) : decide (g = h) = (decide ((vlO g).2 = (vlO h).2) && ((vlO g).1 == (vlO h).1)) := by
  cases hd : decide (g = h) with
  | true => have := of_decide_eq_true hd; subst this; simp
  | false =>
    symm
    refine not_true fun k => ?_
    rw [Bool.and_eq_true, decide_eq_true_eq, beq_iff_eq] at k
    have : g = h := vlO_inj.1 (Prod.ext k.2 k.1)
    rw [decide_eq_true this] at hd
    cases hd

theorem sides_path {l m : List Ent} (h : mrgN l m = 0) {s : ByteArray} (hs : s ∈ mrgC l m) : ∃ e ∈ mrgA l m, e.path = s := by
  rw [(mrg_mA h).2] at hs
  rw [(mrg_mA h).1]
  obtain ⟨q, hq, rfl⟩ := List.mem_map.1 hs
  exact ⟨q.1, List.mem_map.2 ⟨q, (List.mem_filter.1 hq).1, rfl⟩, rfl⟩
theorem sides_sz {l m : List Ent} (hs : ∀ e ∈ mrgA l m, e.path.size < 4294967281 ∧ e.data.size ≤ 140737488355328) (h : mrgN l m = 0) : ∀ s ∈ mrgC l m, s.size < 4294967281 := fun s hc => by
  obtain ⟨e, he, rfl⟩ := sides_path h hc
  exact (hs e he).1
theorem sides_sorted {l m : List Ent} (h : mrgN l m = 0) : sortedL (lst (mrgC l m)) = true := by
  refine srt_mk ?_ ?_
  · intro s hs
    obtain ⟨c, hc, rfl⟩ := List.mem_map.1 hs
    obtain ⟨e, he, rfl⟩ := sides_path h hc
    exact (merge_right h).paths e he
  · obtain ⟨hl, hm⟩ := mrg_right h
    rw [(mrg_mA h).2]
    exact List.pairwise_map.2 (mC_srt hl.srt hm.srt)

set_option maxRecDepth 20000 in
set_option maxHeartbeats 8000000 in
theorem reconSides_walk (A : Option Addr) (ca : Nat) (es : List Ent) (B : Option Addr) (cb : Nat) (fs : List Fil) (C : Option Addr) (cc : Nat) (gs : List Fil) (w : World) (hr : Rd w A (entV es)) (hlc : es.length ≤ ca) (hc : ca ≤ maxLen) (_ : True) (hr2 : Rd w B (filV fs)) (hlc2 : fs.length ≤ cb) (hc2 : cb ≤ maxLen) (_ : True) (hr3 : Rd w C (filV gs)) (hlc3 : gs.length ≤ cc) (hc3 : cc ≤ maxLen) (_ : True) :
    Calls Tryz.prog 5 #[.slice A es.length ca, .slice B fs.length cb, .slice C gs.length cc] w fun e w' => e = .returned (.bool true) ∧ Below w.heap.size w w' := by
  generalize hl : es.length = n at *
  generalize hl2 : fs.length = m at *
  generalize hl3 : gs.length = k at *
  go_enter Tryz.func5, Tryz.ntmps5
  go_wp2_with fail
  refine (small_any _).mono ?_
  rintro e w1 ⟨rfl, b1⟩
  go_wp2_with fail
  refine (few9_any A n ca es _ hl (hr.below b1)).mono ?_
  rintro e wx ⟨rfl, rfl⟩
  go_wp2_with fail
  refine (few_any B m cb fs _ hl2 (hr2.below b1)).mono ?_
  rintro e wx ⟨rfl, rfl⟩
  go_wp2_with fail
  refine (few_any C k cc gs _ hl3 (hr3.below b1)).mono ?_
  rintro e wx ⟨rfl, rfl⟩
  cases hf : few9 es
  · go_wp2
    go_ret
    exact ⟨rfl, b1⟩
  cases hf2 : fewB fs
  · go_wp2
    go_ret
    exact ⟨rfl, b1⟩
  cases hf3 : fewB gs
  · go_wp2
    go_ret
    exact ⟨rfl, b1⟩
  have E1 := few9_et hf hl (hr.below b1) hlc hc
  have F1 := few_ft hf2 hl2 (hr2.below b1) hlc2 hc2
  have G1 := few_ft hf3 hl3 (hr3.below b1) hlc3 hc3
  clear hf hf2 hf3 hr hr2 hr3
  go_wp2_with fail
  refine (scan_out E1 F1 0).mono ?_
  rintro e w2 ⟨A2, c2, B2, d2, rfl, X2, r2, hb2⟩
  have E2 := E1.below hb2
  have F2 := F1.below hb2
  have G2 := G1.below hb2
  have b2 := below2 b1 hb2
  clear E1 F1 G1 b1 hb2
  go_wp2_with fail
  refine (scan_out E2 G2 1).mono ?_
  rintro e w3 ⟨A3, c3, B3, d3, rfl, Y3, s3, hb3⟩
  have E3 := E2.below hb3
  have F3 := F2.below hb3
  have G3 := G2.below hb3
  have X3 := X2.below hb3
  have r3 := r2.below hb3
  have b3 := below2 b2 hb3
  clear E2 F2 G2 X2 r2 b2 hb3
  go_wp2_with fail
  refine (merge_out X3 Y3).mono ?_
  rintro e w4 ⟨A4, c4, B4, d4, rfl, L4, q4, hb4⟩
  have E4 := E3.below hb4
  have F4 := F3.below hb4
  have G4 := G3.below hb4
  have r4 := r3.below hb4
  have s4 := s3.below hb4
  have b4 := below2 b3 hb4
  clear E3 F3 G3 X3 Y3 r3 s3 b3 hb4
  by_cases n1 : scanN es fs 0 = 0
  · by_cases n2 : scanN es gs 1 = 0
    · by_cases n3 : mrgN (scanA es fs 0) (scanA es gs 1) = 0
      · have HR := hid ((archR_iff _).2 (merge_right n3))
        have HSD := hid (fun e he => @sides_at es fs gs n1 n2 n3 e he)
        have HLN := hid (sides_len n1 n3)
        have HSO := hid (sides_sorted n3)
        have HPS : Hid (∀ s ∈ mrgC (scanA es fs 0) (scanA es gs 1), s.size < 4294967281) := sides_sz L4.sz n3
        have l1 := scanC_len es fs 0
        have l2 := scanC_len es gs 1
        have l3 := mrgC_len (scanA es fs 0) (scanA es gs 1)
        have l4 := mrgA_len (scanA es fs 0) (scanA es gs 1)
        rw [n1, n2, n3]
        clear n1 n2 n3
        generalize mrgA (scanA es fs 0) (scanA es gs 1) = l at *
        generalize mrgC (scanA es fs 0) (scanA es gs 1) = c at *
        generalize scanC es fs 0 = x at *
        generalize scanC es gs 1 = y at *
        generalize (scanA es fs 0).length = u1 at *
        generalize (scanA es gs 1).length = u2 at *
        have hrt := archR_any L4
        rw [HR.out] at hrt
        go_wp2_with fail
        refine hrt.mono ?_
        rintro e w5 ⟨rfl, hb5⟩
        have E5 := E4.below hb5
        have F5 := F4.below hb5
        have G5 := G4.below hb5
        have L5 := L4.below hb5
        have r5 := r4.below hb5
        have s5 := s4.below hb5
        have q5 := q4.below hb5
        have b5 := below2 b4 hb5
        clear E4 F4 G4 L4 r4 s4 q4 b4 hb5 hrt
        go_wp2_with fail
        go_loopw [20] (fun i wr => ∃ j : Nat, j ≤ l.length ∧ i = .int .i64 j ∧ Below w5.heap.size w5 wr) (fun i _ => l.length - (intOf i).toNat)
        case atStart => exact ⟨0, by omega, rfl, Below.refl _ _⟩
        case round =>
          obtain ⟨j, hj, rfl, bq⟩ := hrel
          by_cases hjn : j < l.length
          · have hz : (0 : Int) ≤ j := by omega
            have hlt : (j : Int) < l.length := by omega
            have S := HSD.out _ (List.getElem_mem hjn)
            obtain ⟨g, og, hA4, p0, p1, p2, -, -, lg⟩ := (L5.rd.below bq).ent hjn
            have S1 := hid S.conf
            have S2 := hid S.val
            have S3 := hid S.keep
            have L6 := L5.below bq
            have E6 := E5.below bq
            have k1 := has_any B2 d2 x l[j].path wr (r5.below bq) (by omega)
            have k2 := has_any B3 d3 y l[j].path wr (s5.below bq) (by omega)
            have k5 := has_any B4 d4 c l[j].path
            have k3 := get_any (F5.below bq) l[j].path
            have k4 := fun W (hb : Below wr.heap.size wr W) => get_any ((G5.below bq).below hb) l[j].path
            rw [getV_vl] at k3
            simp only [getV_vl] at k4
            rw [vl_same] at S1
            clear S
            have hE : l[j].has = (vlE l[j]).1 ∧ l[j].data = (vlE l[j]).2 := ⟨rfl, rfl⟩
            rw [hE.1] at p1
            rw [hE.2] at p2
            have HV : Hid (vlE l[j] = if inB l[j].path y && !inB l[j].path x then vlO (getT gs l[j].path.data.toList) else vlO (getT fs l[j].path.data.toList)) := by
              show _ = _
              rw [S2.out]
              split <;> rfl
            clear hE S2
            generalize vlE l[j] = ve at *
            generalize l[j].path = p at *
            generalize vlO (getT fs p.data.toList) = v1 at *
            generalize vlO (getT gs p.data.toList) = v2 at *
            obtain ⟨o1, a1⟩ := v1
            obtain ⟨o2, a2⟩ := v2
            dsimp only at k3 k4 S1
            rw [hA4] at L5 L6 ⊢
            clear hA4
            generalize inB p x = mi at *
            generalize inB p y = th at *
            go_wp2_with fail
            refine k1.mono ?_
            rintro e wz ⟨rfl, rfl⟩
            go_wp2_with fail
            refine k2.mono ?_
            rintro e wz ⟨rfl, rfl⟩
            go_wp2_with fail
            refine k3.mono ?_
            rintro e w6 ⟨rfl, hb6⟩
            go_wp2_with fail
            refine (k4 w6 hb6).mono ?_
            rintro e w7 ⟨rfl, hb7⟩
            have h67 := below2 hb6 hb7
            have b7 := below2 bq h67
            have L7 := L6.below h67
            have E7 := E6.below h67
            have q7 := q5.below b7
            have p0 := (h67.cell (p := ⟨g, og + j * 5, none⟩) lg).trans p0
            have p1 := (h67.cell (p := ⟨g, og + j * 5 + 1, none⟩) lg).trans p1
            have p2 := (h67.cell (p := ⟨g, og + j * 5 + 2, none⟩) lg).trans p2
            clear hb6 hb7 h67 k1 k2 k3 k4 L6 E6
            have hsq := str_eqb a1 a2
            by_cases hd : a1 = a2
            · rw [decide_eq_true hd] at hsq
              rw [decide_eq_true hd, Bool.true_and] at S1
              clear hd
              generalize hal : (o1 == o2) = al at *
              go_wp2_with fail
              refine (k5 w7 q7 (by omega)).mono ?_
              rintro e wy ⟨rfl, rfl⟩
              rw [S1.out]
              cases mi <;> cases th
              · have hve : ve = (o1, a1) := HV.out
                subst hve
                dsimp only at p1 p2
                have k6 := agree_any L7 E7 p
                rw [S3.out rfl rfl] at k6
                clear S3 HV S1 k5
                go_wp2_with fail
                refine k6.mono ?_
                rintro e w8 ⟨rfl, hb8⟩
                have b8 := below2 b7 hb8
                clear k6 hb8
                go_wp2
                go_roundw
                case rel => exact ⟨j + 1, by omega, by go_num, b8⟩
                case measure => simp [intOf]; omega
              · have hve : ve = (o2, a2) := HV.out
                subst hve
                dsimp only at p1 p2
                clear S3 HV S1 k5
                go_wp2
                go_roundw
                case rel => exact ⟨j + 1, by omega, by go_num, b7⟩
                case measure => simp [intOf]; omega
              · have hve : ve = (o1, a1) := HV.out
                subst hve
                dsimp only at p1 p2
                clear S3 HV S1 k5
                go_wp2
                go_roundw
                case rel => exact ⟨j + 1, by omega, by go_num, b7⟩
                case measure => simp [intOf]; omega
              · have hve : ve = (o1, a1) := HV.out
                subst hve
                dsimp only at p1 p2
                clear S3 HV S1 k5
                go_wp2
                go_roundw
                case rel => exact ⟨j + 1, by omega, by go_num, b7⟩
                case measure => simp [intOf]; omega
            · rw [decide_eq_false hd] at hsq
              rw [decide_eq_false hd, Bool.false_and] at S1
              clear hd
              go_wp2_with fail
              refine (k5 w7 q7 (by omega)).mono ?_
              rintro e wy ⟨rfl, rfl⟩
              rw [S1.out]
              cases mi <;> cases th
              · have hve : ve = (o1, a1) := HV.out
                subst hve
                dsimp only at p1 p2
                have k6 := agree_any L7 E7 p
                rw [S3.out rfl rfl] at k6
                clear S3 HV S1 k5
                go_wp2_with fail
                refine k6.mono ?_
                rintro e w8 ⟨rfl, hb8⟩
                have b8 := below2 b7 hb8
                clear k6 hb8
                go_wp2
                go_roundw
                case rel => exact ⟨j + 1, by omega, by go_num, b8⟩
                case measure => simp [intOf]; omega
              · have hve : ve = (o2, a2) := HV.out
                subst hve
                dsimp only at p1 p2
                clear S3 HV S1 k5
                go_wp2
                go_roundw
                case rel => exact ⟨j + 1, by omega, by go_num, b7⟩
                case measure => simp [intOf]; omega
              · have hve : ve = (o1, a1) := HV.out
                subst hve
                dsimp only at p1 p2
                clear S3 HV S1 k5
                go_wp2
                go_roundw
                case rel => exact ⟨j + 1, by omega, by go_num, b7⟩
                case measure => simp [intOf]; omega
              · have hve : ve = (o1, a1) := HV.out
                subst hve
                dsimp only at p1 p2
                clear S3 HV S1 k5
                go_wp2
                go_roundw
                case rel => exact ⟨j + 1, by omega, by go_num, b7⟩
                case measure => simp [intOf]; omega
          · have hnlt : ¬ (j : Int) < l.length := by omega
            have hle := HLN.out
            have hle2 : (n : Int) ≤ l.length := by have := E5.len; omega
            have hle3 : ¬ (l.length : Int) < n := by omega
            have ks := sorted_any B4 c.length d4 c wr rfl (q5.below bq) (by omega) HPS.out
            rw [HSO.out] at ks
            have b6 := below2 b5 bq
            clear E5 F5 G5 L5 r5 s5 q5 b5 bq
            go_wp2_with fail
            refine ks.mono ?_
            rintro e w6 ⟨rfl, hb6⟩
            have b7 := below2 b6 hb6
            clear ks hb6 b6
            go_wp2
            go_ret
            exact ⟨rfl, b7⟩
      · have n3' : ¬ ((mrgN (scanA es fs 0) (scanA es gs 1) : Nat) : Int) = 0 := by omega
        rw [n1, n2]
        clear n1 n2 n3
        generalize ((mrgN (scanA es fs 0) (scanA es gs 1) : Nat) : Int) = z at *
        go_wp2
        go_ret
        exact ⟨rfl, b4⟩
    · have n2' : ¬ ((scanN es gs 1 : Nat) : Int) = 0 := by omega
      rw [n1]
      clear n1 n2
      generalize ((scanN es gs 1 : Nat) : Int) = z at *
      go_wp2
      go_ret
      exact ⟨rfl, b4⟩
  · have n1' : ¬ ((scanN es fs 0 : Nat) : Int) = 0 := by omega
    clear n1
    generalize ((scanN es fs 0 : Nat) : Int) = z at *
    go_wp2
    go_ret
    exact ⟨rfl, b4⟩
end Go.Proofs.YtlmccjdpmhancaaGreatDoor
