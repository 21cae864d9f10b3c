/- The text Zg. -/
import Derived.Test.YtlmccjdpmhancaaGreatDoorQ2
namespace Go.Proofs.YtlmccjdpmhancaaGreatDoor
open Go.RowKit

set_option maxRecDepth 20000 in
set_option maxHeartbeats 8000000 in
theorem reconMerges_walk (A : Option Addr) (ca : Nat) (es : List Ent) (B : Option Addr) (cb : Nat) (fs : List Ent) (p : ByteArray) (w : World) (hr : Rd w A (entV es)) (hlc : es.length ≤ ca) (hc : ca ≤ maxLen) (_ : True) (hr2 : Rd w B (entV fs)) (hlc2 : fs.length ≤ cb) (hc2 : cb ≤ maxLen) (_ : True) (hps : p.size ≤ 140737488351232) :
    Calls Tryz.prog 3 #[.slice A es.length ca, .slice B fs.length cb, .string p] w fun e w' => e = .returned (.bool true) ∧ Below w.heap.size w w' := by
  generalize hl : es.length = n at *
  generalize hl2 : fs.length = m at *
  go_enter Tryz.func3, Tryz.ntmps3
  go_wp2_with fail
  refine (small_any _).mono ?_
  rintro e w1 ⟨rfl, b1⟩
  go_wp2_with fail
  refine (few9_any A n ca es _ hl (hr.below b1)).mono ?_
  rintro e wx ⟨rfl, rfl⟩
  go_wp2_with fail
  refine (few9_any B m cb fs _ hl2 (hr2.below b1)).mono ?_
  rintro e wx ⟨rfl, rfl⟩
  cases hf : few9 es
  · go_wp2
    go_ret
    exact ⟨rfl, b1⟩
  cases hf2 : few9 fs
  · go_wp2
    go_ret
    exact ⟨rfl, b1⟩
  have E1 := few9_et hf hl (hr.below b1) hlc hc
  have F1 := few9_et hf2 hl2 (hr2.below b1) hlc2 hc2
  have hn60 : n ≤ 60 := by have := (few9_sz hf).1; omega
  have hm60 : m ≤ 60 := by have := (few9_sz hf2).1; omega
  clear hf hf2 hr hr2
  by_cases hp : 100 < p.size
  · have hp' : (100 : Int) < p.size := by omega
    go_wp2
    go_ret
    exact ⟨rfl, b1⟩
  have hp' : ¬ (100 : Int) < p.size := by omega
  obtain ⟨A2, c2, w2, HRUN, I2, hb2⟩ := app_all E1
  have E2 := E1.below hb2
  have F2 := F1.below hb2
  have b2 := below2 b1 hb2
  clear hb2 b1 F1 E1
  go_wp2_with (at_builtin; refine Lib.wpList_append_run _ rfl _ _ _ _ rfl _ _ rfl rfl _ _ HRUN.out ?_)
  refine (merge_any I2 F2).mono ?_
  rintro e w3 ⟨A3, c3, B3, d3, rfl, o3, s3, bS3⟩
  have hk32 := mrgA_len es fs
  have hc32 := mrgC_len es fs
  have k4 := rmerge_any (E2.below bS3) (F2.below bS3)
  have wa3 := Wab.of_own o3
  have ra3 := rd_own5 o3
  have rs3 := Rd.of_own s3
  unfold MergePost at k4
  clear o3 s3
  generalize mrgA es fs = as_ at *
  generalize mrgC es fs = cs at *
  generalize mrgN es fs = sn at *
  generalize hla : as_.length = na at *
  generalize hlcs : cs.length = nc at *
  have HLA := hid hla
  have HLC := hid hlcs
  have HLE := hid hl
  clear hla hlcs hl hl2
  go_wp2_with fail
  refine k4.mono ?_
  rintro e w4 ⟨A4, c4, B4, d4, rfl, o4, s4, hb4⟩
  have bS4 := below2 bS3 hb4
  have wa4 := wa3.below hb4
  have ra4 := ra3.below hb4
  have rs34 := rs3.below hb4
  have rs4 := Rd.of_own s4
  have rb4 := rd_own5 o4
  clear k4 s4 o4 hb4 wa3 ra3 rs3 bS3
  have k6 := rsame_any (c := c3) (d := c4) HLA.out ra4 HLA.out rb4 (by omega)
  rw [decide_eq_true (rfl : as_ = as_)] at k6
  clear ra4 rb4
  go_wp2_with fail
  refine k6.mono ?_
  rintro e w6 ⟨rfl, hb6⟩
  have k7 := rows_same B3 B4 nc d3 d4 cs w6 HLC.out (by omega) (rs34.below hb6) (rs4.below hb6)
  have wa6 := wa4.below hb6
  have bS6 := below2 bS4 hb6
  clear k6 wa4 bS4 rs34 rs4 hb6
  go_wp2_with fail
  refine k7.mono ?_
  rintro e w7 ⟨rfl, hb7⟩
  have wa7 := wa6.below hb7
  have bS7 := below2 bS6 hb7
  clear k7 wa6 bS6 hb7
  go_wp2_with fail
  go_loopw [18] (fun i wr => ∃ j : Nat, j ≤ na ∧ i = .int .i64 j ∧ Wab wr A3 na w2.heap.size w3.heap.size ∧ Below w2.heap.size w2 wr) (fun i _ => na - (intOf i).toNat)
  case atStart => exact ⟨0, by omega, rfl, wa7, bS7⟩
  case round =>
    obtain ⟨j, hj, rfl, hT, hS⟩ := hrel
    by_cases hjn : j < na
    · have hz : (0 : Int) ≤ j := by omega
      have hlt : (j : Int) < na := by omega
      obtain ⟨g, v, rfl, hg, -, y0, y1, hT2⟩ := hT.at_ hjn
      have T9 := hT2 (.string ⟨#[115, 112, 111, 105, 108, 116]⟩)
      have S9 := hS.setCell (p := ⟨g, j * 5, none⟩) hg (.string ⟨#[115, 112, 111, 105, 108, 116]⟩)
      clear hT hT2 hS
      go_wp2
      go_roundw
      case rel => exact ⟨j + 1, by omega, by go_num, T9, S9⟩
      case measure => simp [intOf]; omega
    · have hnlt : ¬ (j : Int) < na := by omega
      have E9 := E2.below hS
      have F9 := F2.below hS
      have I9 := I2.below hS
      have b9 := below2 b2 hS
      have k1 := rsame_any (c := c2) (d := ca) HLE.out I9.rd HLE.out E9.rd (by omega)
      rw [decide_eq_true (rfl : es = es)] at k1
      clear hT I9 E2 F2 I2 b2 wa7 bS7 hS
      go_wp2_with fail
      refine k1.mono ?_
      rintro e v1 ⟨rfl, hb1⟩
      have E1 := E9.below hb1
      have F1 := F9.below hb1
      have b1 := below2 b9 hb1
      clear k1 E9 F9 b9 hb1
      have k2 := agree_any E1 F1 p
      have k3 := fun W (h : Et W A n ca es) (h2 : Et W B m cb fs) => ragree_any h h2 p
      generalize agreeB es fs p = ra at k2 k3
      go_wp2_with fail
      refine k2.mono ?_
      rintro e v2 ⟨rfl, hb2⟩
      have E2 := E1.below hb2
      have F2 := F1.below hb2
      have b2 := below2 b1 hb2
      clear k2 E1 F1 b1 hb2
      go_wp2_with fail
      refine (k3 _ E2 F2).mono ?_
      rintro e v3 ⟨rfl, hb3⟩
      have b3 := below2 b2 hb3
      clear k3 E2 F2 b2 hb3
      go_wp2
      go_ret
      exact ⟨rfl, b3⟩
end Go.Proofs.YtlmccjdpmhancaaGreatDoor
