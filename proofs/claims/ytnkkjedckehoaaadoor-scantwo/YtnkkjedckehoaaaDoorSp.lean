/- ScanTwo: the walk. -/
import Derived.Test.YtnkkjedckehoaaaDoorSl
import Derived.Test.YtnkkjedckehoaaaDoorSo
namespace Go.Proofs.YtnkkjedckehoaaaDoor
open Go.RowKit

theorem mineI_eq (e : Ent) (a : Int) : mineI (cl e.l) (cl e.r) a = mineE a e := rfl

set_option maxRecDepth 20000 in
set_option maxHeartbeats 4000000 in
theorem scanTwo_walk (A : Option Addr) (c : Nat) (es : List Ent) (B : Option Addr) (d : Nat) (fs : List Fil) (a : Int) (w : World) (hr : Rd w A (entV es)) (hlc : es.length ≤ c) (hc : c ≤ maxLen) (_ : True) (hr2 : Rd w B (filV fs)) (hlc2 : fs.length ≤ d) (hc2 : d ≤ maxLen) (_ : True) (_ : (Lit.int .i64 a).wf = true) :
    Calls Tryd.prog 5 #[.slice A es.length c, .slice B fs.length d, .int .i64 a] w fun e w' => e = .returned (.bool true) ∧ Below w.heap.size w w' := by
  generalize hl : es.length = n at *
  generalize hl2 : fs.length = m at *
  go_enter Tryd.func5, Tryd.ntmps5
  go_wp2_with fail
  refine (small_any _).mono ?_
  rintro e w1 ⟨rfl, b1⟩
  go_wp2_with fail
  refine (few9_any A n c es _ hl (hr.below b1)).mono ?_
  rintro e wx ⟨rfl, rfl⟩
  go_wp2_with fail
  refine (few_any B m d fs _ hl2 (hr2.below b1)).mono ?_
  rintro e wx ⟨rfl, rfl⟩
  cases hf : few9 es
  · go_wp2
    go_ret
    exact ⟨rfl, b1⟩
  cases hf2 : fewB fs
  · go_wp2
    go_ret
    exact ⟨rfl, b1⟩
  have E1 := few9_et hf hl (hr.below b1) hlc hc
  have F1 := few_ft hf2 hl2 (hr2.below b1) hlc2 hc2
  have hn60 : n ≤ 60 := by have := (few9_sz hf).1; omega
  clear hf hr hf2 hr2
  go_wp2_with fail
  refine (scan_out E1 F1 a).mono ?_
  rintro e w2 ⟨A2, c2, B2, d2, rfl, E2, -, hb2⟩
  have E1' := E1.below hb2
  have b2 := below2 b1 hb2
  clear hb2 b1 E1 F1
  by_cases h0 : scanN es fs a = 0
  · have HS1 := hid ((scan_sums h0 a).trans (if_pos rfl))
    have HS2 := hid (scan_sums h0 (wrap64 (a + 1)))
    have HO := hid (odd_succ a)
    have hk32 := scanA_len es fs a
    have hc32 := scanC_len es fs a
    rw [h0]
    clear h0
    generalize scanA es fs a = as_ at *
    generalize (scanC es fs a).length = nc at *
    generalize hla : as_.length = na at *
    have HLA := hid hla
    have HLE := hid hl
    have hr3 := E2.rd
    have hr4 := E1'.rd
    clear hla hl E2
    go_wp2_with fail
    go_loopw [13, 14, 15] (fun x y i wr => ∃ j : Nat, j ≤ na ∧ i = .int .i64 j ∧ (∃ s t, x = .int .i64 s ∧ y = .int .i64 t ∧ Hid (s = sumM a (as_.take j)) ∧ Hid (t = sumM (wrap64 (a + 1)) (as_.take j))) ∧ Below w2.heap.size w2 wr) (fun _ _ i _ => na - (intOf i).toNat)
    case atStart => exact ⟨0, by omega, rfl, ⟨0, 0, rfl, rfl, by simp [Hid, sumM], by simp [Hid, sumM]⟩, Below.refl _ _⟩
    case round =>
      obtain ⟨j, hj, rfl, ⟨s, t, rfl, rfl, HA, HB⟩, hb⟩ := hrel
      by_cases hjn : j < na
      · have hjl : j < as_.length := by rw [HLA.out]; exact hjn
        obtain ⟨b, off, rfl, -, -, -, x3, x4, hbl⟩ := (hr3.below hb).ent hjl
        have HM1 := hid (sumM_more a as_ j hjl)
        have HM2 := hid (sumM_more (wrap64 (a + 1)) as_ j hjl)
        have hs1 : 0 ≤ s ∧ s ≤ 32 * 1073741824 := by rw [HA.out]; have := sumM_le a (as_.take j); rw [List.length_take] at this; omega
        have ht1 : 0 ≤ t ∧ t ≤ 32 * 1073741824 := by rw [HB.out]; have := sumM_le (wrap64 (a + 1)) (as_.take j); rw [List.length_take] at this; omega
        have m1 := mineE_le a as_[j]
        have m2 := mineE_le (wrap64 (a + 1)) as_[j]
        have hz : (0 : Int) ≤ j := by omega
        have hlt : (j : Int) < na := by omega
        generalize as_[j] = z at *
        go_wp2_with fail
        refine (of_any z.l z.r _).mono ?_
        rintro e wa ⟨rfl, hba⟩
        go_wp2_with fail
        refine (mine_any (cl_le z.l) (cl_le z.r) a _).mono ?_
        rintro e wb ⟨rfl, hbb⟩
        have hab := below2 hba hbb
        have y3 := (hab.cell (p := ⟨b, off + j * 5 + 3, none⟩) hbl).trans x3
        have y4 := (hab.cell (p := ⟨b, off + j * 5 + 4, none⟩) hbl).trans x4
        have hb' := hb.trans (hab.mono hb.size)
        rw [mineI_eq]
        generalize mineE a z = u1 at *
        clear hba hbb hab x3 x4 hb
        go_wp2_with fail
        refine (of_any z.l z.r _).mono ?_
        rintro e wc ⟨rfl, hbc⟩
        go_wp2_with fail
        refine (mine_any (cl_le z.l) (cl_le z.r) (wrap64 (a + 1)) _).mono ?_
        rintro e wd ⟨rfl, hbd⟩
        have hb2' := hb'.trans ((below2 hbc hbd).mono hb'.size)
        rw [mineI_eq]
        generalize mineE (wrap64 (a + 1)) z = u2 at *
        clear hbc hbd hb' y3 y4
        go_wp2
        go_roundw
        case rel => exact ⟨j + 1, by omega, by go_num, ⟨s + u1, t + u2, by go_num, by go_num, hid (by rw [HM1.out, ← HA.out]), hid (by rw [HM2.out, ← HB.out])⟩, hb2'⟩
        case measure => simp [intOf]; omega
      · have hnlt : ¬ (j : Int) < na := by omega
        have HA2 : Hid (s = sumM a as_) := by show _ = _; rw [HA.out, List.take_of_length_le (by rw [HLA.out]; omega)]
        have HB2 : Hid (t = sumM (wrap64 (a + 1)) as_) := by show _ = _; rw [HB.out, List.take_of_length_le (by rw [HLA.out]; omega)]
        have hs1 : 0 ≤ s ∧ s ≤ 32 * 1073741824 := by rw [HA2.out]; have := sumM_le a as_; rw [HLA.out] at this; omega
        have ht1 : 0 ≤ t ∧ t ≤ 32 * 1073741824 := by rw [HB2.out]; have := sumM_le (wrap64 (a + 1)) as_; rw [HLA.out] at this; omega
        have hr5 := hr4.below hb
        have b3 := below2 b2 hb
        clear HA HB hb hr4 hr3
        go_wp2_with fail
        go_loopw [13, 14, 16] (fun x y i wx => ∃ j : Nat, j ≤ n ∧ i = .int .i64 j ∧ (∃ s' t', x = .int .i64 s' ∧ y = .int .i64 t' ∧ Hid (s' = s - sumM a (es.take j)) ∧ Hid (t' = t - sumM (wrap64 (a + 1)) (es.take j))) ∧ Below wr.heap.size wr wx) (fun _ _ i _ => n - (intOf i).toNat)
        case atStart => exact ⟨0, by omega, rfl, ⟨s, t, rfl, rfl, by simp [Hid, sumM], by simp [Hid, sumM]⟩, Below.refl _ _⟩
        case round =>
          obtain ⟨k, hk, rfl, ⟨s', t', rfl, rfl, HA, HB⟩, hb⟩ := hrel
          by_cases hkn : k < n
          · have hkl : k < es.length := by rw [HLE.out]; exact hkn
            obtain ⟨b, off, rfl, -, -, -, x3, x4, hbl⟩ := (hr5.below hb).ent hkl
            have HM1 := hid (sumM_more a es k hkl)
            have HM2 := hid (sumM_more (wrap64 (a + 1)) es k hkl)
            have hs2 : -64424509440 ≤ s' ∧ s' ≤ 34359738368 := by rw [HA.out]; have := sumM_le a (es.take k); rw [List.length_take] at this; omega
            have ht2 : -64424509440 ≤ t' ∧ t' ≤ 34359738368 := by rw [HB.out]; have := sumM_le (wrap64 (a + 1)) (es.take k); rw [List.length_take] at this; omega
            have m1 := mineE_le a es[k]
            have m2 := mineE_le (wrap64 (a + 1)) es[k]
            have hz : (0 : Int) ≤ k := by omega
            have hlt : (k : Int) < n := by omega
            generalize es[k] = z at *
            go_wp2_with fail
            refine (of_any z.l z.r _).mono ?_
            rintro e wa ⟨rfl, hba⟩
            go_wp2_with fail
            refine (mine_any (cl_le z.l) (cl_le z.r) a _).mono ?_
            rintro e wb ⟨rfl, hbb⟩
            have hab := below2 hba hbb
            have y3 := (hab.cell (p := ⟨b, off + k * 5 + 3, none⟩) hbl).trans x3
            have y4 := (hab.cell (p := ⟨b, off + k * 5 + 4, none⟩) hbl).trans x4
            have hb' := hb.trans (hab.mono hb.size)
            rw [mineI_eq]
            generalize mineE a z = u1 at *
            clear hba hbb hab x3 x4 hb
            go_wp2_with fail
            refine (of_any z.l z.r _).mono ?_
            rintro e wc ⟨rfl, hbc⟩
            go_wp2_with fail
            refine (mine_any (cl_le z.l) (cl_le z.r) (wrap64 (a + 1)) _).mono ?_
            rintro e wd ⟨rfl, hbd⟩
            have hb2' := hb'.trans ((below2 hbc hbd).mono hb'.size)
            rw [mineI_eq]
            generalize mineE (wrap64 (a + 1)) z = u2 at *
            clear hbc hbd hb' y3 y4
            go_wp2
            go_roundw
            case rel => exact ⟨k + 1, by omega, by go_num, ⟨s' - u1, t' - u2, by go_num, by go_num, hid (by rw [HM1.out, HA.out]; omega), hid (by rw [HM2.out, HB.out]; omega)⟩, hb2'⟩
            case measure => simp [intOf]; omega
          · have hnlt2 : ¬ (k : Int) < n := by omega
            have HA3 : Hid (s' = nc) := by
              have h1 := HS1.out
              show _ = _
              rw [HA.out, List.take_of_length_le (by rw [HLE.out]; omega), HA2.out, h1]
            have HB3 : Hid (t' = 0) := by
              have h1 := HS2.out
              rw [HO.out, if_neg (by cases odd a <;> simp)] at h1
              show _ = _
              rw [HB.out, List.take_of_length_le (by rw [HLE.out]; omega), HB2.out, h1]
            have b4 := below2 b3 hb
            obtain rfl := HA3.out
            obtain rfl := HB3.out
            clear HA HB HA3 HB3 HA2 HB2 hs1 ht1
            go_wp2
            go_ret
            exact ⟨rfl, b4⟩
  · have h0' : ¬ ((scanN es fs a : Nat) : Int) = 0 := by omega
    go_wp2
    go_ret
    exact ⟨rfl, b2⟩
end Go.Proofs.YtnkkjedckehoaaaDoor
