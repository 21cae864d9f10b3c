/- The text Zh. -/
import Derived.Test.YtlmccjdpmhancaaGreatDoorQZg
namespace Go.Proofs.YtlmccjdpmhancaaGreatDoor
open Go.RowKit

set_option maxRecDepth 20000 in
set_option maxHeartbeats 8000000 in
theorem reconPlans_walk (A : Option Addr) (ca : Nat) (es : List Ent) (B : Option Addr) (cb : Nat) (fs : List Ent) (C : Option Addr) (cc : Nat) (ts : List Fil) (p : ByteArray) (tk : Bool) (a : Int) (w : World) (hr : Rd w A (entV es)) (hlc : es.length ≤ ca) (hc : ca ≤ maxLen) (_ : True) (hr2 : Rd w B (entV fs)) (hlc2 : fs.length ≤ cb) (hc2 : cb ≤ maxLen) (_ : True) (hr3 : Rd w C (filV ts)) (hlc3 : ts.length ≤ cc) (hc3 : cc ≤ maxLen) (_ : True) (hps : p.size ≤ 140737488351232) (_ : (Lit.int .i64 a).wf = true) :
    Calls Tryz.prog 4 #[.slice A es.length ca, .slice B fs.length cb, .slice C ts.length cc, .string p, .bool tk, .int .i64 a] w fun e w' => e = .returned (.bool true) ∧ Below w.heap.size w w' := by
  generalize hl : es.length = n at *
  generalize hl2 : fs.length = m at *
  generalize hl3 : ts.length = k at *
  go_enter Tryz.func4, Tryz.ntmps4
  go_wp2_with fail
  refine (small_any _).mono ?_
  rintro e w1 ⟨rfl, b1⟩
  go_wp2_with fail
  refine (few9_any A n ca es _ hl (hr.below b1)).mono ?_
  rintro e wx ⟨rfl, rfl⟩
  go_wp2_with fail
  refine (few9_any B m cb fs _ hl2 (hr2.below b1)).mono ?_
  rintro e wx ⟨rfl, rfl⟩
  go_wp2_with fail
  refine (few_any C k cc ts _ hl3 (hr3.below b1)).mono ?_
  rintro e wx ⟨rfl, rfl⟩
  cases hf : few9 es
  · go_wp2
    go_ret
    exact ⟨rfl, b1⟩
  cases hf2 : few9 fs
  · go_wp2
    go_ret
    exact ⟨rfl, b1⟩
  cases hf3 : fewB ts
  · go_wp2
    go_ret
    exact ⟨rfl, b1⟩
  have E1 := few9_et hf hl (hr.below b1) hlc hc
  have F1 := few9_et hf2 hl2 (hr2.below b1) hlc2 hc2
  have G1 := few_ft hf3 hl3 (hr3.below b1) hlc3 hc3
  have hn60 : n ≤ 60 := by have := (few9_sz hf).1; omega
  have hm60 : m ≤ 60 := by have := (few9_sz hf2).1; omega
  have hk40 : k ≤ 40 := by have := (few_sz hf3).1; omega
  clear hf hf2 hf3 hr hr2 hr3
  by_cases hp : 100 < p.size
  · have hp' : (100 : Int) < p.size := by omega
    go_wp2
    go_ret
    exact ⟨rfl, b1⟩
  have hp' : ¬ (100 : Int) < p.size := by omega
  obtain ⟨A2, c2, w2, HRUN, I2, hb2⟩ := app_all E1
  have E2 := E1.below hb2
  have F2 := F1.below hb2
  have G2 := G1.below hb2
  have b2 := below2 b1 hb2
  clear hb2 b1 F1 E1 G1
  go_wp2_with (at_builtin; refine Lib.wpList_append_run _ rfl _ _ _ _ rfl _ _ rfl rfl _ _ HRUN.out ?_)
  have k3 := plan_any G2 E2 (by omega) (by omega)
  have k4 := fun W (h : Below w2.heap.size w2 W) => rplan_any (G2.below h) (E2.below h) (by omega) (by omega)
  have hal := planA_len ts es
  unfold PlanPost at k3 k4
  generalize planA ts es = as_ at *
  generalize planN ts es = pn at *
  generalize hla : as_.length = na at *
  have HLA := hid hla
  have HLE := hid hl
  clear hla hl hl2 hl3
  refine k3.mono ?_
  rintro e w3 ⟨A3, c3, rfl, o3, b3⟩
  have x3 := rd_own3 HLA.out o3
  clear k3 o3
  go_wp2_with fail
  refine (k4 w3 b3).mono ?_
  rintro e w4 ⟨A4, c4, rfl, o4, hb4⟩
  have y4 := rd_own3 HLA.out o4
  have x4 := x3.below hb4
  have b4 := below2 b3 hb4
  clear k4 o4 x3 b3 hb4
  have k5 := settle_any (I2.below b4) (F2.below b4) p tk a
  have k6 := fun W (h : Below w2.heap.size w2 W) => rsettle_any (E2.below h) (F2.below h) p tk a
  have hsl := @setA_len es fs p tk a
  unfold SettlePost at k5 k6
  generalize setA es fs p tk a = ss at *
  generalize setN es fs p tk a = sn at *
  generalize hls : ss.length = ns at *
  have HLS := hid hls
  have hsn : ns ≤ 60 := by have := HLE.out; omega
  clear hls hsl
  go_wp2_with fail
  refine k5.mono ?_
  rintro e w5 ⟨A5, c5, rfl, o5, hb5⟩
  have s5 := rd_own5 o5
  have x5 := x4.below hb5
  have y5 := y4.below hb5
  have b5 := below2 b4 hb5
  clear k5 o5 x4 y4 b4 hb5
  go_wp2_with fail
  refine (k6 w5 b5).mono ?_
  rintro e w6 ⟨A6, c6, rfl, o6, hb6⟩
  have r6 := rd_own5 o6
  have s6 := s5.below hb6
  have x6 := x5.below hb6
  have y6 := y5.below hb6
  have b6 := below2 b5 hb6
  clear k6 o6 x5 y5 s5 b5 hb6
  go_wp2_with fail
  refine (racts_any (c := c3) (d := c4) HLA.out x6 y6 (by omega)).mono ?_
  rintro e w7 ⟨rfl, hb7⟩
  have r7 := r6.below hb7
  have s7 := s6.below hb7
  have b7 := below2 b6 hb7
  clear x6 y6 r6 s6 b6 hb7
  have k8 := rsame_any (c := c5) (d := c6) HLS.out s7 HLS.out r7 (by omega)
  rw [decide_eq_true (rfl : ss = ss)] at k8
  go_wp2_with fail
  refine k8.mono ?_
  rintro e w8 ⟨rfl, hb8⟩
  have b8 := below2 b7 hb8
  clear r7 s7 b7 hb8 k8
  have k9 := rsame_any (c := c2) (d := ca) HLE.out (I2.below b8).rd HLE.out (E2.below b8).rd (by omega)
  rw [decide_eq_true (rfl : es = es)] at k9
  have b9 := below2 b2 b8
  clear I2 E2 F2 G2 b8 b2
  go_wp2_with fail
  refine k9.mono ?_
  rintro e wA ⟨rfl, hbA⟩
  have bA := below2 b9 hbA
  clear k9 b9 hbA
  go_wp2
  go_ret
  exact ⟨rfl, bA⟩
end Go.Proofs.YtlmccjdpmhancaaGreatDoor
