/- The text Oo. -/
import Derived.Test.YtaidggjnpnfdhaaGreatDoorP5
namespace Go.Proofs.YtaidggjnpnfdhaaGreatDoor
open Go.RowKit

theorem planA_sz {t : List Fil} {es : List Ent} (ht : ∀ f ∈ t, f.1.size < 4294967281 ∧ f.2.size ≤ 140737488355328) (hs : ∀ e ∈ es, e.path.size < 4294967281 ∧ e.data.size ≤ 140737488355328) : ∀ a ∈ planA t es, a.1.size < 4294967281 ∧ a.2.2.size ≤ 140737488355328 := by
  intro a ha
  unfold planA at ha
  split at ha
  · rcases plan_mem.1 ha with ⟨f, hf, -, rfl⟩ | ⟨g, hg, -, rfl⟩
    · exact ⟨(ht f hf).1, by show noS.size ≤ _; decide⟩
    · unfold treeE at hg
      split at hg
      · unfold filesOf at hg
        obtain ⟨e, he, rfl⟩ := List.mem_map.1 hg
        exact hs e (List.mem_filter.1 he).1
      · cases hg
  · cases ha
set_option maxRecDepth 20000 in
set_option maxHeartbeats 4000000 in
theorem actPlans_walk (A : Option Addr) (ca : Nat) (t : List Fil) (B : Option Addr) (cb : Nat) (es : List Ent) (w : World) (hr : Rd w A (filV t)) (hlc : t.length ≤ ca) (hc : ca ≤ maxLen) (_ : True) (hr2 : Rd w B (entV es)) (hlc2 : es.length ≤ cb) (hc2 : cb ≤ maxLen) (_ : True) :
    Calls Tryz.prog 4 #[.slice A t.length ca, .slice B es.length cb] w fun e w' => e = .returned (.bool true) ∧ Below w.heap.size w w' := by
  generalize hl : t.length = n at *
  generalize hl2 : es.length = m at *
  go_enter Tryz.func4, Tryz.ntmps4
  go_wp2_with fail
  refine (small11_any _).mono ?_
  rintro e w1 ⟨rfl, b1⟩
  go_wp2_with fail
  refine (few_any A n ca t _ hl (hr.below b1)).mono ?_
  rintro e wx ⟨rfl, rfl⟩
  go_wp2_with fail
  refine (few9_any B m cb es _ hl2 (hr2.below b1)).mono ?_
  rintro e wx ⟨rfl, rfl⟩
  cases hf : fewB t
  · go_wp2
    go_ret
    exact ⟨rfl, b1⟩
  cases hf2 : few9 es
  · go_wp2
    go_ret
    exact ⟨rfl, b1⟩
  have T1 := few_ft hf hl (hr.below b1) hlc hc
  have E1 := few9_et hf2 hl2 (hr2.below b1) hlc2 hc2
  have hn40 : n ≤ 100000 := by have := (few_sz hf).1; omega
  have HSZ := hid (planA_sz T1.sz E1.sz)
  have hlen := planA_len t es
  have hm60 : m ≤ 100000 := by have := E1.len; have := (few9_sz hf2).1; omega
  clear hf hf2 hr hr2 hl hl2
  go_wp2_with fail
  refine (plan_any T1 E1 hn40 hm60).mono ?_
  rintro e w2 ⟨A2, c2, rfl, o2, hb2⟩
  have T2 := T1.below hb2
  have E2 := E1.below hb2
  have b2 := below2 b1 hb2
  clear T1 E1 b1 hb2
  by_cases h0 : planN t es = 0
  · obtain ⟨d1, d2, d3, d4, d5, d6⟩ := plan_done (r := 1048576) (by omega) h0
    have hcp := own_caps o2
    unfold maxLen at hcp
    have K2 : At w2 A2 (planA t es).length c2 (planA t es) := ⟨rfl, rd_own3 rfl o2, hcp.1, by omega, hcp.2, HSZ.out⟩
    rw [h0]
    clear o2 HSZ h0 hcp
    have D5 := hid d5
    have D6 := hid d6
    generalize planA t es = l at *
    have cd := do_ft T2 K2 1048576
    rw [d1, d2] at cd
    clear d1 d2 d5 d6 T2
    have ht16 : (treeE es).length ≤ 100000 := by
      have h1 := (plan_zero d3).2.2.few
      omega
    have D3 : Hid (((planN (treeE es) es : Nat) : Int) = 0) := by show _ = _; rw [d3]; rfl
    have D4 := hid d4
    clear d3 d4
    go_wp2_with fail
    refine cd.mono ?_
    rintro e w3 ⟨A3, c3, rfl, X3, -, hb3⟩
    have K3 := K2.below hb3
    have E3 := E2.below hb3
    have b3 := below2 b2 hb3
    clear cd K2 E2 b2 hb3
    go_wp2_with fail
    refine (plan_val X3 E3 ht16 hm60 D4.out (show _ = 0 from rfl) D3.out).mono ?_
    rintro e w4 ⟨A4, c4, rfl, -, hb4⟩
    have K4 := K3.below hb4
    have E4 := E3.below hb4
    have X4 := X3.below hb4
    have b4 := below2 b3 hb4
    clear K3 E3 X3 b3 hb4 D3 D4
    go_wp2_with fail
    refine (treeE_any E4).mono ?_
    rintro e w5 ⟨B5, q5, rfl, Y5, hb5⟩
    have K5 := K4.below hb5
    have X5 := X4.below hb5
    have b5 := below2 b4 hb5
    have cs := same_any X5 Y5
    rw [decide_eq_true rfl] at cs
    clear K4 E4 X4 b4 hb5
    generalize treeE es = u at *
    go_wp2_with fail
    refine cs.mono ?_
    rintro e w6 ⟨rfl, hb6⟩
    have K6 := K5.below hb6
    have b6 := below2 b5 hb6
    clear cs K5 X5 Y5 b5 hb6
    go_wp2_with fail
    refine (paths_val K6 rfl D5.out).mono ?_
    rintro e w7 ⟨A7, c7, rfl, -, hb7⟩
    have K7 := K6.below hb7
    have b7 := below2 b6 hb7
    clear K6 b6 hb7
    go_wp2_with fail
    refine (net_val K7 D6.out rfl).mono ?_
    rintro e w8 ⟨A8, c8, rfl, r8, -, -, hb8⟩
    have K8 := K7.below hb8
    have b8 := below2 b7 hb8
    clear K7 b7 hb8
    go_wp2_with fail
    refine (racts_any rfl r8 K8.rd (by omega)).mono ?_
    rintro e w9 ⟨rfl, hb9⟩
    have b9 := below2 b8 hb9
    go_wp2
    go_ret
    exact ⟨rfl, b9⟩
  · have hx : planA t es = [] := by unfold planA; rw [if_neg h0]
    have hz : ¬ ((planN t es : Nat) : Int) = 0 := by omega
    clear h0 o2 HSZ hlen
    generalize ((planN t es : Nat) : Int) = z at *
    generalize planA t es = l at *
    subst hx
    go_wp2
    go_ret
    exact ⟨rfl, b2⟩
end Go.Proofs.YtaidggjnpnfdhaaGreatDoor
