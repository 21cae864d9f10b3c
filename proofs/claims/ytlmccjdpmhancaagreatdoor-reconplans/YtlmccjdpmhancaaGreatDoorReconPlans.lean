/- ReconPlans: for every input the call returns true, and each argument reads afterwards as before. Its condition is the row's: the listed variables of Go's library hold what is laid (the card ties them to the program's text). -/
import Derived.Test.YtlmccjdpmhancaaGreatDoorCards
import Derived.Test.YtlmccjdpmhancaaGreatDoorTie
import Derived.LaidMore
import Derived.Lay
import Derived.SevenTiedAt
import Derived.Test.YtlmccjdpmhancaaGreatDoorP7
import Derived.Test.YtlmccjdpmhancaaGreatDoorQZh
namespace Go.Proofs.YtlmccjdpmhancaaGreatDoor
open Go.ChangeShapes Go.WideShapes Go.ChangeAt Go.RowKit
set_option linter.unusedVariables false

set_option maxRecDepth 100000 in
theorem reconPlans_lifted (os : Os) (started : os.Started) (H : Type) (enc : TypeId × Value → H) :
    ReturnsInHanded {} Tryz.checked os 4 .any (fun w args => (Rows.reconPlansSpec.pre enc Tryz.prog Tryz.f4 Rows.reconPlansRow.domain false w args ∧ laidMetH Tryz.prog Rows.reconPlansRow.laid w) ∧ sizedMet enc Tryz.prog Tryz.f4 (OpenSpec.ofChange Rows.reconPlansSpec) false w args) (Rows.reconPlansSpec.post enc Tryz.prog Tryz.f4 false true false false) := by
  refine returnsInHanded_of_change_and (C := Tryz.checked) (X := fun w _ => laidMetH Tryz.prog Rows.reconPlansRow.laid w) (fun _ _ _ hh h => h.of_heap hh) ownKnob_none started (by kernel_rfl) Tryz.func4
    (ChangeSpec.witness_shaped (enc := enc) (C := Tryz.checked) (os := os) (X := fun w _ => laidMetH Tryz.prog Rows.reconPlansRow.laid w) false (World.laidAll Tryz.prog os Rows.reconPlansRow.laid) #[.slice none 0 0, .slice none 0 0, .slice none 0 0, .string ⟨#[]⟩, .bool false, .int .i64 0] 8 (World.laidAll_os _ _ _)
      (World.shaped_of_ZipB (by kernel_rfl) (by kernel_rfl)) (by kernel_rfl) (by kernel_rfl) (by kernel_rfl)
      (by rw [MakeChecks.laidMetH_plain _ _ _ (by kernel_rfl)]; exact laidMet_laidAll _ (by kernel_rfl) (by kernel_rfl))) ?_
  intro W base args ds gs before hval0 hW hcnd hsz0 _ _
  have hval : ∀ (j : Nat) t v, Tryz.f4.params[j]? = some t → args[j]? = some v → Value.okWide Tryz.prog W .any base t v := hval0
  have hsz : (DataW.weightsEach Tryz.prog (Tryz.f4.params.toList ++ Rows.reconPlansSpec.plain.varTypes Tryz.prog) (ds ++ gs)).all (· ≤ reachBytes) = true := hsz0
  have hW' := hW
  obtain ⟨p, q, hA0, hV, rfl, hfz, hnd⟩ := hW
  have hA : DataW.TrodAll enc Tryz.prog W 0 (fun _ => true) true Tryz.f4.params.toList args.toList ds p := hA0
  rw [Tryz.params4] at hA hval hsz
  obtain ⟨v0, vs0, d0, ds0, p0, q0, hargs, rfl, rfl, h0, r0⟩ := trodAll_cons hA
  obtain ⟨v1, vs1, d1, ds1, p1, q1, rfl, rfl, rfl, h1, r1⟩ := trodAll_cons r0
  obtain ⟨v2, vs2, d2, ds2, p2, q2, rfl, rfl, rfl, h2, r2⟩ := trodAll_cons r1
  obtain ⟨v3, vs3, d3, ds3, p3, q3, rfl, rfl, rfl, h3, r3⟩ := trodAll_cons r2
  obtain ⟨v4, vs4, d4, ds4, p4, q4, rfl, rfl, rfl, h4, r4⟩ := trodAll_cons r3
  obtain ⟨v5, vs5, d5, ds5, p5, q5, rfl, rfl, rfl, h5, r5⟩ := trodAll_cons r4
  obtain ⟨rfl, rfl, rfl⟩ := trodAll_nil r5
  obtain rfl : args = #[v0, v1, v2, v3, v4, v5] := by cases args; simp_all
  obtain ⟨rfl, rfl⟩ := trodVars_none hV
  have k0 := h0
  have k1 := h1
  have k2 := h2
  have k3 := h3
  have k4 := h4
  have k5 := h5
  obtain ⟨A0, c0, l0, rfl, w0, x0, y0, z0⟩ := arg__api_Entry (hval 0 22 v0 rfl rfl) h0 (fun es sp hd => sized_slice hsz (j := 0) (t := 22) rfl (by rw [hd]; rfl) Tryz.underlying22)
  obtain ⟨A1, c1, l1, rfl, w1, x1, y1, z1⟩ := arg__api_Entry (hval 1 22 v1 rfl rfl) h1 (fun es sp hd => sized_slice hsz (j := 1) (t := 22) rfl (by rw [hd]; rfl) Tryz.underlying22)
  obtain ⟨A2, c2, l2, rfl, w2, x2, y2, z2⟩ := arg__api_File (hval 2 36 v2 rfl rfl) h2 (fun es sp hd => sized_slice hsz (j := 2) (t := 36) rfl (by rw [hd]; rfl) Tryz.underlying36)
  obtain ⟨s3, rfl, w3⟩ := arg_str Tryz.underlying9 (hval 3 9 v3 rfl rfl) h3 (fun bs hd => sized_string hsz (j := 3) (t := 9) rfl (by rw [hd]; rfl))
  obtain ⟨s4, e4, -, -⟩ := Go.RowKit.open_bool Tryz.underlying4 (hval 4 4 v4 rfl rfl) h4
  subst e4
  obtain ⟨a5, rfl, w5⟩ := arg_int Tryz.underlying3 (hval 5 3 v5 rfl rfl) h5
  clear hA0 hval0
  refine (reconPlans_walk A0 c0 l0 A1 c1 l1 A2 c2 l2 s3 s4 a5 W w0 x0 y0 z0 w1 x1 y1 z1 w2 x2 y2 z2 w3 w5).mono fun e W' ⟨he, bel⟩ => ?_
  subst he
  exact ⟨_, rfl, _, _, _, [], _, [], hW', trodAll_mk1 (shut_bool Tryz.underlying4 _), (trodAll_cons_mk (Below.trod laidOut_ok (by kernel_rfl) (of_decide_eq_true (by kernel_rfl)) k0 bel (trod_blocks k0)) (trodAll_cons_mk (Below.trod laidOut_ok (by kernel_rfl) (of_decide_eq_true (by kernel_rfl)) k1 bel (trod_blocks k1)) (trodAll_cons_mk (Below.trod laidOut_ok (by kernel_rfl) (of_decide_eq_true (by kernel_rfl)) k2 bel (trod_blocks k2)) (trodAll_cons_mk (Below.trod laidOut_ok (by kernel_rfl) (of_decide_eq_true (by kernel_rfl)) k3 bel (trod_blocks k3)) (trodAll_cons_mk (Below.trod laidOut_ok (by kernel_rfl) (of_decide_eq_true (by kernel_rfl)) k4 bel (trod_blocks k4)) (trodAll_cons_mk (Below.trod laidOut_ok (by kernel_rfl) (of_decide_eq_true (by kernel_rfl)) k5 bel (trod_blocks k5)) trodAll_mk0)))))), rfl, bel.frame _, fun h => by cases h⟩

theorem reconPlans_row : Rows.ReconPlansSaid :=
  OpenClaim.holds_of_wide 4 Tryz.f4 rfl rfl rfl rfl rfl rfl rfl ⟨rfl, rfl, rfl, rfl, rfl⟩ rfl rfl rfl rfl rfl (by kernel_rfl) Tryz.func4 (by kernel_rfl)
    (of_decide_eq_true (by kernel_rfl)) (by unfold Func.isWrapper; first | (rw [if_pos (by decide +kernel)]; kernel_rfl) | (rw [if_neg (by decide +kernel)]; exact ⟨rfl, rfl⟩))
    (fun os started H enc _ => reconPlans_lifted os started H enc)
theorem reconPlans_proved : Rows.ReconPlansCardSaid :=
  Claim7.holds_tied_plain_at .later [] [.data, .pinned] true (true, "9d2995f9c8748e20070c09a09add7b5127a208fd086b370568eb06ed3898e0a7") false reconPlans_row (fun _ h => by cases h) (by kernel_rfl) (fun _ h => by cases h) reconPlans_row_tie rfl ⟨rfl, rfl⟩ (by kernel_rfl) rfl
    (fun f fn hf hfn => by
      obtain rfl : f = 4 := Option.some.inj ((show Tryz.prog.funcNamed Rows.reconPlansRow.func = some 4 by kernel_rfl).symm.trans hf) |>.symm
      obtain rfl : fn = Tryz.f4 := (Option.some.inj (Tryz.func4.symm.trans hfn)).symm
      exact ⟨by kernel_rfl, fun j t ht => by
        rw [Tryz.params4] at ht
        have hm : t ∈ [22, 22, 36, 9, 4, 3] := by simpa using Array.mem_of_getElem? ht
        have hall : ([22, 22, 36, 9, 4, 3].all fun u => !Tryz.prog.wantsStandIn u) = true := by kernel_rfl
        exact (show Tryz.prog.wantsStandIn t = false by simpa using List.all_eq_true.1 hall t hm)⟩)
    (by kernel_rfl)
#print axioms reconPlans_proved
end Go.Proofs.YtlmccjdpmhancaaGreatDoor
