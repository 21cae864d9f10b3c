/- ChainFollows: for every input the call returns true, and each argument reads afterwards as before. Its condition is the row's: the listed variables of Go's library hold what is laid (the card ties them to the program's text). -/
import Derived.Test.YteimgnmjmpeobaaDoorCards
import Derived.Test.YteimgnmjmpeobaaDoorTie
import Derived.LaidMore
import Derived.Lay
import Derived.SevenTiedAt
import Derived.Test.YteimgnmjmpeobaaDoorP4
import Derived.Test.YteimgnmjmpeobaaDoorQIr
namespace Go.Proofs.YteimgnmjmpeobaaDoor
open Go.ChangeShapes Go.WideShapes Go.ChangeAt Go.RowKit
set_option linter.unusedVariables false

set_option maxRecDepth 100000 in
theorem chainFollows_lifted (os : Os) (started : os.Started) (H : Type) (enc : TypeId × Value → H) :
    ReturnsInHanded {} Tryd.checked os 4 .any (fun w args => (Rows.chainFollowsSpec.pre enc Tryd.prog Tryd.f4 Rows.chainFollowsRow.domain false w args ∧ laidMetH Tryd.prog Rows.chainFollowsRow.laid w) ∧ sizedMet enc Tryd.prog Tryd.f4 (OpenSpec.ofChange Rows.chainFollowsSpec) false w args) (Rows.chainFollowsSpec.post enc Tryd.prog Tryd.f4 false true false false) := by
  refine returnsInHanded_of_change_and (C := Tryd.checked) (X := fun w _ => laidMetH Tryd.prog Rows.chainFollowsRow.laid w) (fun _ _ _ hh h => h.of_heap hh) ownKnob_none started (by kernel_rfl) Tryd.func4
    (ChangeSpec.witness_shaped (enc := enc) (C := Tryd.checked) (os := os) (X := fun w _ => laidMetH Tryd.prog Rows.chainFollowsRow.laid w) false (World.laidAll Tryd.prog os Rows.chainFollowsRow.laid) #[.agg #[.int .i64 0, .int .i64 0, .int .i64 0, .int .i64 0], .int .i64 0, .slice none 0 0, .slice none 0 0, .slice none 0 0, .bool false, .agg #[.int .i64 0, .int .i64 0, .int .i64 0, .int .i64 0]] 8 (World.laidAll_os _ _ _)
      (World.shaped_of_ZipB (by kernel_rfl) (by kernel_rfl)) (by kernel_rfl) (by kernel_rfl) (by kernel_rfl)
      (by rw [MakeChecks.laidMetH_plain _ _ _ (by kernel_rfl)]; exact laidMet_laidAll _ (by kernel_rfl) (by kernel_rfl))) ?_
  intro W base args ds gs before hval0 hW hcnd hsz0 _ _
  have hval : ∀ (j : Nat) t v, Tryd.f4.params[j]? = some t → args[j]? = some v → Value.okWide Tryd.prog W .any base t v := hval0
  have hsz : (DataW.weightsEach Tryd.prog (Tryd.f4.params.toList ++ Rows.chainFollowsSpec.plain.varTypes Tryd.prog) (ds ++ gs)).all (· ≤ reachBytes) = true := hsz0
  have hW' := hW
  obtain ⟨p, q, hA0, hV, rfl, hfz, hnd⟩ := hW
  have hA : DataW.TrodAll enc Tryd.prog W 0 (fun _ => true) true Tryd.f4.params.toList args.toList ds p := hA0
  rw [Tryd.params4] at hA hval hsz
  obtain ⟨v0, vs0, d0, ds0, p0, q0, hargs, rfl, rfl, h0, r0⟩ := trodAll_cons hA
  obtain ⟨v1, vs1, d1, ds1, p1, q1, rfl, rfl, rfl, h1, r1⟩ := trodAll_cons r0
  obtain ⟨v2, vs2, d2, ds2, p2, q2, rfl, rfl, rfl, h2, r2⟩ := trodAll_cons r1
  obtain ⟨v3, vs3, d3, ds3, p3, q3, rfl, rfl, rfl, h3, r3⟩ := trodAll_cons r2
  obtain ⟨v4, vs4, d4, ds4, p4, q4, rfl, rfl, rfl, h4, r4⟩ := trodAll_cons r3
  obtain ⟨v5, vs5, d5, ds5, p5, q5, rfl, rfl, rfl, h5, r5⟩ := trodAll_cons r4
  obtain ⟨v6, vs6, d6, ds6, p6, q6, rfl, rfl, rfl, h6, r6⟩ := trodAll_cons r5
  obtain ⟨rfl, rfl, rfl⟩ := trodAll_nil r6
  obtain rfl : args = #[v0, v1, v2, v3, v4, v5, v6] := by cases args; simp_all
  obtain ⟨rfl, rfl⟩ := trodVars_none hV
  have k0 := h0
  have k1 := h1
  have k2 := h2
  have k3 := h3
  have k4 := h4
  have k5 := h5
  have k6 := h6
  obtain ⟨c0, rfl, w0⟩ := arg_cur (hval 0 23 v0 rfl rfl) h0
  obtain ⟨a1, rfl, w1⟩ := arg_int Tryd.underlying3 (hval 1 3 v1 rfl rfl) h1
  obtain ⟨A2, c2, l2, rfl, w2, x2, y2, z2⟩ := arg__api_Manifest (hval 2 30 v2 rfl rfl) h2 (fun es sp hd => sized_slice hsz (j := 2) (t := 30) rfl (by rw [hd]; rfl) Tryd.underlying30)
  obtain ⟨A3, c3, l3, rfl, w3, x3, y3, -, z3⟩ := arg_ints (k := .i64) Tryd.underlying27 Tryd.underlying3 (by kernel_rfl) (hval 3 27 v3 rfl rfl) h3 (fun es sp hd => sized_slice hsz (j := 3) (t := 27) (e := 3) rfl (by rw [hd]; rfl) Tryd.underlying27)
  obtain ⟨A4, c4, l4, rfl, w4, x4, y4, -, z4⟩ := arg_ints (k := .i64) Tryd.underlying27 Tryd.underlying3 (by kernel_rfl) (hval 4 27 v4 rfl rfl) h4 (fun es sp hd => sized_slice hsz (j := 4) (t := 27) (e := 3) rfl (by rw [hd]; rfl) Tryd.underlying27)
  obtain ⟨s5, e5, -, -⟩ := Go.RowKit.open_bool Tryd.underlying4 (hval 5 4 v5 rfl rfl) h5
  subst e5
  obtain ⟨c6, rfl, w6⟩ := arg_cur (hval 6 23 v6 rfl rfl) h6
  clear hA0 hval0
  refine (chainFollows_walk c0 a1 A2 c2 l2 A3 c3 l3 A4 c4 l4 s5 c6 W w0 w1 w2 x2 y2 z2 w3 x3 y3 z3 w4 x4 y4 z4 w6).mono fun e W' ⟨he, bel⟩ => ?_
  subst he
  exact ⟨_, rfl, _, _, _, [], _, [], hW', trodAll_mk1 (shut_bool Tryd.underlying4 _), (trodAll_cons_mk (Below.trod laidOut_ok (by kernel_rfl) (of_decide_eq_true (by kernel_rfl)) k0 bel (trod_blocks k0)) (trodAll_cons_mk (Below.trod laidOut_ok (by kernel_rfl) (of_decide_eq_true (by kernel_rfl)) k1 bel (trod_blocks k1)) (trodAll_cons_mk (Below.trod laidOut_ok (by kernel_rfl) (of_decide_eq_true (by kernel_rfl)) k2 bel (trod_blocks k2)) (trodAll_cons_mk (Below.trod laidOut_ok (by kernel_rfl) (of_decide_eq_true (by kernel_rfl)) k3 bel (trod_blocks k3)) (trodAll_cons_mk (Below.trod laidOut_ok (by kernel_rfl) (of_decide_eq_true (by kernel_rfl)) k4 bel (trod_blocks k4)) (trodAll_cons_mk (Below.trod laidOut_ok (by kernel_rfl) (of_decide_eq_true (by kernel_rfl)) k5 bel (trod_blocks k5)) (trodAll_cons_mk (Below.trod laidOut_ok (by kernel_rfl) (of_decide_eq_true (by kernel_rfl)) k6 bel (trod_blocks k6)) trodAll_mk0))))))), rfl, bel.frame _, fun h => by cases h⟩

theorem chainFollows_row : Rows.ChainFollowsSaid :=
  OpenClaim.holds_of_wide 4 Tryd.f4 rfl rfl rfl rfl rfl rfl rfl ⟨rfl, rfl, rfl, rfl, rfl⟩ rfl rfl rfl rfl rfl (by kernel_rfl) Tryd.func4 (by kernel_rfl)
    (of_decide_eq_true (by kernel_rfl)) (by unfold Func.isWrapper; first | (rw [if_pos (by decide +kernel)]; kernel_rfl) | (rw [if_neg (by decide +kernel)]; exact ⟨rfl, rfl⟩))
    (fun os started H enc _ => chainFollows_lifted os started H enc)
theorem chainFollows_proved : Rows.ChainFollowsCardSaid :=
  Claim7.holds_tied_plain_at .later [] [.data, .pinned] true (true, "bea993087bd0a8cfba50c860c51835921055de0aabb4f88cccb780db8a1fd1df") false chainFollows_row (fun _ h => by cases h) (by kernel_rfl) (fun _ h => by cases h) chainFollows_row_tie rfl ⟨rfl, rfl⟩ (by kernel_rfl) rfl
    (fun f fn hf hfn => by
      obtain rfl : f = 4 := Option.some.inj ((show Tryd.prog.funcNamed Rows.chainFollowsRow.func = some 4 by kernel_rfl).symm.trans hf) |>.symm
      obtain rfl : fn = Tryd.f4 := (Option.some.inj (Tryd.func4.symm.trans hfn)).symm
      exact ⟨by kernel_rfl, fun j t ht => by
        rw [Tryd.params4] at ht
        have hm : t ∈ [23, 3, 30, 27, 27, 4, 23] := by simpa using Array.mem_of_getElem? ht
        have hall : ([23, 3, 30, 27, 27, 4, 23].all fun u => !Tryd.prog.wantsStandIn u) = true := by kernel_rfl
        exact (show Tryd.prog.wantsStandIn t = false by simpa using List.all_eq_true.1 hall t hm)⟩)
    (by kernel_rfl)
#print axioms chainFollows_proved
end Go.Proofs.YteimgnmjmpeobaaDoor
