/- The text Ok. -/
import Derived.Test.YtaidggjnpnfdhaaDoorP4
namespace Go.Proofs.YtaidggjnpnfdhaaDoor
open Go.RowKit

theorem wf_both {x : Int} (h : (Lit.int .i64 x).wf = true) : -9223372036854775808 ≤ x ∧ x ≤ 9223372036854775807 := by
  have e : IntKind.i64.min = -9223372036854775808 := rfl
  simp [Lit.wf, e] at h
  exact h

set_option maxRecDepth 20000 in
set_option maxHeartbeats 4000000 in
theorem actRoom_walk (A : Option Addr) (ca : Nat) (t : List Fil) (B : Option Addr) (cb : Nat) (l : List Ac) (room more : Int) (w : World) (hr : Rd w A (filV t)) (hlc : t.length ≤ ca) (hc : ca ≤ maxLen) (_ : True) (hr2 : Rd w B (actV l)) (hlc2 : l.length ≤ cb) (hc2 : cb ≤ maxLen) (_ : True) (hw1 : (Lit.int .i64 room).wf = true) (_ : (Lit.int .i64 more).wf = true) :
    Calls Tryd.prog 6 #[.slice A t.length ca, .slice B l.length cb, .int .i64 room, .int .i64 more] w fun e w' => e = .returned (.bool true) ∧ Below w.heap.size w w' := by
  generalize hl : t.length = n at *
  generalize hl2 : l.length = m at *
  have hrl := wf_both hw1
  have hmx : m ≤ 9223372036854775807 := by unfold maxLen at hc2; omega
  clear hw1
  go_enter Tryd.func6, Tryd.ntmps6
  go_wp2_with fail
  refine (small11_any _).mono ?_
  rintro e w1 ⟨rfl, b1⟩
  go_wp2_with fail
  refine (few_any A n ca t _ hl (hr.below b1)).mono ?_
  rintro e wx ⟨rfl, rfl⟩
  go_wp2_with fail
  refine (fewA_any B m cb l _ hl2 (hr2.below b1) hmx).mono ?_
  rintro e wx ⟨rfl, rfl⟩
  cases hf : fewB t
  · go_wp2
    go_ret
    exact ⟨rfl, b1⟩
  cases hf2 : fewA l
  · go_wp2
    go_ret
    exact ⟨rfl, b1⟩
  by_cases hm0 : more < 0
  · go_wp2
    go_ret
    exact ⟨rfl, b1⟩
  by_cases hr4 : 1099511627776 < room
  · go_wp2
    go_ret
    exact ⟨rfl, b1⟩
  by_cases hm4 : 1099511627776 < more
  · go_wp2
    go_ret
    exact ⟨rfl, b1⟩
  have T1 := few_ft hf hl (hr.below b1) hlc hc
  have L1 := fewA_at hf2 hl2 (hr2.below b1) hlc2 hc2
  have hs1 : -9223372036854775808 ≤ room + more := by omega
  have hs2 : room + more ≤ 9223372036854775807 := by omega
  have R1 := hid (fun h => @room_yes t l room more h (by omega))
  have R2 := hid (fun h => @room_no t l room more h)
  have RT := hid (fun h => @doT_not t l room h)
  have RG := hid (fun r h => size_le (@doT_right t l r h))
  clear hf hf2 hr hr2
  go_wp2_with fail
  refine (do_ft T1 L1 room).mono ?_
  rintro e w2 ⟨A2, c2, rfl, X2, -, hb2⟩
  have T2 := T1.below hb2
  have L2 := L1.below hb2
  have b2 := below2 b1 hb2
  clear T1 L1 b1 hb2
  go_wp2_with fail
  refine (do_ft T2 L2 (room + more)).mono ?_
  rintro e w3 ⟨A3, c3, rfl, Y3, -, hb3⟩
  have X3 := X2.below hb3
  have b3 := below2 b2 hb3
  have G1 := hid (RG.out room)
  have G2 := hid (RG.out (room + more))
  clear T2 L2 X2 b2 hb3 RG
  generalize doT t l room = x at *
  generalize doT t l (room + more) = y at *
  generalize doN t l room = z1 at *
  generalize doN t l (room + more) = z2 at *
  by_cases h0 : z1 = 0
  · obtain ⟨e2, e3, hsx⟩ := R1.out h0
    have hg := G1.out h0
    subst h0 e2 e3
    have cs := same_any X3 Y3
    rw [decide_eq_true rfl] at cs
    clear R1 R2 RT G1 G2
    go_wp2_with fail
    refine cs.mono ?_
    rintro e w4 ⟨rfl, hb4⟩
    have X4 := X3.below hb4
    have b4 := below2 b3 hb4
    clear X3 Y3 b3 hb4 cs
    go_wp2_with fail
    refine (size_any X4 (by omega)).mono ?_
    rintro e w5 ⟨rfl, hb5⟩
    have b5 := below2 b4 hb5
    go_wp2
    go_ret
    exact ⟨rfl, b5⟩
  · have hx := RT.out h0
    subst hx
    rcases R2.out h0 with e2 | ⟨e1, e2, hsy⟩
    · subst e2
      have hz : ¬ ((z2 : Nat) : Int) = 0 := by omega
      clear R1 R2 RT G1 G2 h0
      generalize ((z2 : Nat) : Int) = z at *
      go_wp2
      go_ret
      exact ⟨rfl, b3⟩
    · have hg := G2.out e2
      subst e1 e2
      clear R1 R2 RT G1 G2 h0
      go_wp2_with fail
      refine (size_any Y3 (by omega)).mono ?_
      rintro e w5 ⟨rfl, hb5⟩
      have b5 := below2 b3 hb5
      go_wp2
      go_ret
      exact ⟨rfl, b5⟩
end Go.Proofs.YtaidggjnpnfdhaaDoor
