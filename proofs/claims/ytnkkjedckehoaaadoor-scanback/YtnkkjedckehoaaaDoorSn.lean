/- ScanBack: the walk. -/
import Derived.Test.YtnkkjedckehoaaaDoorSl
import Derived.Test.YtnkkjedckehoaaaDoorSm
namespace Go.Proofs.YtnkkjedckehoaaaDoor
open Go.RowKit

set_option maxRecDepth 20000 in
set_option maxHeartbeats 4000000 in
theorem scanBack_walk (A : Option Addr) (c : Nat) (es : List Ent) (a : Int) (w : World) (hr : Rd w A (entV es)) (hlc : es.length ≤ c) (hc : c ≤ maxLen) (_ : True) (_ : (Lit.int .i64 a).wf = true) :
    Calls Tryd.prog 7 #[.slice A es.length c, .int .i64 a] w fun e w' => e = .returned (.bool true) ∧ Below w.heap.size w w' := by
  generalize hl : es.length = n at *
  go_enter Tryd.func7, Tryd.ntmps7
  go_wp2_with fail
  refine (small_any _).mono ?_
  rintro e w1 ⟨rfl, b1⟩
  go_wp2_with fail
  refine (few9_any A n c es _ hl (hr.below b1)).mono ?_
  rintro e wx ⟨rfl, rfl⟩
  cases hf : few9 es
  · go_wp2
    go_ret
    exact ⟨rfl, b1⟩
  · have E1 := few9_et hf hl (hr.below b1) hlc hc
    clear hf hr
    go_wp2_with fail
    refine (archR_any E1).mono ?_
    rintro e w2 ⟨rfl, hb2⟩
    have E2 := E1.below hb2
    have b2 := below2 b1 hb2
    clear hb2 E1 b1
    cases hR : archR es
    · go_wp2
      go_ret
      exact ⟨rfl, b2⟩
    · have hT := (archR_iff es).1 hR
      have HT := hid (scan_self hT a)
      have ht : treeE es = filesOf es := by rw [treeE, hR]; rfl
      have k3 := treeE_any E2
      rw [ht] at k3
      clear hR hT ht
      go_wp2_with fail
      refine k3.mono ?_
      rintro e w3 ⟨B3, d3, rfl, F3, hb3⟩
      have E3 := E2.below hb3
      have b3 := below2 b2 hb3
      clear hb3 k3 E2 b2
      have k4 := scan_val E3 F3 a HT.out.2.1 E3.len HT.out.2.2 (show _ = 0 from rfl) (show _ = 0 by rw [HT.out.1]; rfl)
      go_wp2_with fail
      refine k4.mono ?_
      rintro e w4 ⟨A4, c4, B4, d4, rfl, E4, -, hb4⟩
      have E5 := E3.below hb4
      have b4 := below2 b3 hb4
      clear hb4 k4 E3 F3 b3
      have k5 := sameE_any (c := c4) (d := c) E4.len E4.rd E5.len E5.rd E4.big
      rw [decide_eq_true rfl] at k5
      go_wp2_with fail
      refine k5.mono ?_
      rintro e w5 ⟨rfl, hb5⟩
      have b5 := below2 b4 hb5
      go_wp2
      go_ret
      exact ⟨rfl, b5⟩
end Go.Proofs.YtnkkjedckehoaaaDoor
