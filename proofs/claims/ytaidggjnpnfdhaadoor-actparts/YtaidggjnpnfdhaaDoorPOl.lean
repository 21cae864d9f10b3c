/- The text Ol. -/
import Derived.Test.YtaidggjnpnfdhaaDoorPOk
namespace Go.Proofs.YtaidggjnpnfdhaaDoor
open Go.RowKit

set_option maxRecDepth 20000 in
set_option maxHeartbeats 4000000 in
theorem actParts_walk (A : Option Addr) (ca : Nat) (t : List Fil) (B : Option Addr) (cb : Nat) (l : List Ac) (cut : Int) (w : World) (hr : Rd w A (filV t)) (hlc : t.length ≤ ca) (hc : ca ≤ maxLen) (_ : True) (hr2 : Rd w B (actV l)) (hlc2 : l.length ≤ cb) (hc2 : cb ≤ maxLen) (_ : True) (_ : (Lit.int .i64 cut).wf = true) :
    Calls Tryd.prog 5 #[.slice A t.length ca, .slice B l.length cb, .int .i64 cut] w fun e w' => e = .returned (.bool true) ∧ Below w.heap.size w w' := by
  generalize hl : t.length = n at *
  generalize hl2 : l.length = m at *
  have hmx : m ≤ 9223372036854775807 := by unfold maxLen at hc2; omega
  go_enter Tryd.func5, Tryd.ntmps5
  go_wp2_with fail
  refine (small11_any _).mono ?_
  rintro e w1 ⟨rfl, b1⟩
  go_wp2_with fail
  refine (few_any A n ca t _ hl (hr.below b1)).mono ?_
  rintro e wx ⟨rfl, rfl⟩
  go_wp2_with fail
  refine (fewA_any B m cb l _ hl2 (hr2.below b1) hmx).mono ?_
  rintro e wx ⟨rfl, rfl⟩
  cases hf : fewB t
  · go_wp2
    go_ret
    exact ⟨rfl, b1⟩
  cases hf2 : fewA l
  · go_wp2
    go_ret
    exact ⟨rfl, b1⟩
  by_cases hc0 : cut < 0
  · go_wp2
    go_ret
    exact ⟨rfl, b1⟩
  by_cases hc1 : (m : Int) < cut
  · go_wp2
    go_ret
    exact ⟨rfl, b1⟩
  obtain ⟨k, rfl⟩ : ∃ k : Nat, cut = (k : Int) := ⟨cut.toNat, by omega⟩
  have hkm : k ≤ m := by omega
  have T1 := few_ft hf hl (hr.below b1) hlc hc
  have L1 := fewA_at hf2 hl2 (hr2.below b1) hlc2 hc2
  have R1 := hid (fun h => @parts_no t l k 1048576 (by omega) h)
  have R2 := hid (fun h => @parts_yes t l k 1048576 (by omega) h)
  clear hf hf2 hr hr2 hc0 hc1
  go_wp2_with fail
  refine (do_ft T1 L1 1048576).mono ?_
  rintro e w2 ⟨A2, c2, rfl, X2, -, hb2⟩
  have T2 := T1.below hb2
  have L2 := L1.below hb2
  have b2 := below2 b1 hb2
  clear T1 L1 b1 hb2
  obtain ⟨B1, B2, hpre, hpost, M2, N2⟩ := acuts L2 hkm
  have hz : (0 : Int) ≤ k := by omega
  have hkmi : (k : Int) ≤ m := by omega
  go_wp2_with fail
  refine (do_ft T2 M2 1048576).mono ?_
  rintro e w3 ⟨A3, c3, rfl, Y3, -, hb3⟩
  have X3 := X2.below hb3
  have N3 := N2.below hb3
  have b3 := below2 b2 hb3
  clear T2 L2 X2 M2 N2 b2 hb3
  by_cases h0 : doN t (l.take k) 1048576 = 0
  · obtain ⟨e1, e2⟩ := R2.out h0
    rw [h0]
    clear R1 R2 h0
    go_wp2_with fail
    refine (do_ft Y3 N3 1048576).mono ?_
    rintro e w4 ⟨A4, c4, rfl, Z4, -, hb4⟩
    have X4 := X3.below hb4
    have b4 := below2 b3 hb4
    clear X3 Y3 N3 b3 hb4
    have E1 := hid e1
    have E2 := hid e2
    clear e1 e2
    generalize doT t l 1048576 = x at *
    generalize doN t l 1048576 = z1 at *
    generalize doN (doT t (l.take k) 1048576) (l.drop k) 1048576 = z2 at *
    generalize doT (doT t (l.take k) 1048576) (l.drop k) 1048576 = y at *
    obtain rfl := E1.out
    obtain rfl := E2.out
    have cs := same_any X4 Z4
    rw [decide_eq_true rfl] at cs
    go_wp2_with fail
    refine cs.mono ?_
    rintro e w5 ⟨rfl, hb5⟩
    have b5 := below2 b4 hb5
    clear cs
    go_wp2
    go_ret
    exact ⟨rfl, b5⟩
  · obtain ⟨e1, e2⟩ := R1.out h0
    have E1 := hid e1
    have E2 := hid e2
    have hz : ¬ ((doN t (l.take k) 1048576 : Nat) : Int) = 0 := by omega
    clear R1 R2 e1 e2 h0
    generalize doT t l 1048576 = x at *
    generalize doN t l 1048576 = z1 at *
    generalize doN t (l.take k) 1048576 = z2 at *
    obtain rfl := E1.out
    obtain rfl := E2.out
    generalize ((z1 : Nat) : Int) = z at *
    go_wp2
    go_ret
    exact ⟨rfl, b3⟩
end Go.Proofs.YtaidggjnpnfdhaaDoor
