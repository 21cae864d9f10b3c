/- PathUnder: the walk. -/
import Derived.Test.YtekmclbnbbhcmaaDoorQh
namespace Go.Proofs.YtekmclbnbbhcmaaDoor
open Go.RowKit

set_option maxHeartbeats 1000000 in
theorem pathUnder_walk (s d : ByteArray) (w : World) (hs0 : s.size ≤ 140737488351232) (hd0 : d.size ≤ 140737488351232) :
    Calls Tryd.prog 4 #[.string s, .string d] w fun e w' => e = .returned (.bool true) ∧ Below w.heap.size w w' := by
  go_enter Tryd.func4, Tryd.ntmps4
  go_wp2_with fail
  refine (small_any _).mono ?_
  rintro e w1 ⟨rfl, b1⟩
  by_cases h1 : (300 : Int) < s.size
  · go_wp2
    go_ret
    exact ⟨rfl, b1⟩
  by_cases h2 : (300 : Int) < d.size
  · go_wp2
    go_ret
    exact ⟨rfl, b1⟩
  have hs : s.size < 4294967281 := by omega
  have hd : d.size < 4294967281 := by omega
  go_wp2_with fail
  refine (under_any s d _ hs hd).mono ?_
  rintro e w2 ⟨rfl, hb2⟩
  have b2 := below2 b1 hb2
  clear b1 hb2
  go_wp2_with fail
  refine (refUnder s d _ hs hd).mono ?_
  rintro e w3 ⟨rfl, hb3⟩
  have b3 := below2 b2 hb3
  clear b2 hb3
  have hq : ∀ b : Bool, (b == b) = true := by simp
  go_wp2_with fail
  refine (clash_any s d _ hs hd).mono ?_
  rintro e w4 ⟨rfl, hb4⟩
  have b4 := below2 b3 hb4
  clear b3 hb4
  go_wp2_with fail
  refine (refUnder s d _ hs hd).mono ?_
  rintro e w5 ⟨rfl, hb5⟩
  have b5 := below2 b4 hb5
  clear b4 hb5
  have HC := hid (show clashL s.data.toList d.data.toList = (underL s.data.toList d.data.toList || underL d.data.toList s.data.toList) from rfl)
  cases h : underL s.data.toList d.data.toList
  · rw [h, Bool.false_or] at HC
    go_wp2_with fail
    refine (refUnder d s _ hd hs).mono ?_
    rintro e w6 ⟨rfl, hb6⟩
    have b6 := below2 b5 hb6
    clear b5 hb6
    rw [HC.out]
    go_wp2
    go_ret
    exact ⟨rfl, b6⟩
  · rw [h, Bool.true_or] at HC
    rw [HC.out]
    go_wp2
    go_ret
    exact ⟨rfl, b5⟩
end Go.Proofs.YtekmclbnbbhcmaaDoor
