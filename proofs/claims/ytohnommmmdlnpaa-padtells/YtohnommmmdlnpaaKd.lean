/- The small case. -/
import Derived.Test.YtohnommmmdlnpaaKc
namespace Go.Proofs.Ytohnommmmdlnpaa
open Go.RowKit

theorem strip_size {x : ByteArray} (h : ¬ (x.size = 80 ∨ x.size = 320 ∨ x.size = 1280 ∨ x.size = 5120)) : stripE x = 4 ∧ stripV x = ⟨#[]⟩ := by
  have hn : ¬ stripY x := fun hy => h hy.1
  exact ⟨by rw [stripE, if_neg hn], by rw [stripV, if_neg hn]⟩

set_option maxHeartbeats 4000000 in
set_option maxRecDepth 20000 in
theorem small_any (w : World) : Calls Try.prog 10 #[] w fun e w' => e = .returned (.bool true) ∧ Below w.heap.size w w' := by
  have hs2 : (⟨#[97, 98]⟩ : ByteArray).size ≤ 5116 := by decide
  have HZ : Hid ((padB ⟨#[97, 98]⟩).size = 80) := padB_size _ hs2
  have HS := hid (strip_pad ⟨#[97, 98]⟩ hs2)
  go_enter Try.func10, Try.ntmps10
  go_wp2_with fail
  refine (pad_yes _ _ hs2).mono ?_
  rintro e w1 ⟨rfl, b1⟩
  generalize padB ⟨#[97, 98]⟩ = p at *
  have hpz := HZ.out
  go_wp2_with fail
  refine (strip_any _ _).mono ?_
  rintro e w2 ⟨rfl, b2⟩
  replace b2 := below2 b1 b2
  clear b1
  rw [HS.out.1, HS.out.2]
  have HQ := hid (strip_size (x := p ++ ⟨#[0]⟩) (by rw [ByteArray.size_append, hpz]; decide))
  clear HS
  go_wp2_with fail
  refine (strip_any _ _).mono ?_
  rintro e w3 ⟨rfl, b3⟩
  replace b3 := below2 b2 b3
  clear b2
  rw [HQ.out.1, HQ.out.2]
  clear HQ
  go_wp2_with fail
  refine (sizesS_any _).mono ?_
  rintro e w4 ⟨g, rfl, hB, -, b4⟩
  replace b4 := below2 b3 b4
  clear b3
  go_wp2_with fail
  refine (bucket_any _ _).mono ?_
  rintro e w5 ⟨rfl, b5⟩
  replace hB := hB.below b5
  replace b5 := below2 b4 b5
  clear b4
  rw [show bucketI 76 = 0 from rfl]
  go_wp2_with fail
  refine (bucket_any _ _).mono ?_
  rintro e w6 ⟨rfl, b6⟩
  replace hB := hB.below b6
  replace b6 := below2 b5 b6
  clear b5
  rw [show bucketI 77 = 1 from rfl]
  go_wp2_with fail
  refine (bucket_any _ _).mono ?_
  rintro e w7 ⟨rfl, b7⟩
  replace hB := hB.below b7
  replace b7 := below2 b6 b7
  clear b6
  rw [show bucketI 5117 = -1 from rfl]
  go_wp2_with fail
  refine (size_any _ _).mono ?_
  rintro e w8 ⟨rfl, b8⟩
  replace hB := hB.below b8
  replace b8 := below2 b7 b8
  clear b7
  rw [show sizeI 3 = 5120 from rfl]
  go_wp2_with fail
  refine (size_any _ _).mono ?_
  rintro e w9 ⟨rfl, b9⟩
  replace hB := hB.below b9
  replace b9 := below2 b8 b9
  clear b8
  rw [show sizeI 4 = 0 from rfl]
  have c1 := hB.cell 1
  simp only [sizesV, List.getElem?_cons_zero, List.getElem?_cons_succ] at c1
  go_wp2
  go_ret
  exact ⟨rfl, b9⟩
end Go.Proofs.Ytohnommmmdlnpaa
