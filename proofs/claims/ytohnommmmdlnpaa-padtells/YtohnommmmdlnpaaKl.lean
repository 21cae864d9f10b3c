/- PadTells: the walk. -/
import Derived.Test.YtohnommmmdlnpaaKk
namespace Go.Proofs.Ytohnommmmdlnpaa
open Go.RowKit

set_option maxHeartbeats 4000000 in
set_option maxRecDepth 20000 in
theorem padTells_walk (n : Int) (s : ByteArray) (more : Int) (w : World) (_ : (Lit.int .i64 n).wf = true) (_ : s.size ≤ 140737488351232) (_ : (Lit.int .i64 more).wf = true) :
    Calls Try.prog 3 #[.int .i64 n, .string s, .int .i64 more] w fun e w' => e = .returned (.bool true) ∧ Below w.heap.size w w' := by
  go_enter Try.func3, Try.ntmps3
  go_wp2_with fail
  refine (small_any _).mono ?_
  rintro e w1 ⟨rfl, b1⟩
  by_cases h1 : (6000 : Int) < s.size
  · go_wp2
    go_ret
    exact ⟨rfl, b1⟩
  by_cases h2 : more < 0
  · go_wp2
    go_ret
    exact ⟨rfl, b1⟩
  by_cases h3 : 6000 < more
  · go_wp2
    go_ret
    exact ⟨rfl, b1⟩
  obtain ⟨m, rfl⟩ : ∃ m : Nat, more = m := ⟨more.toNat, by omega⟩
  have hmk := make_zer m (by omega)
  have hzz : (toS (zer m)).size = m := by rw [toS_size, zer_length]
  have HXZ : Hid ((s ++ toS (zer m)).size = s.size + m) := by show _ = _; rw [ByteArray.size_append, hzz]
  have hcv : (convert 23 9 (.slice (some ⟨w1.heap.size, 0, none⟩) m m)).run Try.prog (w1.alloc (Obj.cells (by8 (zer m)).toArray 5)) = .ok (.string (toS (zer m))) (w1.alloc (Obj.cells (by8 (zer m)).toArray 5)) := conv_zer (Blk.new w1 (by8 (zer m)) 5)
  have b2 := b1.alloc b1.size (Obj.cells (by8 (zer m)).toArray 5)
  clear b1
  by_cases hx : s.size + m ≤ 5116
  · go_wp2_with fail
    refine (pad_yes (s ++ toS (zer m)) _ (by rw [HXZ.out]; exact hx)).mono ?_
    rintro e w3 ⟨rfl, b3⟩
    replace b3 := below2 b2 b3
    clear b2
    clear hcv hmk
    go_wp2_with fail
    refine (ref5Pad_yes (s ++ toS (zer m)) _ (by rw [HXZ.out]; exact hx)).mono ?_
    rintro e w4 ⟨rfl, b4⟩
    replace b4 := below2 b3 b4
    clear b3
    go_wp2_with fail
    refine (strip_any _ _).mono ?_
    rintro e w5 ⟨rfl, b5⟩
    replace b5 := below2 b4 b5
    clear b4
    go_wp2_with fail
    refine (ref5Strip (s ++ toS (zer m)) _ (by rw [HXZ.out]; omega)).mono ?_
    rintro e w6 ⟨rfl, b6⟩
    replace b6 := below2 b5 b6
    clear b5
    generalize padB (s ++ toS (zer m)) = p at *
    generalize stripV (s ++ toS (zer m)) = v at *
    generalize stripE (s ++ toS (zer m)) = er at *
    go_wp2_with fail
    refine (bucket_any n _).mono ?_
    rintro e w7 ⟨rfl, b7⟩
    replace b7 := below2 b6 b7
    clear b6
    go_wp2_with fail
    refine (ref5Bucket n _).mono ?_
    rintro e wx ⟨rfl, rfl⟩
    generalize bucketI n = bk at *
    go_wp2_with fail
    refine (size_any n _).mono ?_
    rintro e w8 ⟨rfl, b8⟩
    replace b8 := below2 b7 b8
    clear b7
    go_wp2_with fail
    refine (ref5Size n _).mono ?_
    rintro e wx ⟨rfl, rfl⟩
    generalize sizeI n = sz at *
    go_wp2
    go_ret
    exact ⟨rfl, b8⟩
  · go_wp2_with fail
    refine (pad_no (s ++ toS (zer m)) _ (by rw [HXZ.out]; omega)).mono ?_
    rintro e w3 ⟨rfl, b3⟩
    replace b3 := below2 b2 b3
    clear b2
    clear hcv hmk
    go_wp2_with fail
    refine (ref5Pad_no (s ++ toS (zer m)) _ (by rw [HXZ.out]; omega)).mono ?_
    rintro e w4 ⟨rfl, b4⟩
    replace b4 := below2 b3 b4
    clear b3
    go_wp2_with fail
    refine (strip_any _ _).mono ?_
    rintro e w5 ⟨rfl, b5⟩
    replace b5 := below2 b4 b5
    clear b4
    go_wp2_with fail
    refine (ref5Strip (s ++ toS (zer m)) _ (by rw [HXZ.out]; omega)).mono ?_
    rintro e w6 ⟨rfl, b6⟩
    replace b6 := below2 b5 b6
    clear b5
    generalize stripV (s ++ toS (zer m)) = v at *
    generalize stripE (s ++ toS (zer m)) = er at *
    go_wp2_with fail
    refine (bucket_any n _).mono ?_
    rintro e w7 ⟨rfl, b7⟩
    replace b7 := below2 b6 b7
    clear b6
    go_wp2_with fail
    refine (ref5Bucket n _).mono ?_
    rintro e wx ⟨rfl, rfl⟩
    generalize bucketI n = bk at *
    go_wp2_with fail
    refine (size_any n _).mono ?_
    rintro e w8 ⟨rfl, b8⟩
    replace b8 := below2 b7 b8
    clear b7
    go_wp2_with fail
    refine (ref5Size n _).mono ?_
    rintro e wx ⟨rfl, rfl⟩
    generalize sizeI n = sz at *
    go_wp2
    go_ret
    exact ⟨rfl, b8⟩
end Go.Proofs.Ytohnommmmdlnpaa
