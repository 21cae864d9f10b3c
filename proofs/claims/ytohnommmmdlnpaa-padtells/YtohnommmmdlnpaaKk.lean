/- The document's answer of layer 5: Size, Bucket, Pad, Strip. -/
import Derived.Test.YtohnommmmdlnpaaKh
import Derived.Test.YtohnommmmdlnpaaRc
namespace Go.Proofs.Ytohnommmmdlnpaa
open Go.RowKit

set_option maxHeartbeats 400000 in
theorem ref5Size (b : Int) (w : World) : Calls Try.prog 18 #[.int .i64 b] w fun e w' => e = .returned (.int .i64 (sizeI b)) ∧ w = w' := by
  by_cases h : b < 0 ∨ 4 ≤ b
  · have k0 : (b == 0) = false := by rw [beq_eq_false_iff_ne]; omega
    have k1 : (b == 1) = false := by rw [beq_eq_false_iff_ne]; omega
    have k2 : (b == 2) = false := by rw [beq_eq_false_iff_ne]; omega
    have k3 : (b == 3) = false := by rw [beq_eq_false_iff_ne]; omega
    have HO := hid (sizeI_out b h)
    clear h
    go_enter Try.func18, Try.ntmps18
    go_wp2
    go_ret
    exact ⟨ret_int HO.out.symm, rfl⟩
  · rcases (by omega : b = 0 ∨ b = 1 ∨ b = 2 ∨ b = 3) with rfl | rfl | rfl | rfl
    all_goals
      go_enter Try.func18, Try.ntmps18
      go_wp2
      go_ret
      exact ⟨rfl, rfl⟩
set_option maxHeartbeats 1000000 in
theorem ref5Bucket (n : Int) (w : World) : Calls Try.prog 16 #[.int .i64 n] w fun e w' => e = .returned (.int .i64 (bucketI n)) ∧ w = w' := by
  by_cases h : n < 0
  · go_enter Try.func16, Try.ntmps16
    go_wp2_with fail
    go_loop [3] (fun i => i = .int .i64 0) (fun _ => 0)
    case atStart => rfl
    case round =>
      subst hrel
      go_wp2
      go_ret
      exact ⟨ret_int (by rw [bucketI, if_pos h]), rfl⟩
  · go_enter Try.func16, Try.ntmps16
    go_wp2_with fail
    go_loop [3] (fun i => ∃ j : Nat, j ≤ 4 ∧ i = .int .i64 j ∧ (0 < j → 76 < n) ∧ (1 < j → 316 < n) ∧ (2 < j → 1276 < n) ∧ (3 < j → 5116 < n)) (fun i => 4 - (intOf i).toNat)
    case atStart => exact ⟨0, by omega, rfl, by omega, by omega, by omega, by omega⟩
    case round =>
      obtain ⟨j, hj, rfl, h0, h1, h2, h3⟩ := hrel
      rcases (by omega : j = 0 ∨ j = 1 ∨ j = 2 ∨ j = 3 ∨ j = 4) with rfl | rfl | rfl | rfl | rfl
      · by_cases hk : n ≤ 76
        · go_wp2_with fail
          refine (ref5Size _ _).mono ?_
          rintro e wx ⟨rfl, rfl⟩
          rw [show sizeI 0 = 80 from rfl]
          go_wp2
          go_ret
          exact ⟨ret_int (by unfold bucketI; (repeat' split) <;> omega), rfl⟩
        · go_wp2_with fail
          refine (ref5Size _ _).mono ?_
          rintro e wx ⟨rfl, rfl⟩
          rw [show sizeI 0 = 80 from rfl]
          go_wp2
          go_round
          case rel => exact ⟨1, by omega, by go_num, by omega, by omega, by omega, by omega⟩
          case measure => simp [intOf]
      · by_cases hk : n ≤ 316
        · go_wp2_with fail
          refine (ref5Size _ _).mono ?_
          rintro e wx ⟨rfl, rfl⟩
          rw [show sizeI 1 = 320 from rfl]
          go_wp2
          go_ret
          exact ⟨ret_int (by unfold bucketI; (repeat' split) <;> omega), rfl⟩
        · go_wp2_with fail
          refine (ref5Size _ _).mono ?_
          rintro e wx ⟨rfl, rfl⟩
          rw [show sizeI 1 = 320 from rfl]
          go_wp2
          go_round
          case rel => exact ⟨2, by omega, by go_num, by omega, by omega, by omega, by omega⟩
          case measure => simp [intOf]
      · by_cases hk : n ≤ 1276
        · go_wp2_with fail
          refine (ref5Size _ _).mono ?_
          rintro e wx ⟨rfl, rfl⟩
          rw [show sizeI 2 = 1280 from rfl]
          go_wp2
          go_ret
          exact ⟨ret_int (by unfold bucketI; (repeat' split) <;> omega), rfl⟩
        · go_wp2_with fail
          refine (ref5Size _ _).mono ?_
          rintro e wx ⟨rfl, rfl⟩
          rw [show sizeI 2 = 1280 from rfl]
          go_wp2
          go_round
          case rel => exact ⟨3, by omega, by go_num, by omega, by omega, by omega, by omega⟩
          case measure => simp [intOf]
      · by_cases hk : n ≤ 5116
        · go_wp2_with fail
          refine (ref5Size _ _).mono ?_
          rintro e wx ⟨rfl, rfl⟩
          rw [show sizeI 3 = 5120 from rfl]
          go_wp2
          go_ret
          exact ⟨ret_int (by unfold bucketI; (repeat' split) <;> omega), rfl⟩
        · go_wp2_with fail
          refine (ref5Size _ _).mono ?_
          rintro e wx ⟨rfl, rfl⟩
          rw [show sizeI 3 = 5120 from rfl]
          go_wp2
          go_round
          case rel => exact ⟨4, by omega, by go_num, by omega, by omega, by omega, by omega⟩
          case measure => simp [intOf]
      · go_wp2
        go_ret
        exact ⟨ret_int (by unfold bucketI; (repeat' split) <;> omega), rfl⟩

set_option maxHeartbeats 1000000 in
theorem ref5Pad_no (s : ByteArray) (w : World) (h : 5116 < s.size) : Calls Try.prog 12 #[.string s] w fun e w' => e = .returned (.tuple #[.string ⟨#[]⟩, .int .i64 5]) ∧ Below w.heap.size w w' := by
  have HK := hid (bucket_no s.size h)
  go_enter Try.func12, Try.ntmps12
  go_wp2_with fail
  refine (ref5Bucket _ _).mono ?_
  rintro e w1 ⟨rfl, rfl⟩
  rw [HK.out]
  go_wp2
  go_ret2
  exact ⟨rfl, Below.refl _ _⟩
set_option maxHeartbeats 1000000 in
theorem ref5Pad_yes (s : ByteArray) (w : World) (h : s.size ≤ 5116) : Calls Try.prog 12 #[.string s] w fun e w' => e = .returned (.tuple #[.string (padB s), .int .i64 0]) ∧ Below w.heap.size w w' := by
  have HB := hid (bucket_yes s.size h)
  have HS := hid (size_bucket s.size h)
  have HL : Hid ((strB s).length = 4 + s.size) := by show _ = _; rw [strB_length]; omega
  have HG := hid (sizeN_ge s.size h)
  have HN := hid (sizeN_le s.size)
  have HD : Hid (toS (strB s) ++ toS (zer (sizeN s.size - (4 + s.size))) = padB s) := by show _ = _; rw [toS_append]; rfl
  generalize sizeN s.size = N at *
  have hge := HG.out
  have hle := HN.out
  obtain ⟨M, hM⟩ : ∃ M, N - (4 + s.size) = M := ⟨_, rfl⟩
  have hNM : N = 4 + s.size + M := by omega
  rw [hM] at HD
  subst hNM
  clear hM HG HN hge
  have hmk := make_zer M (by omega)
  obtain ⟨bk, hbk⟩ : ∃ bk, bucketI s.size = bk := ⟨_, rfl⟩
  have HK := hid hbk
  rw [hbk] at HB HS
  have hb0 : (0 : Int) ≤ bk := HB.out.1
  clear hbk
  go_enter Try.func12, Try.ntmps12
  go_wp2_with fail
  refine (ref5Bucket _ _).mono ?_
  rintro e w1 ⟨rfl, rfl⟩
  rw [HK.out]
  go_wp2_with fail
  refine (refString none 0 0 [] s _ rfl (.inl rfl) (by omega) (by unfold maxLen; omega)).mono ?_
  rintro e w3 ⟨A3, c3, rfl, hown3, b3⟩
  rw [HL.out, Nat.zero_add] at hown3 ⊢
  rw [List.nil_append] at hown3
  have hcv3 : (convert 23 9 (.slice A3 (4 + s.size) c3)).run Try.prog w3 = .ok (.string (toS (strB s))) w3 :=
    conv_rd w3 23 9 5 Try.underlying23 Try.underlying5 Try.underlying9 _ (4 + s.size) c3 (strB s) HL.out (Rd.of_own hown3)
  have hoz : (toS (strB s)).size = 4 + s.size := by rw [toS_size, HL.out]
  have hzz : (toS (zer M)).size = M := by rw [toS_size, zer_length]
  clear hown3
  go_wp2_with fail
  refine (ref5Size _ _).mono ?_
  rintro e wx ⟨rfl, rfl⟩
  rw [HS.out]
  have hcv4 : (convert 23 9 (.slice (some ⟨w3.heap.size, 0, none⟩) M M)).run Try.prog (w3.alloc (Obj.cells (by8 (zer M)).toArray 5)) = .ok (.string (toS (zer M))) (w3.alloc (Obj.cells (by8 (zer M)).toArray 5)) := conv_zer (Blk.new w3 (by8 (zer M)) 5)
  have hsub : (4 : Int) + s.size + M - (4 + s.size) = (M : Int) := by omega
  go_wp2
  rw [HD.out]
  go_ret2
  exact ⟨rfl, b3.alloc b3.size _⟩
/-- x is padded, in the document's words. -/
theorem strip_iff (x : ByteArray) : stripY x ↔ (innerL x).2.2 = 0 ∧ (innerL x).1.length ≤ 5116 ∧ padB (toS (innerL x).1) = x := by
  constructor
  · rintro ⟨h1, h2, h3⟩
    exact ⟨h2, by have := inner_size x h2; omega, h3⟩
  · rintro ⟨h2, h4, h3⟩
    refine ⟨?_, h2, h3⟩
    rw [← h3, padB_size _ (by rw [toS_size]; exact h4)]
    exact sizeN_four _
set_option maxHeartbeats 1000000 in
theorem ref5Strip (x : ByteArray) (w : World) (hx : x.size ≤ 140737488355328) : Calls Try.prog 14 #[.string x] w fun e w' => e = .returned (.tuple #[.string (stripV x), .int .i64 (stripE x)]) ∧ Below w.heap.size w w' := by
  obtain ⟨c1, w1, hc1, hc2, hcv, hbs, b1⟩ := conv_bytesC x w hx
  go_enter Try.func14, Try.ntmps14
  go_wp2_with fail
  have hR : RefAt (w1.alloc (Obj.cells #[Value.slice (some ⟨w.heap.size, 0, none⟩) x.size c1, .int .i64 0, .int .i64 0] 45)) w1.heap.size (some ⟨w.heap.size, 0, none⟩) c1 x.data.toList 0 0 := by
    refine ⟨?_, hbs.rd.alloc _, by rw [size_list]; exact hc1, hc2, Nat.zero_le _⟩
    rw [size_list]
    exact Blk.new w1 [Value.slice (some ⟨w.heap.size, 0, none⟩) x.size c1, .int .i64 0, .int .i64 0] _
  refine (refRString w1.heap.size _ c1 x.data.toList 0 0 x.size _ hR (by rw [size_list]; omega)).mono ?_
  rintro e w2 ⟨rfl, hR2, hgr⟩
  have b2 : Below w.heap.size w w2 := (b1.alloc b1.size _).grown hgr (by have := b1.size; simp; omega) (by intro k hk; injection hk with hk; have := b1.size; omega)
  clear hgr hR hbs b1 hcv
  have HI := hid (show innerL x = rStr x.data.toList 0 0 x.size from rfl)
  obtain ⟨⟨y, p, er⟩, hy⟩ : ∃ z, rStr x.data.toList 0 0 x.size = z := ⟨_, rfl⟩
  rw [hy] at HI hR2 ⊢
  clear hy
  simp only at hR2 ⊢
  have HY := hid (strip_iff x)
  rw [HI.out] at HY
  simp only at HY
  by_cases hyl : y.length ≤ 5116
  · go_wp2_with fail
    refine (ref5Pad_yes (toS y) _ (by rw [toS_size]; exact hyl)).mono ?_
    rintro e w3 ⟨rfl, b3⟩
    have hR3 := hR2.below b3
    replace b3 := below2 b2 b3
    have c2 := hR3.1.cell 2
    simp only [List.getElem?_cons_zero, List.getElem?_cons_succ] at c2
    clear hR2 hR3 b2
    by_cases he : er = 0
    · subst he
      by_cases hq : padB (toS y) = x
      · have hyy : stripY x := HY.out.2 ⟨rfl, hyl, hq⟩
        have HV := hid (show stripV x = toS y by rw [stripV, if_pos hyy, HI.out])
        have HE := hid (show stripE x = 0 by rw [stripE, if_pos hyy])
        rw [hq]
        clear hyy hq HY HI
        go_wp2
        go_ret2
        rw [HV.out, HE.out]
        exact ⟨rfl, b3⟩
      · have hn : ¬ stripY x := fun h => hq (HY.out.1 h).2.2
        have HV := hid (show stripV x = ⟨#[]⟩ by rw [stripV, if_neg hn])
        have HE := hid (show stripE x = 4 by rw [stripE, if_neg hn])
        have hpx := strs_ne hq
        clear hq hn HY HI
        generalize padB (toS y) = pp at *
        go_wp2
        go_ret2
        rw [HV.out, HE.out]
        exact ⟨rfl, b3⟩
    · have hn : ¬ stripY x := fun h => he (HY.out.1 h).1
      have HV := hid (show stripV x = ⟨#[]⟩ by rw [stripV, if_neg hn])
      have HE := hid (show stripE x = 4 by rw [stripE, if_neg hn])
      have he' : (er != 0) = true := by simp [he]
      clear hn HY HI
      generalize padB (toS y) = pp at *
      go_wp2
      go_ret2
      rw [HV.out, HE.out]
      exact ⟨rfl, b3⟩
  · have hn : ¬ stripY x := fun h => hyl (HY.out.1 h).2.1
    have HV := hid (show stripV x = ⟨#[]⟩ by rw [stripV, if_neg hn])
    have HE := hid (show stripE x = 4 by rw [stripE, if_neg hn])
    clear hn HY HI
    go_wp2_with fail
    refine (ref5Pad_no (toS y) _ (by rw [toS_size]; omega)).mono ?_
    rintro e w3 ⟨rfl, b3⟩
    have hR3 := hR2.below b3
    replace b3 := below2 b2 b3
    have c2 := hR3.1.cell 2
    simp only [List.getElem?_cons_zero, List.getElem?_cons_succ] at c2
    clear hR2 hR3 b2
    by_cases he : er = 0
    · subst he
      go_wp2
      go_ret2
      rw [HV.out, HE.out]
      exact ⟨rfl, b3⟩
    · have he' : (er != 0) = true := by simp [he]
      go_wp2
      go_ret2
      rw [HV.out, HE.out]
      exact ⟨rfl, b3⟩
end Go.Proofs.Ytohnommmmdlnpaa
