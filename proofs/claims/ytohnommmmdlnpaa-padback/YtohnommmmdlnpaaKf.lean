/- PadBack: the walk. -/
import Derived.Test.YtohnommmmdlnpaaKd
namespace Go.Proofs.Ytohnommmmdlnpaa
open Go.RowKit

set_option maxHeartbeats 4000000 in
set_option maxRecDepth 20000 in
theorem padBack_walk (s t : ByteArray) (w : World) (_ : s.size ≤ 140737488351232) (_ : t.size ≤ 140737488351232) :
    Calls Try.prog 4 #[.string s, .string t] w fun e w' => e = .returned (.bool true) ∧ Below w.heap.size w w' := by
  go_enter Try.func4, Try.ntmps4
  go_wp2_with fail
  refine (small_any _).mono ?_
  rintro e w1 ⟨rfl, b1⟩
  by_cases h1 : (6000 : Int) < s.size
  · go_wp2
    go_ret
    exact ⟨rfl, b1⟩
  by_cases h2 : (6000 : Int) < t.size
  · go_wp2
    go_ret
    exact ⟨rfl, b1⟩
  by_cases hs : s.size ≤ 5116
  · by_cases ht : t.size ≤ 5116
    · have HS := hid (strip_pad s hs)
      have HI : Hid (padB s = padB t → s = t) := fun h => pad_inj hs ht h
      have HN := hid (padB_size s hs)
      have HM := hid (padB_size t ht)
      have HBS := hid (bucket_same s.size t.size hs ht)
      have HZ := hid (size_bucket s.size hs)
      have HY := hid (bucket_yes s.size hs).1
      go_wp2_with fail
      refine (pad_yes s _ hs).mono ?_
      rintro e w2 ⟨rfl, b2⟩
      replace b2 := below2 b1 b2
      clear b1
      go_wp2_with fail
      refine (pad_yes t _ ht).mono ?_
      rintro e w3 ⟨rfl, b3⟩
      replace b3 := below2 b2 b3
      clear b2
      go_wp2_with fail
      refine (bucket_any _ _).mono ?_
      rintro e w4 ⟨rfl, b4⟩
      replace b4 := below2 b3 b4
      clear b3
      generalize hbk : bucketI s.size = bk at *
      generalize hbl : bucketI t.size = bl at *
      generalize sizeN s.size = N at *
      generalize sizeN t.size = M at *
      have HBK := hid hbk
      have HBL := hid hbl
      have hy := HY.out
      clear hbk hbl
      obtain ⟨p, hp⟩ : ∃ p, padB s = p := ⟨_, rfl⟩
      obtain ⟨q, hq⟩ : ∃ q, padB t = q := ⟨_, rfl⟩
      have HPQ : Hid (s = t → p = q) := fun h => by rw [← hp, ← hq, h]
      rw [hp] at HS HI HN ⊢
      rw [hq] at HI HM ⊢
      clear hp hq
      go_wp2_with fail
      refine (strip_any _ _).mono ?_
      rintro e w5 ⟨rfl, b5⟩
      replace b5 := below2 b4 b5
      clear b4
      rw [HS.out.1, HS.out.2]
      clear HS
      go_wp2_with fail
      refine (bucket_any _ _).mono ?_
      rintro e w6 ⟨rfl, b6⟩
      replace b6 := below2 b5 b6
      clear b5
      rw [HBK.out]
      go_wp2_with fail
      refine (size_any _ _).mono ?_
      rintro e w7 ⟨rfl, b7⟩
      replace b7 := below2 b6 b7
      clear b6
      rw [HZ.out]
      have hpn := HN.out
      go_wp2_with fail
      refine (bucket_any _ _).mono ?_
      rintro e w8 ⟨rfl, b8⟩
      replace b8 := below2 b7 b8
      clear b7
      rw [HBK.out]
      go_wp2_with fail
      refine (bucket_any _ _).mono ?_
      rintro e w9 ⟨rfl, b9⟩
      replace b9 := below2 b8 b9
      clear b8
      rw [HBL.out]
      have hqm := HM.out
      clear HBK HBL HZ HY HN HM
      have hA : ((N : Int) == M) = (bk == bl) := by
        rw [Bool.eq_iff_iff, beq_iff_eq, beq_iff_eq, ← HBS.out]
        omega
      have hB : (p.toList == q.toList) = (s.toList == t.toList) := by
        by_cases e : s = t
        · rw [HPQ.out e, e, BEq.rfl, BEq.rfl]
        · rw [strs_ne e, strs_ne (fun h => e (HI.out h))]
      clear HPQ HI HBS
      go_wp2
      go_ret
      exact ⟨rfl, b9⟩
    · go_wp2_with fail
      refine (pad_yes s _ hs).mono ?_
      rintro e w2 ⟨rfl, b2⟩
      replace b2 := below2 b1 b2
      clear b1
      generalize padB s = p at *
      have HY := hid (bucket_yes s.size hs).1
      go_wp2_with fail
      refine (pad_no t _ (by omega)).mono ?_
      rintro e w3 ⟨rfl, b3⟩
      replace b3 := below2 b2 b3
      clear b2
      go_wp2_with fail
      refine (bucket_any _ _).mono ?_
      rintro e w4 ⟨rfl, b4⟩
      replace b4 := below2 b3 b4
      clear b3
      generalize bucketI s.size = bk at *
      have hy := HY.out
      go_wp2
      go_ret
      exact ⟨rfl, b4⟩
  · have HK := hid (bucket_no s.size (by omega))
    go_wp2_with fail
    refine (pad_no s _ (by omega)).mono ?_
    rintro e w2 ⟨rfl, b2⟩
    replace b2 := below2 b1 b2
    clear b1
    go_wp2_with fail
    by_cases ht : t.size ≤ 5116
    · refine (pad_yes t _ ht).mono ?_
      rintro e w3 ⟨rfl, b3⟩
      replace b3 := below2 b2 b3
      clear b2
      generalize padB t = q at *
      go_wp2_with fail
      refine (bucket_any _ _).mono ?_
      rintro e w4 ⟨rfl, b4⟩
      replace b4 := below2 b3 b4
      clear b3
      rw [HK.out]
      go_wp2
      go_ret
      exact ⟨rfl, b4⟩
    · refine (pad_no t _ (by omega)).mono ?_
      rintro e w3 ⟨rfl, b3⟩
      replace b3 := below2 b2 b3
      clear b2
      go_wp2_with fail
      refine (bucket_any _ _).mono ?_
      rintro e w4 ⟨rfl, b4⟩
      replace b4 := below2 b3 b4
      clear b3
      rw [HK.out]
      go_wp2
      go_ret
      exact ⟨rfl, b4⟩
end Go.Proofs.Ytohnommmmdlnpaa
