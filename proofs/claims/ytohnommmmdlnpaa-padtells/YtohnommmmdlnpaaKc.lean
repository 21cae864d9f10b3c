/- Package pad: Pad, Strip. -/
import Derived.Test.YtohnommmmdlnpaaKb
import Derived.Test.YtohnommmmdlnpaaByt
import Derived.Laws.CopyOwn
namespace Go.Proofs.Ytohnommmmdlnpaa
open Go.RowKit

theorem pad_splice (s : ByteArray) (h : s.size ≤ 5116) : splice (by8 (zer (sizeN s.size))) 0 (by8 (strB s)) = by8 (padL s) := by
  have hl : (strB s).length = 4 + s.size := by rw [strB_length]; omega
  unfold splice padL
  rw [List.take_zero, List.nil_append, by8_append, Nat.zero_add, by8_length, hl]
  simp [by8, zer]

/-- copy of bytes onto a row that is known whole. -/
theorem copy_bytes {w : World} {g : Nat} {z x : List UInt8} (ty : TypeId) (hB : Blk w g (by8 z) 5) (A : Option Addr) (n m c d : Nat) (hz : z.length = n) (hx : x.length = m) (h0 : 0 < m) (hm : m ≤ n) (hr : Rd w A (by8 x)) :
    ∃ v w', (Builtin.copy_ #[23, 23] ty #[.slice (some ⟨g, 0, none⟩) n d, .slice A m c]).run Try.prog w = .ok v w' ∧ Blk w' g (splice (by8 z) 0 (by8 x)) 5 ∧ w'.heap.size = w.heap.size ∧ ∀ B w0, Below B w0 w → B ≤ g → Below B w0 w' := by
  rcases hr with h | ⟨ad, rfl, hc⟩
  · have h1 := congrArg List.length h
    rw [by8_length, hx] at h1
    simp at h1
    omega
  · have hrun := run_copy_row Try.prog w 23 23 ty 5 g 0 n d ad m c (by8 z).toArray 5 (by8 x) Try.underlying23 (by kernel_rfl) hB (by rw [by8_length, hx]; exact (Nat.min_eq_left hm).symm) hc (by simp [by8_length, hx, hz]; omega) (by8_one _)
    refine ⟨_, _, hrun, ?_, ?_, ?_⟩
    · have e : ((by8 z).toArray.toList.take 0 ++ by8 x ++ (by8 z).toArray.toList.drop (0 + (by8 x).length)) = splice (by8 z) 0 (by8 x) := by simp [splice]
      rw [e]
      exact setRow_heap w g (by8 z).toArray (splice (by8 z) 0 (by8 x)).toArray 5 (0, 0) hB
    · simp
    · intro B w0 hb hBg
      exact below_setRow hb hBg _

set_option maxHeartbeats 1000000 in
theorem pad_yes (s : ByteArray) (w : World) (h : s.size ≤ 5116) : Calls Try.prog 11 #[.string s] w fun e w' => e = .returned (.tuple #[.string (padB s), .int .i64 0]) ∧ Below w.heap.size w w' := by
  have HB := hid (bucket_yes s.size h)
  have HS := hid (size_bucket s.size h)
  have HP := hid (pad_splice s h)
  have HL : Hid ((strB s).length = 4 + s.size) := by show _ = _; rw [strB_length]; omega
  have HG := hid (sizeN_ge s.size h)
  have HN := hid (sizeN_le s.size)
  have HD := hid (padL_length s h)
  generalize hN : sizeN s.size = N at *
  clear hN
  have hmk := make_zer N (by have := HN.out; omega)
  obtain ⟨bk, hbk⟩ : ∃ bk, bucketI s.size = bk := ⟨_, rfl⟩
  have HK := hid hbk
  rw [hbk] at HB HS
  have hb0 : (0 : Int) ≤ bk := HB.out.1
  clear hbk
  go_enter Try.func11, Try.ntmps11
  go_wp2_with fail
  refine (bucket_any _ _).mono ?_
  rintro e w1 ⟨rfl, b1⟩
  rw [HK.out]
  go_wp2_with fail
  refine (size_any _ _).mono ?_
  rintro e w2 ⟨rfl, b2⟩
  rw [HS.out]
  replace b2 := below2 b1 b2
  clear b1
  go_wp2_with fail
  refine (string_any none 0 0 [] s _ rfl (.inl rfl) (by omega) (by unfold maxLen; omega)).mono ?_
  rintro e w3 ⟨A3, c3, rfl, hown3, b3⟩
  rw [HL.out, Nat.zero_add] at hown3 ⊢
  rw [List.nil_append] at hown3
  have hB := (Blk.new w2 (by8 (zer N)) 5).below b3
  have b3' : Below w.heap.size w w3 := below2 b2 (below_new _ b3)
  have hr3 := Rd.of_own hown3
  clear b3
  obtain ⟨v4, w4, hcp, hB4', -, hb4⟩ := copy_bytes 3 hB A3 N (4 + s.size) c3 N (zer_length N) HL.out (by omega) HG.out hr3
  have b4 := hb4 _ _ b3' b2.size
  have hB4 : Blk w4 w2.heap.size (by8 (padL s)) 5 := by
    rw [HP.out] at hB4'
    exact hB4'
  clear hB4' hb4 hB b3' hr3 hown3
  have hcv : (convert 23 9 (.slice (some ⟨w2.heap.size, 0, none⟩) N N)).run Try.prog w4 = .ok (.string (padB s)) w4 :=
    conv_rd w4 23 9 5 Try.underlying23 Try.underlying5 Try.underlying9 _ N N (padL s) HD.out hB4.rd
  go_wp2
  go_ret2
  exact ⟨rfl, b4⟩
set_option maxHeartbeats 400000 in
theorem pad_no (s : ByteArray) (w : World) (h : 5116 < s.size) : Calls Try.prog 11 #[.string s] w fun e w' => e = .returned (.tuple #[.string ⟨#[]⟩, .int .i64 5]) ∧ Below w.heap.size w w' := by
  have HK := hid (bucket_no s.size h)
  go_enter Try.func11, Try.ntmps11
  go_wp2_with fail
  refine (bucket_any _ _).mono ?_
  rintro e w1 ⟨rfl, b1⟩
  rw [HK.out]
  go_wp2
  go_ret2
  exact ⟨rfl, b1⟩

theorem strs_ne {a b : ByteArray} (h : a ≠ b) : (a.toList == b.toList) = false := by
  rw [beq_eq_false_iff_ne]
  intro e
  rw [ByteArray.toList_eq, ByteArray.toList_eq] at e
  refine h ?_
  rw [← toS_data a, ← toS_data b, e]
theorem isSize_no {n : Nat} (h : isSize (n : Int) = false) : ¬ (n = 80 ∨ n = 320 ∨ n = 1280 ∨ n = 5120) := by
  simp [isSize] at h
  omega
theorem isSize_yes {n : Nat} (h : isSize (n : Int) = true) : n = 80 ∨ n = 320 ∨ n = 1280 ∨ n = 5120 := by
  simp [isSize] at h
  omega

set_option maxHeartbeats 1000000 in
theorem strip_any (x : ByteArray) (w : World) : Calls Try.prog 13 #[.string x] w fun e w' => e = .returned (.tuple #[.string (stripV x), .int .i64 (stripE x)]) ∧ Below w.heap.size w w' := by
  go_enter Try.func13, Try.ntmps13
  go_wp2_with fail
  refine (sizesS_any _).mono ?_
  rintro e w1 ⟨g1, rfl, hB1, -, b1⟩
  go_wp2_with fail
  refine (contains_any g1 _ x.size _ hB1).mono ?_
  rintro e wx ⟨rfl, rfl⟩
  clear hB1
  cases hs : isSize (x.size : Int)
  · have hn : ¬ stripY x := fun h => isSize_no hs h.1
    have HV := hid (show stripV x = ⟨#[]⟩ by rw [stripV, if_neg hn])
    have HE := hid (show stripE x = 4 by rw [stripE, if_neg hn])
    clear hn hs
    go_wp2
    go_ret2
    rw [HV.out, HE.out]
    exact ⟨rfl, b1⟩
  · have HS := hid (isSize_yes hs)
    have hxs : x.size ≤ 5120 := by have := HS.out; omega
    clear hs
    obtain ⟨c2, w2, hcv, hbs, b2⟩ := conv_bytes x w1
    replace b2 := below2 b1 b2
    clear b1
    have hrd := hbs.rd
    clear hbs
    go_wp2_with fail
    refine (read_any _ x.size c2 x.data.toList _ (size_list x) hrd (by omega)).mono ?_
    rintro e w3 ⟨g3, A3, c3, rfl, hR3, hg3, b3⟩
    have b3' := below2 b2 b3
    clear hrd
    go_wp2_with fail
    refine (rdString g3 A3 c3 x.data.toList 0 0 x.size _ hR3 (by rw [size_list]; omega)).mono ?_
    rintro e w4 ⟨rfl, hR4, hgr4⟩
    have b4 : Below w.heap.size w w4 := b3'.grown hgr4 b3'.size (by intro k hk; injection hk with hk; have := b2.size; omega)
    clear b3 b3' hgr4 hR3 hg3 b2
    have HI := hid (show innerL x = rStr x.data.toList 0 0 x.size from rfl)
    obtain ⟨⟨y, p, er⟩, hy⟩ : ∃ z, rStr x.data.toList 0 0 x.size = z := ⟨_, rfl⟩
    rw [hy] at HI hR4 ⊢
    clear hy
    simp only at hR4 ⊢
    go_wp2_with fail
    refine (rdErr g3 A3 c3 x.data.toList p er _ hR4).mono ?_
    rintro e wx ⟨rfl, rfl⟩
    clear hR4
    by_cases he : er = 0
    · subst he
      have hz := inner_size x (by rw [HI.out])
      rw [HI.out] at hz
      have hyz : (toS y).size ≤ 5116 := by rw [toS_size]; simp only at hz; omega
      go_wp2_with fail
      refine (pad_yes (toS y) _ hyz).mono ?_
      rintro e w5 ⟨rfl, b5⟩
      replace b5 := below2 b4 b5
      clear b4
      have HP := hid (show padB (toS y) = padB (toS y) from rfl)
      by_cases hq : padB (toS y) = x
      · have hy : stripY x := ⟨HS.out, by rw [HI.out], by rw [HI.out]; exact hq⟩
        have HV := hid (show stripV x = toS y by rw [stripV, if_pos hy, HI.out])
        have HE := hid (show stripE x = 0 by rw [stripE, if_pos hy])
        rw [hq]
        clear hy hq HP
        go_wp2
        go_ret2
        rw [HV.out, HE.out]
        exact ⟨rfl, b5⟩
      · have hn : ¬ stripY x := fun h => hq (by have := h.2.2; rw [HI.out] at this; exact this)
        have HV := hid (show stripV x = ⟨#[]⟩ by rw [stripV, if_neg hn])
        have HE := hid (show stripE x = 4 by rw [stripE, if_neg hn])
        have HQ := hid hq
        clear hq hn HP
        generalize padB (toS y) = pp at *
        have hpx := strs_ne HQ.out
        go_wp2
        go_ret2
        rw [HV.out, HE.out]
        exact ⟨rfl, b5⟩
    · have hn : ¬ stripY x := fun h => he (by have := h.2.1; rw [HI.out] at this; exact this)
      have HV := hid (show stripV x = ⟨#[]⟩ by rw [stripV, if_neg hn])
      have HE := hid (show stripE x = 4 by rw [stripE, if_neg hn])
      clear hn
      have he' : (er != 0) = true := by simp [he]
      go_wp2
      go_ret2
      rw [HV.out, HE.out]
      exact ⟨rfl, b4⟩
end Go.Proofs.Ytohnommmmdlnpaa
