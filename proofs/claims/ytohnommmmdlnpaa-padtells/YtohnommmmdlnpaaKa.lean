/- Package pad, plainly: sizes, buckets, what is padded, and stripped. -/
import Derived.Test.YtohnommmmdlnpaaPa
namespace Go.Proofs.Ytohnommmmdlnpaa

/-- The first bucket that is wide enough. -/
def bucketI (n : Int) : Int := if n < 0 then -1 else if n ≤ 76 then 0 else if n ≤ 316 then 1 else if n ≤ 1276 then 2 else if n ≤ 5116 then 3 else -1
/-- A bucket's size. -/
def sizeI (b : Int) : Int := if b = 0 then 80 else if b = 1 then 320 else if b = 2 then 1280 else if b = 3 then 5120 else 0
/-- The size of the bucket of n bytes, where there is one. -/
def sizeN (n : Nat) : Nat := if n ≤ 76 then 80 else if n ≤ 316 then 320 else if n ≤ 1276 then 1280 else 5120
theorem bucket_cases (n : Nat) (h : n ≤ 5116) : (n ≤ 76 ∧ bucketI n = 0 ∧ sizeN n = 80) ∨ (76 < n ∧ n ≤ 316 ∧ bucketI n = 1 ∧ sizeN n = 320) ∨ (316 < n ∧ n ≤ 1276 ∧ bucketI n = 2 ∧ sizeN n = 1280) ∨ (1276 < n ∧ n ≤ 5116 ∧ bucketI n = 3 ∧ sizeN n = 5120) := by
  unfold sizeN bucketI
  (repeat' split) <;> omega
theorem sizeN_four (n : Nat) : sizeN n = 80 ∨ sizeN n = 320 ∨ sizeN n = 1280 ∨ sizeN n = 5120 := by
  unfold sizeN
  (repeat' split) <;> omega
theorem sizeN_ge (n : Nat) (h : n ≤ 5116) : 4 + n ≤ sizeN n := by
  have := bucket_cases n h
  omega
theorem sizeN_le (n : Nat) : sizeN n ≤ 5120 := by
  have := sizeN_four n
  omega
theorem size_bucket (n : Nat) (h : n ≤ 5116) : sizeI (bucketI n) = sizeN n := by
  rcases bucket_cases n h with ⟨_, h1, h2⟩ | ⟨_, _, h1, h2⟩ | ⟨_, _, h1, h2⟩ | ⟨_, _, h1, h2⟩ <;> rw [h1, h2] <;> rfl
theorem bucket_yes (n : Nat) (h : n ≤ 5116) : 0 ≤ bucketI n ∧ bucketI n ≤ 3 := by
  have := bucket_cases n h
  omega
theorem bucket_no (n : Nat) (h : 5116 < n) : bucketI n = -1 := by
  unfold bucketI
  (repeat' split) <;> omega
theorem bucket_same (n m : Nat) (hn : n ≤ 5116) (hm : m ≤ 5116) : sizeN n = sizeN m ↔ bucketI n = bucketI m := by
  have := bucket_cases n hn
  have := bucket_cases m hm
  omega

/-- What Pad makes of s. -/
def padL (s : ByteArray) : List UInt8 := strB s ++ List.replicate (sizeN s.size - (4 + s.size)) 0
def padB (s : ByteArray) : ByteArray := toS (padL s)
theorem padL_length (s : ByteArray) (h : s.size ≤ 5116) : (padL s).length = sizeN s.size := by
  have := sizeN_ge s.size h
  rw [padL, List.length_append, strB_length, List.length_replicate]
  omega
theorem padB_size (s : ByteArray) (h : s.size ≤ 5116) : (padB s).size = sizeN s.size := by rw [padB, toS_size, padL_length s h]
theorem padB_data (s : ByteArray) : (padB s).data.toList = padL s := rfl
theorem toS_data (s : ByteArray) : toS s.data.toList = s := by
  cases s
  rfl
theorem toS_inj {a b : List UInt8} (h : toS a = toS b) : a = b := by
  have := congrArg (fun s : ByteArray => s.data.toList) h
  exact this

/-- What the reader tells of x. -/
def innerL (x : ByteArray) : List UInt8 × Nat × Int := rStr x.data.toList 0 0 x.size
/-- x is what Pad makes of some string. -/
def stripY (x : ByteArray) : Prop := (x.size = 80 ∨ x.size = 320 ∨ x.size = 1280 ∨ x.size = 5120) ∧ (innerL x).2.2 = 0 ∧ padB (toS (innerL x).1) = x
instance (x : ByteArray) : Decidable (stripY x) := by unfold stripY; infer_instance
def stripV (x : ByteArray) : ByteArray := if stripY x then toS (innerL x).1 else ⟨#[]⟩
def stripE (x : ByteArray) : Int := if stripY x then 0 else 4

theorem inner_size (x : ByteArray) (h : (innerL x).2.2 = 0) : (innerL x).1.length + 4 ≤ x.size := by
  unfold innerL rStr at h ⊢
  rcases rNum_cases x.data.toList 0 0 (min (x.size : Int) 16384) with ⟨e', he', hx⟩ | ⟨n, _, _, _, h4, _, hx⟩
  · rw [hx] at h
    simp [strOf, he'] at h
  · rw [hx] at h ⊢
    rw [size_list] at h4
    by_cases hl : x.data.toList.length < 0 + 4 + n
    · simp only [strOf] at h
      rw [if_neg (by simp), if_pos (by simpa using hl)] at h
      simp at h
    · simp only [strOf]
      rw [if_neg (by simp), if_neg (by simpa using hl)]
      rw [size_list] at hl
      simp only [List.length_take, List.length_drop, size_list, Int.toNat_natCast]
      omega
theorem inner_pad (s : ByteArray) (h : s.size ≤ 5116) : innerL (padB s) = (s.data.toList, 4 + s.size, 0) := by
  have hb : rStr (padL s) 0 0 ((padB s).size : Int) = _ := rStr_back (s := s) (post := List.replicate (sizeN s.size - (4 + s.size)) 0) (by rw [List.drop_zero]; rfl) (by omega) (by rw [padB_size s h]; have := sizeN_ge s.size h; omega)
  have hl : (strB s).length = 4 + s.size := by rw [strB_length]; omega
  rw [hl, Nat.zero_add] at hb
  exact hb
theorem strip_padY (s : ByteArray) (h : s.size ≤ 5116) : stripY (padB s) := by
  have hp := inner_pad s h
  refine ⟨?_, ?_, ?_⟩
  · rw [padB_size s h]; exact sizeN_four _
  · rw [hp]
  · rw [hp, toS_data]
theorem strip_pad (s : ByteArray) (h : s.size ≤ 5116) : stripV (padB s) = s ∧ stripE (padB s) = 0 := by
  have hy := strip_padY s h
  refine ⟨?_, ?_⟩
  · rw [stripV, if_pos hy, inner_pad s h, toS_data]
  · rw [stripE, if_pos hy]
theorem strip_yes {x : ByteArray} (h : stripE x = 0) : padB (stripV x) = x ∧ (stripV x).size ≤ 5116 := by
  by_cases hy : stripY x
  · have hz := inner_size x hy.2.1
    obtain ⟨h1, h2, h3⟩ := hy
    rw [stripV, if_pos ⟨h1, h2, h3⟩]
    refine ⟨h3, ?_⟩
    rw [toS_size]
    omega
  · rw [stripE, if_neg hy] at h
    omega
theorem strip_no {x : ByteArray} (h : stripE x ≠ 0) : stripE x = 4 ∧ stripV x = ⟨#[]⟩ := by
  by_cases hy : stripY x
  · rw [stripE, if_pos hy] at h
    exact absurd rfl h
  · exact ⟨by rw [stripE, if_neg hy], by rw [stripV, if_neg hy]⟩
theorem pad_inj {s t : ByteArray} (hs : s.size ≤ 5116) (ht : t.size ≤ 5116) (h : padB s = padB t) : s = t := by
  have h1 := (strip_pad s hs).1
  rw [h, (strip_pad t ht).1] at h1
  exact h1.symm
theorem stripE_cases (x : ByteArray) : stripE x = 0 ∨ stripE x = 4 := by
  by_cases h : stripE x = 0
  · exact .inl h
  · exact .inr (strip_no h).1
end Go.Proofs.Ytohnommmmdlnpaa
