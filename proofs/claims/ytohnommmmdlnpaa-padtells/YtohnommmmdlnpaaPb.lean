/- Plain laws of bytes: what is cut is not read whole. -/
import Derived.Test.YtohnommmmdlnpaaPa
namespace Go.Proofs.Ytohnommmmdlnpaa

/-- Bytes that end ahead of the end of what stands at a place. -/
theorem rNum_cut {l : List UInt8} {p : Nat} {most : Int} (h : l.length < p + 4) : rNum l p 0 most = (0, p, 4) := rNum_short h
theorem take_drop' (l : List UInt8) (p cut : Nat) : (l.take cut).drop p = (l.drop p).take (cut - p) := by rw [List.drop_take]
theorem take_of_pre {a b : List UInt8} {k : Nat} (h : a.length ≤ k) : (a ++ b).take k = a ++ b.take (k - a.length) := by
  rw [List.take_append, List.take_of_length_le h]
theorem rNum_pre {l post : List UInt8} {p cut : Nat} {x most : Int} (h : l.drop p = numB x ++ post) (hm : (clampN x : Int) ≤ most) (hc : p + 4 ≤ cut) : rNum (l.take cut) p 0 most = ((clampN x : Int), p + 4, 0) := by
  refine rNum_back (post := post.take (cut - p - 4)) ?_ hm
  rw [take_drop', h, take_of_pre (by rw [numB_length]; omega), numB_length]
theorem rStr_pre {l post : List UInt8} {p cut : Nat} {s : ByteArray} {most : Int} (h : l.drop p = strB s ++ post) (hs : s.size ≤ 16384) (hm : (s.size : Int) ≤ most) (hc : p + (strB s).length ≤ cut) :
    rStr (l.take cut) p 0 most = (s.data.toList, p + (strB s).length, 0) := by
  refine rStr_back (post := post.take (cut - p - (strB s).length)) ?_ hs hm
  rw [take_drop', h, take_of_pre (by omega)]
theorem rStr_cut {l post : List UInt8} {p cut : Nat} {s : ByteArray} {most : Int} (h : l.drop p = strB s ++ post) (hs : s.size ≤ 16384) (hm : (s.size : Int) ≤ most) (hc : cut < p + (strB s).length) :
    rStr (l.take cut) p 0 most = ([], p, 4) := by
  have hsl : (strB s).length = 4 + s.size := by rw [strB_length]; omega
  have htl : (l.take cut).length ≤ cut := by rw [List.length_take]; omega
  have hcl := clampN_nat s.size (by omega)
  by_cases h4 : cut < p + 4
  · rw [rStr, rNum_short (by omega), strOf]
    simp
  · rw [strB_short s hs, List.append_assoc] at h
    have h1 := rNum_pre (cut := cut) (most := min most 16384) h (by rw [hcl]; omega) (by omega)
    rw [hcl] at h1
    rw [rStr, h1, strOf]
    simp only [ne_eq, not_true_eq_false, if_false, Int.toNat_natCast]
    rw [if_pos (by omega)]
theorem strsB_split (ls : List ByteArray) (j : Nat) : strsB ls = strsB (ls.take j) ++ strsB (ls.drop j) := by
  unfold strsB
  rw [← List.flatten_append, ← List.map_append, List.take_append_drop]
theorem first_cut (ls : List ByteArray) (p cut : Nat) (hp : p ≤ cut) : ∀ k, k ≤ ls.length → cut < p + (strsB (ls.take k)).length → ∃ j, j < k ∧ p + (strsB (ls.take j)).length ≤ cut ∧ cut < p + (strsB (ls.take (j + 1))).length
  | 0, _, h => by simp [strsB] at h; omega
  | k + 1, hk, h => by
    by_cases h' : cut < p + (strsB (ls.take k)).length
    · obtain ⟨j, h1, h2, h3⟩ := first_cut ls p cut hp k (by omega) h'
      exact ⟨j, by omega, h2, h3⟩
    · exact ⟨k, by omega, by omega, h⟩
/-- Some string of a row that is cut is not there. -/
theorem steps_cut (l : List UInt8) (each : Int) (p cut : Nat) (ls : List ByteArray) (post : List UInt8) (h : l.drop p = strsB ls ++ post) (hs : ∀ s ∈ ls, s.size ≤ 16384 ∧ (s.size : Int) ≤ each) (hc : cut < p + (strsB ls).length) (hp : p ≤ cut) :
    (steps (l.take cut) each p ls.length).2.2 = 4 := by
  obtain ⟨j, h1, h2, h3⟩ := first_cut ls p cut hp ls.length (Nat.le_refl _) (by rw [List.take_length]; exact hc)
  have hsn := strsB_snoc ls j h1
  have e0 : l.drop p = strsB (ls.take j) ++ (strsB (ls.drop j) ++ post) := by rw [h, strsB_split ls j, List.append_assoc]
  have e1 : (l.take cut).drop p = strsB (ls.take j) ++ (strsB (ls.drop j) ++ post).take (cut - p - (strsB (ls.take j)).length) := by rw [take_drop', e0, take_of_pre (by omega)]
  have s1 := steps_back (l.take cut) each p (ls.take j) _ e1 (fun s hm => hs s (List.mem_of_mem_take hm)) j (by rw [List.length_take]; omega)
  have hmem := hs ls[j] (List.getElem_mem h1)
  have e2 : l.drop (p + (strsB (ls.take j)).length) = strB ls[j] ++ (strsB (ls.drop (j + 1)) ++ post) := by
    rw [strsB_split ls (j + 1), hsn, List.append_assoc, List.append_assoc] at h
    rw [drop_more h]
  have s2 := rStr_cut (cut := cut) (most := each) e2 hmem.1 hmem.2 (by rw [hsn, List.length_append] at h3; omega)
  have e3 : (strsB ((ls.take j).take j)).length = (strsB (ls.take j)).length := by rw [List.take_take, Nat.min_self]
  rw [e3] at s1
  have s3 : (steps (l.take cut) each p (j + 1)).2.2 = 4 := by
    rw [steps, s1]
    simp [s2]
  rw [steps_err _ _ _ (j + 1) (by rw [s3]; decide) ls.length (by omega), s3]
theorem rRow_cut {l post : List UInt8} {p cut : Nat} {ls : List ByteArray} {most each : Int} (h : l.drop p = rowB ls ++ post) (h256 : ls.length ≤ 256) (hm : (ls.length : Int) ≤ most) (hs : ∀ s ∈ ls, s.size ≤ 16384 ∧ (s.size : Int) ≤ each) (hc : cut < p + (rowB ls).length) :
    rRow (l.take cut) p 0 most each = ([], p, 4) := by
  have htl : (l.take cut).length ≤ cut := by rw [List.length_take]; omega
  have hcl := clampN_nat ls.length (by omega)
  by_cases h4 : cut < p + 4
  · rw [rRow, rNum_short (by omega), rowOf]
    simp
  · rw [rowB_short ls h256] at h hc
    rw [List.append_assoc] at h
    have h1 := rNum_pre (cut := cut) (most := min most 256) h (by rw [hcl]; omega) (by omega)
    rw [hcl] at h1
    have h2 := drop_more h
    rw [numB_length] at h2
    rw [List.length_append, numB_length] at hc
    have h3 := steps_cut l each (p + 4) cut ls post h2 hs (by omega) (by omega)
    rw [rRow, h1, rowOf]
    simp only [ne_eq, not_true_eq_false, if_false, Int.toNat_natCast, h3]
    simp
/-- Once there is an error it stays. -/
theorem rStr_bad {l : List UInt8} {p : Nat} {e most : Int} (h : e ≠ 0) : rStr l p e most = ([], p, e) := by simp [rStr, rNum_bad h, strOf, h]
theorem rRow_bad {l : List UInt8} {p : Nat} {e most each : Int} (h : e ≠ 0) : rRow l p e most each = ([], p, e) := by simp [rRow, rNum_bad h, rowOf, h]

/-- A string's first bytes, as many as are written. -/
def trim (s : ByteArray) : ByteArray := toS (cutS 16384 s)
theorem trim_size (s : ByteArray) : (trim s).size = min 16384 s.size := by rw [trim, toS_size, cutS_length]
theorem strB_trim (s : ByteArray) : strB (trim s) = strB s := by
  unfold strB
  rw [trim_size]
  have h : cutS 16384 (trim s) = cutS 16384 s := by
    unfold trim toS cutS
    simp [List.take_take]
  rw [h, show min ((min 16384 s.size : Nat) : Int) 16384 = min (s.size : Int) 16384 by omega]
theorem rowB_trim (ls : List ByteArray) : rowB (ls.map trim) = rowB ls := by
  unfold rowB strsB
  rw [List.length_map, ← List.map_take, List.map_map]
  congr 2
  exact List.map_congr_left fun s _ => strB_trim s

/-- What is written, and cut, is not read whole. -/
theorem cuts_pure (n : Int) (s : ByteArray) (ls : List ByteArray) (cut : Nat) (L : List UInt8) (hL : numB n ++ strB s ++ rowB ls = L) (hs : s.size ≤ 3000) (hl : ls.length ≤ 256) (hc : cut < L.length) (p1 p2 : Nat) (e1 e2 : Int)
    (h1 : (rNum (L.take cut) 0 0 4294967295).2 = (p1, e1)) (h2 : (rStr (L.take cut) p1 e1 16384).2 = (p2, e2)) : (rRow (L.take cut) p2 e2 256 16384).2.2 = 4 := by
  have hLl : L.length = 4 + (strB s).length + (rowB ls).length := by rw [← hL]; simp only [List.length_append, numB_length]
  have htl : (L.take cut).length = cut := by rw [List.length_take]; omega
  have hcn : clampN n ≤ 4294967295 := by unfold clampN; omega
  by_cases c1 : cut < 4
  · rw [rNum_short (by omega)] at h1
    simp only [Prod.mk.injEq] at h1
    obtain ⟨rfl, rfl⟩ := h1
    rw [rStr_bad (by decide)] at h2
    simp only [Prod.mk.injEq] at h2
    obtain ⟨rfl, rfl⟩ := h2
    rw [rRow_bad (by decide)]
  · have d0 : L.drop 0 = numB n ++ (strB s ++ (rowB ls ++ [])) := by rw [List.drop_zero, ← hL]; simp
    have d1 : L.drop 4 = strB s ++ (rowB ls ++ []) := drop_more d0
    have d2 : L.drop (4 + (strB s).length) = rowB (ls.map trim) ++ [] := by rw [rowB_trim]; exact drop_more d1
    rw [rNum_pre d0 (by omega) (by omega)] at h1
    simp only [Prod.mk.injEq] at h1
    obtain ⟨rfl, rfl⟩ := h1
    by_cases c2 : cut < 4 + (strB s).length
    · rw [rStr_cut (p := 4) d1 (by omega) (by omega) c2] at h2
      simp only [Prod.mk.injEq] at h2
      obtain ⟨rfl, rfl⟩ := h2
      rw [rRow_bad (by decide)]
    · rw [rStr_pre (p := 4) d1 (by omega) (by omega) (by omega)] at h2
      simp only [Prod.mk.injEq] at h2
      obtain ⟨rfl, rfl⟩ := h2
      rw [rRow_cut d2 (by simpa using hl) (by simp; omega) ?_ (by rw [rowB_trim]; omega)]
      intro x hx
      obtain ⟨y, _, rfl⟩ := List.mem_map.1 hx
      rw [trim_size]
      omega

end Go.Proofs.Ytohnommmmdlnpaa
