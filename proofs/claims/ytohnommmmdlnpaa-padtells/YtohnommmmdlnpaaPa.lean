/- Plain laws of bytes: what was written is read. -/
import Derived.Test.YtohnommmmdlnpaaWg
namespace Go.Proofs.Ytohnommmmdlnpaa

theorem getD_drop (l : List UInt8) (p i : Nat) : l.getD (p + i) 0 = (l.drop p).getD i 0 := by simp [List.getD]
theorem numB_length (x : Int) : (numB x).length = 4 := rfl
theorem num4_drop (l : List UInt8) (p : Nat) : num4 l p = num4 (l.drop p) 0 := by
  unfold num4
  rw [getD_drop l p 1, getD_drop l p 2, getD_drop l p 3, show l.getD p 0 = (l.drop p).getD 0 0 from getD_drop l p 0]
theorem num4_numB (x : Int) (post : List UInt8) : num4 (numB x ++ post) 0 = clampN x := by
  have h : clampN x ≤ 4294967295 := by unfold clampN; omega
  simp [num4, numB]
  omega
theorem len_drop {l s post : List UInt8} {p : Nat} (h : l.drop p = s ++ post) (hs : s ≠ []) : p + s.length ≤ l.length := by
  have h1 := congrArg List.length h
  rw [List.length_drop, List.length_append] at h1
  have : 0 < s.length := List.length_pos_iff.2 hs
  omega
theorem rNum_back {l post : List UInt8} {p : Nat} {x most : Int} (h : l.drop p = numB x ++ post) (hm : (clampN x : Int) ≤ most) : rNum l p 0 most = ((clampN x : Int), p + 4, 0) := by
  have hl := len_drop h (by simp [numB])
  rw [numB_length] at hl
  have h4 : num4 l p = clampN x := by rw [num4_drop, h, num4_numB]
  rw [rNum_ok hl (by rw [h4]; exact hm), h4]
theorem drop_more {l s post : List UInt8} {p : Nat} (h : l.drop p = s ++ post) : l.drop (p + s.length) = post := by
  rw [← List.drop_drop, h, List.drop_left]
theorem clampN_nat (n : Nat) (h : n ≤ 4294967295) : clampN (n : Int) = n := by unfold clampN; omega
theorem rStr_back {l post : List UInt8} {p : Nat} {s : ByteArray} {most : Int} (h : l.drop p = strB s ++ post) (hs : s.size ≤ 16384) (hm : (s.size : Int) ≤ most) : rStr l p 0 most = (s.data.toList, p + (strB s).length, 0) := by
  have hsl : (strB s).length = 4 + s.size := by rw [strB_length]; omega
  have hl := len_drop h (by intro e; rw [e] at hsl; simp at hsl; omega)
  rw [strB_short s hs, List.append_assoc] at h
  have hc := clampN_nat s.size (by omega)
  have h1 := rNum_back (most := min most 16384) h (by rw [hc]; omega)
  rw [hc] at h1
  have h2 := drop_more h
  rw [numB_length] at h2
  rw [rStr, h1, strOf]
  simp only [ne_eq, not_true_eq_false, if_false, Int.toNat_natCast]
  rw [if_neg (by omega), h2, List.take_left' (by rw [size_list]), hsl, Nat.add_assoc]
theorem steps_back (l : List UInt8) (each : Int) (p : Nat) (ls : List ByteArray) (post : List UInt8) (h : l.drop p = strsB ls ++ post) (hs : ∀ s ∈ ls, s.size ≤ 16384 ∧ (s.size : Int) ≤ each) :
    ∀ j, j ≤ ls.length → steps l each p j = ((ls.take j).map (fun s => s.data.toList), p + (strsB (ls.take j)).length, 0)
  | 0, _ => by simp [steps, strsB]
  | j + 1, hj => by
    have ih := steps_back l each p ls post h hs j (by omega)
    have hsn := strsB_snoc ls j (by omega)
    have hmem := hs ls[j] (List.getElem_mem (by omega))
    have hd : l.drop (p + (strsB (ls.take j)).length) = strB ls[j] ++ (strsB (ls.drop (j + 1)) ++ post) := by
      have e : strsB ls = strsB (ls.take j) ++ (strB ls[j] ++ strsB (ls.drop (j + 1))) := by
        rw [← List.append_assoc, ← hsn]
        unfold strsB
        rw [← List.flatten_append, ← List.map_append, List.take_append_drop]
      rw [e, List.append_assoc] at h
      rw [drop_more h, List.append_assoc]
    have hb := rStr_back hd hmem.1 hmem.2
    rw [steps, ih]
    simp only [ne_eq, not_true_eq_false, if_false, hb]
    rw [hsn, List.length_append, List.take_succ_eq_append_getElem (by omega), List.map_append]
    simp only [List.map_cons, List.map_nil, Nat.add_assoc]
theorem rowB_short (ls : List ByteArray) (h : ls.length ≤ 256) : rowB ls = numB ls.length ++ strsB ls := by
  unfold rowB
  rw [List.take_of_length_le h, show min (ls.length : Int) 256 = ls.length by omega]
theorem rRow_back {l post : List UInt8} {p : Nat} {ls : List ByteArray} {most each : Int} (h : l.drop p = rowB ls ++ post) (h256 : ls.length ≤ 256) (hm : (ls.length : Int) ≤ most) (hs : ∀ s ∈ ls, s.size ≤ 16384 ∧ (s.size : Int) ≤ each) :
    rRow l p 0 most each = (ls.map (fun s => s.data.toList), p + (rowB ls).length, 0) := by
  rw [rowB_short ls h256] at h ⊢
  rw [List.append_assoc] at h
  have hc := clampN_nat ls.length (by omega)
  have h1 := rNum_back (most := min most 256) h (by rw [hc]; omega)
  rw [hc] at h1
  have h2 := drop_more h
  rw [numB_length] at h2
  have h3 := steps_back l each (p + 4) ls post h2 hs ls.length (Nat.le_refl _)
  rw [List.take_length] at h3
  rw [rRow, h1, rowOf]
  simp only [ne_eq, not_true_eq_false, if_false, Int.toNat_natCast, h3]
  rw [List.length_append, numB_length, Nat.add_assoc]
theorem map_toS (ls : List ByteArray) : (ls.map (fun s => s.data.toList)).map toS = ls := by
  rw [List.map_map]
  conv => rhs; rw [← List.map_id ls]
  refine List.map_congr_left fun s _ => ?_
  simp [toS]

theorem rowB_le (ls : List ByteArray) : (rowB ls).length ≤ 4200000 := by
  unfold rowB
  rw [List.length_append, numB_length]
  have h1 := strsB_le (ls.take 256)
  have h2 : (ls.take 256).length ≤ 256 := List.length_take_le _ _
  omega
theorem strB_le (s : ByteArray) : (strB s).length ≤ 16388 := by rw [strB_length]; omega
theorem clampN_in (x : Int) (h0 : 0 ≤ x) (h1 : x ≤ 4294967295) : (clampN x : Int) = x := by unfold clampN; omega
theorem str_eta (s : ByteArray) : (⟨s.data.toList.toArray⟩ : ByteArray) = s := by simp

end Go.Proofs.Ytohnommmmdlnpaa
