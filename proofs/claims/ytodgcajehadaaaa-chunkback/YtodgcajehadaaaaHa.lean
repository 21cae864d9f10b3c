/- Pieces of strings, plainly: lists of bytes. -/
import Derived.Test.YtodgcajehadaaaaMem
namespace Go.Proofs.Ytodgcajehadaaaa

/-- How many pieces n bytes have. -/
def cnt (n : Nat) : Nat := (n + 63) / 64
/-- The piece at i. -/
def pieL (l : List UInt8) (i : Nat) : List UInt8 := (l.drop (i * 64)).take 64
/-- The pieces. -/
def pcs (l : List UInt8) : List (List UInt8) := (List.range (cnt l.length)).map (pieL l)
theorem pcs_length (l : List UInt8) : (pcs l).length = cnt l.length := by simp [pcs]
theorem pcs_nil : pcs [] = [] := rfl
theorem cnt_add (n : Nat) : cnt (64 + n) = cnt n + 1 := by unfold cnt; omega
theorem pieL_succ (a t : List UInt8) (ha : a.length = 64) (i : Nat) : pieL (a ++ t) (i + 1) = pieL t i := by
  unfold pieL
  rw [show (i + 1) * 64 = a.length + i * 64 by omega, List.drop_append, List.drop_of_length_le (by omega)]
  simp
theorem pcs_cons (a t : List UInt8) (ha : a.length = 64) : pcs (a ++ t) = a :: pcs t := by
  unfold pcs
  rw [List.length_append, ha, cnt_add, List.range_succ_eq_map, List.map_cons, List.map_map]
  congr 1
  · unfold pieL
    simp [← ha]
  · apply List.map_congr_left
    intro i _
    exact pieL_succ a t ha i
theorem pcs_one (a : List UInt8) (h1 : 1 ≤ a.length) (h2 : a.length ≤ 64) : pcs a = [a] := by
  unfold pcs
  rw [show cnt a.length = 1 by unfold cnt; omega]
  simp [pieL, List.take_of_length_le h2]

/-- Are these some string's pieces? -/
def RightP : List (List UInt8) → Prop
  | [] => True
  | [a] => 1 ≤ a.length ∧ a.length ≤ 64
  | a :: b :: r => a.length = 64 ∧ RightP (b :: r)
theorem pcs_join : ∀ (l : List (List UInt8)), RightP l → pcs l.flatten = l
  | [], _ => rfl
  | [a], h => by simpa using pcs_one a h.1 h.2
  | a :: b :: r, h => by
    rw [List.flatten_cons, pcs_cons _ _ h.1, pcs_join (b :: r) h.2]
theorem pcs_ind {p : List UInt8 → Prop} (h0 : p []) (h1 : ∀ a, 1 ≤ a.length → a.length ≤ 64 → p a) (h2 : ∀ a t, a.length = 64 → 1 ≤ t.length → p t → p (a ++ t)) : ∀ l, p l := by
  intro l
  obtain ⟨n, hn⟩ : ∃ n, l.length ≤ n := ⟨_, Nat.le_refl _⟩
  induction n generalizing l with
  | zero => rw [List.eq_nil_of_length_eq_zero (by omega : l.length = 0)]; exact h0
  | succ n ih =>
    by_cases hz : l.length = 0
    · rw [List.eq_nil_of_length_eq_zero hz]; exact h0
    · by_cases hs : l.length ≤ 64
      · exact h1 l (by omega) hs
      · rw [← List.take_append_drop 64 l]
        exact h2 _ _ (by rw [List.length_take]; omega) (by rw [List.length_drop]; omega) (ih _ (by rw [List.length_drop]; omega))
theorem pcs_flatten (l : List UInt8) : (pcs l).flatten = l := by
  refine pcs_ind (p := fun l => (pcs l).flatten = l) rfl ?_ ?_ l
  · intro a h1 h2; simp [pcs_one a h1 h2]
  · intro a t ha _ ih; rw [pcs_cons a t ha, List.flatten_cons, ih]
theorem pcs_right (l : List UInt8) : RightP (pcs l) := by
  refine pcs_ind (p := fun l => RightP (pcs l)) trivial ?_ ?_ l
  · intro a h1 h2; rw [pcs_one a h1 h2]; exact ⟨h1, h2⟩
  · intro a t ha ht ih
    rw [pcs_cons a t ha]
    have hl := pcs_length t
    have hc : 1 ≤ cnt t.length := by unfold cnt; omega
    revert ih hl
    cases pcs t with
    | nil => intro _ hl; simp at hl; omega
    | cons b r => exact fun ih _ => ⟨ha, ih⟩
theorem pcs_append (b : List UInt8) : ∀ (k : Nat) (a : List UInt8), a.length = k * 64 → pcs (a ++ b) = pcs a ++ pcs b
  | 0, a, h => by rw [List.eq_nil_of_length_eq_zero (by omega : a.length = 0)]; rfl
  | k + 1, a, h => by
    have e : a = a.take 64 ++ a.drop 64 := (List.take_append_drop 64 a).symm
    have h1 : (a.take 64).length = 64 := by rw [List.length_take]; omega
    have h2 : (a.drop 64).length = k * 64 := by rw [List.length_drop]; omega
    rw [e, List.append_assoc, pcs_cons _ _ h1, pcs_cons _ _ h1, pcs_append b k _ h2, List.cons_append]

/-- By places: each has at most 64 bytes, the last one one at least, the others all. -/
def RightI (l : List (List UInt8)) : Prop := ∀ i (h : i < l.length), (if i = l.length - 1 then 1 else 64) ≤ l[i].length ∧ l[i].length ≤ 64
theorem right_iff : ∀ (l : List (List UInt8)), RightI l ↔ RightP l
  | [] => ⟨fun _ => trivial, fun _ i h => by simp at h⟩
  | [a] => ⟨fun h => by simpa [RightP] using h 0 (by simp), fun h i hi => by
      have : i = 0 := by simpa using hi
      subst this
      simpa [RightP] using h⟩
  | a :: b :: r => by
    rw [RightP, ← right_iff (b :: r)]
    constructor
    · intro h
      have h0 := h 0 (by simp)
      simp at h0
      refine ⟨by omega, fun i hi => ?_⟩
      have := h (i + 1) (by simpa using hi)
      simp only [List.length_cons, List.getElem_cons_succ] at this ⊢
      simp only [show (i + 1 = r.length + 1 + 1 - 1) ↔ (i = r.length + 1 - 1) by omega] at this
      exact this
    · rintro ⟨h0, h⟩ i hi
      cases i with
      | zero => simp [h0]
      | succ i =>
        have := h i (by simpa using hi)
        simp only [List.length_cons, List.getElem_cons_succ] at this ⊢
        simp only [show (i + 1 = r.length + 1 + 1 - 1) ↔ (i = r.length + 1 - 1) by omega]
        exact this

/-- A string's bytes, and back. -/
def toB (x : List UInt8) : ByteArray := ⟨x.toArray⟩
def unB (s : ByteArray) : List UInt8 := s.data.toList
theorem toB_size (x : List UInt8) : (toB x).size = x.length := by simp [toB, ByteArray.size]
theorem unB_size (s : ByteArray) : (unB s).length = s.size := by rw [unB, Array.length_toList]; rfl
theorem unB_toB (x : List UInt8) : unB (toB x) = x := by simp [toB, unB]
theorem toB_unB (s : ByteArray) : toB (unB s) = s := by simp [toB, unB]
theorem unB_inj {s t : ByteArray} (h : unB s = unB t) : s = t := by rw [← toB_unB s, ← toB_unB t, h]
theorem toB_inj {x y : List UInt8} (h : toB x = toB y) : x = y := by rw [← unB_toB x, ← unB_toB y, h]
theorem toB_append (x y : List UInt8) : toB x ++ toB y = toB (x ++ y) := unB_inj (by simp [unB, toB, ByteArray.data_append])
theorem map_unB_toB (l : List (List UInt8)) : (l.map toB).map unB = l := by
  rw [List.map_map]
  have : unB ∘ toB = id := funext unB_toB
  rw [this, List.map_id]
theorem map_toB_unB (l : List ByteArray) : (l.map unB).map toB = l := by
  rw [List.map_map]
  have : toB ∘ unB = id := funext toB_unB
  rw [this, List.map_id]

/-- The pieces of a string. -/
def pcsS (s : ByteArray) : List ByteArray := (pcs (unB s)).map toB
theorem pcsS_length (s : ByteArray) : (pcsS s).length = cnt s.size := by rw [pcsS, List.length_map, pcs_length, unB_size]
/-- The string of pieces. -/
def joinS (l : List ByteArray) : ByteArray := toB (l.map unB).flatten
def rightS (l : List ByteArray) : Prop := RightI (l.map unB)
theorem join_cut (s : ByteArray) : joinS (pcsS s) = s := by
  unfold joinS pcsS
  rw [map_unB_toB, pcs_flatten, toB_unB]
theorem cut_right (s : ByteArray) : rightS (pcsS s) := by
  unfold rightS pcsS
  rw [map_unB_toB, right_iff]
  exact pcs_right _
theorem cut_join (l : List ByteArray) (h : rightS l) : pcsS (joinS l) = l := by
  unfold joinS pcsS
  rw [unB_toB, pcs_join _ ((right_iff _).1 h), map_toB_unB]
theorem cut_append (s t : ByteArray) (k : Nat) (h : s.size = k * 64) : pcsS (s ++ t) = pcsS s ++ pcsS t := by
  have e : unB (s ++ t) = unB s ++ unB t := by simp [unB, ByteArray.data_append]
  unfold pcsS
  rw [e, pcs_append _ k _ (by rw [unB_size]; exact h), List.map_append]
end Go.Proofs.Ytodgcajehadaaaa
