/- Paths that rise; what is under what: an order. Plain lists. -/
import Derived.Test.YtnkkjedckehoaaaDoorQd
namespace Go.Proofs.YtnkkjedckehoaaaDoor
open Go.RowKit

theorem less_eq : ∀ (x y : List UInt8), Op.bytesLess x y = decide (x < y)
  | x, [] => by simp [Op.bytesLess]
  | [], _ :: _ => by simp [Op.bytesLess]
  | a :: x, b :: y => by
    rw [Op.bytesLess, less_eq x y, Bool.eq_iff_iff]
    simp [List.cons_lt_cons_iff]
theorem less_flip (a b : List UInt8) : (Op.bytesLess b a || b == a) = !Op.bytesLess a b := by
  rw [less_eq, less_eq, Bool.eq_iff_iff]
  simp only [Bool.or_eq_true, decide_eq_true_eq, beq_iff_eq, Bool.not_eq_true', decide_eq_false_iff_not]
  constructor
  · rintro (h | rfl)
    · exact List.lt_asymm h
    · exact List.lt_irrefl _
  · intro h
    have := List.not_lt.1 h
    rcases List.le_iff_lt_or_eq.1 this with h | h
    · exact .inl h
    · exact .inr h

theorem less_iff (a b : List UInt8) : Op.bytesLess a b = true ↔ a < b := by rw [less_eq]; simp
theorem srt_at {L : List (List UInt8)} (h : sortedL L = true) {i : Nat} (hi : i < L.length) : rightL L[i] = true ∧ ∀ h0 : 0 < i, L[i - 1] < L[i] := by
  have h1 := List.all_eq_true.1 h i (List.mem_range.2 hi)
  unfold srtAt at h1
  rw [Bool.and_eq_true, Bool.or_eq_true] at h1
  have e1 : L.getD i [] = L[i] := by simp [List.getD, hi]
  have e2 : L.getD (i - 1) [] = L[i - 1]'(by omega) := by simp [List.getD, show i - 1 < L.length by omega]
  rw [e1, e2] at h1
  refine ⟨h1.1, fun h0 => ?_⟩
  rcases h1.2 with h2 | h2
  · have : i = 0 := by simpa using h2
    omega
  · exact (less_iff _ _).1 h2
theorem srt_lt {L : List (List UInt8)} (h : sortedL L = true) : ∀ (d i : Nat) (hi : i + d + 1 < L.length), L[i] < L[i + d + 1]
  | 0, i, hi => (srt_at h hi).2 (by omega)
  | d + 1, i, hi => List.lt_trans (srt_lt h d i (by omega)) ((srt_at h hi).2 (by omega))
theorem srt_pair {L : List (List UInt8)} (h : sortedL L = true) : L.Pairwise (· < ·) := by
  rw [List.pairwise_iff_getElem]
  intro i j hi hj hij
  have := srt_lt h (j - i - 1) i (by omega)
  have e : i + (j - i - 1) + 1 = j := by omega
  simpa only [e] using this
theorem srt_mk {L : List (List UInt8)} (h1 : ∀ s ∈ L, rightL s = true) (h2 : L.Pairwise (· < ·)) : sortedL L = true := by
  refine List.all_eq_true.2 fun i hi => ?_
  have hi' := List.mem_range.1 hi
  unfold srtAt
  have e1 : L.getD i [] = L[i] := by simp [List.getD, hi']
  have e2 : L.getD (i - 1) [] = L[i - 1]'(by omega) := by simp [List.getD, show i - 1 < L.length by omega]
  rw [e1, e2, h1 _ (List.getElem_mem hi'), Bool.true_and, Bool.or_eq_true]
  by_cases h0 : i = 0
  · left; simp [h0]
  · right
    rw [less_iff]
    exact (List.pairwise_iff_getElem.1 h2) (i - 1) i (by omega) hi' (by omega)
theorem srt_right {L : List (List UInt8)} (h : sortedL L = true) : ∀ s ∈ L, rightL s = true := by
  intro s hs
  obtain ⟨i, hi, rfl⟩ := List.mem_iff_getElem.1 hs
  exact (srt_at h hi).1
theorem srt_less {L : List (List UInt8)} (h : sortedL L = true) {i k : Nat} (hi : i < L.length) (hk : k < i) : L[i] ≠ L[k] := by
  have := (List.pairwise_iff_getElem.1 (srt_pair h)) k i (by omega) hi hk
  intro e
  rw [e] at this
  exact List.lt_irrefl _ this
theorem srt_erase {L : List (List UInt8)} (h : sortedL L = true) (k : Nat) : sortedL (L.take k ++ L.drop (k + 1)) = true := by
  have hs : (L.take k ++ L.drop (k + 1)).Sublist L := by
    rw [← List.eraseIdx_eq_take_drop_succ]
    exact List.eraseIdx_sublist L k
  exact srt_mk (fun s hm => srt_right h s (hs.mem hm)) ((srt_pair h).sublist hs)
theorem srt_twice {L : List (List UInt8)} {k : Nat} (hk : k < L.length) : sortedL (L ++ [L[k]]) = false := by
  cases h : sortedL (L ++ [L[k]]) with
  | false => rfl
  | true =>
    have := List.pairwise_append.1 (srt_pair h)
    exact absurd (this.2.2 L[k] (List.getElem_mem hk) L[k] (by simp)) (List.lt_irrefl _)
theorem pre_iff (s d : List UInt8) : Lib.hasPrefix s (d ++ [47]) = true ↔ ∃ r, s = d ++ 47 :: r := by
  unfold Lib.hasPrefix
  rw [List.isPrefixOf_iff_prefix]
  constructor
  · rintro ⟨r, rfl⟩
    exact ⟨r, by simp⟩
  · rintro ⟨r, rfl⟩
    exact ⟨r, by simp⟩
theorem under_iff (a b : List UInt8) : underL a b = true ↔ rightL a = true ∧ rightL b = true ∧ ∃ ms, ms ≠ [] ∧ pieces a = pieces b ++ ms := by
  unfold underL
  rw [Bool.and_eq_true, Bool.and_eq_true, pre_iff, and_assoc]
  constructor
  · rintro ⟨h1, h2, r, rfl⟩
    exact ⟨h1, h2, pieces r, pieces_ne r, pieces_app b r⟩
  · rintro ⟨h1, h2, ms, hm, he⟩
    refine ⟨h1, h2, joinL ms, ?_⟩
    rw [← join_pieces a, he, joinL_app _ _ (pieces_ne b) hm, join_pieces]
theorem pieces_inj {a b : List UInt8} (h : pieces a = pieces b) : a = b := by rw [← join_pieces a, h, join_pieces]
theorem not_true {b : Bool} (h : ¬ b = true) : b = false := by cases b <;> simp_all
theorem under_self (a : List UInt8) : underL a a = false := by
  refine not_true fun h => ?_
  obtain ⟨_, _, ms, hm, he⟩ := (under_iff a a).1 h
  have := congrArg List.length he
  rw [List.length_append] at this
  exact hm (List.eq_nil_of_length_eq_zero (by omega))
theorem under_flip {a b : List UInt8} (h : underL a b = true) : underL b a = false := by
  refine not_true fun h2 => ?_
  obtain ⟨_, _, ms, hm, he⟩ := (under_iff a b).1 h
  obtain ⟨_, _, ms2, hm2, he2⟩ := (under_iff b a).1 h2
  have l1 := congrArg List.length he
  have l2 := congrArg List.length he2
  rw [List.length_append] at l1 l2
  exact hm (List.eq_nil_of_length_eq_zero (by omega))
theorem under_trans {a b c : List UInt8} (h : underL a b = true) (h2 : underL b c = true) : underL a c = true := by
  obtain ⟨r1, _, ms, hm, he⟩ := (under_iff a b).1 h
  obtain ⟨_, r3, ms2, hm2, he2⟩ := (under_iff b c).1 h2
  exact (under_iff a c).2 ⟨r1, r3, ms2 ++ ms, by simp [hm], by rw [he, he2, List.append_assoc]⟩
theorem under_both {a b c : List UInt8} (h : underL a b = true) (h2 : underL a c = true) (hne : b ≠ c) : clashL b c = true := by
  obtain ⟨_, r2, ms, hm, he⟩ := (under_iff a b).1 h
  obtain ⟨_, r3, ms2, hm2, he2⟩ := (under_iff a c).1 h2
  rw [he] at he2
  unfold clashL
  rw [Bool.or_eq_true, under_iff, under_iff]
  rcases List.append_eq_append_iff.1 he2 with ⟨k, hk, _⟩ | ⟨k, hk, _⟩
  · right
    refine ⟨r3, r2, k, ?_, hk⟩
    rintro rfl
    exact hne (pieces_inj (by rw [hk, List.append_nil]))
  · left
    refine ⟨r2, r3, k, ?_, hk⟩
    rintro rfl
    exact hne (pieces_inj (by rw [hk, List.append_nil]))
/-- A path of two names or more, and its parent. -/
theorem parent_of {a : List UInt8} (h : rightL a = true) (h2 : 2 ≤ (pieces a).length) : pieces (parentL a) = (pieces a).dropLast ∧ rightL (parentL a) = true ∧ parentL a ≠ [] := by
  have hf : fineL (pieces a).dropLast = true := by
    have hl := fine_len h
    refine fine_mk (by rw [List.length_dropLast]; omega) (by rw [List.length_dropLast]; omega) fun p hp => fine_all h p (List.dropLast_subset _ hp)
  have e : parentL a = joinL (pieces a).dropLast := by rw [parentL, names_right h, joinN_fine hf]
  rw [e]
  exact ⟨fine_pieces hf, right_join hf, right_ne (right_join hf)⟩
theorem parent_one {a : List UInt8} (h : (pieces a).length = 1) : parentL a = [] := by
  unfold parentL namesL
  split
  · cases hp : pieces a with
    | nil => rfl
    | cons x r =>
      rw [hp] at h
      have : r = [] := List.eq_nil_of_length_eq_zero (by simpa using h)
      rw [this]
      rfl
  · rfl
theorem parent_wrong {a : List UInt8} (h : rightL a = false) : parentL a = [] := by
  rw [parentL, names_wrong h]
  rfl
theorem parent_under {a : List UInt8} (h : parentL a ≠ []) : underL a (parentL a) = true := by
  cases hr : rightL a with
  | false => exact absurd (parent_wrong hr) h
  | true =>
    have hl := fine_len hr
    by_cases h1 : (pieces a).length = 1
    · exact absurd (parent_one h1) h
    · obtain ⟨e, r, _⟩ := parent_of hr (by omega)
      refine (under_iff _ _).2 ⟨hr, r, [(pieces a).getLast (pieces_ne a)], by simp, ?_⟩
      rw [e, List.dropLast_concat_getLast]
theorem under_two {a b : List UInt8} (h : underL a b = true) : 2 ≤ (pieces a).length := by
  obtain ⟨_, _, ms, hm, he⟩ := (under_iff a b).1 h
  rw [he, List.length_append]
  have h1 := List.length_pos_iff.2 (pieces_ne b)
  have h2 := List.length_pos_iff.2 hm
  omega
theorem under_right {a b : List UInt8} (h : underL a b = true) : rightL a = true := ((under_iff a b).1 h).1
theorem under_parent {a b : List UInt8} (h : underL a b = true) (hne : parentL a ≠ b) : underL (parentL a) b = true := by
  obtain ⟨e, r, _⟩ := parent_of (under_right h) (under_two h)
  obtain ⟨_, rb, ms, hm, he⟩ := (under_iff a b).1 h
  have e2 : (pieces a).dropLast = pieces b ++ ms.dropLast := by rw [he, List.dropLast_append_of_ne_nil hm]
  refine (under_iff _ _).2 ⟨r, rb, ms.dropLast, ?_, by rw [e, e2]⟩
  intro h0
  rw [h0, List.append_nil, ← e] at e2
  exact hne (pieces_inj e2)
theorem under_some {a b : List UInt8} (h : underL a b = true) : parentL a ≠ [] := (parent_of (under_right h) (under_two h)).2.2
theorem less_longer : ∀ (b r : List UInt8) (x : UInt8), b < b ++ x :: r
  | [], r, x => by simp
  | c :: b, r, x => by
    rw [List.cons_append, List.cons_lt_cons_iff]
    exact .inr ⟨rfl, less_longer b r x⟩
theorem under_less {a b : List UInt8} (h : underL a b = true) : (!(Op.bytesLess a b || a == b)) = true := by
  have h' := h
  unfold underL at h'
  rw [Bool.and_eq_true, Bool.and_eq_true, pre_iff] at h'
  obtain ⟨_, r, rfl⟩ := h'
  rw [less_flip b (b ++ 47 :: r), Bool.not_not, less_iff]
  exact less_longer b r 47
end Go.Proofs.YtnkkjedckehoaaaDoor
