/- What is under what: an order. -/
import Derived.Test.YtekmclbnbbhcmaaDoorQk
namespace Go.Proofs.YtekmclbnbbhcmaaDoor
open Go.RowKit

theorem pre_iff (s d : List UInt8) : Lib.hasPrefix s (d ++ [47]) = true ↔ ∃ r, s = d ++ 47 :: r := by
  unfold Lib.hasPrefix
  rw [List.isPrefixOf_iff_prefix]
  constructor
  · rintro ⟨r, rfl⟩
    exact ⟨r, by simp⟩
  · rintro ⟨r, rfl⟩
    exact ⟨r, by simp⟩
theorem under_iff (a b : List UInt8) : underL a b = true ↔ rightL a = true ∧ rightL b = true ∧ ∃ ms, ms ≠ [] ∧ pieces a = pieces b ++ ms := by
  unfold underL
  rw [Bool.and_eq_true, Bool.and_eq_true, pre_iff, and_assoc]
  constructor
  · rintro ⟨h1, h2, r, rfl⟩
    exact ⟨h1, h2, pieces r, pieces_ne r, pieces_app b r⟩
  · rintro ⟨h1, h2, ms, hm, he⟩
    refine ⟨h1, h2, joinL ms, ?_⟩
    rw [← join_pieces a, he, joinL_app _ _ (pieces_ne b) hm, join_pieces]
theorem pieces_inj {a b : List UInt8} (h : pieces a = pieces b) : a = b := by rw [← join_pieces a, h, join_pieces]
theorem not_true {b : Bool} (h : ¬ b = true) : b = false := by cases b <;> simp_all
theorem under_self (a : List UInt8) : underL a a = false := by
  refine not_true fun h => ?_
  obtain ⟨_, _, ms, hm, he⟩ := (under_iff a a).1 h
  have := congrArg List.length he
  rw [List.length_append] at this
  exact hm (List.eq_nil_of_length_eq_zero (by omega))
theorem under_flip {a b : List UInt8} (h : underL a b = true) : underL b a = false := by
  refine not_true fun h2 => ?_
  obtain ⟨_, _, ms, hm, he⟩ := (under_iff a b).1 h
  obtain ⟨_, _, ms2, hm2, he2⟩ := (under_iff b a).1 h2
  have l1 := congrArg List.length he
  have l2 := congrArg List.length he2
  rw [List.length_append] at l1 l2
  exact hm (List.eq_nil_of_length_eq_zero (by omega))
theorem under_trans {a b c : List UInt8} (h : underL a b = true) (h2 : underL b c = true) : underL a c = true := by
  obtain ⟨r1, _, ms, hm, he⟩ := (under_iff a b).1 h
  obtain ⟨_, r3, ms2, hm2, he2⟩ := (under_iff b c).1 h2
  exact (under_iff a c).2 ⟨r1, r3, ms2 ++ ms, by simp [hm], by rw [he, he2, List.append_assoc]⟩
theorem under_both {a b c : List UInt8} (h : underL a b = true) (h2 : underL a c = true) (hne : b ≠ c) : clashL b c = true := by
  obtain ⟨_, r2, ms, hm, he⟩ := (under_iff a b).1 h
  obtain ⟨_, r3, ms2, hm2, he2⟩ := (under_iff a c).1 h2
  rw [he] at he2
  unfold clashL
  rw [Bool.or_eq_true, under_iff, under_iff]
  rcases List.append_eq_append_iff.1 he2 with ⟨k, hk, _⟩ | ⟨k, hk, _⟩
  · right
    refine ⟨r3, r2, k, ?_, hk⟩
    rintro rfl
    exact hne (pieces_inj (by rw [hk, List.append_nil]))
  · left
    refine ⟨r2, r3, k, ?_, hk⟩
    rintro rfl
    exact hne (pieces_inj (by rw [hk, List.append_nil]))
/-- A path of two names or more, and its parent. -/
theorem parent_of {a : List UInt8} (h : rightL a = true) (h2 : 2 ≤ (pieces a).length) : pieces (parentL a) = (pieces a).dropLast ∧ rightL (parentL a) = true ∧ parentL a ≠ [] := by
  have hf : fineL (pieces a).dropLast = true := by
    have hl := fine_len h
    refine fine_mk (by rw [List.length_dropLast]; omega) (by rw [List.length_dropLast]; omega) fun p hp => fine_all h p (List.dropLast_subset _ hp)
  have e : parentL a = joinL (pieces a).dropLast := by rw [parentL, names_right h, joinN_fine hf]
  rw [e]
  exact ⟨fine_pieces hf, right_join hf, right_ne (right_join hf)⟩
theorem parent_one {a : List UInt8} (h : (pieces a).length = 1) : parentL a = [] := by
  unfold parentL namesL
  split
  · cases hp : pieces a with
    | nil => rfl
    | cons x r =>
      rw [hp] at h
      have : r = [] := List.eq_nil_of_length_eq_zero (by simpa using h)
      rw [this]
      rfl
  · rfl
theorem parent_wrong {a : List UInt8} (h : rightL a = false) : parentL a = [] := by
  rw [parentL, names_wrong h]
  rfl
theorem parent_under {a : List UInt8} (h : parentL a ≠ []) : underL a (parentL a) = true := by
  cases hr : rightL a with
  | false => exact absurd (parent_wrong hr) h
  | true =>
    have hl := fine_len hr
    by_cases h1 : (pieces a).length = 1
    · exact absurd (parent_one h1) h
    · obtain ⟨e, r, _⟩ := parent_of hr (by omega)
      refine (under_iff _ _).2 ⟨hr, r, [(pieces a).getLast (pieces_ne a)], by simp, ?_⟩
      rw [e, List.dropLast_concat_getLast]
theorem under_two {a b : List UInt8} (h : underL a b = true) : 2 ≤ (pieces a).length := by
  obtain ⟨_, _, ms, hm, he⟩ := (under_iff a b).1 h
  rw [he, List.length_append]
  have h1 := List.length_pos_iff.2 (pieces_ne b)
  have h2 := List.length_pos_iff.2 hm
  omega
theorem under_right {a b : List UInt8} (h : underL a b = true) : rightL a = true := ((under_iff a b).1 h).1
theorem under_parent {a b : List UInt8} (h : underL a b = true) (hne : parentL a ≠ b) : underL (parentL a) b = true := by
  obtain ⟨e, r, _⟩ := parent_of (under_right h) (under_two h)
  obtain ⟨_, rb, ms, hm, he⟩ := (under_iff a b).1 h
  have e2 : (pieces a).dropLast = pieces b ++ ms.dropLast := by rw [he, List.dropLast_append_of_ne_nil hm]
  refine (under_iff _ _).2 ⟨r, rb, ms.dropLast, ?_, by rw [e, e2]⟩
  intro h0
  rw [h0, List.append_nil, ← e] at e2
  exact hne (pieces_inj e2)
theorem under_some {a b : List UInt8} (h : underL a b = true) : parentL a ≠ [] := (parent_of (under_right h) (under_two h)).2.2
theorem less_longer : ∀ (b r : List UInt8) (x : UInt8), b < b ++ x :: r
  | [], r, x => by simp
  | c :: b, r, x => by
    rw [List.cons_append, List.cons_lt_cons_iff]
    exact .inr ⟨rfl, less_longer b r x⟩
theorem under_less {a b : List UInt8} (h : underL a b = true) : (!(Op.bytesLess a b || a == b)) = true := by
  have h' := h
  unfold underL at h'
  rw [Bool.and_eq_true, Bool.and_eq_true, pre_iff] at h'
  obtain ⟨_, r, rfl⟩ := h'
  rw [less_flip b (b ++ 47 :: r), Bool.not_not, less_iff]
  exact less_longer b r 47
end Go.Proofs.YtekmclbnbbhcmaaDoor
