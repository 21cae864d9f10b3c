/- Strings one behind the other; DigestCounts: the walk. -/
import Derived.Test.YtkmpkhjljkbpdaaDc
namespace Go.Proofs.Ytkmpkhjljkbpdaa
open Go.RowKit Go.Maps

/-! ### What a table knows behind some strings -/
def tabOf (l : List ByteArray) : List ByteArray := l.foldl addS []
theorem mem_addS {k : List ByteArray} {s t : ByteArray} : t ∈ addS k s ↔ t ∈ k ∨ t = s := by
  by_cases h : s ∈ k
  · rw [addS_in h]
    exact ⟨.inl, fun h' => h'.elim id (fun e => e ▸ h)⟩
  · rw [addS_out h]
    simp
theorem len_addS (k : List ByteArray) (s : ByteArray) : (addS k s).length ≤ k.length + 1 := by
  by_cases h : s ∈ k
  · rw [addS_in h]; omega
  · rw [addS_out h]; simp
theorem idx_addS {k : List ByteArray} {s t : ByteArray} (h : t ∈ k) : (addS k s).idxOf t = k.idxOf t := by
  by_cases hs : s ∈ k
  · rw [addS_in hs]
  · rw [addS_out hs, List.idxOf_append, if_pos h]
theorem take_snoc {ls : List ByteArray} {j : Nat} (h : j < ls.length) : ls.take (j + 1) = ls.take j ++ [ls[j]] := by rw [List.take_add_one, List.getElem?_eq_getElem h]; rfl
theorem fold_snoc {k0 : List ByteArray} {ls : List ByteArray} {j : Nat} (h : j < ls.length) : (ls.take (j + 1)).foldl addS k0 = addS ((ls.take j).foldl addS k0) ls[j] := by rw [take_snoc h, List.foldl_append]; rfl
theorem tab_snoc {ls : List ByteArray} {j : Nat} (h : j < ls.length) : tabOf (ls.take (j + 1)) = addS (tabOf (ls.take j)) ls[j] := fold_snoc h
theorem len_fold : ∀ (l k : List ByteArray), (l.foldl addS k).length ≤ k.length + l.length
  | [], k => by simp
  | s :: r, k => by
    have h1 := len_fold r (addS k s)
    have h2 := len_addS k s
    simp only [List.foldl_cons, List.length_cons]
    omega
theorem len_tab (l : List ByteArray) : (tabOf l).length ≤ l.length := by have := len_fold l []; rw [List.length_nil, Nat.zero_add] at this; exact this
theorem len_take {l : List ByteArray} {j : Nat} (h : l.length ≤ 100) : (tabOf (l.take j)).length ≤ 100 := by
  have h1 := len_tab (l.take j)
  rw [List.length_take] at h1
  omega
theorem mem_fold : ∀ (l k : List ByteArray) (t : ByteArray), t ∈ l.foldl addS k ↔ t ∈ k ∨ t ∈ l
  | [], k, t => by simp
  | s :: r, k, t => by
    rw [List.foldl_cons, mem_fold r (addS k s) t, mem_addS, List.mem_cons, or_assoc]
theorem mem_tab {l : List ByteArray} {t : ByteArray} : t ∈ tabOf l ↔ t ∈ l := by rw [tabOf, mem_fold]; simp
theorem idx_fold : ∀ (l k : List ByteArray) {t : ByteArray}, t ∈ k → (l.foldl addS k).idxOf t = k.idxOf t
  | [], _, _, _ => rfl
  | s :: r, k, t, h => by
    rw [List.foldl_cons, idx_fold r (addS k s) (mem_addS.2 (.inl h)), idx_addS h]
theorem few_len {l : List ByteArray} (h : fewB l = true) : l.length ≤ 100 := (of_decide_eq_true h).1
theorem few_size {l : List ByteArray} (h : fewB l = true) {j : Nat} (hj : j < l.length) : l[j].size ≤ 300 := (of_decide_eq_true h).2 _ (List.getElem_mem hj)

set_option maxHeartbeats 4000000 in
set_option maxRecDepth 20000 in
theorem digestCounts_walk (A : Option Addr) (c : Nat) (ls : List ByteArray) (w : World) (hr : Rd w A (strV ls)) (hlc : ls.length ≤ c) (hc : c * 16 ≤ 140737488351232) (_ : ∀ s ∈ ls, s.size ≤ maxLen) :
    Calls Try.prog 5 #[.slice A ls.length c] w fun e w' => e = .returned (.bool true) ∧ Below w.heap.size w w' := by
  obtain ⟨n, hn⟩ : ∃ n, n = ls.length := ⟨_, rfl⟩
  rw [← hn] at hlc ⊢
  have HN := hid hn
  clear hn
  have hnb : n ≤ 140737488355328 := by omega
  go_enter Try.func5, Try.ntmps5
  go_wp2_with fail
  refine (small_any _).mono ?_
  rintro e w1 ⟨rfl, b1⟩
  have hr1 := hr.below b1
  go_wp2_with fail
  refine (few_any A n c ls _ HN.out.symm hnb hr1).mono ?_
  rintro e wu ⟨rfl, rfl⟩
  clear hr
  go_wp2_with fail
  refine (st_new _).mono ?_
  rintro e w2 ⟨g, rfl, h2⟩
  cases hf : fewB ls
  · clear hf
    have b2 := below2 b1 h2.bel
    go_wp2
    go_ret
    exact ⟨rfl, b2⟩
  have HF := hid hf
  have hn100 : n ≤ 100 := by have := few_len hf; have := HN.out; omega
  clear hf
  go_wp2_with fail
  go_loopw [6, 7] (fun m i wr => ∃ j : Nat, j ≤ n ∧ i = .int .i64 j ∧ m = .int .i64 (tabOf (ls.take j)).length ∧ St wu wr g (tabOf (ls.take j))) (fun _ i _ => n - (intOf i).toNat)
  case atStart => exact ⟨0, by omega, rfl, rfl, h2⟩
  case round =>
    obtain ⟨j, hj, rfl, rfl, h3⟩ := hrel
    clear h2
    by_cases hjn : j < n
    · have hjl : j < ls.length := by rw [← HN.out]; exact hjn
      have hk100 : (tabOf (ls.take j)).length ≤ 100 := len_take (few_len HF.out)
      obtain ⟨k, hk⟩ : ∃ k, tabOf (ls.take j) = k := ⟨_, rfl⟩
      have HK := hid (tab_snoc hjl)
      rw [hk] at h3 hk100 HK ⊢
      clear hk
      have hr3 := hr1.below h3.bel
      obtain ⟨b, off, rfl, h1, -⟩ := hr3.at_ (k := j) (by rw [strV_length]; exact hjl)
      rw [show (strV ls)[j]'(by rw [strV_length]; exact hjl) = .string ls[j] by simp [strV]] at h1
      have hs := few_size HF.out hjl
      obtain ⟨x, hx⟩ : ∃ x, ls[j] = x := ⟨_, rfl⟩
      rw [hx] at h1 hs HK
      clear hx hr3
      have hz : (0 : Int) ≤ j := by omega
      have hlt : (j : Int) < n := by omega
      go_wp2_with fail
      refine (st_known h3 x (by unfold maxLen; omega)).mono ?_
      rintro e wv ⟨rfl, rfl⟩
      by_cases hin : x ∈ k
      · rw [decide_eq_true hin]
        have hi := idx_in hin
        have HA := hid (addS_in hin)
        clear hin
        go_wp2_with fail
        refine (st_of h3 x (by omega) (by omega)).mono ?_
        rintro e w5 ⟨rfl, h5⟩
        rw [HA.out] at h5
        rw [HA.out] at HK
        generalize k.idxOf x = d at *
        have q1 : ¬ (d : Int) + 1 < 1 := by omega
        have q2 : ¬ (k.length : Int) + 1 < (d : Int) + 1 := by omega
        have q3 : ((d : Int) + 1 == (k.length : Int) + 1) = false := by rw [beq_eq_false_iff_ne]; omega
        have q4 : max (k.length : Int) ((d : Int) + 1) = k.length := by omega
        go_wp2_with fail
        refine (st_len h5).mono ?_
        rintro e wx ⟨rfl, rfl⟩
        go_wp2
        go_roundw
        case rel => exact ⟨j + 1, by omega, by go_num, by rw [HK.out], by rw [HK.out]; exact h5⟩
        case measure => simp [intOf]; omega
      · rw [decide_eq_false hin]
        have HI := hid (idx_out hin)
        have HA := hid (addS_out hin)
        clear hin
        go_wp2_with fail
        refine (st_of h3 x (by omega) (by omega)).mono ?_
        rintro e w5 ⟨rfl, h5⟩
        rw [HA.out] at h5
        rw [HA.out] at HK
        rw [HI.out]
        go_wp2_with fail
        refine (st_len h5).mono ?_
        rintro e wx ⟨rfl, rfl⟩
        rw [show (k ++ [x]).length = k.length + 1 by simp]
        go_wp2
        go_roundw
        case rel => exact ⟨j + 1, by omega, by go_num, by rw [HK.out]; simp; omega, by rw [HK.out]; exact h5⟩
        case measure => simp [intOf]; omega
    · have e : n = j := by omega
      subst e
      have b3 := below2 b1 h3.bel
      go_wp2
      go_ret
      exact ⟨rfl, b3⟩
end Go.Proofs.Ytkmpkhjljkbpdaa
