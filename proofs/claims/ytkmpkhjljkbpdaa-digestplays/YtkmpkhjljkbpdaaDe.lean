/- DigestOrder: the walk. -/
import Derived.Test.YtkmpkhjljkbpdaaDd
namespace Go.Proofs.Ytkmpkhjljkbpdaa
open Go.RowKit Go.Maps

theorem strs_ne {a b : ByteArray} (h : a ≠ b) : (a.toList == b.toList) = false := by
  rw [beq_eq_false_iff_ne]
  intro e
  rw [ByteArray.toList_eq, ByteArray.toList_eq] at e
  refine h ?_
  cases a; cases b
  simpa using e
theorem mem_snoc {ls : List ByteArray} {j : Nat} (h : j < ls.length) {s : ByteArray} : s ∈ ls.take (j + 1) ↔ s ∈ ls.take j ∨ ls[j] = s := by
  rw [take_snoc h, List.mem_append, List.mem_singleton]
  exact ⟨fun h => h.imp id Eq.symm, fun h => h.imp id Eq.symm⟩

set_option maxHeartbeats 4000000 in
set_option maxRecDepth 20000 in
theorem digestOrder_walk (A : Option Addr) (c : Nat) (ls : List ByteArray) (s : ByteArray) (w : World) (hr : Rd w A (strV ls)) (hlc : ls.length ≤ c) (hc : c * 16 ≤ 140737488351232) (_ : ∀ s ∈ ls, s.size ≤ maxLen) (hs0 : s.size ≤ 140737488351232) :
    Calls Try.prog 7 #[.slice A ls.length c, .string s] w fun e w' => e = .returned (.bool true) ∧ Below w.heap.size w w' := by
  obtain ⟨n, hn⟩ : ∃ n, n = ls.length := ⟨_, rfl⟩
  rw [← hn] at hlc ⊢
  have HN := hid hn
  clear hn
  have hnb : n ≤ 140737488355328 := by omega
  go_enter Try.func7, Try.ntmps7
  go_wp2_with fail
  refine (small_any _).mono ?_
  rintro e w1 ⟨rfl, b1⟩
  have hr1 := hr.below b1
  go_wp2_with fail
  refine (few_any A n c ls _ HN.out.symm hnb hr1).mono ?_
  rintro e wu ⟨rfl, rfl⟩
  clear hr
  go_wp2_with fail
  refine (st_new _).mono ?_
  rintro e w2 ⟨g, rfl, h2⟩
  cases hf : fewB ls
  · clear hf
    have b2 := below2 b1 h2.bel
    go_wp2
    go_ret
    exact ⟨rfl, b2⟩
  have HF := hid hf
  have hn100 : n ≤ 100 := by have := few_len hf; have := HN.out; omega
  clear hf
  by_cases hs : 300 < s.size
  · have hs' : (300 : Int) < s.size := by omega
    have b2 := below2 b1 h2.bel
    go_wp2
    go_ret
    exact ⟨rfl, b2⟩
  have hs' : ¬ (300 : Int) < s.size := by omega
  go_wp2_with fail
  go_loopw [8, 9] (fun v i wr => ∃ j : Nat, j ≤ n ∧ i = .int .i64 j ∧ v = .bool (decide (s ∈ ls.take j)) ∧ St wu wr g (tabOf (ls.take j))) (fun _ i _ => n - (intOf i).toNat)
  case atStart => exact ⟨0, by omega, rfl, by simp, h2⟩
  case round =>
    obtain ⟨j, hj, rfl, rfl, h3⟩ := hrel
    clear h2
    by_cases hjn : j < n
    · have hjl : j < ls.length := by rw [← HN.out]; exact hjn
      have hk100 : (tabOf (ls.take j)).length ≤ 100 := len_take (few_len HF.out)
      obtain ⟨k, hk⟩ : ∃ k, tabOf (ls.take j) = k := ⟨_, rfl⟩
      have HK := hid (tab_snoc hjl)
      rw [hk] at h3 hk100 HK
      clear hk
      obtain ⟨b, off, rfl, h0, hb0⟩ := hr1.at_ (k := j) (by rw [strV_length]; exact hjl)
      rw [show (strV ls)[j]'(by rw [strV_length]; exact hjl) = .string ls[j] by simp [strV]] at h0
      have hsx := few_size HF.out hjl
      have HM := hid (mem_snoc (s := s) hjl)
      obtain ⟨x, hx⟩ : ∃ x, ls[j] = x := ⟨_, rfl⟩
      rw [hx] at h0 hsx HK HM
      clear hx
      have h1 := (h3.bel.cell (p := ⟨b, off + j, none⟩) hb0).trans h0
      have hz : (0 : Int) ≤ j := by omega
      have hlt : (j : Int) < n := by omega
      go_wp2_with fail
      refine (st_of h3 x (by omega) (by omega)).mono ?_
      rintro e w5 ⟨rfl, h5⟩
      rw [← HK.out] at h5
      have h1' := (h5.bel.cell (p := ⟨b, off + j, none⟩) hb0).trans h0
      clear h3 h1
      by_cases hin : s ∈ ls.take j
      · have HM2 : Hid (decide (s ∈ ls.take (j + 1)) = true) := hid (decide_eq_true (HM.out.2 (.inl hin)))
        rw [decide_eq_true hin]
        go_wp2
        go_roundw
        case rel => exact ⟨j + 1, by omega, by go_num, by rw [HM2.out], h5⟩
        case measure => simp [intOf]; omega
      · rw [decide_eq_false hin]
        by_cases hxs : x = s
        · have HM2 : Hid (decide (s ∈ ls.take (j + 1)) = true) := hid (decide_eq_true (HM.out.2 (.inr hxs)))
          subst hxs
          go_wp2
          go_roundw
          case rel => exact ⟨j + 1, by omega, by go_num, by rw [HM2.out], h5⟩
          case measure => simp [intOf]; omega
        · have HM2 : Hid (decide (s ∈ ls.take (j + 1)) = false) := hid (decide_eq_false (fun h => (HM.out.1 h).elim hin hxs))
          have hne := strs_ne hxs
          go_wp2
          go_roundw
          case rel => exact ⟨j + 1, by omega, by go_num, by rw [HM2.out], h5⟩
          case measure => simp [intOf]; omega
    · have e : n = j := by omega
      subst e
      have hk100 : (tabOf (ls.take n)).length ≤ 100 := len_take (few_len HF.out)
      have HM := hid (mem_tab (l := ls.take n) (t := s))
      obtain ⟨k, hk⟩ : ∃ k, tabOf (ls.take n) = k := ⟨_, rfl⟩
      rw [hk] at h3 hk100 HM
      clear hk
      have hsm : s.size ≤ maxLen := by unfold maxLen; omega
      have HA : Hid (s ∈ addS k s) := hid (mem_addS.2 (.inr rfl))
      by_cases hin : s ∈ ls.take n
      · have hink := HM.out.2 hin
        rw [decide_eq_true hin]
        have hi := idx_in hink
        have HI := hid hink
        clear hin hink
        go_wp2_with fail
        refine (st_len h3).mono ?_
        rintro e wv ⟨rfl, rfl⟩
        go_wp2_with fail
        refine (st_known h3 s hsm).mono ?_
        rintro e wv ⟨rfl, rfl⟩
        rw [decide_eq_true HI.out]
        go_wp2_with fail
        refine (st_len h3).mono ?_
        rintro e wv ⟨rfl, rfl⟩
        go_wp2_with fail
        refine (st_of h3 s (by omega) (by omega)).mono ?_
        rintro e w5 ⟨rfl, h5⟩
        have b5 := below2 b1 h5.bel
        generalize k.idxOf s = d at *
        have q1 : (d : Int) + 1 ≤ k.length := by omega
        go_wp2_with fail
        refine (st_known h5 s hsm).mono ?_
        rintro e wv ⟨rfl, rfl⟩
        rw [decide_eq_true HA.out]
        go_wp2
        go_ret
        exact ⟨rfl, b5⟩
      · have hink := fun h => hin (HM.out.1 h)
        rw [decide_eq_false hin]
        have HI := hid hink
        have HX := hid (idx_out hink)
        clear hin hink
        go_wp2_with fail
        refine (st_len h3).mono ?_
        rintro e wv ⟨rfl, rfl⟩
        go_wp2_with fail
        refine (st_known h3 s hsm).mono ?_
        rintro e wv ⟨rfl, rfl⟩
        rw [decide_eq_false HI.out]
        go_wp2_with fail
        refine (st_len h3).mono ?_
        rintro e wv ⟨rfl, rfl⟩
        go_wp2_with fail
        refine (st_of h3 s (by omega) (by omega)).mono ?_
        rintro e w5 ⟨rfl, h5⟩
        have b5 := below2 b1 h5.bel
        rw [HX.out]
        go_wp2_with fail
        refine (st_known h5 s hsm).mono ?_
        rintro e wv ⟨rfl, rfl⟩
        rw [decide_eq_true HA.out]
        go_wp2
        go_ret
        exact ⟨ret_bool (show (!decide ((k.length : Int) + 1 ≤ k.length)) = true by rw [decide_eq_false (by omega)]; rfl), b5⟩
end Go.Proofs.Ytkmpkhjljkbpdaa
