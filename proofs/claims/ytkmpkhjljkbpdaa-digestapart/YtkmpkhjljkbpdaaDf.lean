/- DigestApart: the walk. -/
import Derived.Test.YtkmpkhjljkbpdaaDe
namespace Go.Proofs.Ytkmpkhjljkbpdaa
open Go.RowKit Go.Maps

theorem len_from {l : List ByteArray} {j : Nat} {s : ByteArray} (h : l.length ≤ 100) : ((l.take j).foldl addS [s]).length ≤ 101 := by
  have h1 := len_fold (l.take j) [s]
  rw [List.length_take, List.length_singleton] at h1
  omega
theorem text_idx {k : List ByteArray} {t : ByteArray} (h : t ∈ k) : textB k ((k.idxOf t : Int) + 1) = true ∧ textS k ((k.idxOf t : Int) + 1) = t := by
  have h1 := text_yes (idx_in h)
  rw [show ((k.idxOf t + 1 : Nat) : Int) = (k.idxOf t : Int) + 1 by omega] at h1
  refine ⟨h1.1, h1.2.trans ?_⟩
  exact List.getElem_idxOf (idx_in h)
theorem idx_self (k : List ByteArray) (u : ByteArray) : (addS k u).idxOf u = k.idxOf u := by
  by_cases h : u ∈ k
  · rw [addS_in h]
  · rw [addS_out h, List.idxOf_append, if_neg h, idx_out h]
    simp
theorem idx_inj {k : List ByteArray} {s t : ByteArray} (hs : s ∈ k) (ht : t ∈ k) (h : k.idxOf s = k.idxOf t) : s = t := by
  have h1 := List.getElem_idxOf (idx_in hs)
  have h2 := List.getElem_idxOf (idx_in ht)
  rw [← h1, ← h2]
  congr 1

set_option maxHeartbeats 4000000 in
set_option maxRecDepth 20000 in
theorem digestApart_walk (A : Option Addr) (c : Nat) (ls : List ByteArray) (s u : ByteArray) (w : World) (hr : Rd w A (strV ls)) (hlc : ls.length ≤ c) (hc : c * 16 ≤ 140737488351232) (_ : ∀ s ∈ ls, s.size ≤ maxLen) (hs0 : s.size ≤ 140737488351232) (hu0 : u.size ≤ 140737488351232) :
    Calls Try.prog 4 #[.slice A ls.length c, .string s, .string u] w fun e w' => e = .returned (.bool true) ∧ Below w.heap.size w w' := by
  obtain ⟨n, hn⟩ : ∃ n, n = ls.length := ⟨_, rfl⟩
  rw [← hn] at hlc ⊢
  have HN := hid hn
  clear hn
  have hnb : n ≤ 140737488355328 := by omega
  go_enter Try.func4, Try.ntmps4
  go_wp2_with fail
  refine (small_any _).mono ?_
  rintro e w1 ⟨rfl, b1⟩
  have hr1 := hr.below b1
  go_wp2_with fail
  refine (few_any A n c ls _ HN.out.symm hnb hr1).mono ?_
  rintro e wu ⟨rfl, rfl⟩
  clear hr
  go_wp2_with fail
  refine (st_new _).mono ?_
  rintro e w2 ⟨g, rfl, h2⟩
  cases hf : fewB ls
  · clear hf
    have b2 := below2 b1 h2.bel
    go_wp2
    go_ret
    exact ⟨rfl, b2⟩
  have HF := hid hf
  have hn100 : n ≤ 100 := by have := few_len hf; have := HN.out; omega
  clear hf
  by_cases hs : 300 < s.size
  · have hs' : (300 : Int) < s.size := by omega
    have b2 := below2 b1 h2.bel
    go_wp2
    go_ret
    exact ⟨rfl, b2⟩
  have hs' : ¬ (300 : Int) < s.size := by omega
  by_cases hu : 300 < u.size
  · have hu' : (300 : Int) < u.size := by omega
    have b2 := below2 b1 h2.bel
    go_wp2
    go_ret
    exact ⟨rfl, b2⟩
  have hu' : ¬ (300 : Int) < u.size := by omega
  go_wp2_with fail
  refine (st_of h2 s (by omega) (by decide)).mono ?_
  rintro e w3 ⟨rfl, h3'⟩
  rw [show addS [] s = [s] from rfl] at h3'
  rw [show (([] : List ByteArray).idxOf s + 1 : Nat) = 1 from rfl]
  clear h2
  go_wp2_with fail
  go_loopw [12] (fun i wr => ∃ j : Nat, j ≤ n ∧ i = .int .i64 j ∧ St wu wr g ((ls.take j).foldl addS [s])) (fun i _ => n - (intOf i).toNat)
  case atStart => exact ⟨0, by omega, rfl, h3'⟩
  case round =>
    obtain ⟨j, hj, rfl, h3⟩ := hrel
    clear h3'
    by_cases hjn : j < n
    · have hjl : j < ls.length := by rw [← HN.out]; exact hjn
      have hk100 : ((ls.take j).foldl addS [s]).length ≤ 101 := len_from (few_len HF.out)
      obtain ⟨k, hk⟩ : ∃ k, (ls.take j).foldl addS [s] = k := ⟨_, rfl⟩
      have HK := hid (fold_snoc (k0 := [s]) hjl)
      rw [hk] at h3 hk100 HK
      clear hk
      obtain ⟨b, off, rfl, h0, hb0⟩ := hr1.at_ (k := j) (by rw [strV_length]; exact hjl)
      rw [show (strV ls)[j]'(by rw [strV_length]; exact hjl) = .string ls[j] by simp [strV]] at h0
      have hsx := few_size HF.out hjl
      obtain ⟨x, hx⟩ : ∃ x, ls[j] = x := ⟨_, rfl⟩
      rw [hx] at h0 hsx HK
      clear hx
      have h1 := (h3.bel.cell (p := ⟨b, off + j, none⟩) hb0).trans h0
      have hz : (0 : Int) ≤ j := by omega
      have hlt : (j : Int) < n := by omega
      go_wp2_with fail
      refine (st_of h3 x (by omega) (by omega)).mono ?_
      rintro e w5 ⟨rfl, h5⟩
      rw [← HK.out] at h5
      generalize k.idxOf x = d at *
      go_wp2
      go_roundw
      case rel => exact ⟨j + 1, by omega, by go_num, h5⟩
      case measure => simp [intOf]; omega
    · have e : n = j := by omega
      subst e
      have hk100 : ((ls.take n).foldl addS [s]).length ≤ 101 := len_from (few_len HF.out)
      have HM := hid ((mem_fold (ls.take n) [s] s).2 (.inl (List.mem_singleton.2 rfl)))
      have HI := hid (idx_fold (ls.take n) [s] (List.mem_singleton.2 (rfl : s = s)))
      rw [show [s].idxOf s = 0 by simp] at HI
      obtain ⟨k, hk⟩ : ∃ k, (ls.take n).foldl addS [s] = k := ⟨_, rfl⟩
      rw [hk] at h3 hk100 HM HI
      clear hk
      go_wp2_with fail
      refine (st_of h3 u (by omega) (by omega)).mono ?_
      rintro e w4 ⟨rfl, h4⟩
      have hk2 := len_addS k u
      have HM2 := hid (mem_addS (s := u).2 (.inl HM.out))
      have HI2 := hid ((idx_addS (s := u) HM.out).trans HI.out)
      have HU := hid (mem_addS (k := k).2 (.inr (rfl : u = u)))
      have HX := hid (idx_self k u)
      have HD : Hid (s = u → 0 = k.idxOf u) := hid (fun e => by rw [← e, HI.out])
      have HIJ := hid (fun h => idx_inj HM2.out HU.out h)
      rw [HI2.out, HX.out] at HIJ
      have HT1 := hid (text_idx HM2.out)
      rw [HI2.out] at HT1
      have HT2 := hid (text_idx HU.out)
      rw [HX.out] at HT2
      have HS := hid (addS_in HM2.out)
      generalize addS k u = k2 at *
      generalize k.idxOf u = d at *
      clear h3
      go_wp2_with fail
      refine (st_of h4 s (by omega) (by omega)).mono ?_
      rintro e w5 ⟨rfl, h5⟩
      rw [HS.out] at h5
      rw [HI2.out]
      clear h4
      go_wp2_with fail
      refine (st_text h5 _).mono ?_
      rintro e w6 ⟨rfl, h6⟩
      rw [show textB k2 1 = true from HT1.out.1, show textS k2 1 = s from HT1.out.2]
      clear h5
      go_wp2_with fail
      refine (st_text h6 _).mono ?_
      rintro e w7 ⟨rfl, h7⟩
      rw [HT2.out.1, HT2.out.2]
      have b7 := below2 b1 h7.bel
      clear h6 h7
      by_cases hsu : s = u
      · have hd : d = 0 := by
          exact (HD.out hsu).symm
        subst hsu
        subst hd
        go_wp2
        go_ret
        exact ⟨rfl, b7⟩
      · have hd : ((1 : Int) == (d : Int) + 1) = false := by
          rw [beq_eq_false_iff_ne]
          intro e
          exact hsu (HIJ.out (by omega))
        have hne := strs_ne hsu
        go_wp2
        go_ret
        exact ⟨rfl, b7⟩
end Go.Proofs.Ytkmpkhjljkbpdaa
