/- DigestSame: two tables; the walk. -/
import Derived.Test.YtkmpkhjljkbpdaaDe
namespace Go.Proofs.Ytkmpkhjljkbpdaa
open Go.RowKit Go.Maps

/-! ### Two tables that were made since the world w0, apart from each other -/
def St2 (w0 w : World) (g : Nat) (k : List ByteArray) (g' : Nat) (k' : List ByteArray) : Prop :=
  ∃ F G, Tab w g k F ∧ Tab w g' k' G ∧ (∀ i, F i → ¬ G i) ∧ Below w0.heap.size w0 w ∧ (∀ i, F i → w0.heap.size ≤ i) ∧ ∀ i, G i → w0.heap.size ≤ i
section
variable {w0 w : World} {g g' : Nat} {k k' : List ByteArray}
theorem St2.bel (h : St2 w0 w g k g' k') : Below w0.heap.size w0 w := by obtain ⟨_, _, _, _, _, hb, _⟩ := h; exact hb
theorem St2.swap (h : St2 w0 w g k g' k') : St2 w0 w g' k' g k := by
  obtain ⟨F, G, h1, h2, h3, h4, h5, h6⟩ := h
  exact ⟨G, F, h2, h1, fun i hg hf => h3 i hf hg, h4, h6, h5⟩
theorem St2.left (h : St2 w0 w g k g' k') : St w0 w g k := by
  obtain ⟨F, G, h1, h2, h3, h4, h5, h6⟩ := h
  exact ⟨F, h1, h4, h5⟩
def St2Post (w0 : World) (g : Nat) (e : Ending) (w' : World) : Prop := ∃ g', e = .returned (.pointer (some ⟨g', 0, none⟩)) ∧ St2 w0 w' g [] g' []
theorem st2_new (h : St w0 w g []) : Calls Try.prog 10 #[] w (St2Post w0 g) := by
  obtain ⟨F, hT, hb, hF⟩ := h
  refine (new_any w).mono ?_
  rintro e w' ⟨g', G, rfl, hT', hb', hG⟩
  exact ⟨g', rfl, F, G, hT.below hb', hT', fun i hf hg => by have := hT.lt i hf; have := hG i hg; omega, below2 hb hb', hF, fun i hi => Nat.le_trans hb.size (hG i hi)⟩
theorem st2_of (h : St2 w0 w g k g' k') (s : ByteArray) (hs : s.size ≤ 140737488355328) (hl : k.length < 65536) :
    Calls Try.prog 13 #[.pointer (some ⟨g, 0, none⟩), .string s] w fun e w' => e = .returned (.tuple #[.int .i64 ((k.idxOf s + 1 : Nat) : Int), .int .i64 0]) ∧ St2 w0 w' g (addS k s) g' k' := by
  obtain ⟨F, G, hT, hT2, hd, hb, hF, hG⟩ := h
  refine (of_any hT s hs hl).mono ?_
  rintro e w' ⟨F', rfl, hT', hf, hF'⟩
  refine ⟨rfl, F', G, hT', hT2.keep hf (fun i hg hf => hd i hf hg), fun i hf' hg => ?_, hb.trans (hf.to_below hF hb.size), fun i hi => (hF' i hi).elim (hF i) (fun h => Nat.le_trans hb.size h), hG⟩
  rcases hF' i hf' with h1 | h1
  · exact hd i h1 hg
  · have := hT2.lt i hg
    omega
end

set_option maxHeartbeats 4000000 in
set_option maxRecDepth 20000 in
theorem digestSame_walk (A : Option Addr) (c : Nat) (ls : List ByteArray) (s : ByteArray) (w : World) (hr : Rd w A (strV ls)) (hlc : ls.length ≤ c) (hc : c * 16 ≤ 140737488351232) (_ : ∀ s ∈ ls, s.size ≤ maxLen) (hs0 : s.size ≤ 140737488351232) :
    Calls Try.prog 6 #[.slice A ls.length c, .string s] w fun e w' => e = .returned (.bool true) ∧ Below w.heap.size w w' := by
  obtain ⟨n, hn⟩ : ∃ n, n = ls.length := ⟨_, rfl⟩
  rw [← hn] at hlc ⊢
  have HN := hid hn
  clear hn
  have hnb : n ≤ 140737488355328 := by omega
  go_enter Try.func6, Try.ntmps6
  go_wp2_with fail
  refine (small_any _).mono ?_
  rintro e w1 ⟨rfl, b1⟩
  have hr1 := hr.below b1
  go_wp2_with fail
  refine (few_any A n c ls _ HN.out.symm hnb hr1).mono ?_
  rintro e wu ⟨rfl, rfl⟩
  clear hr
  go_wp2_with fail
  refine (st_new _).mono ?_
  rintro e w2 ⟨g, rfl, h2⟩
  go_wp2_with fail
  refine (st2_new h2).mono ?_
  rintro e w3 ⟨g', rfl, h2'⟩
  clear h2
  cases hf : fewB ls
  · clear hf
    have b2 := below2 b1 h2'.bel
    go_wp2
    go_ret
    exact ⟨rfl, b2⟩
  have HF := hid hf
  have hn100 : n ≤ 100 := by have := few_len hf; have := HN.out; omega
  clear hf
  by_cases hs : 300 < s.size
  · have hs' : (300 : Int) < s.size := by omega
    have b2 := below2 b1 h2'.bel
    go_wp2
    go_ret
    exact ⟨rfl, b2⟩
  have hs' : ¬ (300 : Int) < s.size := by omega
  go_wp2_with fail
  go_loopw [9] (fun i wr => ∃ j : Nat, j ≤ n ∧ i = .int .i64 j ∧ St2 wu wr g (tabOf (ls.take j)) g' (tabOf (ls.take j))) (fun i _ => n - (intOf i).toNat)
  case atStart => exact ⟨0, by omega, rfl, h2'⟩
  case round =>
    obtain ⟨j, hj, rfl, h3⟩ := hrel
    clear h2'
    by_cases hjn : j < n
    · have hjl : j < ls.length := by rw [← HN.out]; exact hjn
      have hk100 : (tabOf (ls.take j)).length ≤ 100 := len_take (few_len HF.out)
      obtain ⟨k, hk⟩ : ∃ k, tabOf (ls.take j) = k := ⟨_, rfl⟩
      have HK := hid (tab_snoc hjl)
      rw [hk] at h3 hk100 HK
      clear hk
      obtain ⟨b, off, rfl, h0, hb0⟩ := hr1.at_ (k := j) (by rw [strV_length]; exact hjl)
      rw [show (strV ls)[j]'(by rw [strV_length]; exact hjl) = .string ls[j] by simp [strV]] at h0
      have hsx := few_size HF.out hjl
      obtain ⟨x, hx⟩ : ∃ x, ls[j] = x := ⟨_, rfl⟩
      rw [hx] at h0 hsx HK
      clear hx
      have h1 := (h3.bel.cell (p := ⟨b, off + j, none⟩) hb0).trans h0
      have hz : (0 : Int) ≤ j := by omega
      have hlt : (j : Int) < n := by omega
      go_wp2_with fail
      refine (st2_of h3 x (by omega) (by omega)).mono ?_
      rintro e w4 ⟨rfl, h4⟩
      have h1' := (h4.bel.cell (p := ⟨b, off + j, none⟩) hb0).trans h0
      clear h3 h1
      go_wp2_with fail
      refine (st2_of h4.swap x (by omega) (by omega)).mono ?_
      rintro e w5 ⟨rfl, h5⟩
      rw [← HK.out] at h5
      clear h4 h1'
      generalize k.idxOf x = d at *
      go_wp2_with fail
      refine (st_len h5.swap.left).mono ?_
      rintro e wv ⟨rfl, rfl⟩
      go_wp2_with fail
      refine (st_len h5.left).mono ?_
      rintro e wv ⟨rfl, rfl⟩
      go_wp2
      go_roundw
      case rel => exact ⟨j + 1, by omega, by go_num, h5.swap⟩
      case measure => simp [intOf]; omega
    · have e : n = j := by omega
      subst e
      have b3 := below2 b1 h3.bel
      have hsm : s.size ≤ maxLen := by unfold maxLen; omega
      go_wp2_with fail
      refine (st_known h3.left s hsm).mono ?_
      rintro e wv ⟨rfl, rfl⟩
      go_wp2_with fail
      refine (st_known h3.swap.left s hsm).mono ?_
      rintro e wv ⟨rfl, rfl⟩
      generalize decide (s ∈ tabOf (ls.take n)) = bo at *
      go_wp2
      go_ret
      exact ⟨rfl, b3⟩
end Go.Proofs.Ytkmpkhjljkbpdaa
