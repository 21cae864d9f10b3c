/- A table since a start; few; the small case. -/
import Derived.Test.YtkmpkhjljkbpdaaDb
namespace Go.Proofs.Ytkmpkhjljkbpdaa
open Go.RowKit Go.Maps

/-! ### A table that was made since the world w0 -/
def St (w0 w : World) (g : Nat) (k : List ByteArray) : Prop := ∃ F, Tab w g k F ∧ Below w0.heap.size w0 w ∧ ∀ i, F i → w0.heap.size ≤ i
section
variable {w0 w w' : World} {g : Nat} {k : List ByteArray}
theorem St.bel (h : St w0 w g k) : Below w0.heap.size w0 w := by obtain ⟨F, _, hb, _⟩ := h; exact hb
theorem St.below (h : St w0 w g k) (hb : Below w.heap.size w w') : St w0 w' g k := by
  obtain ⟨F, hT, h1, h2⟩ := h
  exact ⟨F, hT.below hb, below2 h1 hb, h2⟩
def StPost (w0 : World) (e : Ending) (w' : World) : Prop := ∃ g, e = .returned (.pointer (some ⟨g, 0, none⟩)) ∧ St w0 w' g []
theorem st_new (w : World) : Calls Try.prog 10 #[] w (StPost w) := by
  refine (new_any w).mono ?_
  rintro e w' ⟨g, F, rfl, hT, hb, hF⟩
  exact ⟨g, rfl, F, hT, hb, hF⟩
theorem st_of (h : St w0 w g k) (s : ByteArray) (hs : s.size ≤ 140737488355328) (hl : k.length < 65536) :
    Calls Try.prog 13 #[.pointer (some ⟨g, 0, none⟩), .string s] w fun e w' => e = .returned (.tuple #[.int .i64 ((k.idxOf s + 1 : Nat) : Int), .int .i64 0]) ∧ St w0 w' g (addS k s) := by
  obtain ⟨F, hT, hb, hF⟩ := h
  refine (of_any hT s hs hl).mono ?_
  rintro e w' ⟨F', rfl, hT', hf, hF'⟩
  exact ⟨rfl, F', hT', hb.trans (hf.to_below hF hb.size), fun i hi => (hF' i hi).elim (hF i) (fun h => Nat.le_trans hb.size h)⟩
theorem st_len (h : St w0 w g k) : Calls Try.prog 15 #[.pointer (some ⟨g, 0, none⟩)] w fun e w' => e = .returned (.int .i64 k.length) ∧ w' = w := by
  obtain ⟨F, hT, _⟩ := h
  exact len_any hT
theorem st_known (h : St w0 w g k) (s : ByteArray) (hs : s.size ≤ maxLen) :
    Calls Try.prog 11 #[.pointer (some ⟨g, 0, none⟩), .string s] w fun e w' => e = .returned (.bool (decide (s ∈ k))) ∧ w' = w := by
  obtain ⟨F, hT, _⟩ := h
  exact known_any hT s hs
theorem st_text (h : St w0 w g k) (d : Int) :
    Calls Try.prog 16 #[.pointer (some ⟨g, 0, none⟩), .int .i64 d] w fun e w' => e = .returned (.tuple #[.string (textS k d), .bool (textB k d)]) ∧ St w0 w' g k := by
  obtain ⟨F, hT, hb, hF⟩ := h
  refine (text_any hT d).mono ?_
  rintro e w' ⟨rfl, hb'⟩
  exact ⟨rfl, F, hT.below hb', below2 hb hb', hF⟩
end

/-! ### few -/
def fewB (l : List ByteArray) : Bool := decide (l.length ≤ 100 ∧ ∀ s ∈ l, s.size ≤ 300)
theorem few_at {l : List ByteArray} {n : Nat} (hn : l.length = n) (h : ∀ i (hi : i < l.length), i < n → l[i].size ≤ 300) (h2 : n ≤ 100) : fewB l = true :=
  decide_eq_true ⟨by omega, fun s hs => by
    obtain ⟨i, hi, rfl⟩ := List.mem_iff_getElem.1 hs
    exact h i hi (by omega)⟩
set_option maxHeartbeats 400000 in
theorem few_any (A : Option Addr) (n c : Nat) (ls : List ByteArray) (w : World) (hl : ls.length = n) (hn : n ≤ 140737488355328) (ha : Rd w A (strV ls)) :
    Calls Try.prog 9 #[.slice A n c] w fun e w' => e = .returned (.bool (fewB ls)) ∧ w' = w := by
  have HL := hid hl
  clear hl
  go_enter Try.func9, Try.ntmps9
  go_wp2
  go_loop [3] (fun i => ∃ j : Nat, j ≤ n ∧ i = .int .i64 j ∧ Hid (∀ i (hi : i < ls.length), i < j → ls[i].size ≤ 300)) (fun i => n - (intOf i).toNat)
  case atStart => exact ⟨0, by omega, rfl, hid (fun i _ h => absurd h (by omega))⟩
  case round =>
    obtain ⟨j, hj, rfl, HO⟩ := hrel
    by_cases hjn : j < n
    · have hjl : j < ls.length := by rw [HL.out]; exact hjn
      obtain ⟨b, off, rfl, hc, -⟩ := ha.at_ (k := j) (by rw [strV_length]; exact hjl)
      have h1 : w.cell? ⟨b, off + j, none⟩ = some (.string ls[j]) := by rw [hc]; simp [strV]
      clear hc
      by_cases hs : ls[j].size ≤ 300
      · have HS := hid hs
        obtain ⟨x, hx⟩ : ∃ x, ls[j] = x := ⟨_, rfl⟩
        have HX := hid hx
        rw [hx] at hs h1
        clear hx
        have hs' : ¬ (300 : Int) < x.size := by omega
        go_wp2
        go_round
        case rel =>
          refine ⟨j + 1, by omega, by go_num, hid (fun i hi hij => ?_)⟩
          by_cases e : i = j
          · subst e
            exact HS.out
          · exact HO.out i hi (by omega)
        case measure => simp [intOf]; omega
      · have HF : Hid (fewB ls = false) := hid (decide_eq_false (fun h => hs (h.2 _ (List.getElem_mem hjl))))
        obtain ⟨x, hx⟩ : ∃ x, ls[j] = x := ⟨_, rfl⟩
        rw [hx] at hs h1
        clear hx
        have hs' : (300 : Int) < x.size := by omega
        go_wp2
        go_ret
        exact ⟨ret_bool HF.out.symm, rfl⟩
    · have e : n = j := by omega
      subst e
      by_cases h100 : n ≤ 100
      · have HF := hid (few_at HL.out HO.out h100)
        have h100' : (n : Int) ≤ 100 := by omega
        go_wp2
        go_ret
        exact ⟨ret_bool HF.out.symm, rfl⟩
      · have HF : Hid (fewB ls = false) := hid (decide_eq_false (fun h => h100 (by have := h.1; have := HL.out; omega)))
        have h100' : ¬ (n : Int) ≤ 100 := by omega
        go_wp2
        go_ret
        exact ⟨ret_bool HF.out.symm, rfl⟩

/-! ### small -/
theorem nil_a : ((List.idxOf (⟨#[97]⟩ : ByteArray) [] + 1 : Nat) : Int) = 1 := rfl
theorem add_a : addS [] (⟨#[97]⟩ : ByteArray) = [⟨#[97]⟩] := by decide
theorem one_b : ((List.idxOf (⟨#[98]⟩ : ByteArray) [⟨#[97]⟩] + 1 : Nat) : Int) = 2 := by decide
theorem add_b : addS [⟨#[97]⟩] (⟨#[98]⟩ : ByteArray) = [⟨#[97]⟩, ⟨#[98]⟩] := by decide
theorem two_a : ((List.idxOf (⟨#[97]⟩ : ByteArray) [⟨#[97]⟩, ⟨#[98]⟩] + 1 : Nat) : Int) = 1 := by decide
theorem add_ab : addS [⟨#[97]⟩, ⟨#[98]⟩] (⟨#[97]⟩ : ByteArray) = [⟨#[97]⟩, ⟨#[98]⟩] := by decide
theorem txt2 : textS [⟨#[97]⟩, ⟨#[98]⟩] 2 = ⟨#[98]⟩ ∧ textB [⟨#[97]⟩, ⟨#[98]⟩] 2 = true := by decide
theorem txt3 : textS [⟨#[97]⟩, ⟨#[98]⟩] 3 = ⟨#[]⟩ ∧ textB [⟨#[97]⟩, ⟨#[98]⟩] 3 = false := by decide
theorem in_a : decide ((⟨#[97]⟩ : ByteArray) ∈ ([⟨#[97]⟩, ⟨#[98]⟩] : List ByteArray)) = true := by decide
theorem in_e : decide ((⟨#[]⟩ : ByteArray) ∈ ([⟨#[97]⟩, ⟨#[98]⟩] : List ByteArray)) = false := by decide
set_option maxHeartbeats 4000000 in
set_option maxRecDepth 20000 in
theorem small_any (w : World) : Calls Try.prog 8 #[] w fun e w' => e = .returned (.bool true) ∧ Below w.heap.size w w' := by
  go_enter Try.func8, Try.ntmps8
  go_wp2_with fail
  refine (st_new _).mono ?_
  rintro e w1 ⟨g, rfl, h1⟩
  go_wp2_with fail
  refine (st_of h1 _ (by decide) (by decide)).mono ?_
  rintro e w2 ⟨rfl, h2⟩
  rw [nil_a]
  rw [add_a] at h2
  clear h1
  go_wp2_with fail
  refine (st_of h2 _ (by decide) (by decide)).mono ?_
  rintro e w3 ⟨rfl, h3⟩
  rw [one_b]
  rw [add_b] at h3
  clear h2
  go_wp2_with fail
  refine (st_of h3 _ (by decide) (by decide)).mono ?_
  rintro e w4 ⟨rfl, h4⟩
  rw [two_a]
  rw [add_ab] at h4
  clear h3
  go_wp2_with fail
  refine (st_text h4 _).mono ?_
  rintro e w5 ⟨rfl, h5⟩
  rw [txt2.1, txt2.2]
  clear h4
  go_wp2_with fail
  refine (st_text h5 _).mono ?_
  rintro e w6 ⟨rfl, h6⟩
  rw [txt3.1, txt3.2]
  clear h5
  go_wp2_with fail
  refine (st_known h6 _ (by decide)).mono ?_
  rintro e wu ⟨rfl, rfl⟩
  rw [in_a]
  go_wp2_with fail
  refine (st_known h6 _ (by decide)).mono ?_
  rintro e wu ⟨rfl, rfl⟩
  rw [in_e]
  go_wp2_with fail
  refine (st_len h6).mono ?_
  rintro e wu ⟨rfl, rfl⟩
  go_wp2
  go_ret
  exact ⟨rfl, h6.bel⟩
end Go.Proofs.Ytkmpkhjljkbpdaa
