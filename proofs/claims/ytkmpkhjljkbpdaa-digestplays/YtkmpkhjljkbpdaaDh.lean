/- The document's answers of layer 6. -/
import Derived.Test.YtkmpkhjljkbpdaaDe
namespace Go.Proofs.Ytkmpkhjljkbpdaa
open Go.RowKit Go.Maps

/-! ### The document's table -/
def RTab (w : World) (g : Nat) (k : List ByteArray) (F : Nat → Prop) : Prop :=
  ∃ A c, Blk w g [.slice A k.length c] 30 ∧ w.ownsRow 0 9 1 (.slice A k.length c) k.length (strV k) ∧ (∀ i, F i ↔ i = g ∨ (Value.slice A k.length c).ownBlock = some i) ∧ k.length ≤ 65536
section
variable {w w' : World} {g : Nat} {k : List ByteArray} {F G : Nat → Prop}
theorem RTab.lt (h : RTab w g k F) : ∀ i, F i → i < w.heap.size := by
  obtain ⟨A, c, hB, hr, hF, -⟩ := h
  intro i hi
  rcases (hF i).1 hi with rfl | hi
  · exact hB.lt
  · exact (hr.lt i hi).2
theorem RTab.keep (h : RTab w g k F) (hf : Fr G w w') (hd : ∀ i, F i → ¬ G i) : RTab w' g k F := by
  have hl := h.lt
  obtain ⟨A, c, hB, hr, hF, h5⟩ := h
  have same : ∀ i, F i → w'.heap[i]? = w.heap[i]? := fun i hi => hf.block i (hl i hi) (hd i hi)
  refine ⟨A, c, ?_, ?_, hF, h5⟩
  · unfold Blk
    rw [same g ((hF g).2 (.inl rfl))]
    exact hB
  · refine ⟨hr.1, ?_⟩
    rcases hr.2 with h1 | ⟨g', cap, cur, h1, h2, h3, h4⟩
    · exact .inl h1
    · exact .inr ⟨g', cap, cur, h1, h2, by rw [same g' ((hF g').2 (.inr (by rw [h1]; rfl)))]; exact h3, h4⟩
theorem RTab.below (h : RTab w g k F) (hb : Below w.heap.size w w') : RTab w' g k F := h.keep (Fr.of_below (fun _ => False) hb) (fun _ _ h => h)
end
theorem rtab_new (w : World) : RTab (w.alloc (.cells #[.slice none 0 0] 30)) w.heap.size [] (fun i => i = w.heap.size) :=
  ⟨none, 0, Blk.new w [.slice none 0 0] 30, World.ownsRow_nil _ _ _ _, fun i => by simp [Value.ownBlock], by simp⟩

/-! ### find, Known -/
def findN (k : List ByteArray) (s : ByteArray) : Nat := if s ∈ k then k.idxOf s + 1 else 0
theorem idx_at {k : List ByteArray} {s : ByteArray} {j : Nat} (hj : j < k.length) (h : k[j] = s) (hb : ∀ i (hi : i < k.length), i < j → k[i] ≠ s) : k.idxOf s = j := by
  have hm : s ∈ k := h ▸ List.getElem_mem hj
  have h1 := idx_in hm
  have h2 := List.getElem_idxOf h1
  by_cases e : k.idxOf s < j
  · exact absurd h2 (hb _ h1 e)
  · refine Nat.le_antisymm ?_ (by omega)
    by_cases e2 : j < k.idxOf s
    · have h3 : (k.findIdx (· == s)) = k.idxOf s := rfl
      have h4 := List.not_of_lt_findIdx (p := (· == s)) (xs := k) (i := j) (by rw [h3]; exact e2)
      simp [h] at h4
    · omega
theorem find_at {k : List ByteArray} {s : ByteArray} {j : Nat} (hj : j < k.length) (h : k[j] = s) (hb : ∀ i (hi : i < k.length), i < j → k[i] ≠ s) : findN k s = j + 1 := by
  rw [findN, if_pos (h ▸ List.getElem_mem hj), idx_at hj h hb]
theorem find_no {k : List ByteArray} {s : ByteArray} (hb : ∀ i (hi : i < k.length), k[i] ≠ s) : findN k s = 0 := by
  rw [findN, if_neg]
  intro hm
  obtain ⟨i, hi, e⟩ := List.mem_iff_getElem.1 hm
  exact hb i hi e
theorem ret_int {a b : Int} (h : a = b) : Ending.returned (.int .i64 a) = .returned (.int .i64 b) := by rw [h]

set_option maxHeartbeats 1000000 in
theorem rfind_any {w : World} {g : Nat} {k : List ByteArray} {F : Nat → Prop} (h : RTab w g k F) (s : ByteArray) :
    Calls Try.prog 18 #[.pointer (some ⟨g, 0, none⟩), .string s] w fun e w' => e = .returned (.int .i64 (findN k s)) ∧ w' = w := by
  obtain ⟨A, c, hB, hr, -, hl⟩ := h
  have c0 := hB.cell 0
  simp only [List.getElem?_cons_zero] at c0
  have hrd := Rd.of_own hr
  clear hB hr
  obtain ⟨n, hn⟩ : ∃ n, n = k.length := ⟨_, rfl⟩
  rw [← hn] at c0 hl
  have HN := hid hn
  clear hn
  go_enter Try.func18, Try.ntmps18
  go_wp2
  go_loop [5] (fun i => ∃ j : Nat, j ≤ n ∧ i = .int .i64 j ∧ Hid (∀ i (hi : i < k.length), i < j → k[i] ≠ s)) (fun i => n - (intOf i).toNat)
  case atStart => exact ⟨0, by omega, rfl, hid (fun i _ h => absurd h (by omega))⟩
  case round =>
    obtain ⟨j, hj, rfl, HO⟩ := hrel
    by_cases hjn : j < n
    · have hjl : j < k.length := by rw [← HN.out]; exact hjn
      obtain ⟨b, off, rfl, h1, -⟩ := hrd.at_ (k := j) (by rw [strV_length]; exact hjl)
      rw [show (strV k)[j]'(by rw [strV_length]; exact hjl) = .string k[j] by simp [strV]] at h1
      have hz : (0 : Int) ≤ j := by omega
      have hlt : (j : Int) < n := by omega
      by_cases hs : k[j] = s
      · have HF := hid (find_at hjl hs HO.out)
        rw [hs] at h1
        clear hs
        go_wp2
        go_ret
        exact ⟨ret_int (by rw [HF.out]; omega), rfl⟩
      · have HS := hid hs
        have hne := strs_ne hs
        generalize hx : k[j] = x at h1 hne
        clear hs
        go_wp2
        go_round
        case rel =>
          refine ⟨j + 1, by omega, by go_num, hid (fun i hi hij => ?_)⟩
          by_cases e : i = j
          · subst e
            exact HS.out
          · exact HO.out i hi (by omega)
        case measure => simp [intOf]; omega
    · have e : n = j := by omega
      subst e
      have HF := hid (find_no (fun i hi => HO.out i hi (by have := HN.out; omega)))
      go_wp2
      go_ret
      exact ⟨ret_int (by rw [HF.out]; rfl), rfl⟩

theorem rknown_any {w : World} {g : Nat} {k : List ByteArray} {F : Nat → Prop} (h : RTab w g k F) (s : ByteArray) :
    Calls Try.prog 12 #[.pointer (some ⟨g, 0, none⟩), .string s] w fun e w' => e = .returned (.bool (decide (s ∈ k))) ∧ w' = w := by
  have hf := rfind_any h s
  clear h
  by_cases hin : s ∈ k
  · rw [decide_eq_true hin]
    rw [findN, if_pos hin] at hf
    go_enter Try.func12, Try.ntmps12
    go_wp2_with fail
    refine hf.mono ?_
    rintro e wu ⟨rfl, rfl⟩
    generalize k.idxOf s = d at *
    have hd : (0 : Int) < (d : Int) + 1 := by omega
    go_wp2
    go_ret
    exact ⟨ret_bool (by simp), rfl⟩
  · rw [decide_eq_false hin]
    rw [findN, if_neg hin] at hf
    go_enter Try.func12, Try.ntmps12
    go_wp2_with fail
    refine hf.mono ?_
    rintro e wu ⟨rfl, rfl⟩
    go_wp2
    go_ret
    exact ⟨rfl, rfl⟩

/-! ### Text -/
set_option maxHeartbeats 400000 in
theorem rtext_any {w : World} {g : Nat} {k : List ByteArray} {F : Nat → Prop} (h : RTab w g k F) (d : Int) :
    Calls Try.prog 17 #[.pointer (some ⟨g, 0, none⟩), .int .i64 d] w fun e w' => e = .returned (.tuple #[.string (textS k d), .bool (textB k d)]) ∧ w' = w := by
  obtain ⟨A, c, hB, hr, -, hl⟩ := h
  have c0 := hB.cell 0
  simp only [List.getElem?_cons_zero] at c0
  have HR := hid (Rd.of_own hr)
  clear hr hB
  by_cases h1 : d < 1
  · have HT := hid (text_no (k := k) (d := d) (by omega))
    go_enter Try.func17, Try.ntmps17
    go_wp2
    go_ret2
    exact ⟨text_ret HT.out, rfl⟩
  · by_cases h2 : (k.length : Int) < d
    · have HT := hid (text_no (k := k) (d := d) (by omega))
      go_enter Try.func17, Try.ntmps17
      go_wp2
      go_ret2
      exact ⟨text_ret HT.out, rfl⟩
    · obtain ⟨j, rfl⟩ : ∃ j : Nat, d = ((j + 1 : Nat) : Int) := ⟨(d - 1).toNat, by omega⟩
      have hj : j < k.length := by omega
      have HT := hid (text_yes hj)
      obtain ⟨b, off, rfl, hc, -⟩ := HR.out.at_ (k := j) (by rw [strV_length]; exact hj)
      have hx : w.cell? ⟨b, off + j, none⟩ = some (.string k[j]) := by rw [hc]; simp [strV]
      clear hc HR
      generalize k[j] = x at *
      have e1 : (((j + 1 : Nat) : Int) - 1) = (j : Int) := by omega
      go_enter Try.func17, Try.ntmps17
      go_wp2
      go_ret2
      exact ⟨text_ret HT.out, rfl⟩

/-! ### Of -/
def ROfPost (w : World) (g : Nat) (k : List ByteArray) (s : ByteArray) (F : Nat → Prop) (e : Ending) (w' : World) : Prop :=
  ∃ F', e = .returned (.tuple #[.int .i64 ((k.idxOf s + 1 : Nat) : Int), .int .i64 0]) ∧ RTab w' g (addS k s) F' ∧ Fr F w w' ∧ ∀ i, F' i → F i ∨ w.heap.size ≤ i
set_option maxHeartbeats 1000000 in
set_option maxRecDepth 10000 in
theorem rof_any {w : World} {g : Nat} {k : List ByteArray} {F : Nat → Prop} (h : RTab w g k F) (s : ByteArray) (hl : k.length < 65536) :
    Calls Try.prog 14 #[.pointer (some ⟨g, 0, none⟩), .string s] w (ROfPost w g k s F) := by
  have hf := rfind_any h s
  by_cases hin : s ∈ k
  · rw [findN, if_pos hin] at hf
    have HA := hid (addS_in hin)
    have HT := hid h
    clear h
    go_enter Try.func14, Try.ntmps14
    go_wp2_with fail
    refine hf.mono ?_
    rintro e wu ⟨rfl, rfl⟩
    obtain ⟨d, hd⟩ : ∃ d, k.idxOf s = d := ⟨_, rfl⟩
    have HD := hid hd
    rw [hd]
    clear hd
    have hd : (0 : Int) < (d : Int) + 1 := by omega
    go_wp2
    go_ret2
    exact ⟨F, ret_of (by rw [HD.out]; omega), by rw [HA.out]; exact HT.out, Fr.refl _ _, fun i hi => .inl hi⟩
  · rw [findN, if_neg hin] at hf
    obtain ⟨A, c, hB, hr, hF, -⟩ := h
    have HIN := hid hin
    obtain ⟨n, hn⟩ : ∃ n, n = k.length := ⟨_, rfl⟩
    rw [← hn] at hB hr hl
    have HF : Hid (∀ i, F i ↔ i = g ∨ (Value.slice A n c).ownBlock = some i) := by rw [hn]; exact hF
    have HN := hid hn
    clear hn hF hin
    have ne1 := hid (row_type hr hB (by decide))
    have c0 := hB.cell 0
    simp only [List.getElem?_cons_zero] at c0
    have hl' : decide ((65536 : Int) ≤ n) = false := decide_eq_false (by omega)
    have HLN := hid hl
    clear hl
    go_enter Try.func14, Try.ntmps14
    go_wp2_with fail
    refine hf.mono ?_
    rintro e wu ⟨rfl, rfl⟩
    go_wp2_with (first
      | (at_builtin
         refine wpApp1 _ rfl _ _ 22 rfl 0 9 (.string ⟨#[]⟩) 16 Try.underlying22 Try.infoS rfl A n c (strV k) rfl (hr.alloc _) ⟨wu.heap.size, 0, none⟩ (.string s) rfl (cell_one_new _ _ _ 0 _ rfl) rfl (by have := HLN.out; omega) (Nat.zero_le _) (by have := HLN.out; unfold maxLen; omega) ?_
         intro A' c' w2 hr2 hg2 hloc
         have hB2 := Blk.grown (hB.below ((Below.refl _ _).alloc (Nat.le_refl _) _)) hg2 ne1.out
         have c2 := hB2.cell 0
         have f2 := hB2.frozen 0
         simp only [List.getElem?_cons_zero] at c2)
      | go_in)
    go_ret2
    have hl := HLN.out
    have hB3 := hB2.set_ 0 (.slice A' (n + 1) c')
    simp only [List.set_cons_zero] at hB3
    have hr3 := hr2.kept (grown_set (g := g) 0 (.slice A' (n + 1) c')) (.inr (row_type hr2 hB2 (by decide)))
    have e : (k ++ [s]).length = n + 1 := by rw [List.length_append, ← HN.out]; rfl
    refine ⟨fun i => i = g ∨ (Value.slice A' (n + 1) c').ownBlock = some i, ret_of (by rw [idx_out HIN.out, ← HN.out]; omega), ?_, ?_, ?_⟩
    · rw [addS_out HIN.out]
      exact ⟨A', c', by rw [e]; exact hB3, by rw [e, strV_append]; exact hr3, by rw [e]; exact fun i => Iff.rfl, by omega⟩
    · have hf1 := Fr.of_below F ((Below.refl wu.heap.size wu).alloc (Nat.le_refl _) (.cells #[.string s] 9))
      have hf2 := hf1.trans (Fr.of_grown (F := F) hg2 (fun i hi => (HF.out i).2 (.inr hi))) (fun i hi => .inl hi)
      exact hf2.trans (Fr.of_grown (F := F) (grown_set (g := g) 0 (.slice A' (n + 1) c')) (fun i hi => (HF.out i).2 (.inl (by injection hi with hi; exact hi.symm)))) (fun i hi => .inl hi)
    · rintro i (rfl | hi)
      · exact .inl ((HF.out _).2 (.inl rfl))
      · rcases hloc with e | e
        · exact .inl ((HF.out i).2 (.inr (e.symm.trans hi)))
        · rw [hi] at e
          injection e with e
          rw [World.size_alloc] at e
          exact .inr (by omega)
end Go.Proofs.Ytkmpkhjljkbpdaa
