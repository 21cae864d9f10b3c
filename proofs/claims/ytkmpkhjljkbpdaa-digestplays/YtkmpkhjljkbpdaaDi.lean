/- DigestPlays: the walk. -/
import Derived.Test.YtkmpkhjljkbpdaaDh
namespace Go.Proofs.Ytkmpkhjljkbpdaa
open Go.RowKit Go.Maps

theorem still_call {P : Program} {f : FuncId} {args : Array Value} {W : World} {v : Value} {R : World → Prop} (h : Calls P f args W fun e w' => e = .returned v ∧ w' = W) (hR : R W) : Calls P f args W fun e w' => e = .returned v ∧ R w' :=
  h.mono fun _ _ hx => ⟨hx.1, by rw [hx.2]; exact hR⟩

/-! ### The program's table and the document's, apart from each other -/
def StR (w0 w : World) (g : Nat) (k : List ByteArray) (g' : Nat) (k' : List ByteArray) : Prop :=
  ∃ F G, Tab w g k F ∧ RTab w g' k' G ∧ (∀ i, F i → ¬ G i) ∧ Below w0.heap.size w0 w ∧ (∀ i, F i → w0.heap.size ≤ i) ∧ ∀ i, G i → w0.heap.size ≤ i
section
variable {w0 w : World} {g g' : Nat} {k k' : List ByteArray}
theorem StR.bel (h : StR w0 w g k g' k') : Below w0.heap.size w0 w := by obtain ⟨_, _, _, _, _, hb, _⟩ := h; exact hb
theorem StR.left (h : StR w0 w g k g' k') : St w0 w g k := by
  obtain ⟨F, G, h1, h2, h3, h4, h5, h6⟩ := h
  exact ⟨F, h1, h4, h5⟩
theorem StR.right (h : StR w0 w g k g' k') : ∃ G, RTab w g' k' G := by
  obtain ⟨F, G, h1, h2, h3, h4, h5, h6⟩ := h
  exact ⟨G, h2⟩
theorem StR.rcell (h : StR w0 w g k g' k') : ∃ A c, w.cell? ⟨g', 0, none⟩ = some (.slice A k'.length c) := by
  obtain ⟨F, G, h1, ⟨A, c, hB, _⟩, _⟩ := h
  have c0 := hB.cell 0
  simp only [List.getElem?_cons_zero] at c0
  exact ⟨A, c, c0⟩
theorem StR.drewN (h : StR w0 w g k g' k') (q : Nat) : StR w0 (w.drewN q) g k g' k' := by
  obtain ⟨F, G, h1, h2, h3, h4, h5, h6⟩ := h
  exact ⟨F, G, h1, h2, h3, ⟨h4.os, h4.tape, h4.output, h4.size, h4.block⟩, h5, h6⟩
theorem StR.below {w' : World} (h : StR w0 w g k g' k') (hb : Below w.heap.size w w') : StR w0 w' g k g' k' := by
  obtain ⟨F, G, h1, h2, h3, h4, h5, h6⟩ := h
  exact ⟨F, G, h1.below hb, h2.below hb, h3, below2 h4 hb, h5, h6⟩
theorem stR_new (h : St w0 w g []) : StR w0 (w.alloc (.cells #[.slice none 0 0] 30)) g [] w.heap.size [] := by
  obtain ⟨F, hT, hb, hF⟩ := h
  have hb' : Below w.heap.size w (w.alloc (.cells #[.slice none 0 0] 30)) := (Below.refl _ _).alloc (Nat.le_refl _) _
  exact ⟨F, _, hT.below hb', rtab_new w, fun i hf hg => by have := hT.lt i hf; omega, below2 hb hb', hF, fun i hi => by have := hb.size; omega⟩
theorem stR_of (h : StR w0 w g k g' k') (s : ByteArray) (hs : s.size ≤ 140737488355328) (hl : k.length < 65536) :
    Calls Try.prog 13 #[.pointer (some ⟨g, 0, none⟩), .string s] w fun e w' => e = .returned (.tuple #[.int .i64 ((k.idxOf s + 1 : Nat) : Int), .int .i64 0]) ∧ StR w0 w' g (addS k s) g' k' := by
  obtain ⟨F, G, hT, hT2, hd, hb, hF, hG⟩ := h
  refine (of_any hT s hs hl).mono ?_
  rintro e w' ⟨F', rfl, hT', hf, hF'⟩
  refine ⟨rfl, F', G, hT', hT2.keep hf (fun i hg hf => hd i hf hg), fun i hf' hg => ?_, hb.trans (hf.to_below hF hb.size), fun i hi => (hF' i hi).elim (hF i) (fun h => Nat.le_trans hb.size h), hG⟩
  rcases hF' i hf' with h1 | h1
  · exact hd i h1 hg
  · have := hT2.lt i hg
    omega
theorem stR_rof (h : StR w0 w g k g' k') (s : ByteArray) (hl : k'.length < 65536) :
    Calls Try.prog 14 #[.pointer (some ⟨g', 0, none⟩), .string s] w fun e w' => e = .returned (.tuple #[.int .i64 ((k'.idxOf s + 1 : Nat) : Int), .int .i64 0]) ∧ StR w0 w' g k g' (addS k' s) := by
  obtain ⟨F, G, hT, hT2, hd, hb, hF, hG⟩ := h
  refine (rof_any hT2 s hl).mono ?_
  rintro e w' ⟨G', rfl, hT', hf, hG'⟩
  refine ⟨rfl, F, G', hT.keep hf (fun i hf hg => hd i hf hg), hT', fun i hf' hg => ?_, hb.trans (hf.to_below hG hb.size), hF, fun i hi => (hG' i hi).elim (hG i) (fun h => Nat.le_trans hb.size h)⟩
  rcases hG' i hg with h1 | h1
  · exact hd i hf' h1
  · have := hT.lt i hf'
    omega
theorem stR_text (h : StR w0 w g k g' k') (d : Int) :
    Calls Try.prog 16 #[.pointer (some ⟨g, 0, none⟩), .int .i64 d] w fun e w' => e = .returned (.tuple #[.string (textS k d), .bool (textB k d)]) ∧ StR w0 w' g k g' k' := by
  have h' := h
  obtain ⟨F, G, hT, -⟩ := h'
  refine (text_any hT d).mono ?_
  rintro e w' ⟨rfl, hb'⟩
  exact ⟨rfl, h.below hb'⟩
theorem stR_rtext (h : StR w0 w g k g' k') (d : Int) :
    Calls Try.prog 17 #[.pointer (some ⟨g', 0, none⟩), .int .i64 d] w fun e w' => e = .returned (.tuple #[.string (textS k' d), .bool (textB k' d)]) ∧ w' = w := by
  obtain ⟨G, hT⟩ := h.right
  exact rtext_any hT d
theorem stR_rknown (h : StR w0 w g k g' k') (s : ByteArray) :
    Calls Try.prog 12 #[.pointer (some ⟨g', 0, none⟩), .string s] w fun e w' => e = .returned (.bool (decide (s ∈ k'))) ∧ w' = w := by
  obtain ⟨G, hT⟩ := h.right
  exact rknown_any hT s
end

set_option maxHeartbeats 4000000 in
set_option maxRecDepth 20000 in
theorem digestPlays_walk (A : Option Addr) (c : Nat) (ls : List ByteArray) (B : Option Addr) (d : Nat) (zs : List Int) (w : World) (hr : Rd w A (strV ls)) (hlc : ls.length ≤ c) (hc : c * 16 ≤ 140737488351232) (_ : ∀ s ∈ ls, s.size ≤ maxLen)
    (hz : Rd w B (zs.map (Value.int .i64))) (_ : zs.length ≤ d) (_ : d * Try.prog.bytesOf 3 ≤ reachBytes) (_ : ∀ n ∈ zs, (Lit.int .i64 n).wf = true) :
    Calls Try.prog 3 #[.slice A ls.length c, .slice B zs.length d] w fun e w' => e = .returned (.bool true) ∧ Below w.heap.size w w' := by
  obtain ⟨n, hn⟩ : ∃ n, n = ls.length := ⟨_, rfl⟩
  rw [← hn] at hlc ⊢
  obtain ⟨m, hm⟩ : ∃ m, m = zs.length := ⟨_, rfl⟩
  rw [← hm]
  have HM := hid hm
  clear hm
  have HN := hid hn
  clear hn
  have hnb : n ≤ 140737488355328 := by omega
  go_enter Try.func3, Try.ntmps3
  go_wp2_with fail
  refine (small_any _).mono ?_
  rintro e w1 ⟨rfl, b1⟩
  have hr1 := hr.below b1
  have hz1 := hz.below b1
  go_wp2_with fail
  refine (few_any A n c ls _ HN.out.symm hnb hr1).mono ?_
  rintro e wu ⟨rfl, rfl⟩
  clear hr
  go_wp2_with fail
  refine (st_new _).mono ?_
  rintro e w2 ⟨g, rfl, h2⟩
  have h2' := stR_new h2
  clear h2
  cases hf : fewB ls
  · clear hf
    have b2 := below2 b1 h2'.bel
    go_wp2
    go_ret
    exact ⟨rfl, b2⟩
  have HF := hid hf
  have hn100 : n ≤ 100 := by have := few_len hf; have := HN.out; omega
  clear hf
  by_cases hm100 : (100 : Int) < m
  · have b2 := below2 b1 h2'.bel
    go_wp2
    go_ret
    exact ⟨rfl, b2⟩
  go_wp2_with fail
  generalize w2.alloc (.cells #[.slice none 0 0] 30) = w3 at *
  generalize w2.heap.size = g' at *
  go_loopw [9] (fun i wr => ∃ j : Nat, j ≤ n ∧ i = .int .i64 j ∧ ∃ k, k.length ≤ j ∧ StR wu wr g k g' k) (fun i _ => n - (intOf i).toNat)
  case atStart => exact ⟨0, by omega, rfl, [], by simp, h2'⟩
  case round =>
    obtain ⟨j, hj, rfl, k, hkj, h3⟩ := hrel
    clear h2'
    by_cases hjn : j < n
    · have hjl : j < ls.length := by rw [← HN.out]; exact hjn
      obtain ⟨b, off, rfl, h0, hb0⟩ := hr1.at_ (k := j) (by rw [strV_length]; exact hjl)
      rw [show (strV ls)[j]'(by rw [strV_length]; exact hjl) = .string ls[j] by simp [strV]] at h0
      have hsx := few_size HF.out hjl
      obtain ⟨x, hx⟩ : ∃ x, ls[j] = x := ⟨_, rfl⟩
      rw [hx] at h0 hsx
      clear hx
      have h1 := (h3.bel.cell (p := ⟨b, off + j, none⟩) hb0).trans h0
      have hz : (0 : Int) ≤ j := by omega
      have hlt : (j : Int) < n := by omega
      have hsm : x.size ≤ maxLen := by unfold maxLen; omega
      go_wp2_with fail
      go_quiet (first | (go_at_call 11; exact still_call (st_known (h3.drewN _).left x hsm) ⟨_, rfl⟩) | (go_at_call 12; exact still_call (stR_rknown (h3.drewN _) x) ⟨_, rfl⟩))
      have h4 := h3.drewN nq
      have h1' := (h4.bel.cell (p := ⟨b, off + j, none⟩) hb0).trans h0
      clear h3 h1
      generalize wr.drewN nq = w4 at *
      generalize decide (x ∈ k) = bo at *
      cases h3q : (bits .and .i64 (j : Int) 3 != 3)
      · have h8 := h4
        clear h4 h1'
        have d8 := h8.rcell
        obtain ⟨A8, c8, d8⟩ := d8
        go_wp2_with fail
        go_quiet (first | (go_at_call 15; exact still_call (st_len (h8.drewN _).left) ⟨_, rfl⟩))
        have h9 := h8.drewN nq
        clear h8 d8
        go_wp2
        go_roundw
        case rel => exact ⟨j + 1, by omega, by go_num, _, by have := hkj; omega, h9⟩
        case measure => simp [intOf]; omega
      · go_wp2_with fail
        refine (stR_of h4 x (by omega) (by omega)).mono ?_
        rintro e w5 ⟨rfl, h5⟩
        have h1 := (h5.bel.cell (p := ⟨b, off + j, none⟩) hb0).trans h0
        clear h4 h1'
        go_wp2_with fail
        refine (stR_rof h5 x (by omega)).mono ?_
        rintro e w6 ⟨rfl, h8⟩
        clear h5 h1
        generalize k.idxOf x = d1 at *
        have d8 := h8.rcell
        obtain ⟨A8, c8, d8⟩ := d8
        go_wp2_with fail
        go_quiet (first | (go_at_call 15; exact still_call (st_len (h8.drewN _).left) ⟨_, rfl⟩))
        have h9 := h8.drewN nq
        clear h8 d8
        go_wp2
        go_roundw
        case rel => exact ⟨j + 1, by omega, by go_num, _, by have := len_addS k x; omega, h9⟩
        case measure => simp [intOf]; omega
    · have e : n = j := by omega
      subst e
      go_wp2_with fail
      go_loopw [14] (fun i wr => ∃ j : Nat, j ≤ m ∧ i = .int .i64 j ∧ StR wu wr g k g' k) (fun i _ => m - (intOf i).toNat)
      case atStart => exact ⟨0, by omega, rfl, h3⟩
      case round =>
        obtain ⟨j, hj, rfl, h4⟩ := hrel
        clear h3
        by_cases hjn : j < m
        · have hjl : j < (zs.map (Value.int .i64)).length := by rw [List.length_map, ← HM.out]; exact hjn
          obtain ⟨b, off, rfl, h0, hb0⟩ := hz1.at_ (k := j) hjl
          rw [List.getElem_map] at h0
          generalize zs[j]'(by rw [← HM.out]; exact hjn) = z at h0
          have h1 := (h4.bel.cell (p := ⟨b, off + j, none⟩) hb0).trans h0
          have hzj : (0 : Int) ≤ j := by omega
          have hlt : (j : Int) < m := by omega
          go_wp2_with fail
          refine (stR_text h4 z).mono ?_
          rintro e w5 ⟨rfl, h5⟩
          have h1' := (h5.bel.cell (p := ⟨b, off + j, none⟩) hb0).trans h0
          clear h4 h1
          go_wp2_with fail
          refine (stR_rtext h5 z).mono ?_
          rintro e w6 ⟨rfl, rfl⟩
          generalize textS k z = tx at *
          generalize textB k z = tb at *
          go_wp2
          go_roundw
          case rel => exact ⟨j + 1, by omega, by go_num, h5⟩
          case measure => simp [intOf]; omega
        · have e : m = j := by omega
          subst e
          have b3 := below2 b1 h4.bel
          go_wp2
          go_ret
          exact ⟨rfl, b3⟩
end Go.Proofs.Ytkmpkhjljkbpdaa
