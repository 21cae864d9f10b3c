/- Contracts of package digest. -/
import Derived.Test.YtkmpkhjljkbpdaaDa
import Derived.Handy
import Derived.Deep.QuietTactic
import Derived.BigQuiet
import Derived.Deep.RegionHeld3
namespace Go.Proofs.Ytkmpkhjljkbpdaa
open Go.RowKit Go.Maps

theorem clone_any (s : ByteArray) (w : World) (hs : s.size ≤ 281474976710656) : Calls Try.prog 19 #[.string s] w fun e w' => e = .returned (.string s) ∧ Below w.heap.size w w' := by
  go_enter Try.func19, Try.ntmps19
  go_wp2_with fail
  refine (Try.stringslite_Clone s w hs).mono ?_
  rintro e w1 ⟨rfl, b1⟩
  go_wp2
  go_ret
  exact ⟨rfl, b1⟩

/-! ### New -/
def NewPost (w : World) (e : Ending) (w' : World) : Prop := ∃ g F, e = .returned (.pointer (some ⟨g, 0, none⟩)) ∧ Tab w' g [] F ∧ Below w.heap.size w w' ∧ ∀ i, F i → w.heap.size ≤ i
theorem tab_new (w : World) : Tab ((w.alloc (.map #[] 0)).alloc (.cells #[.map (some w.heap.size), .slice none 0 0] 43)) (w.heap.size + 1) [] (fun i => i = w.heap.size + 1 ∨ i = w.heap.size) := by
  refine ⟨w.heap.size, none, 0, .map [], ?_, (World.ownsMap_made w _ _ _).alloc _, knows_nil, World.ownsRow_nil _ _ _ _, fun i => by simp [Value.ownBlock], by simp, by simp⟩
  have h := Blk.new (w.alloc (.map #[] 0)) [.map (some w.heap.size), .slice none 0 0] 43
  rw [World.size_alloc] at h
  exact h
theorem new_any (w : World) : Calls Try.prog 10 #[] w (NewPost w) := by
  have hmm := @run_makeMap Try.prog
  go_enter Try.func10, Try.ntmps10
  go_wp2
  go_ret
  exact ⟨w.heap.size + 1, _, rfl, tab_new w, ((Below.refl _ _).alloc (Nat.le_refl _) _).alloc (by simp) _, by rintro i (h | h) <;> omega⟩

/-! ### Len, Known -/
theorem len_blk (g : Nat) (m : Value) (A : Option Addr) (n c : Nat) (w : World) (h : Blk w g [m, .slice A n c] 43) :
    Calls Try.prog 15 #[.pointer (some ⟨g, 0, none⟩)] w fun e w' => e = .returned (.int .i64 n) ∧ w' = w := by
  have c1 := h.cell 1
  simp only [List.getElem?_cons_zero, List.getElem?_cons_succ] at c1
  go_enter Try.func15, Try.ntmps15
  go_wp2
  go_ret
  exact ⟨rfl, rfl⟩
theorem len_any {w : World} {g : Nat} {k : List ByteArray} {F : Nat → Prop} (h : Tab w g k F) :
    Calls Try.prog 15 #[.pointer (some ⟨g, 0, none⟩)] w fun e w' => e = .returned (.int .i64 k.length) ∧ w' = w := by
  obtain ⟨bm, A, c, D, hB, -⟩ := h
  exact len_blk g _ A _ c w hB

theorem map_look {w : World} {bm n : Nat} {D : DataW Unit} {k : List ByteArray} (hm : w.ownsMap Try.prog 9 (plainElem (H := Unit) Try.prog 3) bm n D) (hk : Knows D k) (s : ByteArray) (hs : s.size ≤ maxLen) :
    ∃ c : Int, (Instr.lookup 41 (.map (some bm)) (.string s) true).run Try.prog w = .ok (.tuple #[.int .i64 c, .bool (decide (s ∈ k))]) w ∧ (s ∈ k → c = (k.idxOf s + 1 : Nat)) := by
  obtain ⟨v, ps, hrun, hv⟩ := hm.look_ok Try.keyS Try.underlying41 (Try.zeroI _) (plainElem_int Try.underlying3 (by decide)) (WideMaps.keyOf_string_mk Try.underlying9 hs)
  obtain ⟨c, rfl, hc, _⟩ := plainElem_int_inv Try.underlying3 hv
  obtain ⟨h1, h2⟩ := hk s hs
  refine ⟨c, by rw [hrun, h1], fun hmem => ?_⟩
  have h3 := h2 hmem
  have h4 := (congrArg Prod.fst hc).symm.trans h3
  injection h4 with h4
  injection h4
theorem known_any {w : World} {g : Nat} {k : List ByteArray} {F : Nat → Prop} (h : Tab w g k F) (s : ByteArray) (hs : s.size ≤ maxLen) :
    Calls Try.prog 11 #[.pointer (some ⟨g, 0, none⟩), .string s] w fun e w' => e = .returned (.bool (decide (s ∈ k))) ∧ w' = w := by
  obtain ⟨bm, A, c, D, hB, hm, hk, -⟩ := h
  obtain ⟨d, hrun, -⟩ := map_look hm hk s hs
  have c0 := hB.cell 0
  simp only [List.getElem?_cons_zero] at c0
  clear hB hm hk hs
  generalize decide (s ∈ k) = b at *
  go_enter Try.func11, Try.ntmps11
  go_wp2
  go_ret
  exact ⟨rfl, rfl⟩

/-! ### Text -/
def textB (k : List ByteArray) (d : Int) : Bool := decide (1 ≤ d ∧ d ≤ k.length)
def textS (k : List ByteArray) (d : Int) : ByteArray := if 1 ≤ d ∧ d ≤ k.length then k.getD (d - 1).toNat ⟨#[]⟩ else ⟨#[]⟩
theorem text_no {k : List ByteArray} {d : Int} (h : ¬ (1 ≤ d ∧ d ≤ k.length)) : textB k d = false ∧ textS k d = ⟨#[]⟩ := ⟨decide_eq_false h, if_neg h⟩
theorem text_yes {k : List ByteArray} {j : Nat} (h : j < k.length) : textB k ((j + 1 : Nat) : Int) = true ∧ textS k ((j + 1 : Nat) : Int) = k[j] := by
  have h1 : 1 ≤ ((j + 1 : Nat) : Int) ∧ ((j + 1 : Nat) : Int) ≤ k.length := by omega
  refine ⟨decide_eq_true h1, ?_⟩
  rw [textS, if_pos h1, show (((j + 1 : Nat) : Int) - 1).toNat = j by omega]
  simp [h]
theorem text_ret {b : Bool} {x y : ByteArray} {b' : Bool} (h : b' = b ∧ y = x) : Ending.returned (.tuple #[.string x, .bool b]) = .returned (.tuple #[.string y, .bool b']) := by rw [h.1, h.2]
set_option maxHeartbeats 400000 in
theorem text_any {w : World} {g : Nat} {k : List ByteArray} {F : Nat → Prop} (h : Tab w g k F) (d : Int) :
    Calls Try.prog 16 #[.pointer (some ⟨g, 0, none⟩), .int .i64 d] w fun e w' => e = .returned (.tuple #[.string (textS k d), .bool (textB k d)]) ∧ Below w.heap.size w w' := by
  have hlen := len_any h
  obtain ⟨bm, A, c, D, hB, -, -, hr, -, hkl, hsz⟩ := h
  have c1 := hB.cell 1
  simp only [List.getElem?_cons_zero, List.getElem?_cons_succ] at c1
  have HR := hid (Rd.of_own hr)
  have HSZ := hid hsz
  clear hr hB hsz
  by_cases h1 : d < 1
  · have HT := hid (text_no (k := k) (d := d) (by omega))
    go_enter Try.func16, Try.ntmps16
    go_wp2
    go_ret2
    exact ⟨text_ret HT.out, Below.refl _ _⟩
  · by_cases h2 : (k.length : Int) < d
    · have HT := hid (text_no (k := k) (d := d) (by omega))
      go_enter Try.func16, Try.ntmps16
      go_wp2_with fail
      refine hlen.mono ?_
      rintro e wu ⟨rfl, rfl⟩
      go_wp2
      go_ret2
      exact ⟨text_ret HT.out, Below.refl _ _⟩
    · obtain ⟨j, rfl⟩ : ∃ j : Nat, d = ((j + 1 : Nat) : Int) := ⟨(d - 1).toNat, by omega⟩
      have hj : j < k.length := by omega
      have HT := hid (text_yes hj)
      have hjs := HSZ.out _ (List.getElem_mem hj)
      obtain ⟨b, off, rfl, hc, -⟩ := HR.out.at_ (k := j) (by rw [strV_length]; exact hj)
      have hx : w.cell? ⟨b, off + j, none⟩ = some (.string k[j]) := by rw [hc]; simp [strV]
      clear hc HR HSZ
      generalize k[j] = x at *
      have e1 : (((j + 1 : Nat) : Int) - 1) = (j : Int) := by omega
      go_enter Try.func16, Try.ntmps16
      go_wp2_with fail
      refine hlen.mono ?_
      rintro e wu ⟨rfl, rfl⟩
      go_wp2_with fail
      refine (clone_any x _ (by omega)).mono ?_
      rintro e w1 ⟨rfl, b1⟩
      go_wp2
      go_ret2
      exact ⟨text_ret HT.out, b1⟩

/-! ### Of -/
def OfPost (w : World) (g : Nat) (k : List ByteArray) (s : ByteArray) (F : Nat → Prop) (e : Ending) (w' : World) : Prop :=
  ∃ F', e = .returned (.tuple #[.int .i64 ((k.idxOf s + 1 : Nat) : Int), .int .i64 0]) ∧ Tab w' g (addS k s) F' ∧ Fr F w w' ∧ ∀ i, F' i → F i ∨ w.heap.size ≤ i
theorem ret_of {a b : Int} {x : Value} (h : a = b) : Ending.returned (.tuple #[.int .i64 a, x]) = .returned (.tuple #[.int .i64 b, x]) := by rw [h]

set_option maxHeartbeats 400000 in
theorem of_known {w : World} {g : Nat} {k : List ByteArray} {F : Nat → Prop} (h : Tab w g k F) (s : ByteArray) (hs : s.size ≤ maxLen) (hin : s ∈ k) :
    Calls Try.prog 13 #[.pointer (some ⟨g, 0, none⟩), .string s] w fun e w' => e = .returned (.tuple #[.int .i64 ((k.idxOf s + 1 : Nat) : Int), .int .i64 0]) ∧ w' = w := by
  obtain ⟨bm, A, c, D, hB, hm, hk, -⟩ := h
  obtain ⟨d, hrun, hd⟩ := map_look hm hk s hs
  have HD := hid (hd hin)
  rw [decide_eq_true hin] at hrun
  have c0 := hB.cell 0
  simp only [List.getElem?_cons_zero] at c0
  clear hB hm hk hs hd hin
  go_enter Try.func13, Try.ntmps13
  go_wp2
  go_ret2
  exact ⟨ret_of HD.out, rfl⟩

set_option maxHeartbeats 400000 in
theorem of_full {w : World} {g : Nat} {k : List ByteArray} {F : Nat → Prop} (h : Tab w g k F) (s : ByteArray) (hs : s.size ≤ maxLen) (hin : s ∉ k) (hl : k.length = 65536) :
    Calls Try.prog 13 #[.pointer (some ⟨g, 0, none⟩), .string s] w fun e w' => e = .returned (.tuple #[.int .i64 0, .int .i64 2]) ∧ w' = w := by
  have hlen := len_any h
  rw [hl] at hlen
  obtain ⟨bm, A, c, D, hB, hm, hk, -⟩ := h
  obtain ⟨d, hrun, -⟩ := map_look hm hk s hs
  rw [decide_eq_false hin] at hrun
  have c0 := hB.cell 0
  simp only [List.getElem?_cons_zero] at c0
  clear hB hm hk hs hin
  go_enter Try.func13, Try.ntmps13
  go_wp2_with fail
  refine hlen.mono ?_
  rintro e wu ⟨rfl, rfl⟩
  go_wp2
  go_ret2
  exact ⟨rfl, rfl⟩

/-- append of one element of one cell, for the walk: where the new slice lies. -/
theorem wpApp1 {P : Program} (w : World) {ops : Array Oper} {rest : List Oper} {o : Oper} {a : Act} {Q : Exit → Act → World → Prop} (hgd : o.guard = none) (s x : Operand) (t : TypeId)
    (ho : o.op = .call { callee := .builtin .append, args := #[s, x], argTypes := #[t, t] })
    (base : Nat) (e : TypeId) (z : Value) (bytes : Nat) (ht : P.underlying t = some (.slice e)) (hinf : (P.info? e).map (fun i => (i.zero, i.size, i.bytes)) = some (some z, 1, bytes)) (hz : z.cells.size = 1)
    (A : Option Addr) (n c : Nat) (xs : List Value) (hs : a.eval s = .slice A n c) (hown : w.ownsRow base e 1 (.slice A n c) n xs)
    (ad : Addr) (u : Value) (hx : a.eval x = .slice (some ad) 1 1) (hu : w.cell? ad = some u) (h1 : u.oneCell' = true) (hbytes : (n + 1) * bytes ≤ 140737488355328) (hbase : base ≤ w.heap.size) (h63 : n + 1 ≤ maxLen)
    (h : ∀ A' c' w', w'.ownsRow base e 1 (.slice A' (n + 1) c') (n + 1) (xs ++ [u]) → w.grownBy w' (Value.slice A n c).ownBlock → ((Value.slice A' (n + 1) c').ownBlock = (Value.slice A n c).ownBlock ∨ (Value.slice A' (n + 1) c').ownBlock = some w.heap.size) →
      wpList P ops Q rest (a.put o.dst (.slice A' (n + 1) c')) w') : wpList P ops Q (o :: rest) a w := by
  obtain ⟨i, hi, hz0, hz1, hz2⟩ := info_parts hinf
  refine wpList_append_own_at w hgd s x t ho base e i z 1 bytes ht hi hz0 hz1 hz2 hz (by decide) _ n xs hs hown ad 1 1 [u] hx rfl ?_ (by simpa using h1) h63 hbytes hbase ?_
  · intro j v hv
    match j, hv with
    | 0, hv =>
      simp at hv
      subst hv
      simpa [Addr.add] using hu
  · intro v' w' h2 h3 _ h5
    obtain ⟨_, A', c', rfl, _⟩ := own_form h2
    exact h A' c' w' h2 h3 h5

theorem row_type {w : World} {A : Option Addr} {n c : Nat} {xs : List Value} {g : Nat} {cs : List Value} {t : TypeId} {e : TypeId} (hr : w.ownsRow 0 e 1 (.slice A n c) n xs) (hB : Blk w g cs t) (hne : t ≠ e) : (Value.slice A n c).ownBlock ≠ some g := by
  intro h
  rcases hr.2 with ⟨h1, _⟩ | ⟨g', cap, cur, h1, _, h2, _⟩
  · rw [h1] at h
    simp [Value.ownBlock] at h
  · rw [h1] at h
    simp [Value.ownBlock] at h
    subst h
    unfold Blk at hB
    rw [hB] at h2
    injection h2 with h2
    injection h2 with _ h2 _
    exact hne h2
theorem row_map {w : World} {A : Option Addr} {n c : Nat} {xs : List Value} {bm : Nat} {e : TypeId} {m : Nat} {D : DataW Unit} {t : TypeId} {R : Value → Option (DataW Unit × List MemPlace)} (hr : w.ownsRow 0 e 1 (.slice A n c) n xs) (hm : w.ownsMap Try.prog t R bm m D) : (Value.slice A n c).ownBlock ≠ some bm := by
  intro h
  obtain ⟨es, clock, hb, _⟩ := hm
  rcases hr.2 with ⟨h1, _⟩ | ⟨g', cap, cur, h1, _, h2, _⟩
  · rw [h1] at h
    simp [Value.ownBlock] at h
  · rw [h1] at h
    simp [Value.ownBlock] at h
    subst h
    rw [hb] at h2
    injection h2 with h2
    cases h2
theorem blk_map {w : World} {g bm : Nat} {cs : List Value} {t t' : TypeId} {m : Nat} {D : DataW Unit} {R : Value → Option (DataW Unit × List MemPlace)} (hB : Blk w g cs t) (hm : w.ownsMap Try.prog t' R bm m D) : bm ≠ g := by
  rintro rfl
  obtain ⟨es, clock, hb, _⟩ := hm
  unfold Blk at hB
  rw [hb] at hB
  injection hB with hB
  cases hB
theorem Blk.grown {w w' : World} {g : Nat} {cs : List Value} {t : TypeId} {row : Option Nat} (h : Blk w g cs t) (hg : w.grownBy w' row) (hne : row ≠ some g) : Blk w' g cs t := by
  unfold Blk
  rw [hg.block g h.lt (fun e => hne e.symm)]
  exact h

set_option maxHeartbeats 1000000 in
set_option maxRecDepth 10000 in
theorem of_new {w : World} {g : Nat} {k : List ByteArray} {F : Nat → Prop} (h : Tab w g k F) (s : ByteArray) (hs : s.size ≤ 140737488355328) (hin : s ∉ k) (hl : k.length < 65536) :
    Calls Try.prog 13 #[.pointer (some ⟨g, 0, none⟩), .string s] w (OfPost w g k s F) := by
  have hlen := len_any h
  obtain ⟨bm, A, c, D, hB, hm, hk, hr, hF, -, hsz⟩ := h
  have hsm : s.size ≤ maxLen := by unfold maxLen; omega
  obtain ⟨d, hrun, -⟩ := map_look hm hk s hsm
  rw [decide_eq_false hin] at hrun
  have HF := hid hF
  have HK := hid hk
  have HS := hid hsz
  have HIN := hid hin
  obtain ⟨n, hn⟩ : ∃ n, n = k.length := ⟨_, rfl⟩
  rw [← hn] at hlen hB hm hr hl
  have HF : Hid (∀ i, F i ↔ i = g ∨ i = bm ∨ (Value.slice A n c).ownBlock = some i) := by rw [hn]; exact HF
  have HN := hid hn
  have c0 := hB.cell 0
  simp only [List.getElem?_cons_zero] at c0
  clear hk hF hsz hin hn
  have ne1 := hid (row_type hr hB (by decide))
  have ne2 := hid (row_map hr hm)
  have ne3 := hid (blk_map hB hm)
  go_enter Try.func13, Try.ntmps13
  go_wp2_with fail
  refine hlen.mono ?_
  rintro e wu ⟨rfl, rfl⟩
  have hn1 : ¬ ((n : Int) = 65536) := by omega
  go_wp2_with fail
  refine (clone_any s _ (by omega)).mono ?_
  rintro e w1 ⟨rfl, b1⟩
  have hB1 := hB.below b1
  have hm1 := hm.kept (grown_below (row := none) b1) (by simp)
  have hr1 := hr.kept (grown_below (row := none) b1) (by cases (Value.slice A n c).ownBlock <;> simp)
  clear hB hm hr hlen hrun c0
  have c1 := hB1.cell 1
  simp only [List.getElem?_cons_zero, List.getElem?_cons_succ] at c1
  go_wp2_with (first
    | (at_builtin
       refine wpApp1 _ rfl _ _ 22 rfl 0 9 (.string ⟨#[]⟩) 16 Try.underlying22 Try.infoS rfl A n c (strV k) rfl (hr1.alloc _) ⟨w1.heap.size, 0, none⟩ (.string s) rfl (cell_one_new _ _ _ 0 _ rfl) rfl (by omega) (Nat.zero_le _) (by unfold maxLen; omega) ?_
       intro A' c' w2 hr2 hg2 hloc
       have hB2 := Blk.grown (hB1.below ((Below.refl _ _).alloc (Nat.le_refl _) _)) hg2 ne1.out
       have c2 := hB2.cell 1
       have f2 := hB2.frozen 1
       simp only [List.getElem?_cons_zero, List.getElem?_cons_succ] at c2)
    | go_in)
  have hm2 := (hm1.alloc _).kept hg2 (fun e => ne2.out e.symm)
  have hB3 := hB2.set_ 1 (.slice A' (n + 1) c')
  simp only [List.set_cons_succ, List.set_cons_zero] at hB3
  have hm3 := hm2.kept (grown_set (g := g) 1 (.slice A' (n + 1) c')) (fun e => ne3.out (by injection e))
  have hr3 := hr2.kept (grown_set (g := g) 1 (.slice A' (n + 1) c')) (.inr (row_type hr2 hB2 (by decide)))
  have hf : Fr F wu (w2.setCell ⟨g, 1, none⟩ (.slice A' (n + 1) c')) := by
    have hf1 := (Fr.of_below F b1).trans (Fr.of_below F ((Below.refl _ _).alloc (Nat.le_refl _) (.cells #[.string s] 9))) (fun i hi => .inl hi)
    have hf2 := hf1.trans (Fr.of_grown (F := F) hg2 (fun i hi => (HF.out i).2 (.inr (.inr hi)))) (fun i hi => .inl hi)
    exact hf2.trans (Fr.of_grown (F := F) (grown_set (g := g) 1 (.slice A' (n + 1) c')) (fun i hi => (HF.out i).2 (.inl (by injection hi with hi; exact hi.symm)))) (fun i hi => .inl hi)
  have HLOC : Hid (∀ i, (Value.slice A' (n + 1) c').ownBlock = some i → F i ∨ wu.heap.size ≤ i) := by
    intro i hi
    rcases hloc with e | e
    · exact .inl ((HF.out i).2 (.inr (.inr (e.symm.trans hi))))
    · rw [hi] at e
      injection e with e
      have := b1.size
      rw [World.size_alloc] at e
      exact .inr (by omega)
  generalize w2.setCell ⟨g, 1, none⟩ (.slice A' (n + 1) c') = w3 at *
  clear hm2 hr2 hB2 c2 f2 hm1 hr1 hB1 c1 hg2 hloc b1
  obtain ⟨w4, hrun4, hm4, hg4⟩ := World.ownsMap.update (w := w3.drew) hm3 Try.keyS Try.underlying41 (by unfold maxLen; omega) (WideMaps.keyOf_string_mk Try.underlying9 hsm) (plainElem_int (q := .i64) Try.underlying3 (a := (n : Int) + 1) (WalkArith.wf_i64 (by omega)))
  have HU := hid hrun4
  clear hrun4
  have c0 := hB3.cell 0
  simp only [List.getElem?_cons_zero] at c0
  have hB4 := Blk.grown (w := w3.drew) hB3 hg4 (fun e => ne3.out (by injection e))
  have c4 := hB4.cell 0
  simp only [List.getElem?_cons_zero] at c4
  refine wp_region_held_drew (S := fun w' => w'.cell? ⟨g, 0, none⟩ = some (.map (some bm))) (by kernel_rfl) c0 (fun hHeld => ?_)
  refine wpAnyH_take (i := 0) (oi := ⟨_, _, _, _, _, _⟩) (v := ?_) rfl (by kernel_rfl) (by kernel_rfl) (by kernel_rfl) (fun _ _ _ h => h) (Or.inl ⟨by rfl, ?_⟩) (by assumption) ?_
  rotate_left
  · intro w hSw; (try dsimp only at hSw); go_simp; (try (with_reducible rfl))
  try simp only [Act.put, List.setIfInBounds_toArray, List.set_cons_zero, List.set_cons_succ]
  refine wpAnyH_take (i := 1) (oi := ⟨_, _, _, _, _, _⟩) (v := ?_) rfl (by kernel_rfl) (by kernel_rfl) (by kernel_rfl) (fun _ _ _ h => h) (Or.inl ⟨by rfl, ?_⟩) (by assumption) ?_
  rotate_left
  · intro w hSw; (try dsimp only at hSw); go_simp; (try (with_reducible rfl))
  try simp only [Act.put, List.setIfInBounds_toArray, List.set_cons_zero, List.set_cons_succ]
  refine wpAnyH_take (i := 2) (oi := ⟨_, _, _, _, _, _⟩) (v := ?_) rfl (by kernel_rfl) (by kernel_rfl) (by kernel_rfl) (fun _ _ _ h => h) (Or.inl ⟨by rfl, ?_⟩) (by assumption) ?_
  rotate_left
  · intro w hSw; (try dsimp only at hSw); go_simp; (try (with_reducible rfl))
  try simp only [Act.put, List.setIfInBounds_toArray, List.set_cons_zero, List.set_cons_succ]
  refine wpAnyH_take (i := 3) (oi := ⟨_, _, _, _, _, _⟩) (v := ?_) rfl (by kernel_rfl) (by kernel_rfl) (by kernel_rfl) (fun _ _ _ h => h) (Or.inl ⟨by rfl, ?_⟩) (by assumption) ?_
  rotate_left
  · intro w hSw; (try dsimp only at hSw); go_simp; (try (with_reducible rfl))
  try simp only [Act.put, List.setIfInBounds_toArray, List.set_cons_zero, List.set_cons_succ]
  refine wpAnyH_take (i := 4) (oi := ⟨_, _, _, _, _, _⟩) (v := ?_) rfl (by kernel_rfl) (by kernel_rfl) (by kernel_rfl) (fun _ _ _ h => h) (Or.inl ⟨by rfl, ?_⟩) (by assumption) ?_
  rotate_left
  · intro w hSw; (try dsimp only at hSw); go_simp; (try (with_reducible rfl))
  try simp only [Act.put, List.setIfInBounds_toArray, List.set_cons_zero, List.set_cons_succ]
  refine wpAnyH_take (i := 5) (oi := ⟨_, _, _, _, _, _⟩) (v := ?_) rfl (by kernel_rfl) (by kernel_rfl) (by kernel_rfl) (fun _ _ _ h => h) (Or.inl ⟨by rfl, ?_⟩) (by assumption) ?_
  rotate_left
  · intro w hSw; (try dsimp only at hSw); go_simp; (try (with_reducible rfl))
  try simp only [Act.put, List.setIfInBounds_toArray, List.set_cons_zero, List.set_cons_succ]
  refine wpAnyH_ready (rs := [6]) (by kernel_rfl) (by simp) ?_
  refine AllReadyH.cons (o := ⟨_, _, _, _, _, _⟩) rfl (fun K hK => ?_) AllReadyH.nil
  go_simp
  refine (len_blk g (.map (some bm)) A' (n + 1) c' w3.drew hB3).mono ?_
  rintro e wv ⟨rfl, rfl⟩
  refine hK.out _ _ c0 (fun hHeld => ?_)
  clear hK K
  try simp only [Act.put, List.setIfInBounds_toArray, List.set_cons_zero, List.set_cons_succ]
  refine wpAnyH_ready (rs := [7]) (by kernel_rfl) (by simp) ?_
  refine AllReadyH.cons (o := ⟨_, _, _, _, _, _⟩) rfl (fun K hK => ?_) AllReadyH.nil
  go_simp
  rw [HU.out]
  go_simp
  refine hK.out _ _ c4 (fun hHeld => ?_)
  clear hK K
  try simp only [Act.put, List.setIfInBounds_toArray, List.set_cons_zero, List.set_cons_succ]
  refine wpAnyH_done (by kernel_rfl) ?_ _
  go_wp2_with fail
  refine (len_blk g (.map (some bm)) A' (n + 1) c' w4 hB4).mono ?_
  rintro e wv ⟨rfl, rfl⟩
  go_wp2
  go_ret2
  have hf3 : Fr F wu w3.drew := ⟨hf.os, hf.tape, hf.output, hf.size, hf.block⟩
  have hf4 := hf3.trans (Fr.of_grown (F := F) hg4 (fun i hi => (HF.out i).2 (.inr (.inl (by injection hi with hi; exact hi.symm))))) (fun i hi => .inl hi)
  have hr4 := World.ownsRow.kept (w := w3.drew) hr3 hg4 (.inr (row_map hr3 hm3))
  have e : (k ++ [s]).length = n + 1 := by rw [List.length_append, ← HN.out]; rfl
  refine ⟨fun i => i = g ∨ i = bm ∨ (Value.slice A' (n + 1) c').ownBlock = some i, ret_of (by rw [idx_out HIN.out, ← HN.out]; omega), ?_, hf4, ?_⟩
  · rw [addS_out HIN.out]
    have hkn := knows_put HK.out hm3.isMap HIN.out
    rw [← HN.out, show ((n + 1 : Nat) : Int) = (n : Int) + 1 by omega] at hkn
    refine ⟨bm, A', c', _, by rw [e]; exact hB4, by rw [e]; exact hm4, hkn, by rw [e, strV_append]; exact hr4, by rw [e]; exact fun i => Iff.rfl, by omega, ?_⟩
    intro t ht
    rcases List.mem_append.1 ht with ht | ht
    · exact HS.out t ht
    · rw [List.mem_singleton.1 ht]
      exact hs
  · rintro i (rfl | rfl | hi)
    · exact .inl ((HF.out _).2 (.inl rfl))
    · exact .inl ((HF.out _).2 (.inr (.inl rfl)))
    · exact HLOC.out i hi

theorem of_any {w : World} {g : Nat} {k : List ByteArray} {F : Nat → Prop} (h : Tab w g k F) (s : ByteArray) (hs : s.size ≤ 140737488355328) (hl : k.length < 65536) :
    Calls Try.prog 13 #[.pointer (some ⟨g, 0, none⟩), .string s] w (OfPost w g k s F) := by
  by_cases hin : s ∈ k
  · refine (of_known h s (by unfold maxLen; omega) hin).mono ?_
    rintro e w' ⟨rfl, rfl⟩
    exact ⟨F, rfl, by rw [addS_in hin]; exact h, Fr.refl _ _, fun i hi => .inl hi⟩
  · exact of_new h s hs hin hl
end Go.Proofs.Ytkmpkhjljkbpdaa
