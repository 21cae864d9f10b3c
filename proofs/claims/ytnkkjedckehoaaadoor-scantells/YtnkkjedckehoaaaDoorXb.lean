/- The document's answers of layer 9: files, Right, Find, Tree. -/
import Derived.Test.YtnkkjedckehoaaaDoorXa
import Derived.Test.YtnkkjedckehoaaaDoorCl
import Derived.Lib.AppendZeros
namespace Go.Proofs.YtnkkjedckehoaaaDoor
open Go.RowKit

/-- append of one, onto a row of the call's own. -/
theorem app_own2 {W : World} {n₀ : Nat} {v : Value} {k : Nat} {xs : List Value} {T E : TypeId} {z : Value} {size bytes : Nat} (hT : Tryd.prog.underlying T = some (.slice E)) (hinf : (Tryd.prog.info? E).map (fun i => (i.zero, i.size, i.bytes)) = some (some z, size, bytes)) (hz : z.cells.size = size) (h0 : 0 < size)
    (hrow : W.ownsRow n₀ E size v k xs) (hn : n₀ ≤ W.heap.size) (hk : (k + 1) * bytes ≤ 140737488355328) (hk2 : k + 1 ≤ maxLen) (cs : List Value) (hcs : cs.length = 1 * size) (hc1 : ∀ u ∈ cs, u.oneCell' = true) :
    ∃ A' c' w1, Hid ((Builtin.append_ #[T, T] T #[v, .slice (some ⟨W.heap.size, 0, none⟩) 1 1]).run Tryd.prog (W.alloc (.cells cs.toArray E)) = .ok (.slice A' (k + 1) c') w1) ∧ w1.ownsRow n₀ E size (.slice A' (k + 1) c') (k + 1) (xs ++ cs) ∧ (W.alloc (.cells cs.toArray E)).grownBy w1 v.ownBlock ∧ Below n₀ W w1 := by
  obtain ⟨i, hi, hz0, hz1, hz2⟩ := info_parts hinf
  obtain ⟨v', w1, h2, h3, h4, -⟩ := run_append_own (P := Tryd.prog) (W.alloc (.cells cs.toArray E)) n₀ T T E i z size bytes hT hi hz0 hz1 hz2 hz h0 v k xs (hrow.alloc _) ⟨W.heap.size, 0, none⟩ 1 1 cs hcs (new_cells W E cs) hc1 hk2 hk (by simp; omega)
  obtain ⟨g', cap', rfl⟩ := ownsRow_succ h3
  exact ⟨_, _, w1, h2, h3, h4, ((Below.refl n₀ W).alloc hn _).grown h4 (by simp; omega) fun j ej => (hrow.lt j ej).1⟩
theorem filesOf_more (es : List Ent) (j : Nat) (h : j < es.length) : filesOf (es.take (j + 1)) = filesOf (es.take j) ++ (if es[j].has then [(es[j].path, es[j].data)] else []) := by
  rw [List.take_add_one, List.getElem?_eq_getElem h, filesOf_append]
  congr 1
  simp only [Option.toList, filesOf_cons]
  rfl
set_option maxHeartbeats 2000000 in
theorem rfiles_any {w : World} {A : Option Addr} {n c : Nat} {es : List Ent} (h : Et w A n c es) :
    Calls Tryd.prog 46 #[.slice A n c] w fun e w' => ∃ B d, e = .returned (.slice B (filesOf es).length d) ∧ Ft w' B (filesOf es).length d (filesOf es) ∧ Below w.heap.size w w' := by
  have hr := h.rd
  have hnb := h.big
  have HS : Hid (∀ e ∈ es, SzE e) := h.sz
  have HL := hid h.len
  clear h
  go_enter Tryd.func46, Tryd.ntmps46
  go_wp2_with fail
  go_loopw [3, 4] (fun x i wr => ∃ (j : Nat) (A' : Option Addr) (c' : Nat) (fs : List Fil), j ≤ n ∧ i = .int .i64 j ∧ x = .slice A' fs.length c' ∧ Hid (fs = filesOf (es.take j)) ∧ wr.ownsRow w.heap.size 53 2 (.slice A' fs.length c') fs.length (filV fs) ∧ Below w.heap.size w wr) (fun _ i _ => n - (intOf i).toNat)
  case atStart => exact ⟨0, none, 0, [], by omega, rfl, rfl, by simp [Hid, filesOf], World.ownsRow_nil _ _ _ _, Below.refl _ _⟩
  case round =>
    obtain ⟨j, A', c', fs, hj, rfl, rfl, HF, oj, b⟩ := hrel
    by_cases hjn : j < n
    · have hjl : j < es.length := by rw [HL.out]; exact hjn
      obtain ⟨g, og, rfl, h1, h2, h3, -, -, hg⟩ := (hr.below b).ent hjl
      have hgw : g < w.heap.size := by
        obtain ⟨g', og', e', -, -, -, -, -, hgw⟩ := hr.ent hjl
        injection e' with e'
        injection e' with e1 e2
        rw [e1]; exact hgw
      have hz : (0 : Int) ≤ j := by omega
      have hlt : (j : Int) < n := by omega
      have HM := hid (filesOf_more es j hjl)
      have hfl : fs.length ≤ 1000000 := by rw [HF.out]; have := filesOf_len (es.take j); rw [List.length_take] at this; omega
      generalize es[j] = x at *
      obtain ⟨p, hh, dd, l, r⟩ := x
      simp only at h1 h2 h3 HM
      cases hh with
      | false =>
        have HM2 : Hid (fs = filesOf (es.take (j + 1))) := by show _ = _; rw [HM.out, HF.out, if_neg (by simp), List.append_nil]
        go_wp2
        go_roundw
        case rel => exact ⟨j + 1, A', c', fs, by omega, by go_num, rfl, HM2, oj, b⟩
        case measure => simp [intOf]; omega
      | true =>
        have HM2 : Hid (fs ++ [(p, dd)] = filesOf (es.take (j + 1))) := by show _ = _; rw [HM.out, HF.out, if_pos rfl]
        go_wp2_with fail
        refine wp_region_held_drew (S := fun w' => w'.cell? ⟨g, og + j * 5, none⟩ = some (.string p) ∧ w'.cell? ⟨g, og + j * 5 + 2, none⟩ = some (.string dd)) (by kernel_rfl) ⟨h1, h3⟩ (fun hHeld => ?_)
        refine wpAnyH_take (i := 0) (oi := ⟨_, _, _, _, _, _⟩) (v := ?_) rfl (by kernel_rfl) (by kernel_rfl) (by kernel_rfl) (fun _ _ _ h => h) (Or.inl ⟨by rfl, ?_⟩) (by assumption) ?_
        rotate_left
        · intro w hSw; (try dsimp only at hSw); go_simp; (try (with_reducible rfl))
        try simp only [Act.put, List.setIfInBounds_toArray, List.set_cons_zero, List.set_cons_succ]
        refine wpAnyH_take (i := 1) (oi := ⟨_, _, _, _, _, _⟩) (v := ?_) rfl (by kernel_rfl) (by kernel_rfl) (by kernel_rfl) (fun _ _ _ h => h) (Or.inl ⟨by rfl, ?_⟩) (by assumption) ?_
        rotate_left
        · intro w hSw; (try dsimp only at hSw); go_simp; (try (with_reducible rfl))
        try simp only [Act.put, List.setIfInBounds_toArray, List.set_cons_zero, List.set_cons_succ]
        refine wpAnyH_take (i := 2) (oi := ⟨_, _, _, _, _, _⟩) (v := ?_) rfl (by kernel_rfl) (by kernel_rfl) (by kernel_rfl) (fun _ _ _ h => h) (Or.inl ⟨by rfl, ?_⟩) (by assumption) ?_
        rotate_left
        · intro w hSw; (try dsimp only at hSw); go_simp; (try (with_reducible rfl))
        try simp only [Act.put, List.setIfInBounds_toArray, List.set_cons_zero, List.set_cons_succ]
        refine wpAnyH_take (i := 3) (oi := ⟨_, _, _, _, _, _⟩) (v := ?_) rfl (by kernel_rfl) (by kernel_rfl) (by kernel_rfl) (fun _ _ _ h => h) (Or.inl ⟨by rfl, ?_⟩) (by assumption) ?_
        rotate_left
        · intro w hSw; (try dsimp only at hSw); go_simp; (try (with_reducible rfl))
        try simp only [Act.put, List.setIfInBounds_toArray, List.set_cons_zero, List.set_cons_succ]
        refine wpAnyH_take (i := 4) (oi := ⟨_, _, _, _, _, _⟩) (v := ?_) rfl (by kernel_rfl) (by kernel_rfl) (by kernel_rfl) (fun _ _ _ h => h) (Or.inl ⟨by rfl, ?_⟩) (by assumption) ?_
        rotate_left
        · intro w hSw; (try dsimp only at hSw); go_simp; (try (with_reducible rfl))
        try simp only [Act.put, List.setIfInBounds_toArray, List.set_cons_zero, List.set_cons_succ]
        refine wpAnyH_take (i := 5) (oi := ⟨_, _, _, _, _, _⟩) (v := ?_) rfl (by kernel_rfl) (by kernel_rfl) (by kernel_rfl) (fun _ _ _ h => h) (Or.inl ⟨by rfl, ?_⟩) (by assumption) ?_
        rotate_left
        · intro w hSw; (try dsimp only at hSw); go_simp; (try (with_reducible rfl))
        try simp only [Act.put, List.setIfInBounds_toArray, List.set_cons_zero, List.set_cons_succ]
        refine wpAnyH_take (i := 6) (oi := ⟨_, _, _, _, _, _⟩) (v := ?_) rfl (by kernel_rfl) (by kernel_rfl) (by kernel_rfl) (fun _ _ _ h => h) (Or.inl ⟨by rfl, ?_⟩) (by assumption) ?_
        rotate_left
        · intro w hSw; (try dsimp only at hSw); go_simp; (try (with_reducible rfl))
        try simp only [Act.put, List.setIfInBounds_toArray, List.set_cons_zero, List.set_cons_succ]
        refine wpAnyH_take (i := 7) (oi := ⟨_, _, _, _, _, _⟩) (v := ?_) rfl (by kernel_rfl) (by kernel_rfl) (by kernel_rfl) (fun _ _ _ h => h) (Or.inl ⟨by rfl, ?_⟩) (by assumption) ?_
        rotate_left
        · intro w hSw; (try dsimp only at hSw); go_simp; (try (with_reducible rfl))
        try simp only [Act.put, List.setIfInBounds_toArray, List.set_cons_zero, List.set_cons_succ]
        refine wpAnyH_take (i := 8) (oi := ⟨_, _, _, _, _, _⟩) (v := ?_) rfl (by kernel_rfl) (by kernel_rfl) (by kernel_rfl) (fun _ _ _ h => h) (Or.inl ⟨by rfl, ?_⟩) (by assumption) ?_
        rotate_left
        · intro w hSw; (try dsimp only at hSw); go_simp; (try (with_reducible rfl))
        try simp only [Act.put, List.setIfInBounds_toArray, List.set_cons_zero, List.set_cons_succ]
        refine wpAnyH_take (i := 9) (oi := ⟨_, _, _, _, _, _⟩) (v := ?_) rfl (by kernel_rfl) (by kernel_rfl) (by kernel_rfl) (fun _ _ _ h => h) (Or.inl ⟨by rfl, ?_⟩) (by assumption) ?_
        rotate_left
        · intro w hSw; (try dsimp only at hSw); go_simp; (try (with_reducible rfl))
        try simp only [Act.put, List.setIfInBounds_toArray, List.set_cons_zero, List.set_cons_succ]
        refine wpAnyH_take (i := 10) (oi := ⟨_, _, _, _, _, _⟩) (v := ?_) rfl (by kernel_rfl) (by kernel_rfl) (by kernel_rfl) (fun _ _ _ h => h) (Or.inl ⟨by rfl, ?_⟩) (by assumption) ?_
        rotate_left
        · intro w hSw; (try dsimp only at hSw); go_simp; (try (with_reducible rfl))
        try simp only [Act.put, List.setIfInBounds_toArray, List.set_cons_zero, List.set_cons_succ]
        refine wpAnyH_take (i := 11) (oi := ⟨_, _, _, _, _, _⟩) (v := ?_) rfl (by kernel_rfl) (by kernel_rfl) (by kernel_rfl) (fun _ _ _ h => h) (Or.inl ⟨by rfl, ?_⟩) (by assumption) ?_
        rotate_left
        · intro w hSw; (try dsimp only at hSw); go_simp; (try (with_reducible rfl))
        try simp only [Act.put, List.setIfInBounds_toArray, List.set_cons_zero, List.set_cons_succ]
        obtain ⟨A2, c2, w3, HRUN, o3, hgr, hb3⟩ := app_own2 (W := wr.drew) (n₀ := w.heap.size) Tryd.underlying23 Tryd.infoF rfl (by decide) (show wr.drew.ownsRow w.heap.size 53 2 (.slice A' fs.length c') fs.length (filV fs) from oj) b.size (by omega) (by unfold maxLen; omega) [.string p, .string dd] rfl (by simp [Value.oneCell'])
        have hal : Below wr.heap.size wr (wr.drew.alloc (.cells #[.string p, .string dd] 53)) := (show Below wr.heap.size wr wr.drew from ⟨rfl, rfl, rfl, Nat.le_refl _, fun _ _ => rfl⟩).alloc (Nat.le_refl _) _
        have f1 := (hal.cell (p := ⟨g, og + j * 5, none⟩) hg).trans h1
        have f3 := (hal.cell (p := ⟨g, og + j * 5 + 2, none⟩) hg).trans h3
        refine wpAnyH_ready (rs := [12]) (by kernel_rfl) (by simp) ?_
        refine AllReadyH.cons (o := ⟨_, _, _, _, _, _⟩) rfl (fun K hK => ?_) AllReadyH.nil
        go_simp
        refine hK.out _ _ ⟨f1, f3⟩ (fun hHeld => ?_)
        clear hK K
        try simp only [Act.put, List.setIfInBounds_toArray, List.set_cons_zero, List.set_cons_succ]
        have f5 := (hb3.cell (p := ⟨g, og + j * 5, none⟩) hgw).trans (show wr.drew.cell? ⟨g, og + j * 5, none⟩ = some (.string p) from h1)
        have f6 := (hb3.cell (p := ⟨g, og + j * 5 + 2, none⟩) hgw).trans (show wr.drew.cell? ⟨g, og + j * 5 + 2, none⟩ = some (.string dd) from h3)
        refine wpAnyH_ready (rs := [13]) (by kernel_rfl) (by simp) ?_
        refine AllReadyH.cons (o := ⟨_, _, _, _, _, _⟩) rfl (fun K hK => ?_) AllReadyH.nil
        refine stepApp2 (by rfl) (.tmp 16) (.tmp 28) 23 rfl _ _ _ rfl rfl HRUN.out ?_
        refine hK.out _ _ ⟨f5, f6⟩ (fun hHeld => ?_)
        clear hK K
        try simp only [Act.put, List.setIfInBounds_toArray, List.set_cons_zero, List.set_cons_succ]
        refine wpAnyH_take (i := 14) (oi := ⟨_, _, _, _, _, _⟩) (v := ?_) rfl (by kernel_rfl) (by kernel_rfl) (by kernel_rfl) (fun _ _ _ h => h) (Or.inl ⟨by rfl, ?_⟩) (by assumption) ?_
        rotate_left
        · intro w hSw; (try dsimp only at hSw); go_simp; (try (with_reducible rfl))
        try simp only [Act.put, List.setIfInBounds_toArray, List.set_cons_zero, List.set_cons_succ]
        refine wpAnyH_done (by kernel_rfl) ?_ _
        have o4 : w3.ownsRow w.heap.size 53 2 (.slice A2 (fs ++ [(p, dd)]).length c2) (fs ++ [(p, dd)]).length (filV (fs ++ [(p, dd)])) := by rw [List.length_append, filV_append]; exact o3
        have b4 := b.trans (show Below w.heap.size wr w3 from ⟨hb3.os, hb3.tape, hb3.output, hb3.size, hb3.block⟩)
        clear hHeld o3 hb3 HRUN
        go_wp2
        go_roundw
        case rel => exact ⟨j + 1, A2, c2, fs ++ [(p, dd)], by omega, by go_num, by simp, HM2, o4, b4⟩
        case measure => simp [intOf]; omega
    · have hnlt : ¬ (j : Int) < n := by omega
      have HE : Hid (fs = filesOf es) := by show _ = _; rw [HF.out, List.take_of_length_le (by rw [HL.out]; omega)]
      obtain rfl := HE.out
      obtain ⟨A9, c9, e9, F9⟩ := own2_ft oj (by have := filesOf_len es; have := HL.out; omega) (files_sz HS.out)
      injection e9 with e91 e92 e93
      subst e91 e93
      go_wp2
      go_ret
      exact ⟨A', c', rfl, F9, b⟩

/-! ### Right -/
def okE (es : List Ent) (i : Nat) (hi : i < es.length) : Prop := rightL (epth es[i]) = true ∧ fineE es[i] = true ∧ ∀ _ : 0 < i, epth es[i - 1] < epth es[i]
theorem arch_bad {es : List Ent} (h : archR es = true) (i : Nat) (hi : i < es.length) : okE es i hi := by
  have hR := (archR_iff es).1 h
  have hs := List.pairwise_iff_getElem.1 hR.srt
  exact ⟨hR.paths _ (List.getElem_mem hi), hR.fine _ (List.getElem_mem hi), fun h0 => hs (i - 1) i (by omega) hi (by omega)⟩
theorem arch_good {es : List Ent} (h32 : es.length ≤ 32) (h : ∀ i (hi : i < es.length), okE es i hi) : archR es = treeR (filesOf es) := by
  have hl : (es.map epth).length = es.length := by simp
  have e : ∀ i (hi : i < es.length), (es.map epth).getD i [] = epth es[i] := fun i hi => by simp [List.getD, hi]
  have h1 : es.all fineE = true := List.all_eq_true.2 fun f hf => by
    obtain ⟨i, hi, rfl⟩ := List.mem_iff_getElem.1 hf
    exact (h i hi).2.1
  have h2 : sortedL (es.map epth) = true := List.all_eq_true.2 fun i hi => by
    have hi' : i < es.length := by rw [← hl]; exact List.mem_range.1 hi
    unfold srtAt
    rw [Bool.and_eq_true, Bool.or_eq_true, e i hi']
    refine ⟨(h i hi').1, ?_⟩
    by_cases h0 : i = 0
    · left; simp [h0]
    · right
      rw [e (i - 1) (by omega), less_iff]
      exact (h i hi').2.2 (by omega)
  unfold archR
  rw [h1, h2, decide_eq_true h32]
  rfl
theorem fine_bool (e : Ent) : fineE e = (rt e.l e.r && !((e.l == 0) && (e.r == 0)) && (e.has || decide (e.data = noS))) := by
  unfold fineE
  rw [show decide (e.l = 0) = (e.l == 0) from rfl, show decide (e.r = 0) = (e.r == 0) from rfl]

set_option maxRecDepth 20000 in
set_option maxHeartbeats 8000000 in
theorem rright9_any {w : World} {A : Option Addr} {n c : Nat} {es : List Ent} (h : Et w A n c es) :
    Calls Tryd.prog 18 #[.slice A n c] w fun e w' => e = .returned (.bool (archR es)) ∧ Below w.heap.size w w' := by
  have hr := h.rd
  have hE := h
  have HS : Hid (∀ e ∈ es, SzE e) := h.sz
  have HL := hid h.len
  clear h
  by_cases h32 : (32 : Int) < n
  · go_enter Tryd.func18, Tryd.ntmps18
    go_wp2
    go_ret
    refine ⟨ret_bool ?_, Below.refl _ _⟩
    symm
    refine archR_no fun h => ?_
    have := h.few
    have := HL.out
    omega
  · go_enter Tryd.func18, Tryd.ntmps18
    go_wp2_with fail
    go_loopw [3] (fun i wr => ∃ j : Nat, j ≤ n ∧ i = .int .i64 j ∧ Hid (∀ k (hk : k < es.length), k < j → okE es k hk) ∧ Below w.heap.size w wr) (fun i _ => n - (intOf i).toNat)
    case atStart => exact ⟨0, by omega, rfl, hid (fun k _ hk => absurd hk (by omega)), Below.refl _ _⟩
    case round =>
      obtain ⟨j, hj, rfl, HO, b⟩ := hrel
      by_cases hjn : j < n
      · have hjl : j < es.length := by rw [HL.out]; exact hjn
        obtain ⟨g, og, rfl, h1, h2, h3, h4, h5, hg⟩ := (hr.below b).ent hjl
        have hz : (0 : Int) ≤ j := by omega
        have hlt : (j : Int) < n := by omega
        have hsz := (HS.out es[j] (List.getElem_mem hjl)).1
        have HNO : Hid (¬ okE es j hjl → archR es = false) := fun hno => not_true fun hT => hno (arch_bad hT j hjl)
        have HYES : Hid (okE es j hjl → ∀ k (hk : k < es.length), k < j + 1 → okE es k hk) := fun hy k hk hkj => by
          by_cases e : k = j
          · subst e; exact hy
          · exact HO.out k hk (by omega)
        have HOK : Hid (okE es j hjl = (rightL (epth es[j]) = true ∧ fineE es[j] = true ∧ ∀ _ : 0 < j, epth es[j - 1] < epth es[j])) := rfl
        have HFB := hid (fine_bool es[j])
        have HPV : Hid (∀ _ : 0 < j, ∃ y, epth es[j - 1] = y.data.toList ∧ (wr.cell? ⟨g, og + (j - 1) * 5, none⟩ = some (.string y))) := fun h0 => by
          obtain ⟨g', og', e', k0, -⟩ := (hr.below b).ent (j := j - 1) (by omega)
          injection e' with e'
          injection e' with e1 e2
          subst e1 e2
          exact ⟨_, rfl, k0⟩
        generalize okE es j hjl = OK at *
        generalize es[j] = x at *
        go_wp2_with fail
        refine (refRight x.path _ hsz).mono ?_
        rintro e w2 ⟨rfl, hb2⟩
        have p2 := (Blk.new wr [.string x.path, .bool x.has, .string x.data, .int .i64 x.l, .int .i64 x.r] 37).below hb2
        have b2 := below2 b (below_new _ hb2)
        have hg2 : wr.heap.size ≤ w2.heap.size := by have := hb2.size; simp at this; omega
        have q3 := p2.cell 3
        have q4 := p2.cell 4
        simp only [List.getElem?_cons_zero, List.getElem?_cons_succ] at q3 q4
        go_wp2_with fail
        refine (rright_any x.l x.r _).mono ?_
        rintro e w3 ⟨rfl, hb3⟩
        have p3 := p2.below hb3
        have b3 := below2 b2 hb3
        have hbw := (below2 (below_new _ hb2) hb3)
        have HPV3 : Hid (∀ _ : 0 < j, ∃ y, epth es[j - 1] = y.data.toList ∧ (w3.cell? ⟨g, og + (j - 1) * 5, none⟩ = some (.string y))) := fun h0 => by
          obtain ⟨y, e1, e2⟩ := HPV.out h0
          exact ⟨y, e1, (hbw.cell (p := ⟨g, og + (j - 1) * 5, none⟩) (World.block_lt_of_cell? _ _ e2)).trans e2⟩
        have c0 := p3.cell 0
        have c1 := p3.cell 1
        have c2 := p3.cell 2
        have c3 := p3.cell 3
        have c4 := p3.cell 4
        simp only [List.getElem?_cons_zero, List.getElem?_cons_succ] at c0 c1 c2 c3 c4
        clear hb2 hb3 p2 p3 b2 q3 q4 hbw HPV h1 h2 h3 h4 h5 b
        generalize wr.heap.size = gb at *
        cases hf : rightL x.path.data.toList
        · have HF := hid hf
          clear hf
          go_wp2_with fail
          go_quiet (fail)
          go_wp2
          go_ret
          refine ⟨ret_bool (HNO.out ?_).symm, below_drewN b3 _⟩
          rw [HOK.out]
          rintro ⟨k1, k2, k3⟩
          rw [epth, HF.out] at k1
          cases k1
        have HF : Hid (rightL (epth x) = true) := hf
        clear hf
        cases hrt : rt x.l x.r
        · rw [hrt] at HFB
          clear hrt
          go_wp2_with fail
          go_quiet (fail)
          go_wp2
          go_ret
          refine ⟨ret_bool (HNO.out ?_).symm, below_drewN b3 _⟩
          rw [HOK.out]
          rintro ⟨k1, k2, k3⟩
          rw [HFB.out] at k2
          cases k2
        rw [hrt] at HFB
        clear hrt
        cases hL : x.l == 0
        · rw [hL] at HFB
          cases hh : x.has
          · rw [hh] at HFB c1
            have hie := isEmpty_no x.data
            have hsq := str_eqb x.data noS
            cases hdd : decide (x.data = noS)
            · rw [hdd] at hie HFB hsq
              clear hdd
              go_wp2_with fail
              go_quiet (fail)
              go_wp2
              go_ret
              refine ⟨ret_bool (HNO.out ?_).symm, below_drewN b3 _⟩
              rw [HOK.out]
              rintro ⟨k1, k2, k3⟩
              rw [HFB.out] at k2
              cases k2
            · rw [hdd] at hie HFB hsq
              clear hdd
              have HFI := hid (HFB.out.trans rfl)
              by_cases hj0 : 0 < j
              · have hj0z : (0 : Int) < j := by omega
                obtain ⟨y, hy1, hy2⟩ := HPV3.out hj0
                have HY1 := hid hy1
                have hj1 : ((j : Int) - 1) = ((j - 1 : Nat) : Int) := by omega
                have hj1z : (0 : Int) ≤ (j - 1 : Nat) := by omega
                have hj1n : ((j - 1 : Nat) : Int) < n := by omega
                have hfl := less_flip y.data.toList x.path.data.toList
                clear hy1
                cases hls : Op.bytesLess y.data.toList x.path.data.toList
                · rw [hls] at hfl
                  rw [← Lib.toList_data, ← Lib.toList_data] at hfl
                  have HLS := hid hls
                  clear hls
                  go_wp2_with fail
                  go_quiet (fail)
                  go_wp2
                  go_ret
                  refine ⟨ret_bool (HNO.out ?_).symm, below_drewN b3 _⟩
                  rw [HOK.out]
                  rintro ⟨k1, k2, k3⟩
                  have k4 := k3 hj0
                  rw [HY1.out, ← less_iff] at k4
                  rw [epth, HLS.out] at k4
                  cases k4
                · rw [hls] at hfl
                  rw [← Lib.toList_data, ← Lib.toList_data] at hfl
                  have HPR : Hid (∀ _ : 0 < j, epth es[j - 1] < epth x) := fun _ => by rw [HY1.out, ← less_iff]; exact hls
                  clear hls
                  go_wp2_with fail
                  go_quiet (fail)
                  go_wp2
                  go_roundw
                  case rel => exact ⟨j + 1, by omega, by go_num, hid (HYES.out (by rw [HOK.out]; exact ⟨HF.out, HFI.out, HPR.out⟩)), below_drewN b3 _⟩
                  case measure => simp [intOf]; omega
              · have hj0z : decide ((0 : Int) < j) = false := by simp; omega
                have HPR : Hid (∀ _ : 0 < j, epth es[j - 1] < epth x) := fun h => absurd h hj0
                have hj0y : ¬ (0 : Int) < j := by omega
                go_wp2_with fail
                go_quiet (fail)
                go_wp2
                go_roundw
                case rel => exact ⟨j + 1, by omega, by go_num, hid (HYES.out (by rw [HOK.out]; exact ⟨HF.out, HFI.out, HPR.out⟩)), below_drewN b3 _⟩
                case measure => simp [intOf]; omega
          · rw [hh] at HFB c1
            have HFI := hid (HFB.out.trans rfl)
            by_cases hj0 : 0 < j
            · have hj0z : (0 : Int) < j := by omega
              obtain ⟨y, hy1, hy2⟩ := HPV3.out hj0
              have HY1 := hid hy1
              have hj1 : ((j : Int) - 1) = ((j - 1 : Nat) : Int) := by omega
              have hj1z : (0 : Int) ≤ (j - 1 : Nat) := by omega
              have hj1n : ((j - 1 : Nat) : Int) < n := by omega
              have hfl := less_flip y.data.toList x.path.data.toList
              clear hy1
              cases hls : Op.bytesLess y.data.toList x.path.data.toList
              · rw [hls] at hfl
                rw [← Lib.toList_data, ← Lib.toList_data] at hfl
                have HLS := hid hls
                clear hls
                go_wp2_with fail
                go_quiet (fail)
                go_wp2
                go_ret
                refine ⟨ret_bool (HNO.out ?_).symm, below_drewN b3 _⟩
                rw [HOK.out]
                rintro ⟨k1, k2, k3⟩
                have k4 := k3 hj0
                rw [HY1.out, ← less_iff] at k4
                rw [epth, HLS.out] at k4
                cases k4
              · rw [hls] at hfl
                rw [← Lib.toList_data, ← Lib.toList_data] at hfl
                have HPR : Hid (∀ _ : 0 < j, epth es[j - 1] < epth x) := fun _ => by rw [HY1.out, ← less_iff]; exact hls
                clear hls
                go_wp2_with fail
                go_quiet (fail)
                go_wp2
                go_roundw
                case rel => exact ⟨j + 1, by omega, by go_num, hid (HYES.out (by rw [HOK.out]; exact ⟨HF.out, HFI.out, HPR.out⟩)), below_drewN b3 _⟩
                case measure => simp [intOf]; omega
            · have hj0z : decide ((0 : Int) < j) = false := by simp; omega
              have HPR : Hid (∀ _ : 0 < j, epth es[j - 1] < epth x) := fun h => absurd h hj0
              have hj0y : ¬ (0 : Int) < j := by omega
              go_wp2_with fail
              go_quiet (fail)
              go_wp2
              go_roundw
              case rel => exact ⟨j + 1, by omega, by go_num, hid (HYES.out (by rw [HOK.out]; exact ⟨HF.out, HFI.out, HPR.out⟩)), below_drewN b3 _⟩
              case measure => simp [intOf]; omega
        · rw [hL] at HFB
          cases hR0 : x.r == 0
          · rw [hR0] at HFB
            cases hh : x.has
            · rw [hh] at HFB c1
              have hie := isEmpty_no x.data
              have hsq := str_eqb x.data noS
              cases hdd : decide (x.data = noS)
              · rw [hdd] at hie HFB hsq
                clear hdd
                go_wp2_with fail
                go_quiet (fail)
                go_wp2
                go_ret
                refine ⟨ret_bool (HNO.out ?_).symm, below_drewN b3 _⟩
                rw [HOK.out]
                rintro ⟨k1, k2, k3⟩
                rw [HFB.out] at k2
                cases k2
              · rw [hdd] at hie HFB hsq
                clear hdd
                have HFI := hid (HFB.out.trans rfl)
                by_cases hj0 : 0 < j
                · have hj0z : (0 : Int) < j := by omega
                  obtain ⟨y, hy1, hy2⟩ := HPV3.out hj0
                  have HY1 := hid hy1
                  have hj1 : ((j : Int) - 1) = ((j - 1 : Nat) : Int) := by omega
                  have hj1z : (0 : Int) ≤ (j - 1 : Nat) := by omega
                  have hj1n : ((j - 1 : Nat) : Int) < n := by omega
                  have hfl := less_flip y.data.toList x.path.data.toList
                  clear hy1
                  cases hls : Op.bytesLess y.data.toList x.path.data.toList
                  · rw [hls] at hfl
                    rw [← Lib.toList_data, ← Lib.toList_data] at hfl
                    have HLS := hid hls
                    clear hls
                    go_wp2_with fail
                    go_quiet (fail)
                    go_wp2
                    go_ret
                    refine ⟨ret_bool (HNO.out ?_).symm, below_drewN b3 _⟩
                    rw [HOK.out]
                    rintro ⟨k1, k2, k3⟩
                    have k4 := k3 hj0
                    rw [HY1.out, ← less_iff] at k4
                    rw [epth, HLS.out] at k4
                    cases k4
                  · rw [hls] at hfl
                    rw [← Lib.toList_data, ← Lib.toList_data] at hfl
                    have HPR : Hid (∀ _ : 0 < j, epth es[j - 1] < epth x) := fun _ => by rw [HY1.out, ← less_iff]; exact hls
                    clear hls
                    go_wp2_with fail
                    go_quiet (fail)
                    go_wp2
                    go_roundw
                    case rel => exact ⟨j + 1, by omega, by go_num, hid (HYES.out (by rw [HOK.out]; exact ⟨HF.out, HFI.out, HPR.out⟩)), below_drewN b3 _⟩
                    case measure => simp [intOf]; omega
                · have hj0z : decide ((0 : Int) < j) = false := by simp; omega
                  have HPR : Hid (∀ _ : 0 < j, epth es[j - 1] < epth x) := fun h => absurd h hj0
                  have hj0y : ¬ (0 : Int) < j := by omega
                  go_wp2_with fail
                  go_quiet (fail)
                  go_wp2
                  go_roundw
                  case rel => exact ⟨j + 1, by omega, by go_num, hid (HYES.out (by rw [HOK.out]; exact ⟨HF.out, HFI.out, HPR.out⟩)), below_drewN b3 _⟩
                  case measure => simp [intOf]; omega
            · rw [hh] at HFB c1
              have HFI := hid (HFB.out.trans rfl)
              by_cases hj0 : 0 < j
              · have hj0z : (0 : Int) < j := by omega
                obtain ⟨y, hy1, hy2⟩ := HPV3.out hj0
                have HY1 := hid hy1
                have hj1 : ((j : Int) - 1) = ((j - 1 : Nat) : Int) := by omega
                have hj1z : (0 : Int) ≤ (j - 1 : Nat) := by omega
                have hj1n : ((j - 1 : Nat) : Int) < n := by omega
                have hfl := less_flip y.data.toList x.path.data.toList
                clear hy1
                cases hls : Op.bytesLess y.data.toList x.path.data.toList
                · rw [hls] at hfl
                  rw [← Lib.toList_data, ← Lib.toList_data] at hfl
                  have HLS := hid hls
                  clear hls
                  go_wp2_with fail
                  go_quiet (fail)
                  go_wp2
                  go_ret
                  refine ⟨ret_bool (HNO.out ?_).symm, below_drewN b3 _⟩
                  rw [HOK.out]
                  rintro ⟨k1, k2, k3⟩
                  have k4 := k3 hj0
                  rw [HY1.out, ← less_iff] at k4
                  rw [epth, HLS.out] at k4
                  cases k4
                · rw [hls] at hfl
                  rw [← Lib.toList_data, ← Lib.toList_data] at hfl
                  have HPR : Hid (∀ _ : 0 < j, epth es[j - 1] < epth x) := fun _ => by rw [HY1.out, ← less_iff]; exact hls
                  clear hls
                  go_wp2_with fail
                  go_quiet (fail)
                  go_wp2
                  go_roundw
                  case rel => exact ⟨j + 1, by omega, by go_num, hid (HYES.out (by rw [HOK.out]; exact ⟨HF.out, HFI.out, HPR.out⟩)), below_drewN b3 _⟩
                  case measure => simp [intOf]; omega
              · have hj0z : decide ((0 : Int) < j) = false := by simp; omega
                have HPR : Hid (∀ _ : 0 < j, epth es[j - 1] < epth x) := fun h => absurd h hj0
                have hj0y : ¬ (0 : Int) < j := by omega
                go_wp2_with fail
                go_quiet (fail)
                go_wp2
                go_roundw
                case rel => exact ⟨j + 1, by omega, by go_num, hid (HYES.out (by rw [HOK.out]; exact ⟨HF.out, HFI.out, HPR.out⟩)), below_drewN b3 _⟩
                case measure => simp [intOf]; omega
          · rw [hR0] at HFB
            go_wp2_with fail
            go_quiet (fail)
            go_wp2
            go_ret
            refine ⟨ret_bool (HNO.out ?_).symm, below_drewN b3 _⟩
            rw [HOK.out]
            rintro ⟨k1, k2, k3⟩
            rw [HFB.out] at k2
            cases k2
      · have hnlt : ¬ (j : Int) < n := by omega
        have HT := hid (arch_good (es := es) (by have := HL.out; omega) fun i hi => HO.out i hi (by have := HL.out; omega))
        have k1 := rfiles_any (hE.below b)
        go_wp2_with fail
        refine k1.mono ?_
        rintro e w2 ⟨B2, d2, rfl, F2, hb2⟩
        have b2 := below2 b hb2
        have k2 := refTree F2
        go_wp2_with fail
        refine k2.mono ?_
        rintro e w3 ⟨rfl, hb3⟩
        have b3 := below2 b2 hb3
        go_wp2
        go_ret
        exact ⟨ret_bool HT.out.symm, b3⟩

set_option maxHeartbeats 1000000 in
theorem rfind9_any {w : World} {A : Option Addr} {n c : Nat} {es : List Ent} (h : Et w A n c es) (p : ByteArray) :
    Calls Tryd.prog 20 #[.slice A n c, .string p] w fun e w' => e = .returned (.int .i64 (findE es p)) ∧ Below w.heap.size w w' := by
  have k0 := rright9_any h
  go_enter Tryd.func20, Tryd.ntmps20
  cases hR : archR es with
  | false =>
    rw [hR] at k0
    have HR := hid hR
    clear hR
    go_wp2_with fail
    refine k0.mono ?_
    rintro e w1 ⟨rfl, hb1⟩
    go_wp2
    go_ret
    exact ⟨ret_int (by rw [findE, HR.out]; rfl), hb1⟩
  | true =>
    rw [hR] at k0
    have HR := hid hR
    clear hR
    go_wp2_with fail
    refine k0.mono ?_
    rintro e w1 ⟨rfl, hb1⟩
    have h1 := h.below hb1
    have k1 := rpos_any A n c es p w1 h1.len h1.rd h1.big
    clear h h1 k0
    go_wp2_with fail
    refine k1.mono ?_
    rintro e w2 ⟨rfl, rfl⟩
    go_wp2
    go_ret
    exact ⟨ret_int (by rw [findE, HR.out]; rfl), hb1⟩
set_option maxHeartbeats 1000000 in
theorem rtree9_any {w : World} {A : Option Addr} {n c : Nat} {es : List Ent} (h : Et w A n c es) :
    Calls Tryd.prog 23 #[.slice A n c] w fun e w' => ∃ B d, e = .returned (.slice B (treeE es).length d) ∧ Ft w' B (treeE es).length d (treeE es) ∧ Below w.heap.size w w' := by
  have k0 := rright9_any h
  go_enter Tryd.func23, Tryd.ntmps23
  cases hR : archR es with
  | false =>
    rw [hR] at k0
    have HR : Hid (treeE es = []) := by show _ = _; rw [treeE, hR]; rfl
    clear hR
    go_wp2_with fail
    refine k0.mono ?_
    rintro e w1 ⟨rfl, hb1⟩
    go_wp2
    go_ret
    rw [HR.out]
    exact ⟨none, 0, rfl, ft_nil w1, hb1⟩
  | true =>
    rw [hR] at k0
    have HR : Hid (treeE es = filesOf es) := by show _ = _; rw [treeE, hR]; rfl
    clear hR
    go_wp2_with fail
    refine k0.mono ?_
    rintro e w1 ⟨rfl, hb1⟩
    have k1 := rfiles_any (h.below hb1)
    clear h k0
    go_wp2_with fail
    refine k1.mono ?_
    rintro e w2 ⟨B2, d2, rfl, F2, hb2⟩
    go_wp2
    go_ret
    rw [HR.out]
    exact ⟨B2, d2, rfl, F2, below2 hb1 hb2⟩
end Go.Proofs.YtnkkjedckehoaaaDoor
