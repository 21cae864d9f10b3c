/- Package chunk: Cut. -/
import Derived.Test.YtodgcajehadaaaaHb
namespace Go.Proofs.Ytodgcajehadaaaa
open Go.RowKit Go.Shelf

attribute [local go_sem] Oper.semAt_some

theorem stepAppIn {F : Fence} {n : Nat} {P : Program} {w w' : World} {ops : Array Oper} {o : Oper} {a : Act} {K : Act → World → Prop} {Q : Exit → Act → World → Prop} {E : Prop} (hw : Region.wanted o (yielded ops a.tmps) = true) (s x : Operand) (t : TypeId)
    (ho : o.op = .call { callee := .builtin .append, args := #[s, x], argTypes := #[t, t] }) (v1 v2 v : Value) (hs : a.eval s = v1) (hx : a.eval x = v2)
    (hrun : (Builtin.append_ #[t, t] o.type #[v1, v2]).run P w = .ok v w') (h : K (a.put o.dst v) w') : if Region.wanted o (yielded ops a.tmps) = true then Oper.wpIn F n P o a w K Q else E := by
  rw [if_pos hw]
  unfold Oper.wpIn
  refine ⟨?_, ?_⟩
  · simp [Oper.about, ho, resolve, Target.leads, Sem.run_pure]
  · rw [Oper.semAt_plain F _ _ (by rw [ho]; intro c hc'; cases hc')]
    simp [execOp, ho, resolve, invoke, builtin, hs, hx, hrun, Result.andThen]
    exact h

theorem cut_round {w W W1 : World} {B1 Bn : Nat} {A : Option Addr} {k cap : Nat} {xs : List Value} (hv : Boxed W B1 22 (.slice A k cap)) (hrow : W.ownsRow w.heap.size 9 1 (.slice A k cap) k xs)
    (hne : some Bn ≠ (Value.slice A k cap).ownBlock) (hBn : Bn < W.heap.size) (hBB : Bn ≠ B1) (hB1 : w.heap.size ≤ B1) (hB : Below w.heap.size w W) (h1 : Below W.drew.heap.size W.drew W1) (x : ByteArray) (hk : (k + 1) * 16 ≤ 140737488355328) :
    Boxed W1 B1 22 (.slice A k cap) ∧ Boxed (W1.alloc (.cells #[.string x] 9)) B1 22 (.slice A k cap) ∧ ∃ A' c' w3,
      Hid ((Builtin.append_ #[22, 22] 22 #[.slice A k cap, .slice (some ⟨W1.heap.size, 0, none⟩) 1 1]).run Try.prog (W1.alloc (.cells #[.string x] 9)) = .ok (.slice A' (k + 1) c') w3) ∧
      w3.cell? ⟨B1, 0, none⟩ = some (.slice A k cap) ∧ w3.frozen? ⟨B1, 0, none⟩ = false ∧ Boxed (w3.setCell ⟨B1, 0, none⟩ (.slice A' (k + 1) c')) B1 22 (.slice A' (k + 1) c') ∧
      (w3.setCell ⟨B1, 0, none⟩ (.slice A' (k + 1) c')).ownsRow w.heap.size 9 1 (.slice A' (k + 1) c') (k + 1) (xs ++ [.string x]) ∧ some Bn ≠ (Value.slice A' (k + 1) c').ownBlock ∧
      KeepsOthers W (w3.setCell ⟨B1, 0, none⟩ (.slice A' (k + 1) c')) ∧ (∀ s, KpS Bn s W (w3.setCell ⟨B1, 0, none⟩ (.slice A' (k + 1) c'))) ∧ Below w.heap.size W (w3.setCell ⟨B1, 0, none⟩ (.slice A' (k + 1) c')) := by
  obtain ⟨i0, hi, hz0, hz1, hz2⟩ := info_parts Try.infoS
  have h1' : Below W.heap.size W W1 := ⟨h1.os, h1.tape, h1.output, h1.size, h1.block⟩
  have g1 : W.grownBy W1 none := grown_below h1'
  have hv1 : Boxed W1 B1 22 (.slice A k cap) := hv.kept g1 (by simp)
  have hrow1 : W1.ownsRow w.heap.size 9 1 (.slice A k cap) k xs := hrow.kept g1 (by
    rcases hrow.2 with ⟨e, -⟩ | ⟨g, cap', cur, e, -⟩
    · exact .inl (by rw [e]; rfl)
    · exact .inr (by rw [e]; simp [Value.ownBlock]))
  have hs0 := hB.size
  have hs1 : W.heap.size ≤ W1.heap.size := h1.size
  obtain ⟨v', w3, hrun, hown3, hg3, -, hloc⟩ := run_append_own_at (P := Try.prog) (W1.alloc (.cells #[.string x] 9)) w.heap.size 22 22 9 i0 (.string ⟨#[]⟩) 1 16 Try.underlying22 hi hz0 hz1 hz2 rfl (by decide) _ k xs (hrow1.alloc _) ⟨W1.heap.size, 0, none⟩ 1 1 [.string x] rfl (cell_one_new _ _ _) (by simp [Value.oneCell']) (by unfold maxLen; omega) hk (by simp; omega)
  obtain ⟨-, A', c', rfl, -⟩ := own_form hown3
  obtain ⟨hv2, hv3, hr3, hk3, hb3⟩ := hv1.appended (by decide) hrow1 (by omega) hB1 hown3 hg3
  refine ⟨hv1, hv1.alloc _, A', c', w3, hrun, hv2.cell, hv2.frozen, hv3, hr3, ?_, ?_, ?_, ?_⟩
  · intro e
    rcases hloc with h | h
    · exact hne (e.trans h)
    · rw [h] at e
      injection e with e
      simp at e
      omega
  · exact (KeepsOthers.of_grownBy g1 (by simp)).trans hk3
  · intro s hs
    have e1 : W1.cell? ⟨Bn, 0, none⟩ = some (.string s) := (World.cell?_of_block (h1'.block Bn hBn)).trans hs
    have e2 : (W1.alloc (.cells #[.string x] 9)).cell? ⟨Bn, 0, none⟩ = some (.string s) := (World.cell?_of_block (Below.heap_alloc W1 _ Bn (by omega))).trans e1
    have e3 : w3.cell? ⟨Bn, 0, none⟩ = some (.string s) := (World.cell?_of_block (hg3.block Bn (by simp; omega) hne)).trans e2
    exact (World.cell?_setCell_other _ _ _ _ (fun e => hBB (by injection e with e; exact e.symm))).trans e3
  · exact (h1'.mono hs0).trans hb3

set_option maxRecDepth 100000 in
set_option maxHeartbeats 2000000 in
theorem cut_any (s : ByteArray) (w : World) (hs : s.size ≤ 140737488355328) :
    Calls Try.prog 14 #[.string s] w fun e w' => ∃ A c, e = .returned (.slice A (pcsS s).length c) ∧ w'.ownsRow w.heap.size 9 1 (.slice A (pcsS s).length c) (pcsS s).length (strV (pcsS s)) ∧ Below w.heap.size w w' := by
  obtain ⟨i0, hi, hz0, hz1, hz2⟩ := info_parts Try.infoS
  have hsz : s.size ≤ 9223372036854775807 := by omega
  obtain ⟨c, hc⟩ : ∃ c, cnt s.size = c := ⟨_, rfl⟩
  have hc1 : c * 64 ≤ s.size + 63 := by rw [← hc]; unfold cnt; omega
  have hcn := count_nat s.size w hsz
  rw [hc] at hcn
  have HC := hid ((pcsS_length s).trans hc)
  clear hc
  have HZ : Hid (i0.bytes * c ≤ 281474976710656) := by rw [hz2]; show _ ≤ _; omega
  obtain ⟨w1, hmake, hown1, hg1⟩ := run_make_own (P := Try.prog) w w.heap.size 22 9 i0 (.string ⟨#[]⟩) 1 Try.underlying22 hi hz0 hz1 .i64 .i64 c HZ.out (by unfold maxLen; omega) (Nat.le_refl _)
  refine (callsIn_wide (n := 3)).1 ?_
  refine callsIn_of_wp_marks Try.func14 rfl trivial ?_ rfl
  simp only [Try.ntmps14, List.size_toArray, List.length_cons, List.length_nil, Nat.reduceAdd, Nat.reduceSub, Array.replicate_succ, Array.replicate_zero, List.push_toArray, List.append_toArray, List.nil_append, List.cons_append]
  gi_wp2_with (first
    | (refine ⟨trivial, ?_⟩; gi_at_call 16; refine (callsIn_wide.2 hcn).mono ?_; rintro e w' ⟨rfl, rfl⟩)
    | (refine ⟨trivial, ?_⟩; gi_at_call 24; refine (callsIn_wide.2 (pieces_any s _)).mono ?_; rintro e w' ⟨rfl, rfl⟩))
  have bO := Boxed.new w1 22 (.slice (some ⟨w.heap.size, 0, none⟩) 0 c)
  have bN := Boxed.new (w1.alloc (.cells #[.slice (some ⟨w.heap.size, 0, none⟩) 0 c] 22)) 9 (.string s)
  rw [World.size_alloc] at bN
  have hlt1 : w.heap.size < w1.heap.size := (hown1.lt w.heap.size rfl).2
  have hB0 : Below w.heap.size w ((w1.alloc (.cells #[.slice (some ⟨w.heap.size, 0, none⟩) 0 c] 22)).alloc (.cells #[.string s] 9)) :=
    (((Below.refl _ _).grown hg1 (Nat.le_refl _) (by simp)).alloc hg1.size _).alloc (by have := hg1.size; simp; omega) _
  refine wpIn_rangeFunc_ownG rfl (by omega) (gf := 30) (lb := #[.pointer (some ⟨w1.heap.size + 1, 0, none⟩)]) rfl trivial (enters_of Try.func30 (by kernel_rfl) rfl)
    (pieces_stops _ (by omega) (w1.heap.size + 1) s hs _ (by simp) bN.cell) (fun h k => KpS.trans h k) (fun _ _ _ o' _ hl ho _ => KpS.put o' hl ho) (Below.refl _ _) (fun _ => rfl)
    (fun (pre : List SP) W => ((∃ v, Boxed W w1.heap.size 22 v ∧ W.ownsRow w.heap.size 9 1 v pre.length (strV (pre.map (·.1))) ∧ some (w1.heap.size + 1) ≠ v.ownBlock) ∧ W.cell? ⟨w1.heap.size + 1, 0, none⟩ = some (.string s)) ∧ Below w.heap.size w W)
    (fun _ _ _ => False)
    (OwnFrom.and (OwnFrom.and (Own.from (holdsRow_own w.heap.size w1.heap.size 22 9 1 (fun (pre : List SP) => pre.length) (fun pre => strV (pre.map (·.1))) (fun _ v => some (w1.heap.size + 1) ≠ v.ownBlock)) _) (Own.from (fun _ _ _ _ hs hg hr => cell_kept hs hg hr) _)) (ownFrom_below (Nat.le_refl _) (by simp; omega)))
    (fun _ _ _ _ _ hs _ _ => hs)
    ⟨⟨⟨_, bO.alloc _, (hown1.alloc _).alloc _, by simp [Value.ownBlock]; omega⟩, bN.cell⟩, hB0⟩
    (fun x => { tmps := #[.string s, undef, .slice none 0 0, .pointer (some ⟨w1.heap.size, 0, none⟩), .string x.1, .string s, .int .i64 s.size, .int .i64 c, .slice (some ⟨w.heap.size, 0, none⟩) 0 c, .string s, .func (.func 30) #[] #[.pointer (some ⟨w1.heap.size + 1, 0, none⟩)], .string x.1, undef, undef, undef, undef, undef, undef], defers := [] }) ?assign ?body ?done ?stop
  case assign =>
    intro l x W K hK
    gi_wp2
    exact hK
  case body =>
    rintro l pre x W ⟨⟨⟨v, hv, hrow, hne⟩, hcN⟩, hB⟩ hlt
    obtain ⟨-, A, cap, rfl, -⟩ := own_form hrow
    have hc := hv.cell
    have hk : (pre.length + 1) * 16 ≤ 140737488355328 := by rw [pcsT_length, HC.out] at hlt; omega
    have hB1 : w.heap.size ≤ w1.heap.size := by omega
    have hBB : w1.heap.size + 1 ≠ w1.heap.size := by omega
    have hBn : w1.heap.size + 1 < W.heap.size := World.block_lt_of_cell? _ _ hcN
    generalize hgen : w1.heap.size + 1 = Bn at *
    clear hgen
    have HcN := hid hcN
    clear hcN
    gi_wp2
    refine wpIn_region_any (by kernel_rfl) ?_
    change wpAnyIn _ _ _ _ _ _ _ _ _ (World.drew _)
    refine wpAnyIn_ready (rs := [0, 1]) (by kernel_rfl) (by simp) ?_
    refine AllReadyIn.cons (o := ⟨_, _, _, _, _, _⟩) rfl (fun K hK => ?_) (AllReadyIn.cons (o := ⟨_, _, _, _, _, _⟩) rfl (fun K hK => ?_) (AllReadyIn.nil))
    · go_simp
      refine hK _ _ ?_
      clear hK K
      try simp only [Act.put, List.setIfInBounds_toArray, List.set_cons_zero, List.set_cons_succ]
      refine wpAnyIn_ready (rs := [1]) (by kernel_rfl) (by simp) ?_
      refine AllReadyIn.cons (o := ⟨_, _, _, _, _, _⟩) rfl (fun K hK => ?_) (AllReadyIn.nil)
      go_simp
      refine hK _ _ ?_
      clear hK K
      try simp only [Act.put, List.setIfInBounds_toArray, List.set_cons_zero, List.set_cons_succ]
      refine wpAnyIn_ready (rs := [2]) (by kernel_rfl) (by simp) ?_
      refine AllReadyIn.cons (o := ⟨_, _, _, _, _, _⟩) rfl (fun K hK => ?_) (AllReadyIn.nil)
      go_simp
      gi_wp2_with (refine ⟨trivial, ?_⟩; gi_at_call 25; refine (CallsIn.inRound l (callsIn_wide.2 (clone_any x.1 _ (by have := x.2; omega)))).mono ?_; rintro e W1 ⟨rfl, hb1⟩)
      obtain ⟨d1, d2, A', c', w3, HRUN, d3, d4, d5, d6, d7, d8, d9, d10⟩ := cut_round hv hrow hne hBn hBB hB1 hB hb1 x.1 hk
      have e1 := d1.cell
      have e2 := d2.cell
      clear d1 d2 hb1
      refine wpAnyIn_ready (rs := [3]) (by kernel_rfl) (by simp) ?_
      refine AllReadyIn.cons (o := ⟨_, _, _, _, _, _⟩) rfl (fun K hK => ?_) (AllReadyIn.nil)
      go_simp
      refine hK _ _ ?_
      clear hK K
      try simp only [Act.put, List.setIfInBounds_toArray, List.set_cons_zero, List.set_cons_succ]
      refine wpAnyIn_ready (rs := [4]) (by kernel_rfl) (by simp) ?_
      refine AllReadyIn.cons (o := ⟨_, _, _, _, _, _⟩) rfl (fun K hK => ?_) (AllReadyIn.nil)
      refine stepAppIn (by rfl) (.tmp 12) (.tmp 15) 22 rfl _ _ _ rfl rfl HRUN.out ?_
      refine hK _ _ ?_
      clear hK K
      try simp only [Act.put, List.setIfInBounds_toArray, List.set_cons_zero, List.set_cons_succ]
      refine wpAnyIn_ready (rs := [5]) (by kernel_rfl) (by simp) ?_
      refine AllReadyIn.cons (o := ⟨_, _, _, _, _, _⟩) rfl (fun K hK => ?_) (AllReadyIn.nil)
      go_simp
      refine hK _ _ ?_
      clear hK K
      try simp only [Act.put, List.setIfInBounds_toArray, List.set_cons_zero, List.set_cons_succ]
      refine wpAnyIn_done (by kernel_rfl) ?_ _
      exact ⟨d8.from _, d9 s, ⟨⟨_, d5, by simpa [strV] using d6, by simpa using d7⟩, d9 s HcN.out⟩, hB.trans d10⟩
    · go_simp
      refine hK _ _ ?_
      clear hK K
      try simp only [Act.put, List.setIfInBounds_toArray, List.set_cons_zero, List.set_cons_succ]
      refine wpAnyIn_ready (rs := [0, 2]) (by kernel_rfl) (by simp) ?_
      refine AllReadyIn.cons (o := ⟨_, _, _, _, _, _⟩) rfl (fun K hK => ?_) (AllReadyIn.cons (o := ⟨_, _, _, _, _, _⟩) rfl (fun K hK => ?_) (AllReadyIn.nil))
      · go_simp
        refine hK _ _ ?_
        clear hK K
        try simp only [Act.put, List.setIfInBounds_toArray, List.set_cons_zero, List.set_cons_succ]
        refine wpAnyIn_ready (rs := [2]) (by kernel_rfl) (by simp) ?_
        refine AllReadyIn.cons (o := ⟨_, _, _, _, _, _⟩) rfl (fun K hK => ?_) (AllReadyIn.nil)
        go_simp
        gi_wp2_with (refine ⟨trivial, ?_⟩; gi_at_call 25; refine (CallsIn.inRound l (callsIn_wide.2 (clone_any x.1 _ (by have := x.2; omega)))).mono ?_; rintro e W1 ⟨rfl, hb1⟩)
        obtain ⟨d1, d2, A', c', w3, HRUN, d3, d4, d5, d6, d7, d8, d9, d10⟩ := cut_round hv hrow hne hBn hBB hB1 hB hb1 x.1 hk
        have e1 := d1.cell
        have e2 := d2.cell
        clear d1 d2 hb1
        refine wpAnyIn_ready (rs := [3]) (by kernel_rfl) (by simp) ?_
        refine AllReadyIn.cons (o := ⟨_, _, _, _, _, _⟩) rfl (fun K hK => ?_) (AllReadyIn.nil)
        go_simp
        refine hK _ _ ?_
        clear hK K
        try simp only [Act.put, List.setIfInBounds_toArray, List.set_cons_zero, List.set_cons_succ]
        refine wpAnyIn_ready (rs := [4]) (by kernel_rfl) (by simp) ?_
        refine AllReadyIn.cons (o := ⟨_, _, _, _, _, _⟩) rfl (fun K hK => ?_) (AllReadyIn.nil)
        refine stepAppIn (by rfl) (.tmp 12) (.tmp 15) 22 rfl _ _ _ rfl rfl HRUN.out ?_
        refine hK _ _ ?_
        clear hK K
        try simp only [Act.put, List.setIfInBounds_toArray, List.set_cons_zero, List.set_cons_succ]
        refine wpAnyIn_ready (rs := [5]) (by kernel_rfl) (by simp) ?_
        refine AllReadyIn.cons (o := ⟨_, _, _, _, _, _⟩) rfl (fun K hK => ?_) (AllReadyIn.nil)
        go_simp
        refine hK _ _ ?_
        clear hK K
        try simp only [Act.put, List.setIfInBounds_toArray, List.set_cons_zero, List.set_cons_succ]
        refine wpAnyIn_done (by kernel_rfl) ?_ _
        exact ⟨d8.from _, d9 s, ⟨⟨_, d5, by simpa [strV] using d6, by simpa using d7⟩, d9 s HcN.out⟩, hB.trans d10⟩
      · go_simp
        gi_wp2_with (refine ⟨trivial, ?_⟩; gi_at_call 25; refine (CallsIn.inRound l (callsIn_wide.2 (clone_any x.1 _ (by have := x.2; omega)))).mono ?_; rintro e W1 ⟨rfl, hb1⟩)
        obtain ⟨d1, d2, A', c', w3, HRUN, d3, d4, d5, d6, d7, d8, d9, d10⟩ := cut_round hv hrow hne hBn hBB hB1 hB hb1 x.1 hk
        have e1 := d1.cell
        have e2 := d2.cell
        clear d1 d2 hb1
        refine wpAnyIn_ready (rs := [0, 3]) (by kernel_rfl) (by simp) ?_
        refine AllReadyIn.cons (o := ⟨_, _, _, _, _, _⟩) rfl (fun K hK => ?_) (AllReadyIn.cons (o := ⟨_, _, _, _, _, _⟩) rfl (fun K hK => ?_) (AllReadyIn.nil))
        · go_simp
          refine hK _ _ ?_
          clear hK K
          try simp only [Act.put, List.setIfInBounds_toArray, List.set_cons_zero, List.set_cons_succ]
          refine wpAnyIn_ready (rs := [3]) (by kernel_rfl) (by simp) ?_
          refine AllReadyIn.cons (o := ⟨_, _, _, _, _, _⟩) rfl (fun K hK => ?_) (AllReadyIn.nil)
          go_simp
          refine hK _ _ ?_
          clear hK K
          try simp only [Act.put, List.setIfInBounds_toArray, List.set_cons_zero, List.set_cons_succ]
          refine wpAnyIn_ready (rs := [4]) (by kernel_rfl) (by simp) ?_
          refine AllReadyIn.cons (o := ⟨_, _, _, _, _, _⟩) rfl (fun K hK => ?_) (AllReadyIn.nil)
          refine stepAppIn (by rfl) (.tmp 12) (.tmp 15) 22 rfl _ _ _ rfl rfl HRUN.out ?_
          refine hK _ _ ?_
          clear hK K
          try simp only [Act.put, List.setIfInBounds_toArray, List.set_cons_zero, List.set_cons_succ]
          refine wpAnyIn_ready (rs := [5]) (by kernel_rfl) (by simp) ?_
          refine AllReadyIn.cons (o := ⟨_, _, _, _, _, _⟩) rfl (fun K hK => ?_) (AllReadyIn.nil)
          go_simp
          refine hK _ _ ?_
          clear hK K
          try simp only [Act.put, List.setIfInBounds_toArray, List.set_cons_zero, List.set_cons_succ]
          refine wpAnyIn_done (by kernel_rfl) ?_ _
          exact ⟨d8.from _, d9 s, ⟨⟨_, d5, by simpa [strV] using d6, by simpa using d7⟩, d9 s HcN.out⟩, hB.trans d10⟩
        · go_simp
          refine hK _ _ ?_
          clear hK K
          try simp only [Act.put, List.setIfInBounds_toArray, List.set_cons_zero, List.set_cons_succ]
          refine wpAnyIn_ready (rs := [0]) (by kernel_rfl) (by simp) ?_
          refine AllReadyIn.cons (o := ⟨_, _, _, _, _, _⟩) rfl (fun K hK => ?_) (AllReadyIn.nil)
          go_simp
          refine hK _ _ ?_
          clear hK K
          try simp only [Act.put, List.setIfInBounds_toArray, List.set_cons_zero, List.set_cons_succ]
          refine wpAnyIn_ready (rs := [4]) (by kernel_rfl) (by simp) ?_
          refine AllReadyIn.cons (o := ⟨_, _, _, _, _, _⟩) rfl (fun K hK => ?_) (AllReadyIn.nil)
          refine stepAppIn (by rfl) (.tmp 12) (.tmp 15) 22 rfl _ _ _ rfl rfl HRUN.out ?_
          refine hK _ _ ?_
          clear hK K
          try simp only [Act.put, List.setIfInBounds_toArray, List.set_cons_zero, List.set_cons_succ]
          refine wpAnyIn_ready (rs := [5]) (by kernel_rfl) (by simp) ?_
          refine AllReadyIn.cons (o := ⟨_, _, _, _, _, _⟩) rfl (fun K hK => ?_) (AllReadyIn.nil)
          go_simp
          refine hK _ _ ?_
          clear hK K
          try simp only [Act.put, List.setIfInBounds_toArray, List.set_cons_zero, List.set_cons_succ]
          refine wpAnyIn_done (by kernel_rfl) ?_ _
          exact ⟨d8.from _, d9 s, ⟨⟨_, d5, by simpa [strV] using d6, by simpa using d7⟩, d9 s HcN.out⟩, hB.trans d10⟩
  case done =>
    rintro D ys W hD rfl ⟨⟨⟨v, hv, hrow, -⟩, -⟩, hB⟩ hK
    rw [pcsT_length, pcsT_val] at hrow
    obtain ⟨-, A, cap, rfl, -⟩ := own_form hrow
    have hc := hv.cell
    gi_wp2
    refine ⟨by simp, .inl ⟨_, _, rfl, run_takeDeferred hK, ?_⟩⟩
    exact ⟨_, results_tmp rfl _ _ _, A, cap, rfl, ownsRow_putObj hrow _ hK rfl, hB.trans (belowK_b (w := w) (Nat.le_refl _) W D _ _ (by simp at hD; omega) hK rfl rfl)⟩
  case stop =>
    rintro D c pre W _ _ h _
    exact h.elim

end Go.Proofs.Ytodgcajehadaaaa
