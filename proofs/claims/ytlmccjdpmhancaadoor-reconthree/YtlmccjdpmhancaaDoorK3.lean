/- The texts Sf, Sg, Sh, Si, Sj, Tk, Sk, Ja, in one. -/
import Derived.Test.YtlmccjdpmhancaaDoorK2
namespace Go.Proofs.YtlmccjdpmhancaaDoor
open Go.RowKit Go.Shelf

attribute [local go_sem] Oper.semAt_some

theorem boxed_below {W W' : World} {B : Nat} {t : TypeId} {v : Value} (h : Boxed W B t v) (hb : Below W.heap.size W W') : Boxed W' B t v := (hb.block B h.lt).trans h
theorem own_below {W W' : World} {base : Nat} {e : TypeId} {sz k : Nat} {v : Value} {xs : List Value} (h : W.ownsRow base e sz v k xs) (hb : Below W.heap.size W W') : W'.ownsRow base e sz v k xs := by
  refine h.kept (grown_below (row := none) hb) ?_
  rcases h.2 with ⟨e, -⟩ | ⟨g, cap', cur, e, -⟩
  · exact .inl (by rw [e]; rfl)
  · exact .inr (by rw [e]; simp [Value.ownBlock])
theorem own_low {w : World} {base base' : Nat} {e : TypeId} {sz : Nat} {v : Value} {n : Nat} {xs : List Value} (h : w.ownsRow base e sz v n xs) (hb : base' ≤ base) : w.ownsRow base' e sz v n xs := by
  refine ⟨h.1, ?_⟩
  rcases h.2 with h2 | ⟨g, cap, cur, h2, h3, h4⟩
  · exact .inl h2
  · exact .inr ⟨g, cap, cur, h2, by omega, h4⟩
theorem keeps_below {W W' : World} (h : Below W.heap.size W W') : KeepsOthers W W' := KeepsOthers.of_grownBy (grown_below (row := none) h) (by simp)
theorem below_undrew {W W' : World} (h : Below W.drew.heap.size W.drew W') : Below W.heap.size W W' := ⟨h.os, h.tape, h.output, h.size, h.block⟩

def treeE (es : List Ent) : List Fil := if archR es then filesOf es else []
set_option maxRecDepth 100000 in
set_option maxHeartbeats 4000000 in
theorem treeE_any {w : World} {A : Option Addr} {n c : Nat} {es : List Ent} (h : Et w A n c es) :
    Calls Tryd.prog 11 #[.slice A n c] w fun e w' => ∃ B d, e = .returned (.slice B (treeE es).length d) ∧ Ft w' B (treeE es).length d (treeE es) ∧ Below w.heap.size w w' := by
  have c0 := archR_any h
  cases hR : archR es with
  | false =>
    rw [hR] at c0
    have HR : Hid (treeE es = []) := by show _ = _; rw [treeE, hR]; rfl
    clear hR
    go_enter Tryd.func11, Tryd.ntmps11
    go_wp2_with fail
    refine c0.mono ?_
    clear c0
    rintro e w1 ⟨rfl, hb1⟩
    go_wp2
    go_ret
    rw [HR.out]
    exact ⟨none, 0, rfl, ⟨rfl, .inl rfl, Nat.le_refl _, by simp, by omega, by simp⟩, hb1⟩
  | true =>
    rw [hR] at c0
    have HR : Hid (treeE es = filesOf es) := by show _ = _; rw [treeE, hR]; rfl
    clear hR
    refine (callsIn_wide (n := 3)).1 ?_
    refine callsIn_of_wp_marks Tryd.func11 rfl trivial ?_ rfl
    simp only [Tryd.ntmps11, List.size_toArray, List.length_cons, List.length_nil, Nat.reduceAdd, Nat.reduceSub, Array.replicate_succ, Array.replicate_zero, List.push_toArray, List.append_toArray, List.nil_append, List.cons_append]
    gi_wp2_with (first
      | (refine ⟨trivial, ?_⟩; gi_at_call 7; refine (callsIn_wide.2 c0).mono ?_; rintro e w1 ⟨rfl, hb1⟩)
      | (refine ⟨trivial, ?_⟩; gi_at_call 18; refine (callsIn_wide.2 (files_any A n c _)).mono ?_; rintro e w' ⟨rfl, rfl⟩))
    have h1 := h.below hb1
    have hr1 := h1.rd
    have hl := h1.len
    have hn := h1.big
    have hsz : ∀ e ∈ es, SzE e := h1.sz
    clear h h1 c0
    have bO := (Boxed.new w1 38 (.slice none 0 0)).alloc (.cells #[.slice A n c] 22)
    have bN := Boxed.new (w1.alloc (.cells #[.slice none 0 0] 38)) 22 (.slice A n c)
    rw [World.size_alloc] at bN
    have hB0 : Below w1.heap.size w1 ((w1.alloc (.cells #[.slice none 0 0] 38)).alloc (.cells #[.slice A n c] 22)) := ((Below.refl _ _).alloc (Nat.le_refl _) _).alloc (by simp) _
    have hs0 : ((w1.alloc (.cells #[.slice none 0 0] 38)).alloc (.cells #[.slice A n c] 22)).heap.size = w1.heap.size + 2 := by simp
    obtain ⟨W0, hW0⟩ : ∃ W0, (w1.alloc (.cells #[.slice none 0 0] 38)).alloc (.cells #[.slice A n c] 22) = W0 := ⟨_, rfl⟩
    rw [hW0] at bO bN hB0 hs0 ⊢
    clear hW0
    refine wpIn_rangeFunc_ownH rfl (by omega) (gf := 38) (lb := #[.pointer (some ⟨w1.heap.size + 1, 0, none⟩)]) rfl trivial (enters_of Tryd.func38 (by kernel_rfl) rfl)
      (files_stops _ (by omega) (w1.heap.size + 1) w1 W0 A n c es hl hr1 hn hsz (by omega) bN.cell hB0) belowK_t (belowK_b (by omega)) (Below.refl _ _) (fun _ => rfl)
      (fun (pre : List SF) W => (∃ v, Boxed W w1.heap.size 38 v ∧ W.ownsRow w1.heap.size 50 2 v pre.length (filV (pre.map (·.1))) ∧ True) ∧ Below w1.heap.size w1 W)
      (fun _ _ _ => False)
      (OwnFrom.and (Own.from (holdsRow_own w1.heap.size w1.heap.size 38 50 2 (fun (pre : List SF) => pre.length) (fun pre => filV (pre.map (·.1))) (fun _ _ => True)) _) (ownFrom_below (Nat.le_refl _) (by omega)))
      (fun _ _ _ _ _ hs _ _ => hs)
      ⟨⟨_, bO, World.ownsRow_nil _ _ _ _, trivial⟩, hB0⟩
      (fun x a' W => ∃ Bx v', w1.heap.size < Bx ∧ Blk W Bx [.string x.1.1, .string x.1.2] 50 ∧ Boxed W w1.heap.size 38 v' ∧ some Bx ≠ v'.ownBlock ∧ a' = { tmps := #[.slice A n c, undef, .slice none 0 0, .pointer (some ⟨w1.heap.size, 0, none⟩), .pointer (some ⟨Bx, 0, none⟩), .slice A n c, .bool true, .bool false, .slice A n c, .func (.func 38) #[] #[.pointer (some ⟨w1.heap.size + 1, 0, none⟩)], .agg #[.string x.1.1, .string x.1.2], undef, undef, undef, undef, undef, undef, undef, undef, undef, undef, undef], defers := [] })
      (fun x a' _ X Y row hs hg hr => by obtain ⟨Bx, v', h1, h2, h3, h4⟩ := hs; exact ⟨Bx, v', h1, blk_kept h2 hg (fun r e => (hr r e).2), boxed_own _ _ (fun (_ : Unit) => v') () X Y row h3 hg (fun r e => (hr r e).2), h4⟩)
      ?assign ?body ?done ?stop
    case assign =>
      rintro l pre x W K ⟨⟨v, hv, hrow, -⟩, hB⟩ hK
      gi_wp2
      exact hK _ _ ((KeepsOthers.alloc _ _).from _) ((Below.refl _ W).alloc hB.size _) ⟨⟨v, hv.alloc _, hrow.alloc _, trivial⟩, hB.alloc hB.size _⟩ ⟨W.heap.size, v, hv.lt, Blk.new W _ _, hv.alloc _, fun e => by have := (hrow.lt _ e.symm).2; omega, rfl⟩
    case body =>
      rintro l pre x a' W hl ⟨r, hr⟩ ⟨⟨v, hv, hrow, -⟩, hB⟩ ⟨Bx, v', hBx, bX, hv', hne, rfl⟩ hlt
      obtain rfl : v = v' := by have := hv'.cell; rw [hv.cell] at this; injection this
      have hcv := hv.cell
      have x0 := bX.cell 0
      have x1 := bX.cell 1
      simp only [List.getElem?_cons_zero, List.getElem?_cons_succ] at x0 x1
      have hz := x.2
      unfold SzF at hz
      gi_wp2
      refine in_round (S := fun w' => w'.cell? ⟨Bx, 0, none⟩ = some (.string x.1.1) ∧ w'.cell? ⟨Bx, 1, none⟩ = some (.string x.1.2)) (by kernel_rfl) (by kernel_rfl) (by rintro ⟨_, _, h⟩; exact h) ⟨x0, x1⟩ (fun hHeld => ?_)
      refine wpAnyH_take (i := 1) (oi := ⟨_, _, _, _, _, _⟩) (v := ?_) rfl (by kernel_rfl) (by kernel_rfl) (by kernel_rfl) (fun _ _ _ h => h) (Or.inl ⟨by rfl, ?_⟩) (by assumption) ?_
      rotate_left
      · intro w hSw; (try dsimp only at hSw); go_simp; (try (with_reducible rfl))
      try simp only [Act.put, List.setIfInBounds_toArray, List.set_cons_zero, List.set_cons_succ]
      refine wpAnyH_take (i := 2) (oi := ⟨_, _, _, _, _, _⟩) (v := ?_) rfl (by kernel_rfl) (by kernel_rfl) (by kernel_rfl) (fun _ _ _ h => h) (Or.inl ⟨by rfl, ?_⟩) (by assumption) ?_
      rotate_left
      · intro w hSw; (try dsimp only at hSw); go_simp; (try (with_reducible rfl))
      try simp only [Act.put, List.setIfInBounds_toArray, List.set_cons_zero, List.set_cons_succ]
      refine wpAnyH_take (i := 4) (oi := ⟨_, _, _, _, _, _⟩) (v := ?_) rfl (by kernel_rfl) (by kernel_rfl) (by kernel_rfl) (fun _ _ _ h => h) (Or.inl ⟨by rfl, ?_⟩) (by assumption) ?_
      rotate_left
      · intro w hSw; (try dsimp only at hSw); go_simp; (try (with_reducible rfl))
      try simp only [Act.put, List.setIfInBounds_toArray, List.set_cons_zero, List.set_cons_succ]
      refine wpAnyH_take (i := 5) (oi := ⟨_, _, _, _, _, _⟩) (v := ?_) rfl (by kernel_rfl) (by kernel_rfl) (by kernel_rfl) (fun _ _ _ h => h) (Or.inl ⟨by rfl, ?_⟩) (by assumption) ?_
      rotate_left
      · intro w hSw; (try dsimp only at hSw); go_simp; (try (with_reducible rfl))
      try simp only [Act.put, List.setIfInBounds_toArray, List.set_cons_zero, List.set_cons_succ]
      refine wpAnyH_ready (rs := [0, 3]) (by kernel_rfl) (by simp) ?_
      refine AllReadyH.cons (o := ⟨_, _, _, _, _, _⟩) rfl (fun K hK => ?_) (AllReadyH.cons (o := ⟨_, _, _, _, _, _⟩) rfl (fun K hK => ?_) (AllReadyH.nil))
      · go_simp
        refine hK.out _ _ ⟨x0, x1⟩ (fun hHeld => ?_)
        clear hK K
        try simp only [Act.put, List.setIfInBounds_toArray, List.set_cons_zero, List.set_cons_succ]
        refine wpAnyH_ready (rs := [3]) (by kernel_rfl) (by simp) ?_
        refine AllReadyH.cons (o := ⟨_, _, _, _, _, _⟩) rfl (fun K hK => ?_) (AllReadyH.nil)
        go_simp
        refine (clone_any x.1.1 _ (by omega)).mono ?_
        rintro e W1 ⟨rfl, hb2⟩
        have b2 := below_undrew hb2
        have hv2 := boxed_below hv b2
        have hrow2 := own_below hrow b2
        have bX2 := bX.below b2
        have y2 := bX2.cell 0
        have z2 := bX2.cell 1
        have q2 := hv2.cell
        simp only [List.getElem?_cons_zero, List.getElem?_cons_succ] at y2 z2
        refine hK.out _ _ ⟨y2, z2⟩ (fun hHeld => ?_)
        clear hK K
        try simp only [Act.put, List.setIfInBounds_toArray, List.set_cons_zero, List.set_cons_succ]
        refine wpAnyH_ready (rs := [6]) (by kernel_rfl) (by simp) ?_
        refine AllReadyH.cons (o := ⟨_, _, _, _, _, _⟩) rfl (fun K hK => ?_) (AllReadyH.nil)
        go_simp
        refine (clone_any x.1.2 _ (by omega)).mono ?_
        rintro e W2 ⟨rfl, hb3⟩
        have hv3 := boxed_below hv2 hb3
        have hrow3 := own_below hrow2 hb3
        have bX3 := bX2.below hb3
        have b3 := below2 b2 hb3
        have y3 := bX3.cell 0
        have z3 := bX3.cell 1
        have q3 := hv3.cell
        simp only [List.getElem?_cons_zero, List.getElem?_cons_succ] at y3 z3
        refine hK.out _ _ ⟨y3, z3⟩ (fun hHeld => ?_)
        clear hK K
        try simp only [Act.put, List.setIfInBounds_toArray, List.set_cons_zero, List.set_cons_succ]
        refine wpAnyH_take (i := 7) (oi := ⟨_, _, _, _, _, _⟩) (v := ?_) rfl (by kernel_rfl) (by kernel_rfl) (by kernel_rfl) (fun _ _ _ h => h) (Or.inl ⟨by rfl, ?_⟩) (by assumption) ?_
        rotate_left
        · intro w hSw; (try dsimp only at hSw); go_simp; (try (with_reducible rfl))
        try simp only [Act.put, List.setIfInBounds_toArray, List.set_cons_zero, List.set_cons_succ]
        refine wpAnyH_ready (rs := [8]) (by kernel_rfl) (by simp) ?_
        refine AllReadyH.cons (o := ⟨_, _, _, _, _, _⟩) rfl (fun K hK => ?_) (AllReadyH.nil)
        go_simp
        obtain ⟨A', c', w3, HRUN, c1, c2, c3, c4, c5, c6, hg⟩ := app_round hv3 hrow3 (Nat.le_trans hB.size b3.size) (Nat.le_refl _) (by omega) x.1
        have hv4 := hv3.alloc (.cells #[.string x.1.1, .string x.1.2] 50)
        have bX4 := bX3.below ((Below.refl _ _).alloc (Nat.le_refl _) (.cells #[.string x.1.1, .string x.1.2] 50))
        have y4 := bX4.cell 0
        have z4 := bX4.cell 1
        have q4 := hv4.cell
        simp only [List.getElem?_cons_zero, List.getElem?_cons_succ] at y4 z4
        refine hK.out _ _ ⟨y4, z4⟩ (fun hHeld => ?_)
        clear hK K
        try simp only [Act.put, List.setIfInBounds_toArray, List.set_cons_zero, List.set_cons_succ]
        have bX5 : Blk w3 Bx [.string x.1.1, .string x.1.2] 50 := (hg.block Bx bX4.lt hne).trans bX4
        have bX6 := bX5.other (show Bx ≠ w1.heap.size by omega) 0 (.slice A' (pre.length + 1) c')
        have y5 := bX5.cell 0
        have z5 := bX5.cell 1
        have y6 := bX6.cell 0
        have z6 := bX6.cell 1
        simp only [List.getElem?_cons_zero, List.getElem?_cons_succ] at y5 z5 y6 z6
        refine wpAnyH_ready (rs := [9]) (by kernel_rfl) (by simp) ?_
        refine AllReadyH.cons (o := ⟨_, _, _, _, _, _⟩) rfl (fun K hK => ?_) (AllReadyH.nil)
        refine stepApp2 (by rfl) (.tmp 11) (.tmp 19) 38 rfl _ _ _ rfl rfl HRUN.out ?_
        refine hK.out _ _ ⟨y5, z5⟩ (fun hHeld => ?_)
        clear hK K
        try simp only [Act.put, List.setIfInBounds_toArray, List.set_cons_zero, List.set_cons_succ]
        refine wpAnyH_ready (rs := [10]) (by kernel_rfl) (by simp) ?_
        refine AllReadyH.cons (o := ⟨_, _, _, _, _, _⟩) rfl (fun K hK => ?_) (AllReadyH.nil)
        go_simp
        refine hK.out _ _ ⟨y6, z6⟩ (fun hHeld => ?_)
        clear hK K
        try simp only [Act.put, List.setIfInBounds_toArray, List.set_cons_zero, List.set_cons_succ]
        refine wpAnyH_done (by kernel_rfl) ?_ _
        exact ⟨((keeps_below b3).trans c5).from _, (b3.mono hB.size).trans c6, ⟨_, c3, by simpa [filV_append, filV] using c4, trivial⟩, hB.trans ((b3.mono hB.size).trans c6)⟩
      · go_simp
        refine (clone_any x.1.1 _ (by omega)).mono ?_
        rintro e W1 ⟨rfl, hb2⟩
        have b2 := below_undrew hb2
        have hv2 := boxed_below hv b2
        have hrow2 := own_below hrow b2
        have bX2 := bX.below b2
        have y2 := bX2.cell 0
        have z2 := bX2.cell 1
        have q2 := hv2.cell
        simp only [List.getElem?_cons_zero, List.getElem?_cons_succ] at y2 z2
        refine hK.out _ _ ⟨y2, z2⟩ (fun hHeld => ?_)
        clear hK K
        try simp only [Act.put, List.setIfInBounds_toArray, List.set_cons_zero, List.set_cons_succ]
        refine wpAnyH_ready (rs := [0, 6]) (by kernel_rfl) (by simp) ?_
        refine AllReadyH.cons (o := ⟨_, _, _, _, _, _⟩) rfl (fun K hK => ?_) (AllReadyH.cons (o := ⟨_, _, _, _, _, _⟩) rfl (fun K hK => ?_) (AllReadyH.nil))
        · go_simp
          refine hK.out _ _ ⟨y2, z2⟩ (fun hHeld => ?_)
          clear hK K
          try simp only [Act.put, List.setIfInBounds_toArray, List.set_cons_zero, List.set_cons_succ]
          refine wpAnyH_ready (rs := [6]) (by kernel_rfl) (by simp) ?_
          refine AllReadyH.cons (o := ⟨_, _, _, _, _, _⟩) rfl (fun K hK => ?_) (AllReadyH.nil)
          go_simp
          refine (clone_any x.1.2 _ (by omega)).mono ?_
          rintro e W2 ⟨rfl, hb3⟩
          have hv3 := boxed_below hv2 hb3
          have hrow3 := own_below hrow2 hb3
          have bX3 := bX2.below hb3
          have b3 := below2 b2 hb3
          have y3 := bX3.cell 0
          have z3 := bX3.cell 1
          have q3 := hv3.cell
          simp only [List.getElem?_cons_zero, List.getElem?_cons_succ] at y3 z3
          refine hK.out _ _ ⟨y3, z3⟩ (fun hHeld => ?_)
          clear hK K
          try simp only [Act.put, List.setIfInBounds_toArray, List.set_cons_zero, List.set_cons_succ]
          refine wpAnyH_take (i := 7) (oi := ⟨_, _, _, _, _, _⟩) (v := ?_) rfl (by kernel_rfl) (by kernel_rfl) (by kernel_rfl) (fun _ _ _ h => h) (Or.inl ⟨by rfl, ?_⟩) (by assumption) ?_
          rotate_left
          · intro w hSw; (try dsimp only at hSw); go_simp; (try (with_reducible rfl))
          try simp only [Act.put, List.setIfInBounds_toArray, List.set_cons_zero, List.set_cons_succ]
          refine wpAnyH_ready (rs := [8]) (by kernel_rfl) (by simp) ?_
          refine AllReadyH.cons (o := ⟨_, _, _, _, _, _⟩) rfl (fun K hK => ?_) (AllReadyH.nil)
          go_simp
          obtain ⟨A', c', w3, HRUN, c1, c2, c3, c4, c5, c6, hg⟩ := app_round hv3 hrow3 (Nat.le_trans hB.size b3.size) (Nat.le_refl _) (by omega) x.1
          have hv4 := hv3.alloc (.cells #[.string x.1.1, .string x.1.2] 50)
          have bX4 := bX3.below ((Below.refl _ _).alloc (Nat.le_refl _) (.cells #[.string x.1.1, .string x.1.2] 50))
          have y4 := bX4.cell 0
          have z4 := bX4.cell 1
          have q4 := hv4.cell
          simp only [List.getElem?_cons_zero, List.getElem?_cons_succ] at y4 z4
          refine hK.out _ _ ⟨y4, z4⟩ (fun hHeld => ?_)
          clear hK K
          try simp only [Act.put, List.setIfInBounds_toArray, List.set_cons_zero, List.set_cons_succ]
          have bX5 : Blk w3 Bx [.string x.1.1, .string x.1.2] 50 := (hg.block Bx bX4.lt hne).trans bX4
          have bX6 := bX5.other (show Bx ≠ w1.heap.size by omega) 0 (.slice A' (pre.length + 1) c')
          have y5 := bX5.cell 0
          have z5 := bX5.cell 1
          have y6 := bX6.cell 0
          have z6 := bX6.cell 1
          simp only [List.getElem?_cons_zero, List.getElem?_cons_succ] at y5 z5 y6 z6
          refine wpAnyH_ready (rs := [9]) (by kernel_rfl) (by simp) ?_
          refine AllReadyH.cons (o := ⟨_, _, _, _, _, _⟩) rfl (fun K hK => ?_) (AllReadyH.nil)
          refine stepApp2 (by rfl) (.tmp 11) (.tmp 19) 38 rfl _ _ _ rfl rfl HRUN.out ?_
          refine hK.out _ _ ⟨y5, z5⟩ (fun hHeld => ?_)
          clear hK K
          try simp only [Act.put, List.setIfInBounds_toArray, List.set_cons_zero, List.set_cons_succ]
          refine wpAnyH_ready (rs := [10]) (by kernel_rfl) (by simp) ?_
          refine AllReadyH.cons (o := ⟨_, _, _, _, _, _⟩) rfl (fun K hK => ?_) (AllReadyH.nil)
          go_simp
          refine hK.out _ _ ⟨y6, z6⟩ (fun hHeld => ?_)
          clear hK K
          try simp only [Act.put, List.setIfInBounds_toArray, List.set_cons_zero, List.set_cons_succ]
          refine wpAnyH_done (by kernel_rfl) ?_ _
          exact ⟨((keeps_below b3).trans c5).from _, (b3.mono hB.size).trans c6, ⟨_, c3, by simpa [filV_append, filV] using c4, trivial⟩, hB.trans ((b3.mono hB.size).trans c6)⟩
        · go_simp
          refine (clone_any x.1.2 _ (by omega)).mono ?_
          rintro e W2 ⟨rfl, hb3⟩
          have hv3 := boxed_below hv2 hb3
          have hrow3 := own_below hrow2 hb3
          have bX3 := bX2.below hb3
          have b3 := below2 b2 hb3
          have y3 := bX3.cell 0
          have z3 := bX3.cell 1
          have q3 := hv3.cell
          simp only [List.getElem?_cons_zero, List.getElem?_cons_succ] at y3 z3
          refine hK.out _ _ ⟨y3, z3⟩ (fun hHeld => ?_)
          clear hK K
          try simp only [Act.put, List.setIfInBounds_toArray, List.set_cons_zero, List.set_cons_succ]
          refine wpAnyH_take (i := 7) (oi := ⟨_, _, _, _, _, _⟩) (v := ?_) rfl (by kernel_rfl) (by kernel_rfl) (by kernel_rfl) (fun _ _ _ h => h) (Or.inl ⟨by rfl, ?_⟩) (by assumption) ?_
          rotate_left
          · intro w hSw; (try dsimp only at hSw); go_simp; (try (with_reducible rfl))
          try simp only [Act.put, List.setIfInBounds_toArray, List.set_cons_zero, List.set_cons_succ]
          refine wpAnyH_ready (rs := [0, 8]) (by kernel_rfl) (by simp) ?_
          refine AllReadyH.cons (o := ⟨_, _, _, _, _, _⟩) rfl (fun K hK => ?_) (AllReadyH.cons (o := ⟨_, _, _, _, _, _⟩) rfl (fun K hK => ?_) (AllReadyH.nil))
          · go_simp
            refine hK.out _ _ ⟨y3, z3⟩ (fun hHeld => ?_)
            clear hK K
            try simp only [Act.put, List.setIfInBounds_toArray, List.set_cons_zero, List.set_cons_succ]
            refine wpAnyH_ready (rs := [8]) (by kernel_rfl) (by simp) ?_
            refine AllReadyH.cons (o := ⟨_, _, _, _, _, _⟩) rfl (fun K hK => ?_) (AllReadyH.nil)
            go_simp
            obtain ⟨A', c', w3, HRUN, c1, c2, c3, c4, c5, c6, hg⟩ := app_round hv3 hrow3 (Nat.le_trans hB.size b3.size) (Nat.le_refl _) (by omega) x.1
            have hv4 := hv3.alloc (.cells #[.string x.1.1, .string x.1.2] 50)
            have bX4 := bX3.below ((Below.refl _ _).alloc (Nat.le_refl _) (.cells #[.string x.1.1, .string x.1.2] 50))
            have y4 := bX4.cell 0
            have z4 := bX4.cell 1
            have q4 := hv4.cell
            simp only [List.getElem?_cons_zero, List.getElem?_cons_succ] at y4 z4
            refine hK.out _ _ ⟨y4, z4⟩ (fun hHeld => ?_)
            clear hK K
            try simp only [Act.put, List.setIfInBounds_toArray, List.set_cons_zero, List.set_cons_succ]
            have bX5 : Blk w3 Bx [.string x.1.1, .string x.1.2] 50 := (hg.block Bx bX4.lt hne).trans bX4
            have bX6 := bX5.other (show Bx ≠ w1.heap.size by omega) 0 (.slice A' (pre.length + 1) c')
            have y5 := bX5.cell 0
            have z5 := bX5.cell 1
            have y6 := bX6.cell 0
            have z6 := bX6.cell 1
            simp only [List.getElem?_cons_zero, List.getElem?_cons_succ] at y5 z5 y6 z6
            refine wpAnyH_ready (rs := [9]) (by kernel_rfl) (by simp) ?_
            refine AllReadyH.cons (o := ⟨_, _, _, _, _, _⟩) rfl (fun K hK => ?_) (AllReadyH.nil)
            refine stepApp2 (by rfl) (.tmp 11) (.tmp 19) 38 rfl _ _ _ rfl rfl HRUN.out ?_
            refine hK.out _ _ ⟨y5, z5⟩ (fun hHeld => ?_)
            clear hK K
            try simp only [Act.put, List.setIfInBounds_toArray, List.set_cons_zero, List.set_cons_succ]
            refine wpAnyH_ready (rs := [10]) (by kernel_rfl) (by simp) ?_
            refine AllReadyH.cons (o := ⟨_, _, _, _, _, _⟩) rfl (fun K hK => ?_) (AllReadyH.nil)
            go_simp
            refine hK.out _ _ ⟨y6, z6⟩ (fun hHeld => ?_)
            clear hK K
            try simp only [Act.put, List.setIfInBounds_toArray, List.set_cons_zero, List.set_cons_succ]
            refine wpAnyH_done (by kernel_rfl) ?_ _
            exact ⟨((keeps_below b3).trans c5).from _, (b3.mono hB.size).trans c6, ⟨_, c3, by simpa [filV_append, filV] using c4, trivial⟩, hB.trans ((b3.mono hB.size).trans c6)⟩
          · go_simp
            obtain ⟨A', c', w3, HRUN, c1, c2, c3, c4, c5, c6, hg⟩ := app_round hv3 hrow3 (Nat.le_trans hB.size b3.size) (Nat.le_refl _) (by omega) x.1
            have hv4 := hv3.alloc (.cells #[.string x.1.1, .string x.1.2] 50)
            have bX4 := bX3.below ((Below.refl _ _).alloc (Nat.le_refl _) (.cells #[.string x.1.1, .string x.1.2] 50))
            have y4 := bX4.cell 0
            have z4 := bX4.cell 1
            have q4 := hv4.cell
            simp only [List.getElem?_cons_zero, List.getElem?_cons_succ] at y4 z4
            refine hK.out _ _ ⟨y4, z4⟩ (fun hHeld => ?_)
            clear hK K
            try simp only [Act.put, List.setIfInBounds_toArray, List.set_cons_zero, List.set_cons_succ]
            refine wpAnyH_ready (rs := [0]) (by kernel_rfl) (by simp) ?_
            refine AllReadyH.cons (o := ⟨_, _, _, _, _, _⟩) rfl (fun K hK => ?_) (AllReadyH.nil)
            go_simp
            refine hK.out _ _ ⟨y4, z4⟩ (fun hHeld => ?_)
            clear hK K
            try simp only [Act.put, List.setIfInBounds_toArray, List.set_cons_zero, List.set_cons_succ]
            have bX5 : Blk w3 Bx [.string x.1.1, .string x.1.2] 50 := (hg.block Bx bX4.lt hne).trans bX4
            have bX6 := bX5.other (show Bx ≠ w1.heap.size by omega) 0 (.slice A' (pre.length + 1) c')
            have y5 := bX5.cell 0
            have z5 := bX5.cell 1
            have y6 := bX6.cell 0
            have z6 := bX6.cell 1
            simp only [List.getElem?_cons_zero, List.getElem?_cons_succ] at y5 z5 y6 z6
            refine wpAnyH_ready (rs := [9]) (by kernel_rfl) (by simp) ?_
            refine AllReadyH.cons (o := ⟨_, _, _, _, _, _⟩) rfl (fun K hK => ?_) (AllReadyH.nil)
            refine stepApp2 (by rfl) (.tmp 11) (.tmp 19) 38 rfl _ _ _ rfl rfl HRUN.out ?_
            refine hK.out _ _ ⟨y5, z5⟩ (fun hHeld => ?_)
            clear hK K
            try simp only [Act.put, List.setIfInBounds_toArray, List.set_cons_zero, List.set_cons_succ]
            refine wpAnyH_ready (rs := [10]) (by kernel_rfl) (by simp) ?_
            refine AllReadyH.cons (o := ⟨_, _, _, _, _, _⟩) rfl (fun K hK => ?_) (AllReadyH.nil)
            go_simp
            refine hK.out _ _ ⟨y6, z6⟩ (fun hHeld => ?_)
            clear hK K
            try simp only [Act.put, List.setIfInBounds_toArray, List.set_cons_zero, List.set_cons_succ]
            refine wpAnyH_done (by kernel_rfl) ?_ _
            exact ⟨((keeps_below b3).trans c5).from _, (b3.mono hB.size).trans c6, ⟨_, c3, by simpa [filV_append, filV] using c4, trivial⟩, hB.trans ((b3.mono hB.size).trans c6)⟩
    case done =>
      rintro D ys W hD rfl ⟨⟨v, hv, hrow, -⟩, hB⟩ hK
      have HS := hid (files_sz hsz)
      have HN := hid (filesOf_len es)
      rw [show (filT es).length = (filesOf es).length by rw [← filT_val hsz, List.length_map], filT_val hsz] at hrow
      have hcv := hv.cell
      have hrow2 := ownsRow_putObj hrow (.deferred none) hK rfl
      obtain ⟨B, d, rfl, hft⟩ := own2_ft hrow2 (by have := HN.out; omega) HS.out
      have hb2 := below2 hb1 (hB.trans (belowK_b (w := w1) (Nat.le_refl _) W D _ (.deferred none) (by omega) hK rfl rfl))
      gi_wp2
      refine ⟨by simp, .inl ⟨_, _, rfl, run_takeDeferred hK, ?_⟩⟩
      rw [HR.out]
      exact ⟨_, results_tmp rfl _ _ _, B, d, rfl, hft, hb2⟩
    case stop =>
      rintro D c pre W _ _ h _
      exact h.elim
end Go.Proofs.YtlmccjdpmhancaaDoor
namespace Go.Proofs.YtlmccjdpmhancaaDoor
open Go.RowKit Go.Shelf

attribute [local go_sem] Oper.semAt_some

/-- The slice without its first one. -/
theorem cut_run {t e : TypeId} {sz : Nat} (ht : Tryd.prog.underlying t = some (.slice e)) (hz : ∀ w, (sizeOf e).run Tryd.prog w = .ok sz w) (A : Option Addr) (n c : Nat) (hn : 0 < n) (w : World) :
    (Instr.slice t (.slice A n c) (some (.int .i64 1)) none none).run Tryd.prog w = .ok (.slice (if c = 1 then A else A.map (·.add (1 * sz))) (n - 1) (c - 1)) w := by
  have h1 : (0 : Int) ≤ 1 ∧ (1 : Int) ≤ (n : Int) := by omega
  simp [Instr.slice, Instr.sliceBounds, Instr.sliceBound, run_underlying ht, hz, asIntOf, h1]
theorem rd_tail {w : World} {A : Option Addr} {xs ys : List Value} {c k : Nat} (h : Rd w A (xs ++ ys)) (hk : xs.length = k) (hc : ys ≠ [] → c ≠ 1) : Rd w (if c = 1 then A else A.map (·.add k)) ys := by
  by_cases hy : ys = []
  · exact .inl hy
  · rw [if_neg (hc hy)]
    rcases h with h | ⟨ad, rfl, h⟩
    · exact .inl (List.append_eq_nil_iff.1 h).2
    · refine .inr ⟨ad.add k, rfl, fun j u hu => ?_⟩
      rw [add_assoc']
      refine h _ u ?_
      rw [List.getElem?_append_right (by omega), hk, Nat.add_sub_cancel_left]
      exact hu
theorem ent_tail {w : World} {A : Option Addr} {e : Ent} {es : List Ent} {c : Nat} (h : Rd w A (entV (e :: es))) (hc : es.length + 1 ≤ c) :
    ∃ A', (∀ w, (Instr.slice 22 (.slice A (es.length + 1) c) (some (.int .i64 1)) none none).run Tryd.prog w = .ok (.slice A' es.length (c - 1)) w) ∧ Rd w A' (entV es) :=
  ⟨_, fun w => cut_run Tryd.underlying22 (fun w => Tryd.sizeOf34 w) A (es.length + 1) c (by omega) w, rd_tail (xs := eV e) h rfl (fun hy => by
    have : es ≠ [] := fun x => hy (by rw [x]; rfl)
    have := List.length_pos_iff.2 this
    omega)⟩
theorem fil_tail {w : World} {A : Option Addr} {f : Fil} {fs : List Fil} {c : Nat} (h : Rd w A (filV (f :: fs))) (hc : fs.length + 1 ≤ c) :
    ∃ A', (∀ w, (Instr.slice 38 (.slice A (fs.length + 1) c) (some (.int .i64 1)) none none).run Tryd.prog w = .ok (.slice A' fs.length (c - 1)) w) ∧ Rd w A' (filV fs) :=
  ⟨_, fun w => cut_run Tryd.underlying38 (fun w => Tryd.sizeOf50 w) A (fs.length + 1) c (by omega) w, rd_tail (xs := [.string f.1, .string f.2]) h rfl (fun hy => by
    have : fs ≠ [] := fun x => hy (by rw [x]; rfl)
    have := List.length_pos_iff.2 this
    omega)⟩
abbrev S2 := { p : Ent × Ent // SzE p.2 }
def sliceLen : Value → Nat
  | .slice _ n _ => n
  | _ => 0

/-- The pairs, each with its sizes. -/
def bothT (es : List Ent) (fs : List Fil) (h : ∀ p ∈ bothL es fs, SzE p.2) : List S2 := (bothL es fs).pmap (fun p hp => ⟨p, hp⟩) h
theorem bothT_val (es : List Ent) (fs : List Fil) (h : ∀ p ∈ bothL es fs, SzE p.2) : (bothT es fs h).map (·.1) = bothL es fs := by simp [bothT, List.map_pmap]
theorem both_sz {es : List Ent} {fs : List Fil} (h1 : ∀ e ∈ es, SzE e) (h2 : ∀ f ∈ fs, SzF f) : ∀ p ∈ bothL es fs, SzE p.2 := by
  intro p hp
  have hP := both_pair es fs p hp
  have hpath : p.2.path.size < 4294967281 := by
    rw [hP.path]
    rcases hP.was with h | ⟨h, h3⟩
    · exact (h1 _ h).1
    · have := (h2 _ (hP.is h3)).1
      rw [← hP.path]; exact this
  refine ⟨hpath, ?_⟩
  cases hh : p.2.has with
  | true => exact (h2 _ (hP.is hh)).2
  | false => rw [hP.none hh]; exact Nat.zero_le _
end Go.Proofs.YtlmccjdpmhancaaDoor
namespace Go.Proofs.YtlmccjdpmhancaaDoor
open Go.RowKit Go.Shelf

/-- append of one element, whose value is put into a box. -/
theorem app_gen {W : World} {n₀ B : Nat} {v : Value} {k : Nat} {xs : List Value} {T E : TypeId} {z : Value} {size bytes : Nat} (hT : Tryd.prog.underlying T = some (.slice E)) (hinf : (Tryd.prog.info? E).map (fun i => (i.zero, i.size, i.bytes)) = some (some z, size, bytes)) (hz : z.cells.size = size) (h0 : 0 < size) (hTE : T ≠ E)
    (hv : Boxed W B T v) (hrow : W.ownsRow n₀ E size v k xs) (hn : n₀ ≤ W.heap.size) (hB : n₀ ≤ B) (hk : (k + 1) * bytes ≤ 140737488355328) (hk2 : k + 1 ≤ maxLen) (cs : List Value) (hcs : cs.length = 1 * size) (hc1 : ∀ u ∈ cs, u.oneCell' = true) :
    ∃ A' c' w1, Hid ((Builtin.append_ #[T, T] T #[v, .slice (some ⟨W.heap.size, 0, none⟩) 1 1]).run Tryd.prog (W.alloc (.cells cs.toArray E)) = .ok (.slice A' (k + 1) c') w1) ∧
      w1.cell? ⟨B, 0, none⟩ = some v ∧ w1.frozen? ⟨B, 0, none⟩ = false ∧ Boxed (w1.setCell ⟨B, 0, none⟩ (.slice A' (k + 1) c')) B T (.slice A' (k + 1) c') ∧
      (w1.setCell ⟨B, 0, none⟩ (.slice A' (k + 1) c')).ownsRow n₀ E size (.slice A' (k + 1) c') (k + 1) (xs ++ cs) ∧ KeepsOthers W (w1.setCell ⟨B, 0, none⟩ (.slice A' (k + 1) c')) ∧ Below n₀ W (w1.setCell ⟨B, 0, none⟩ (.slice A' (k + 1) c')) ∧ (W.alloc (.cells cs.toArray E)).grownBy w1 v.ownBlock := by
  obtain ⟨i, hi, hz0, hz1, hz2⟩ := info_parts hinf
  obtain ⟨v', w1, h2, h3, h4, -⟩ := run_append_own (P := Tryd.prog) (W.alloc (.cells cs.toArray E)) n₀ T T E i z size bytes hT hi hz0 hz1 hz2 hz h0 v k xs (hrow.alloc _) ⟨W.heap.size, 0, none⟩ 1 1 cs hcs
    (new_cells W E cs) hc1 hk2 hk (by simp; omega)
  obtain ⟨g', cap', rfl⟩ := ownsRow_succ h3
  obtain ⟨a1, a2, a3, a4, a5⟩ := hv.appended hTE hrow hn hB h3 h4
  exact ⟨_, _, w1, h2, a1.cell, a1.frozen, a2, a3, a4, a5, h4⟩

/-- A tick, as the code tells it. -/
def tkc (l r a : Int) : Nat × Nat := if odd a then (cl l, up (cl r)) else (up (cl l), cl r)
theorem tkc_le (l r a : Int) : (tkc l r a).1 ≤ 1073741824 ∧ (tkc l r a).2 ≤ 1073741824 := by
  unfold tkc
  split
  · exact ⟨cl_le l, up_le _⟩
  · exact ⟨up_le _, cl_le r⟩
theorem tickL_eq (l r a : Int) : tickL l r a = (((tkc l r a).1 : Int), ((tkc l r a).2 : Int)) := by unfold tickL tkc; split <;> rfl
theorem tick_any (l r a : Int) (w : World) :
    Calls Tryd.prog 32 #[.complex .f64 (fl (cl l)) (fl (cl r)), .int .i64 a] w fun e w' => e = .returned (.complex .f64 (fl (tkc l r a).1) (fl (tkc l r a).2)) ∧ Below w.heap.size w w' := by
  unfold tkc
  cases ho : odd a with
  | true => exact tick_odd (cl_le l) (cl_le r) a ho w
  | false => exact tick_even (cl_le l) (cl_le r) a ho w

theorem boxed_kept {W W' : World} {row : Option Nat} {B : Nat} {t : TypeId} {v : Value} (h : Boxed W B t v) (hg : W.grownBy W' row) (hr : ∀ r, row = some r → ∃ o : Obj, W.heap[r]? = some o ∧ o.isCells = false) : Boxed W' B t v :=
  blk_kept (cs := [v]) h hg hr

/-- What Scan holds between two rounds: the author, the three results, what was scanned, what changed. -/
structure ScS (w : World) (a : Int) (q : Nat) (out : List Ent) (ch : List ByteArray) (W : World) : Prop where
  sc : ∃ v, Boxed W q 22 v ∧ W.ownsRow w.heap.size 34 5 v out.length (entV out) ∧ True
  chg : ∃ u, Boxed W (q + 1) 25 u ∧ W.ownsRow w.heap.size 9 1 u ch.length (strV ch) ∧ True
  au : Boxed W w.heap.size 3 (.int .i64 a)
  r6 : Boxed W (w.heap.size + 1) 22 (.slice none 0 0)
  r7 : Boxed W (w.heap.size + 1 + 1) 25 (.slice none 0 0)
  r8 : Boxed W (w.heap.size + 1 + 1 + 1) 26 (.int .i64 0)
  low : Below w.heap.size w W
theorem ScS.grown {w : World} {a : Int} {q : Nat} {out : List Ent} {ch : List ByteArray} {W W' : World} {row : Option Nat} (h : ScS w a q out ch W) (hg : W.grownBy W' row) (hr : ∀ r, row = some r → w.heap.size ≤ r ∧ ∃ o : Obj, W.heap[r]? = some o ∧ o.isCells = false) : ScS w a q out ch W' := by
  have hr' : ∀ r, row = some r → ∃ o : Obj, W.heap[r]? = some o ∧ o.isCells = false := fun r e => (hr r e).2
  exact ⟨holdsRow_own (β := Unit) _ _ _ _ 5 (fun _ => out.length) (fun _ => entV out) (fun _ _ => True) () W W' row h.sc hg hr', holdsRow_own (β := Unit) _ _ _ _ 1 (fun _ => ch.length) (fun _ => strV ch) (fun _ _ => True) () W W' row h.chg hg hr',
    boxed_kept h.au hg hr', boxed_kept h.r6 hg hr', boxed_kept h.r7 hg hr', boxed_kept h.r8 hg hr', ownFrom_below (β := Unit) (Nat.le_refl _) (Nat.le_refl _) () W W' row h.low hg hr⟩
theorem ScS.below {w : World} {a : Int} {q : Nat} {out : List Ent} {ch : List ByteArray} {W W' : World} (h : ScS w a q out ch W) (hb : Below W.heap.size W W') : ScS w a q out ch W' := h.grown (row := none) (grown_below hb) (by simp)
/-- A store into a block that is none of these. -/
theorem ScS.store {w : World} {a : Int} {q : Nat} {out : List Ent} {ch : List ByteArray} {W : World} (h : ScS w a q out ch W) {B : Nat} (hB : q + 1 < B) (hq : w.heap.size + 3 < q) {v : Value} (hv : Boxed W q 22 v) (hne : some B ≠ v.ownBlock) {cs : List Value} (hb : Blk W B cs 34) (i : Nat) (x : Value) : ScS w a q out ch (W.setCell ⟨B, i, none⟩ x) := by
  have hg := grown_set (w := W) (g := B) i x
  obtain ⟨v', hv', hrow, -⟩ := h.sc
  obtain ⟨u, hu, hrow2, -⟩ := h.chg
  obtain rfl : v = v' := by have := hv'.cell; rw [hv.cell] at this; injection this
  have hne2 : some B ≠ u.ownBlock := by
    intro e
    rcases hrow2.2 with ⟨rfl, -⟩ | ⟨g, cap, cur, rfl, -, hh, -⟩
    · cases e
    · injection e with e
      obtain rfl : B = g := e
      unfold Blk at hb
      rw [hb] at hh
      injection hh with hh
      injection hh with _ hh
      exact absurd hh (by decide)
  have k : ∀ {t : TypeId} {y : Value} {C : Nat}, C ≠ B → Boxed W C t y → Boxed (W.setCell ⟨B, i, none⟩ x) C t y := fun hC hb => hb.kept hg (fun e => hC (by injection e))
  exact ⟨⟨v, k (by omega) hv, hrow.kept hg (.inr (Ne.symm hne)), trivial⟩, ⟨u, k (by omega) hu, hrow2.kept hg (.inr (Ne.symm hne2)), trivial⟩, k (by omega) h.au, k (by omega) h.r6, k (by omega) h.r7, k (by omega) h.r8,
    h.low.setCell (p := ⟨B, i, none⟩) (by show w.heap.size ≤ B; omega) x⟩
theorem own_slice {W : World} {base : Nat} {e : TypeId} {sz : Nat} {v : Value} {k : Nat} {xs : List Value} (h : W.ownsRow base e sz v k xs) : ∃ A c, v = .slice A k c := by
  rcases h.2 with ⟨rfl, rfl⟩ | ⟨g, cap, cur, rfl, -⟩
  · exact ⟨none, 0, rfl⟩
  · exact ⟨_, cap, rfl⟩
/-- Rows of unlike elements lie apart. -/
theorem rows_apart {W : World} {b1 b2 : Nat} {e1 e2 : TypeId} {s1 s2 : Nat} {v1 v2 : Value} {k1 k2 : Nat} {xs1 xs2 : List Value} (h : W.ownsRow b1 e1 s1 v1 k1 xs1) (k : W.ownsRow b2 e2 s2 v2 k2 xs2) (hne : e1 ≠ e2) : v1.ownBlock = none ∨ v1.ownBlock ≠ v2.ownBlock := by
  rcases h.2 with ⟨rfl, -⟩ | ⟨g, cap, cur, rfl, -, hh, -⟩
  · exact .inl rfl
  · right
    intro e
    rcases k.2 with ⟨rfl, -⟩ | ⟨g', cap', cur', rfl, -, hh', -⟩
    · cases e
    · injection e with e
      obtain rfl : g = g' := e
      rw [hh] at hh'
      injection hh' with hh'
      injection hh' with _ hh'
      exact hne hh'
theorem boxed_one {W : World} {B : Nat} {t : TypeId} {v v' : Value} (h : Boxed W B t v) (k : Boxed W B t v') : v = v' := by have := k.cell; rw [h.cell] at this; injection this
theorem blk_row {W : World} {base : Nat} {e : TypeId} {sz : Nat} {v : Value} {k : Nat} {xs cs : List Value} {B : Nat} {t : TypeId} (h : W.ownsRow base e sz v k xs) (hB : Blk W B cs t) (hne : t ≠ e) : some B ≠ v.ownBlock := by
  intro e'
  rcases h.2 with ⟨rfl, -⟩ | ⟨g, cap, cur, rfl, -, hh, -⟩
  · cases e'
  · injection e' with e'
    obtain rfl : B = g := e'
    unfold Blk at hB
    rw [hB] at hh
    injection hh with hh
    injection hh with _ hh
    exact hne hh
/-- One more was scanned. -/
theorem ScS.app {w : World} {a : Int} {q : Nat} {out : List Ent} {ch : List ByteArray} {W : World} (h : ScS w a q out ch W) (hq : w.heap.size + 3 < q) (hk : out.length ≤ 1000000) {v : Value} (hv : Boxed W q 22 v) (z : Ent) :
    ∃ A' c' w3, Hid ((Builtin.append_ #[22, 22] 22 #[v, .slice (some ⟨W.heap.size, 0, none⟩) 1 1]).run Tryd.prog (W.alloc (.cells #[.string z.path, .bool z.has, .string z.data, .int .i64 z.l, .int .i64 z.r] 34)) = .ok (.slice A' (out.length + 1) c') w3) ∧
      w3.cell? ⟨q, 0, none⟩ = some v ∧ w3.frozen? ⟨q, 0, none⟩ = false ∧ ScS w a q (out ++ [z]) ch (w3.setCell ⟨q, 0, none⟩ (.slice A' (out.length + 1) c')) ∧ KeepsOthers W (w3.setCell ⟨q, 0, none⟩ (.slice A' (out.length + 1) c')) ∧ Below w.heap.size W (w3.setCell ⟨q, 0, none⟩ (.slice A' (out.length + 1) c')) ∧
      (∀ B cs t, Blk W B cs t → some B ≠ v.ownBlock → Blk w3 B cs t) := by
  obtain ⟨v', hv', hrow, -⟩ := h.sc
  obtain rfl := boxed_one hv hv'
  obtain ⟨u, hu, hrow2, -⟩ := h.chg
  obtain ⟨A', c', w3, hrun, c1, c2, c3, c4, c5, c6, hg⟩ := app_gen (n₀ := w.heap.size) Tryd.underlying22 Tryd.infoE rfl (by decide) (by decide) hv hrow h.low.size (by omega) (by omega) (by unfold maxLen; omega) (eV z) rfl (by intro u hu; exact entV_one [z] u (by simpa [entV] using hu))
  have kb : ∀ B cs t, Blk W B cs t → some B ≠ v.ownBlock → Blk w3 B cs t := fun B cs t hb hne => (hg.block B (by have := hb.lt; simp; omega) hne).trans (Blk.below hb ((Below.refl _ _).alloc (Nat.le_refl _) _))
  have kx : ∀ {t : TypeId} {y : Value} {C : Nat}, t ≠ 34 → C ≠ q → Boxed W C t y → Boxed (w3.setCell ⟨q, 0, none⟩ (.slice A' (out.length + 1) c')) C t y := fun ht hC hb =>
    Boxed.kept (show Boxed w3 _ _ _ from kb _ [_] _ hb (hb.not_row ht hrow)) (grownBy_setCell' _ _ _) (fun e => hC (by injection e))
  refine ⟨A', c', w3, hrun, c1, c2, ⟨⟨_, c3, ?_, trivial⟩, ⟨u, kx (by decide) (by omega) hu, ?_, trivial⟩, kx (by decide) (by omega) h.au, kx (by decide) (by omega) h.r6, kx (by decide) (by omega) h.r7, kx (by decide) (by omega) h.r8, h.low.trans c6⟩, c5, c6, kb⟩
  · simpa [entV] using c4
  · have r1 := (hrow2.alloc (.cells (eV z).toArray 34)).kept hg ((rows_apart hrow2 hrow (by decide)).imp id id)
    exact r1.kept (grownBy_setCell' _ _ _) (.inr (Ne.symm (Boxed.not_row (show Boxed w3 q 22 v from kb q [v] _ hv (hv.not_row (by decide) hrow)) (by decide) r1)))
/-- One more changed. -/
theorem ScS.appS {w : World} {a : Int} {q : Nat} {out : List Ent} {ch : List ByteArray} {W : World} (h : ScS w a q out ch W) (hq : w.heap.size + 3 < q) (hk : ch.length ≤ 1000000) {u : Value} (hu : Boxed W (q + 1) 25 u) (z : ByteArray) :
    ∃ A' c' w3, Hid ((Builtin.append_ #[25, 25] 25 #[u, .slice (some ⟨W.heap.size, 0, none⟩) 1 1]).run Tryd.prog (W.alloc (.cells #[.string z] 9)) = .ok (.slice A' (ch.length + 1) c') w3) ∧
      w3.cell? ⟨q + 1, 0, none⟩ = some u ∧ w3.frozen? ⟨q + 1, 0, none⟩ = false ∧ ScS w a q out (ch ++ [z]) (w3.setCell ⟨q + 1, 0, none⟩ (.slice A' (ch.length + 1) c')) ∧ KeepsOthers W (w3.setCell ⟨q + 1, 0, none⟩ (.slice A' (ch.length + 1) c')) ∧ Below w.heap.size W (w3.setCell ⟨q + 1, 0, none⟩ (.slice A' (ch.length + 1) c')) ∧
      (∀ B cs t, t ≠ 9 → Blk W B cs t → Blk w3 B cs t) := by
  obtain ⟨u', hu', hrow, -⟩ := h.chg
  obtain rfl := boxed_one hu hu'
  obtain ⟨v, hv, hrow2, -⟩ := h.sc
  obtain ⟨A', c', w3, hrun, c1, c2, c3, c4, c5, c6, hg⟩ := app_gen (n₀ := w.heap.size) Tryd.underlying25 Tryd.infoS rfl (by decide) (by decide) hu hrow h.low.size (by omega) (by omega) (by unfold maxLen; omega) [.string z] rfl (by simp [Value.oneCell'])
  have kb : ∀ B cs t, t ≠ 9 → Blk W B cs t → Blk w3 B cs t := fun B cs t ht hb => (hg.block B (by have := hb.lt; simp; omega) (blk_row hrow hb ht)).trans (Blk.below hb ((Below.refl _ _).alloc (Nat.le_refl _) _))
  have kx : ∀ {t : TypeId} {y : Value} {C : Nat}, t ≠ 9 → C ≠ q + 1 → Boxed W C t y → Boxed (w3.setCell ⟨q + 1, 0, none⟩ (.slice A' (ch.length + 1) c')) C t y := fun ht hC hb =>
    Boxed.kept (show Boxed w3 _ _ _ from kb _ [_] _ ht hb) (grownBy_setCell' _ _ _) (fun e => hC (by injection e))
  refine ⟨A', c', w3, hrun, c1, c2, ⟨⟨v, kx (by decide) (by omega) hv, ?_, trivial⟩, ⟨_, c3, ?_, trivial⟩, kx (by decide) (by omega) h.au, kx (by decide) (by omega) h.r6, kx (by decide) (by omega) h.r7, kx (by decide) (by omega) h.r8, h.low.trans c6⟩, c5, c6, kb⟩
  · have r1 := (hrow2.alloc (.cells [Value.string z].toArray 9)).kept hg ((rows_apart hrow2 hrow (by decide)).imp id id)
    exact r1.kept (grownBy_setCell' _ _ _) (.inr (Ne.symm (Boxed.not_row (show Boxed w3 (q + 1) 25 u from kb (q + 1) [u] _ (by decide) hu) (by decide) r1)))
  · simpa [strV] using c4
/-- Three results in their cells. -/
theorem res3 {W : World} {b : Nat} {t6 t7 t8 : TypeId} {a6 a7 a8 : Value} (q6 : Boxed W (b + 1) t6 a6) (q7 : Boxed W (b + 1 + 1) t7 a7) (q8 : Boxed W (b + 1 + 1 + 1) t8 a8) (x y z : Value) :
    Boxed (((W.setCell ⟨b + 1, 0, none⟩ x).setCell ⟨b + 1 + 1, 0, none⟩ y).setCell ⟨b + 1 + 1 + 1, 0, none⟩ z) (b + 1) t6 x ∧ Boxed (((W.setCell ⟨b + 1, 0, none⟩ x).setCell ⟨b + 1 + 1, 0, none⟩ y).setCell ⟨b + 1 + 1 + 1, 0, none⟩ z) (b + 1 + 1) t7 y ∧ Boxed (((W.setCell ⟨b + 1, 0, none⟩ x).setCell ⟨b + 1 + 1, 0, none⟩ y).setCell ⟨b + 1 + 1 + 1, 0, none⟩ z) (b + 1 + 1 + 1) t8 z := by
  have k : ∀ {W : World} {B C : Nat} {t : TypeId} {v u : Value}, C ≠ B → Boxed W C t v → Boxed (W.setCell ⟨B, 0, none⟩ u) C t v := fun hC hb => hb.kept (grownBy_setCell' _ _ _) (fun e => hC (by injection e))
  exact ⟨k (by omega) (k (by omega) (q6.set x)), k (by omega) ((k (by omega) q7).set y), (k (by omega) (k (by omega) q8)).set z⟩
theorem res3_row {W : World} {b : Nat} {t6 t7 t8 : TypeId} {a6 a7 a8 : Value} (q6 : Boxed W (b + 1) t6 a6) (q7 : Boxed W (b + 1 + 1) t7 a7) (q8 : Boxed W (b + 1 + 1 + 1) t8 a8) (x y z : Value) {base : Nat} {e : TypeId} {sz k : Nat} {v : Value} {xs : List Value} (h : W.ownsRow base e sz v k xs) (h6 : t6 ≠ e) (h7 : t7 ≠ e) (h8 : t8 ≠ e) :
    (((W.setCell ⟨b + 1, 0, none⟩ x).setCell ⟨b + 1 + 1, 0, none⟩ y).setCell ⟨b + 1 + 1 + 1, 0, none⟩ z).ownsRow base e sz v k xs := by
  have kk : ∀ {W : World} {B C : Nat} {t : TypeId} {v u : Value}, C ≠ B → Boxed W C t v → Boxed (W.setCell ⟨B, 0, none⟩ u) C t v := fun hC hb => hb.kept (grownBy_setCell' _ _ _) (fun e => hC (by injection e))
  have r1 := h.kept (grownBy_setCell' W (b + 1) x) (.inr (Ne.symm (q6.not_row h6 h)))
  have r2 := r1.kept (grownBy_setCell' _ (b + 1 + 1) y) (.inr (Ne.symm (Boxed.not_row (kk (by omega) q7) h7 r1)))
  exact r2.kept (grownBy_setCell' _ (b + 1 + 1 + 1) z) (.inr (Ne.symm (Boxed.not_row (kk (by omega) (kk (by omega) q8)) h8 r2)))
end Go.Proofs.YtlmccjdpmhancaaDoor
namespace Go.Proofs.YtlmccjdpmhancaaDoor
open Go.RowKit Go.Shelf

attribute [local go_sem] Oper.semAt_some

/-- What Scan answers. -/
def ScanPost (w : World) (es : List Ent) (fs : List Fil) (a : Int) (e : Ending) (w' : World) : Prop :=
  ∃ A' c' B' d', e = .returned (.tuple #[.slice A' (scanA es fs a).length c', .slice B' (scanC es fs a).length d', .int .i64 (scanN es fs a : Nat)]) ∧
    w'.ownsRow w.heap.size 34 5 (.slice A' (scanA es fs a).length c') (scanA es fs a).length (entV (scanA es fs a)) ∧
    w'.ownsRow w.heap.size 9 1 (.slice B' (scanC es fs a).length d') (scanC es fs a).length (strV (scanC es fs a)) ∧ Below w.heap.size w w'
theorem scan_err {w w' : World} {es : List Ent} {fs : List Fil} {a : Int} (k : Nat) (hk : scanN es fs a = k) (h0 : k ≠ 0) (hb : Below w.heap.size w w') : ScanPost w es fs a (.returned (.tuple #[.slice none 0 0, .slice none 0 0, .int .i64 (k : Nat)])) w' := by
  have e1 : scanA es fs a = [] := by unfold scanA; rw [hk, if_neg h0]
  have e2 : scanC es fs a = [] := by unfold scanC; rw [hk, if_neg h0]
  refine ⟨none, 0, none, 0, ?_, ?_, ?_, hb⟩
  · rw [e1, e2, hk]; rfl
  · rw [e1]; exact World.ownsRow_nil _ _ _ _
  · rw [e2]; exact World.ownsRow_nil _ _ _ _

end Go.Proofs.YtlmccjdpmhancaaDoor
namespace Go.Proofs.YtlmccjdpmhancaaDoor
open Go.RowKit Go.Shelf

attribute [local go_sem] Oper.semAt_some

theorem outP_more (a : Int) (ps : List (Ent × Ent)) (p : Ent × Ent) : outP a (ps ++ [p]) = outP a ps ++ [newE a p] := by simp [outP]
theorem chgP_more (ps : List (Ent × Ent)) (p : Ent × Ent) : chgP (ps ++ [p]) = chgP ps ++ (if p.2 = p.1 then [] else [p.2.path]) := by
  unfold chgP
  rw [List.filter_append, List.map_append, List.filter_cons, List.filter_nil]
  by_cases h : p.2 = p.1 <;> simp [h]
theorem chgP_len (ps : List (Ent × Ent)) : (chgP ps).length ≤ ps.length := by rw [chgP, List.length_map]; exact List.length_filter_le _ _
theorem okP_more (a : Int) (ps : List (Ent × Ent)) (p : Ent × Ent) (h : okP a ps = true) (hl : ps.length < 32) (hs : stuck a p = false) : okP a (ps ++ [p]) = true := by
  unfold okP at *
  rw [Bool.and_eq_true, decide_eq_true_eq] at *
  refine ⟨by simp; omega, ?_⟩
  rw [List.all_append, h.2]
  simp [hs]
theorem okP_len {a : Int} {ps : List (Ent × Ent)} (h : okP a ps = true) : ps.length ≤ 32 := by
  unfold okP at h
  rw [Bool.and_eq_true, decide_eq_true_eq] at h
  exact h.1
theorem okP_long {a : Int} {ps : List (Ent × Ent)} (h : 32 < ps.length) : okP a ps = false := not_true fun e => by have := okP_len e; omega
theorem okP_stuck {a : Int} {ps : List (Ent × Ent)} {p : Ent × Ent} (hp : p ∈ ps) (h : stuck a p = true) : okP a ps = false := not_true fun e => by
  unfold okP at e
  rw [Bool.and_eq_true, List.all_eq_true] at e
  have := e.2 p hp
  rw [h] at this
  cases this
theorem okP_pre {a : Int} {ps qs : List (Ent × Ent)} (h : ps <+: qs) (hb : okP a ps = false) : okP a qs = false := not_true fun e => by
  obtain ⟨r, rfl⟩ := h
  unfold okP at e hb
  rw [List.all_append, List.length_append, Bool.and_eq_true, Bool.and_eq_true, decide_eq_true_eq] at e
  rw [e.2.1, decide_eq_true (by omega)] at hb
  cases hb
theorem stuck_eq {a : Int} {p : Ent × Ent} {t1 t2 : Nat} (ht : tkc p.1.l p.1.r a = (t1, t2)) (hne : ¬ p.2 = p.1) : stuck a p = (decide ((t1 : Int) = p.1.l) && decide ((t2 : Int) = p.1.r)) := by
  unfold stuck
  rw [tickL_eq, ht, decide_eq_false hne]
  by_cases h1 : (t1 : Int) = p.1.l <;> by_cases h2 : (t2 : Int) = p.1.r <;> simp [h1, h2]
theorem newE_ne {a : Int} {p : Ent × Ent} {t1 t2 : Nat} (ht : tkc p.1.l p.1.r a = (t1, t2)) (hne : ¬ p.2 = p.1) : newE a p = ⟨p.2.path, p.2.has, p.2.data, (t1 : Int), (t2 : Int)⟩ := by unfold newE; rw [if_neg hne, tickL_eq, ht]
theorem newE_eq {a : Int} {p : Ent × Ent} (h : p.2 = p.1) : newE a p = p.2 := by unfold newE; rw [if_pos h]

end Go.Proofs.YtlmccjdpmhancaaDoor
namespace Go.Proofs.YtlmccjdpmhancaaDoor
open Go.RowKit

def fewF (f : Fil) : Bool := decide (f.1.size ≤ 100) && decide (f.2.size ≤ 1000)
def fewB (fs : List Fil) : Bool := decide (fs.length ≤ 40) && fs.all fewF
theorem few_sz {fs : List Fil} (h : fewB fs = true) : fs.length ≤ 40 ∧ ∀ f ∈ fs, f.1.size ≤ 100 ∧ f.2.size ≤ 1000 := by
  simp only [fewB, fewF, Bool.and_eq_true, decide_eq_true_eq, List.all_eq_true] at h
  exact h
theorem few_no {fs : List Fil} {j : Nat} (hj : j < fs.length) (h : fewF fs[j] = false) : false = fewB fs := by
  cases hf : fewB fs with
  | false => rfl
  | true =>
    rw [fewB, Bool.and_eq_true, List.all_eq_true] at hf
    rw [hf.2 _ (List.getElem_mem hj)] at h
    cases h

theorem few_ft {w : World} {A : Option Addr} {n c : Nat} {fs : List Fil} (hf : fewB fs = true) (hl : fs.length = n) (hr : Rd w A (filV fs)) (hc : n ≤ c) (hcm : c ≤ maxLen) : Ft w A n c fs := by
  obtain ⟨h1, h2⟩ := few_sz hf
  exact ⟨hl, hr, hc, by omega, hcm, fun f hm => by have := h2 f hm; omega⟩
theorem toList_ne {a b : ByteArray} (h : a ≠ b) : (a.toList == b.toList) = false := by
  rw [beq_eq_false_iff_ne, Lib.toList_data, Lib.toList_data]
  exact fun e => h (data_inj e)
theorem toList_eq {a b : ByteArray} (h : a = b) : (a.toList == b.toList) = true := by rw [h]; simp
end Go.Proofs.YtlmccjdpmhancaaDoor
namespace Go.Proofs.YtlmccjdpmhancaaDoor
open Go.RowKit

/-! ### What Scan answers -/
theorem newE_sz {a : Int} {p : Ent × Ent} (h : SzE p.2) : SzE (newE a p) := by unfold SzE; rw [newE_path, newE_data]; exact h
theorem scanA_sz {es : List Ent} {fs : List Fil} (a : Int) (h1 : ∀ e ∈ es, SzE e) (h2 : ∀ f ∈ fs, SzF f) : ∀ e ∈ scanA es fs a, SzE e := by
  intro e he
  unfold scanA at he
  split at he
  · obtain ⟨p, hp, rfl⟩ := List.mem_map.1 he
    exact newE_sz (both_sz h1 h2 p hp)
  · cases he
theorem scanA_len (es : List Ent) (fs : List Fil) (a : Int) : (scanA es fs a).length ≤ 32 := by
  unfold scanA
  split
  · rename_i h
    rw [outP, List.length_map]
    exact okP_len (scanN_ok.1 h).2.2
  · simp
theorem scanC_len (es : List Ent) (fs : List Fil) (a : Int) : (scanC es fs a).length ≤ 32 := by
  unfold scanC
  split
  · rename_i h
    have := okP_len (scanN_ok.1 h).2.2
    have := chgP_len (bothL es fs)
    omega
  · simp
theorem own5_et {w : World} {base : Nat} {A : Option Addr} {c : Nat} {es : List Ent} (h : w.ownsRow base 34 5 (.slice A es.length c) es.length (entV es)) (hn : es.length ≤ 1000000) (hs : ∀ e ∈ es, SzE e) : Et w A es.length c es := by
  rcases h.2 with ⟨h1, h0⟩ | ⟨g, cap, cur, h1, _, _, h2, h3, _⟩
  · injection h1 with a1 a2 a3
    subst a1 a3
    exact ⟨rfl, .inl (List.eq_nil_of_length_eq_zero (by rw [entV_length, h0])), by omega, hn, by omega, hs⟩
  · injection h1 with a1 a2 a3
    subst a1 a3
    exact ⟨rfl, .inr ⟨_, rfl, h.cells (g := g) rfl⟩, h2, hn, h3, hs⟩
/-- What Scan answers, to be read. -/
def ScanOut (w : World) (es : List Ent) (fs : List Fil) (a : Int) (e : Ending) (w' : World) : Prop :=
  ∃ A' c' B' d', e = .returned (.tuple #[.slice A' (scanA es fs a).length c', .slice B' (scanC es fs a).length d', .int .i64 (scanN es fs a : Nat)]) ∧ Et w' A' (scanA es fs a).length c' (scanA es fs a) ∧ Rd w' B' (strV (scanC es fs a)) ∧ Below w.heap.size w w'
theorem et_nil (w : World) : Et w none 0 0 [] := ⟨rfl, .inl rfl, Nat.le_refl _, by omega, by omega, by simp⟩
theorem ft_nil (w : World) : Ft w none 0 0 [] := ⟨rfl, .inl rfl, Nat.le_refl _, by omega, by omega, by simp⟩
theorem ft_one (w : World) (p d : ByteArray) (hp : p.size < 4294967281) (hd : d.size ≤ 140737488355328) : Ft (w.alloc (.cells #[.string p, .string d] 50)) (some ⟨w.heap.size, 0, none⟩) 1 1 [(p, d)] :=
  ⟨rfl, (Blk.new w [.string p, .string d] 50).rd, Nat.le_refl _, by omega, by omega, by simp; exact ⟨hp, hd⟩⟩

/-! ### Few -/
def fewE (e : Ent) : Bool := decide (e.path.size ≤ 100) && decide (e.data.size ≤ 1000)
def few9 (es : List Ent) : Bool := decide (es.length ≤ 60) && es.all fewE
theorem few9_sz {es : List Ent} (h : few9 es = true) : es.length ≤ 60 ∧ ∀ e ∈ es, e.path.size ≤ 100 ∧ e.data.size ≤ 1000 := by
  simp only [few9, fewE, Bool.and_eq_true, decide_eq_true_eq, List.all_eq_true] at h
  exact h
theorem few9_no {es : List Ent} {j : Nat} (hj : j < es.length) (h : fewE es[j] = false) : false = few9 es := by
  cases hf : few9 es with
  | false => rfl
  | true =>
    rw [few9, Bool.and_eq_true, List.all_eq_true] at hf
    rw [hf.2 _ (List.getElem_mem hj)] at h
    cases h
set_option maxHeartbeats 1000000 in
theorem few9_any (A : Option Addr) (n c : Nat) (es : List Ent) (w : World) (hl : es.length = n) (hr : Rd w A (entV es)) :
    Calls Tryd.prog 6 #[.slice A n c] w fun e w' => e = .returned (.bool (few9 es)) ∧ w = w' := by
  have HL := hid hl
  clear hl
  by_cases h60 : (60 : Int) < n
  · go_enter Tryd.func6, Tryd.ntmps6
    go_wp2
    go_ret
    refine ⟨ret_bool ?_, rfl⟩
    symm
    refine not_true fun h => ?_
    have := (few9_sz h).1
    have := HL.out
    omega
  · go_enter Tryd.func6, Tryd.ntmps6
    go_wp2_with fail
    go_loop [3] (fun i => ∃ j : Nat, j ≤ n ∧ i = .int .i64 j ∧ Hid ((es.take j).all fewE = true)) (fun i => n - (intOf i).toNat)
    case atStart => exact ⟨0, by omega, rfl, by simp [Hid]⟩
    case round =>
      obtain ⟨j, hj, rfl, HO⟩ := hrel
      by_cases hjn : j < n
      · have hjl : j < es.length := by rw [HL.out]; exact hjn
        obtain ⟨b, off, rfl, h1, -, h2, -⟩ := hr.ent hjl
        have HN := hid (@few9_no es j hjl)
        have HK := hid (all_take_more fewE es j hjl)
        have hz : (0 : Int) ≤ j := by omega
        have hlt : (j : Int) < n := by omega
        generalize es[j] = f at *
        by_cases hx : (100 : Int) < f.path.size
        · go_wp2
          go_ret
          exact ⟨ret_bool (HN.out (by simp [fewE]; omega)), rfl⟩
        · have hxb : decide ((100 : Int) < f.path.size) = false := by simp; omega
          by_cases hd : (1000 : Int) < f.data.size
          · go_wp2
            go_ret
            exact ⟨ret_bool (HN.out (by simp [fewE]; omega)), rfl⟩
          · have hdb : decide ((1000 : Int) < f.data.size) = false := by simp; omega
            go_wp2
            go_round
            case rel => exact ⟨j + 1, by omega, by go_num, hid (by rw [HK.out, HO.out]; simp [fewE]; omega)⟩
            case measure => simp [intOf]; omega
      · have HE := hid (show j = n by omega)
        have hnlt : ¬ (j : Int) < n := by omega
        go_wp2
        go_ret
        refine ⟨ret_bool ?_, rfl⟩
        have ho := HO.out
        rw [HE.out, ← HL.out, List.take_length] at ho
        rw [few9, ho, decide_eq_true (by rw [HL.out]; omega)]
        rfl
theorem few9_et {w : World} {A : Option Addr} {n c : Nat} {es : List Ent} (hf : few9 es = true) (hl : es.length = n) (hr : Rd w A (entV es)) (hc : n ≤ c) (hcm : c ≤ maxLen) : Et w A n c es := by
  obtain ⟨h1, h2⟩ := few9_sz hf
  exact ⟨hl, hr, hc, by omega, hcm, fun f hm => by have := h2 f hm; omega⟩

/-! ### The small case -/
abbrev sa : ByteArray := ⟨#[97]⟩
abbrev sb : ByteArray := ⟨#[98]⟩
abbrev s1 : ByteArray := ⟨#[49]⟩
abbrev L1 : List Ent := [⟨sa, true, s1, 1, 0⟩]
abbrev L2 : List Ent := [⟨sa, false, noS, 1, 1⟩, ⟨sb, true, noS, 0, 1⟩]
theorem smB1 : bothL [] [(sa, s1)] = [(fresh sa, kept (fresh sa) s1)] := by rw [bothL_t, bothL_nil]
theorem smB2 : bothL L1 [(sb, noS)] = [(⟨sa, true, s1, 1, 0⟩, ⟨sa, false, noS, 1, 0⟩), (fresh sb, kept (fresh sb) noS)] := by
  rw [bothL_gt (by decide) (by decide +kernel), bothL_t, bothL_nil]; rfl
theorem smB3 : bothL L2 [(sb, noS)] = [(⟨sa, false, noS, 1, 1⟩, ⟨sa, false, noS, 1, 1⟩), (⟨sb, true, noS, 0, 1⟩, ⟨sb, true, noS, 0, 1⟩)] := by
  rw [bothL_gt (by decide) (by decide +kernel), bothL_eq (by rfl), bothL_nil]; rfl
theorem smN1 : scanN [] [(sa, s1)] 0 = 0 := by rw [scanN, smB1]; decide +kernel
theorem smN2 : scanN L1 [(sb, noS)] 1 = 0 := by rw [scanN, smB2]; decide +kernel
theorem smN3 : scanN L2 [(sb, noS)] 0 = 0 := by rw [scanN, smB3]; decide +kernel
theorem smA1 : scanA [] [(sa, s1)] 0 = L1 := by rw [scanA, if_pos smN1, smB1]; decide +kernel
theorem smA2 : scanA L1 [(sb, noS)] 1 = L2 := by rw [scanA, if_pos smN2, smB2]; decide +kernel
theorem smA3 : scanA L2 [(sb, noS)] 0 = L2 := by rw [scanA, if_pos smN3, smB3]; decide +kernel
theorem smC1 : scanC [] [(sa, s1)] 0 = [sa] := by rw [scanC, if_pos smN1, smB1]; decide +kernel
theorem smC2 : scanC L1 [(sb, noS)] 1 = [sa, sb] := by rw [scanC, if_pos smN2, smB2]; decide +kernel
theorem smC3 : scanC L2 [(sb, noS)] 0 = [] := by rw [scanC, if_pos smN3, smB3]; decide +kernel
theorem smR2 : archR L2 = true := by decide +kernel
theorem smR4 : archR [⟨sa, true, noS, 0, 0⟩] = false := by decide +kernel
theorem smF2 : findE L2 sb = 1 := by decide +kernel
theorem smT2 : (treeE L2).length = 1 := by decide +kernel
end Go.Proofs.YtlmccjdpmhancaaDoor
namespace Go.Proofs.YtlmccjdpmhancaaDoor
open Go.RowKit

/-! ### What comes of two entries -/
def ordE (a b : Ent) : Int := ordI (cl a.l) (cl a.r) (cl b.l) (cl b.r)
theorem ord_cases (a b c d : Nat) : ordI a b c d = 0 ∨ ordI a b c d = 1 ∨ ordI a b c d = 2 ∨ ordI a b c d = 3 := by
  unfold ordI
  split
  · exact .inl rfl
  · split
    · exact .inr (.inl rfl)
    · split
      · exact .inr (.inr (.inl rfl))
      · exact .inr (.inr (.inr rfl))
def likeE (a b : Ent) : Bool := decide (a.has = b.has) && decide (a.data = b.data)
def joinC (a b : Ent) : Int × Int := (((max (cl a.l) (cl b.l) : Nat) : Int), ((max (cl a.r) (cl b.r) : Nat) : Int))
def joinE (a b : Ent) : Ent := ⟨a.path, a.has, a.data, (joinC a b).1, (joinC a b).2⟩
def comeE (a b : Ent) : Ent × Bool :=
  if ordE a b = 1 then (b, false) else if ordE a b = 2 then (a, false) else if likeE a b then ((if ordE a b = 3 then joinE a b else a), false) else (a, true)

/-! ### The entry of a path -/
def atE (es : List Ent) (p : ByteArray) : Option Ent := if idxE es p < 0 then none else es[(idxE es p).toNat]?
theorem atE_no {es : List Ent} {p : ByteArray} (h : idxE es p = -1) : atE es p = none := by unfold atE; rw [h]; rfl
theorem atE_yes {es : List Ent} {p : ByteArray} {j : Nat} (hj : j < es.length) (h : idxE es p = j) : atE es p = some es[j] := by
  unfold atE; rw [h, if_neg (by omega), Int.toNat_natCast, List.getElem?_eq_getElem hj]
def cm : Option Ent → Option Ent → Option (Ent × Bool)
  | some a, some b => some (comeE a b)
  | some a, none => some (a, false)
  | none, some b => some (b, false)
  | none, none => none
end Go.Proofs.YtlmccjdpmhancaaDoor
