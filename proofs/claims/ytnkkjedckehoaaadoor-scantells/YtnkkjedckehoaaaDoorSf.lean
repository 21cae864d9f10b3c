/- Package scan: Tree. -/
import Derived.Test.YtnkkjedckehoaaaDoorSe
import Derived.Test.YtnkkjedckehoaaaDoorHin
namespace Go.Proofs.YtnkkjedckehoaaaDoor
open Go.RowKit Go.Shelf

attribute [local go_sem] Oper.semAt_some

theorem boxed_below {W W' : World} {B : Nat} {t : TypeId} {v : Value} (h : Boxed W B t v) (hb : Below W.heap.size W W') : Boxed W' B t v := (hb.block B h.lt).trans h
theorem own_below {W W' : World} {base : Nat} {e : TypeId} {sz k : Nat} {v : Value} {xs : List Value} (h : W.ownsRow base e sz v k xs) (hb : Below W.heap.size W W') : W'.ownsRow base e sz v k xs := by
  refine h.kept (grown_below (row := none) hb) ?_
  rcases h.2 with ⟨e, -⟩ | ⟨g, cap', cur, e, -⟩
  · exact .inl (by rw [e]; rfl)
  · exact .inr (by rw [e]; simp [Value.ownBlock])
theorem own_low {w : World} {base base' : Nat} {e : TypeId} {sz : Nat} {v : Value} {n : Nat} {xs : List Value} (h : w.ownsRow base e sz v n xs) (hb : base' ≤ base) : w.ownsRow base' e sz v n xs := by
  refine ⟨h.1, ?_⟩
  rcases h.2 with h2 | ⟨g, cap, cur, h2, h3, h4⟩
  · exact .inl h2
  · exact .inr ⟨g, cap, cur, h2, by omega, h4⟩
theorem keeps_below {W W' : World} (h : Below W.heap.size W W') : KeepsOthers W W' := KeepsOthers.of_grownBy (grown_below (row := none) h) (by simp)
theorem below_undrew {W W' : World} (h : Below W.drew.heap.size W.drew W') : Below W.heap.size W W' := ⟨h.os, h.tape, h.output, h.size, h.block⟩

def treeE (es : List Ent) : List Fil := if archR es then filesOf es else []
set_option maxRecDepth 100000 in
set_option maxHeartbeats 4000000 in
theorem treeE_any {w : World} {A : Option Addr} {n c : Nat} {es : List Ent} (h : Et w A n c es) :
    Calls Tryd.prog 22 #[.slice A n c] w fun e w' => ∃ B d, e = .returned (.slice B (treeE es).length d) ∧ Ft w' B (treeE es).length d (treeE es) ∧ Below w.heap.size w w' := by
  have c0 := archR_any h
  cases hR : archR es with
  | false =>
    rw [hR] at c0
    have HR : Hid (treeE es = []) := by show _ = _; rw [treeE, hR]; rfl
    clear hR
    go_enter Tryd.func22, Tryd.ntmps22
    go_wp2_with fail
    refine c0.mono ?_
    clear c0
    rintro e w1 ⟨rfl, hb1⟩
    go_wp2
    go_ret
    rw [HR.out]
    exact ⟨none, 0, rfl, ⟨rfl, .inl rfl, Nat.le_refl _, by simp, by omega, by simp⟩, hb1⟩
  | true =>
    rw [hR] at c0
    have HR : Hid (treeE es = filesOf es) := by show _ = _; rw [treeE, hR]; rfl
    clear hR
    refine (callsIn_wide (n := 3)).1 ?_
    refine callsIn_of_wp_marks Tryd.func22 rfl trivial ?_ rfl
    simp only [Tryd.ntmps22, List.size_toArray, List.length_cons, List.length_nil, Nat.reduceAdd, Nat.reduceSub, Array.replicate_succ, Array.replicate_zero, List.push_toArray, List.append_toArray, List.nil_append, List.cons_append]
    gi_wp2_with (first
      | (refine ⟨trivial, ?_⟩; gi_at_call 17; refine (callsIn_wide.2 c0).mono ?_; rintro e w1 ⟨rfl, hb1⟩)
      | (refine ⟨trivial, ?_⟩; gi_at_call 43; refine (callsIn_wide.2 (files_any A n c _)).mono ?_; rintro e w' ⟨rfl, rfl⟩))
    have h1 := h.below hb1
    have hr1 := h1.rd
    have hl := h1.len
    have hn := h1.big
    have hsz : ∀ e ∈ es, SzE e := h1.sz
    clear h h1 c0
    have bO := (Boxed.new w1 23 (.slice none 0 0)).alloc (.cells #[.slice A n c] 22)
    have bN := Boxed.new (w1.alloc (.cells #[.slice none 0 0] 23)) 22 (.slice A n c)
    rw [World.size_alloc] at bN
    have hB0 : Below w1.heap.size w1 ((w1.alloc (.cells #[.slice none 0 0] 23)).alloc (.cells #[.slice A n c] 22)) := ((Below.refl _ _).alloc (Nat.le_refl _) _).alloc (by simp) _
    have hs0 : ((w1.alloc (.cells #[.slice none 0 0] 23)).alloc (.cells #[.slice A n c] 22)).heap.size = w1.heap.size + 2 := by simp
    obtain ⟨W0, hW0⟩ : ∃ W0, (w1.alloc (.cells #[.slice none 0 0] 23)).alloc (.cells #[.slice A n c] 22) = W0 := ⟨_, rfl⟩
    rw [hW0] at bO bN hB0 hs0 ⊢
    clear hW0
    refine wpIn_rangeFunc_ownH rfl (by omega) (gf := 65) (lb := #[.pointer (some ⟨w1.heap.size + 1, 0, none⟩)]) rfl trivial (enters_of Tryd.func65 (by kernel_rfl) rfl)
      (files_stops _ (by omega) (w1.heap.size + 1) w1 W0 A n c es hl hr1 hn hsz (by omega) bN.cell hB0) belowK_t (belowK_b (by omega)) (Below.refl _ _) (fun _ => rfl)
      (fun (pre : List SF) W => (∃ v, Boxed W w1.heap.size 23 v ∧ W.ownsRow w1.heap.size 53 2 v pre.length (filV (pre.map (·.1))) ∧ True) ∧ Below w1.heap.size w1 W)
      (fun _ _ _ => False)
      (OwnFrom.and (Own.from (holdsRow_own w1.heap.size w1.heap.size 23 53 2 (fun (pre : List SF) => pre.length) (fun pre => filV (pre.map (·.1))) (fun _ _ => True)) _) (ownFrom_below (Nat.le_refl _) (by omega)))
      (fun _ _ _ _ _ hs _ _ => hs)
      ⟨⟨_, bO, World.ownsRow_nil _ _ _ _, trivial⟩, hB0⟩
      (fun x a' W => ∃ Bx v', w1.heap.size < Bx ∧ Blk W Bx [.string x.1.1, .string x.1.2] 53 ∧ Boxed W w1.heap.size 23 v' ∧ some Bx ≠ v'.ownBlock ∧ a' = { tmps := #[.slice A n c, undef, .slice none 0 0, .pointer (some ⟨w1.heap.size, 0, none⟩), .pointer (some ⟨Bx, 0, none⟩), .slice A n c, .bool true, .bool false, .slice A n c, .func (.func 65) #[] #[.pointer (some ⟨w1.heap.size + 1, 0, none⟩)], .agg #[.string x.1.1, .string x.1.2], undef, undef, undef, undef, undef, undef, undef, undef, undef, undef, undef], defers := [] })
      (fun x a' _ X Y row hs hg hr => by obtain ⟨Bx, v', h1, h2, h3, h4⟩ := hs; exact ⟨Bx, v', h1, blk_kept h2 hg (fun r e => (hr r e).2), boxed_own _ _ (fun (_ : Unit) => v') () X Y row h3 hg (fun r e => (hr r e).2), h4⟩)
      ?assign ?body ?done ?stop
    case assign =>
      rintro l pre x W K ⟨⟨v, hv, hrow, -⟩, hB⟩ hK
      gi_wp2
      exact hK _ _ ((KeepsOthers.alloc _ _).from _) ((Below.refl _ W).alloc hB.size _) ⟨⟨v, hv.alloc _, hrow.alloc _, trivial⟩, hB.alloc hB.size _⟩ ⟨W.heap.size, v, hv.lt, Blk.new W _ _, hv.alloc _, fun e => by have := (hrow.lt _ e.symm).2; omega, rfl⟩
    case body =>
      rintro l pre x a' W hl ⟨r, hr⟩ ⟨⟨v, hv, hrow, -⟩, hB⟩ ⟨Bx, v', hBx, bX, hv', hne, rfl⟩ hlt
      obtain rfl : v = v' := by have := hv'.cell; rw [hv.cell] at this; injection this
      have hcv := hv.cell
      have x0 := bX.cell 0
      have x1 := bX.cell 1
      simp only [List.getElem?_cons_zero, List.getElem?_cons_succ] at x0 x1
      have hz := x.2
      unfold SzF at hz
      gi_wp2
      refine in_round (S := fun w' => w'.cell? ⟨Bx, 0, none⟩ = some (.string x.1.1) ∧ w'.cell? ⟨Bx, 1, none⟩ = some (.string x.1.2)) (by kernel_rfl) (by kernel_rfl) (by rintro ⟨_, _, h⟩; exact h) ⟨x0, x1⟩ (fun hHeld => ?_)
      refine wpAnyH_take (i := 1) (oi := ⟨_, _, _, _, _, _⟩) (v := ?_) rfl (by kernel_rfl) (by kernel_rfl) (by kernel_rfl) (fun _ _ _ h => h) (Or.inl ⟨by rfl, ?_⟩) (by assumption) ?_
      rotate_left
      · intro w hSw; (try dsimp only at hSw); go_simp; (try (with_reducible rfl))
      try simp only [Act.put, List.setIfInBounds_toArray, List.set_cons_zero, List.set_cons_succ]
      refine wpAnyH_take (i := 2) (oi := ⟨_, _, _, _, _, _⟩) (v := ?_) rfl (by kernel_rfl) (by kernel_rfl) (by kernel_rfl) (fun _ _ _ h => h) (Or.inl ⟨by rfl, ?_⟩) (by assumption) ?_
      rotate_left
      · intro w hSw; (try dsimp only at hSw); go_simp; (try (with_reducible rfl))
      try simp only [Act.put, List.setIfInBounds_toArray, List.set_cons_zero, List.set_cons_succ]
      refine wpAnyH_take (i := 4) (oi := ⟨_, _, _, _, _, _⟩) (v := ?_) rfl (by kernel_rfl) (by kernel_rfl) (by kernel_rfl) (fun _ _ _ h => h) (Or.inl ⟨by rfl, ?_⟩) (by assumption) ?_
      rotate_left
      · intro w hSw; (try dsimp only at hSw); go_simp; (try (with_reducible rfl))
      try simp only [Act.put, List.setIfInBounds_toArray, List.set_cons_zero, List.set_cons_succ]
      refine wpAnyH_take (i := 5) (oi := ⟨_, _, _, _, _, _⟩) (v := ?_) rfl (by kernel_rfl) (by kernel_rfl) (by kernel_rfl) (fun _ _ _ h => h) (Or.inl ⟨by rfl, ?_⟩) (by assumption) ?_
      rotate_left
      · intro w hSw; (try dsimp only at hSw); go_simp; (try (with_reducible rfl))
      try simp only [Act.put, List.setIfInBounds_toArray, List.set_cons_zero, List.set_cons_succ]
      refine wpAnyH_ready (rs := [0, 3]) (by kernel_rfl) (by simp) ?_
      refine AllReadyH.cons (o := ⟨_, _, _, _, _, _⟩) rfl (fun K hK => ?_) (AllReadyH.cons (o := ⟨_, _, _, _, _, _⟩) rfl (fun K hK => ?_) (AllReadyH.nil))
      · go_simp
        refine hK.out _ _ ⟨x0, x1⟩ (fun hHeld => ?_)
        clear hK K
        try simp only [Act.put, List.setIfInBounds_toArray, List.set_cons_zero, List.set_cons_succ]
        refine wpAnyH_ready (rs := [3]) (by kernel_rfl) (by simp) ?_
        refine AllReadyH.cons (o := ⟨_, _, _, _, _, _⟩) rfl (fun K hK => ?_) (AllReadyH.nil)
        go_simp
        refine (clone_any x.1.1 _ (by omega)).mono ?_
        rintro e W1 ⟨rfl, hb2⟩
        have b2 := below_undrew hb2
        have hv2 := boxed_below hv b2
        have hrow2 := own_below hrow b2
        have bX2 := bX.below b2
        have y2 := bX2.cell 0
        have z2 := bX2.cell 1
        have q2 := hv2.cell
        simp only [List.getElem?_cons_zero, List.getElem?_cons_succ] at y2 z2
        refine hK.out _ _ ⟨y2, z2⟩ (fun hHeld => ?_)
        clear hK K
        try simp only [Act.put, List.setIfInBounds_toArray, List.set_cons_zero, List.set_cons_succ]
        refine wpAnyH_ready (rs := [6]) (by kernel_rfl) (by simp) ?_
        refine AllReadyH.cons (o := ⟨_, _, _, _, _, _⟩) rfl (fun K hK => ?_) (AllReadyH.nil)
        go_simp
        refine (clone_any x.1.2 _ (by omega)).mono ?_
        rintro e W2 ⟨rfl, hb3⟩
        have hv3 := boxed_below hv2 hb3
        have hrow3 := own_below hrow2 hb3
        have bX3 := bX2.below hb3
        have b3 := below2 b2 hb3
        have y3 := bX3.cell 0
        have z3 := bX3.cell 1
        have q3 := hv3.cell
        simp only [List.getElem?_cons_zero, List.getElem?_cons_succ] at y3 z3
        refine hK.out _ _ ⟨y3, z3⟩ (fun hHeld => ?_)
        clear hK K
        try simp only [Act.put, List.setIfInBounds_toArray, List.set_cons_zero, List.set_cons_succ]
        refine wpAnyH_take (i := 7) (oi := ⟨_, _, _, _, _, _⟩) (v := ?_) rfl (by kernel_rfl) (by kernel_rfl) (by kernel_rfl) (fun _ _ _ h => h) (Or.inl ⟨by rfl, ?_⟩) (by assumption) ?_
        rotate_left
        · intro w hSw; (try dsimp only at hSw); go_simp; (try (with_reducible rfl))
        try simp only [Act.put, List.setIfInBounds_toArray, List.set_cons_zero, List.set_cons_succ]
        refine wpAnyH_ready (rs := [8]) (by kernel_rfl) (by simp) ?_
        refine AllReadyH.cons (o := ⟨_, _, _, _, _, _⟩) rfl (fun K hK => ?_) (AllReadyH.nil)
        go_simp
        obtain ⟨A', c', w3, HRUN, c1, c2, c3, c4, c5, c6, hg⟩ := app_round hv3 hrow3 (Nat.le_trans hB.size b3.size) (Nat.le_refl _) (by omega) x.1
        have hv4 := hv3.alloc (.cells #[.string x.1.1, .string x.1.2] 53)
        have bX4 := bX3.below ((Below.refl _ _).alloc (Nat.le_refl _) (.cells #[.string x.1.1, .string x.1.2] 53))
        have y4 := bX4.cell 0
        have z4 := bX4.cell 1
        have q4 := hv4.cell
        simp only [List.getElem?_cons_zero, List.getElem?_cons_succ] at y4 z4
        refine hK.out _ _ ⟨y4, z4⟩ (fun hHeld => ?_)
        clear hK K
        try simp only [Act.put, List.setIfInBounds_toArray, List.set_cons_zero, List.set_cons_succ]
        have bX5 : Blk w3 Bx [.string x.1.1, .string x.1.2] 53 := (hg.block Bx bX4.lt hne).trans bX4
        have bX6 := bX5.other (show Bx ≠ w1.heap.size by omega) 0 (.slice A' (pre.length + 1) c')
        have y5 := bX5.cell 0
        have z5 := bX5.cell 1
        have y6 := bX6.cell 0
        have z6 := bX6.cell 1
        simp only [List.getElem?_cons_zero, List.getElem?_cons_succ] at y5 z5 y6 z6
        refine wpAnyH_ready (rs := [9]) (by kernel_rfl) (by simp) ?_
        refine AllReadyH.cons (o := ⟨_, _, _, _, _, _⟩) rfl (fun K hK => ?_) (AllReadyH.nil)
        refine stepApp2 (by rfl) (.tmp 11) (.tmp 19) 23 rfl _ _ _ rfl rfl HRUN.out ?_
        refine hK.out _ _ ⟨y5, z5⟩ (fun hHeld => ?_)
        clear hK K
        try simp only [Act.put, List.setIfInBounds_toArray, List.set_cons_zero, List.set_cons_succ]
        refine wpAnyH_ready (rs := [10]) (by kernel_rfl) (by simp) ?_
        refine AllReadyH.cons (o := ⟨_, _, _, _, _, _⟩) rfl (fun K hK => ?_) (AllReadyH.nil)
        go_simp
        refine hK.out _ _ ⟨y6, z6⟩ (fun hHeld => ?_)
        clear hK K
        try simp only [Act.put, List.setIfInBounds_toArray, List.set_cons_zero, List.set_cons_succ]
        refine wpAnyH_done (by kernel_rfl) ?_ _
        exact ⟨((keeps_below b3).trans c5).from _, (b3.mono hB.size).trans c6, ⟨_, c3, by simpa [filV_append, filV] using c4, trivial⟩, hB.trans ((b3.mono hB.size).trans c6)⟩
      · go_simp
        refine (clone_any x.1.1 _ (by omega)).mono ?_
        rintro e W1 ⟨rfl, hb2⟩
        have b2 := below_undrew hb2
        have hv2 := boxed_below hv b2
        have hrow2 := own_below hrow b2
        have bX2 := bX.below b2
        have y2 := bX2.cell 0
        have z2 := bX2.cell 1
        have q2 := hv2.cell
        simp only [List.getElem?_cons_zero, List.getElem?_cons_succ] at y2 z2
        refine hK.out _ _ ⟨y2, z2⟩ (fun hHeld => ?_)
        clear hK K
        try simp only [Act.put, List.setIfInBounds_toArray, List.set_cons_zero, List.set_cons_succ]
        refine wpAnyH_ready (rs := [0, 6]) (by kernel_rfl) (by simp) ?_
        refine AllReadyH.cons (o := ⟨_, _, _, _, _, _⟩) rfl (fun K hK => ?_) (AllReadyH.cons (o := ⟨_, _, _, _, _, _⟩) rfl (fun K hK => ?_) (AllReadyH.nil))
        · go_simp
          refine hK.out _ _ ⟨y2, z2⟩ (fun hHeld => ?_)
          clear hK K
          try simp only [Act.put, List.setIfInBounds_toArray, List.set_cons_zero, List.set_cons_succ]
          refine wpAnyH_ready (rs := [6]) (by kernel_rfl) (by simp) ?_
          refine AllReadyH.cons (o := ⟨_, _, _, _, _, _⟩) rfl (fun K hK => ?_) (AllReadyH.nil)
          go_simp
          refine (clone_any x.1.2 _ (by omega)).mono ?_
          rintro e W2 ⟨rfl, hb3⟩
          have hv3 := boxed_below hv2 hb3
          have hrow3 := own_below hrow2 hb3
          have bX3 := bX2.below hb3
          have b3 := below2 b2 hb3
          have y3 := bX3.cell 0
          have z3 := bX3.cell 1
          have q3 := hv3.cell
          simp only [List.getElem?_cons_zero, List.getElem?_cons_succ] at y3 z3
          refine hK.out _ _ ⟨y3, z3⟩ (fun hHeld => ?_)
          clear hK K
          try simp only [Act.put, List.setIfInBounds_toArray, List.set_cons_zero, List.set_cons_succ]
          refine wpAnyH_take (i := 7) (oi := ⟨_, _, _, _, _, _⟩) (v := ?_) rfl (by kernel_rfl) (by kernel_rfl) (by kernel_rfl) (fun _ _ _ h => h) (Or.inl ⟨by rfl, ?_⟩) (by assumption) ?_
          rotate_left
          · intro w hSw; (try dsimp only at hSw); go_simp; (try (with_reducible rfl))
          try simp only [Act.put, List.setIfInBounds_toArray, List.set_cons_zero, List.set_cons_succ]
          refine wpAnyH_ready (rs := [8]) (by kernel_rfl) (by simp) ?_
          refine AllReadyH.cons (o := ⟨_, _, _, _, _, _⟩) rfl (fun K hK => ?_) (AllReadyH.nil)
          go_simp
          obtain ⟨A', c', w3, HRUN, c1, c2, c3, c4, c5, c6, hg⟩ := app_round hv3 hrow3 (Nat.le_trans hB.size b3.size) (Nat.le_refl _) (by omega) x.1
          have hv4 := hv3.alloc (.cells #[.string x.1.1, .string x.1.2] 53)
          have bX4 := bX3.below ((Below.refl _ _).alloc (Nat.le_refl _) (.cells #[.string x.1.1, .string x.1.2] 53))
          have y4 := bX4.cell 0
          have z4 := bX4.cell 1
          have q4 := hv4.cell
          simp only [List.getElem?_cons_zero, List.getElem?_cons_succ] at y4 z4
          refine hK.out _ _ ⟨y4, z4⟩ (fun hHeld => ?_)
          clear hK K
          try simp only [Act.put, List.setIfInBounds_toArray, List.set_cons_zero, List.set_cons_succ]
          have bX5 : Blk w3 Bx [.string x.1.1, .string x.1.2] 53 := (hg.block Bx bX4.lt hne).trans bX4
          have bX6 := bX5.other (show Bx ≠ w1.heap.size by omega) 0 (.slice A' (pre.length + 1) c')
          have y5 := bX5.cell 0
          have z5 := bX5.cell 1
          have y6 := bX6.cell 0
          have z6 := bX6.cell 1
          simp only [List.getElem?_cons_zero, List.getElem?_cons_succ] at y5 z5 y6 z6
          refine wpAnyH_ready (rs := [9]) (by kernel_rfl) (by simp) ?_
          refine AllReadyH.cons (o := ⟨_, _, _, _, _, _⟩) rfl (fun K hK => ?_) (AllReadyH.nil)
          refine stepApp2 (by rfl) (.tmp 11) (.tmp 19) 23 rfl _ _ _ rfl rfl HRUN.out ?_
          refine hK.out _ _ ⟨y5, z5⟩ (fun hHeld => ?_)
          clear hK K
          try simp only [Act.put, List.setIfInBounds_toArray, List.set_cons_zero, List.set_cons_succ]
          refine wpAnyH_ready (rs := [10]) (by kernel_rfl) (by simp) ?_
          refine AllReadyH.cons (o := ⟨_, _, _, _, _, _⟩) rfl (fun K hK => ?_) (AllReadyH.nil)
          go_simp
          refine hK.out _ _ ⟨y6, z6⟩ (fun hHeld => ?_)
          clear hK K
          try simp only [Act.put, List.setIfInBounds_toArray, List.set_cons_zero, List.set_cons_succ]
          refine wpAnyH_done (by kernel_rfl) ?_ _
          exact ⟨((keeps_below b3).trans c5).from _, (b3.mono hB.size).trans c6, ⟨_, c3, by simpa [filV_append, filV] using c4, trivial⟩, hB.trans ((b3.mono hB.size).trans c6)⟩
        · go_simp
          refine (clone_any x.1.2 _ (by omega)).mono ?_
          rintro e W2 ⟨rfl, hb3⟩
          have hv3 := boxed_below hv2 hb3
          have hrow3 := own_below hrow2 hb3
          have bX3 := bX2.below hb3
          have b3 := below2 b2 hb3
          have y3 := bX3.cell 0
          have z3 := bX3.cell 1
          have q3 := hv3.cell
          simp only [List.getElem?_cons_zero, List.getElem?_cons_succ] at y3 z3
          refine hK.out _ _ ⟨y3, z3⟩ (fun hHeld => ?_)
          clear hK K
          try simp only [Act.put, List.setIfInBounds_toArray, List.set_cons_zero, List.set_cons_succ]
          refine wpAnyH_take (i := 7) (oi := ⟨_, _, _, _, _, _⟩) (v := ?_) rfl (by kernel_rfl) (by kernel_rfl) (by kernel_rfl) (fun _ _ _ h => h) (Or.inl ⟨by rfl, ?_⟩) (by assumption) ?_
          rotate_left
          · intro w hSw; (try dsimp only at hSw); go_simp; (try (with_reducible rfl))
          try simp only [Act.put, List.setIfInBounds_toArray, List.set_cons_zero, List.set_cons_succ]
          refine wpAnyH_ready (rs := [0, 8]) (by kernel_rfl) (by simp) ?_
          refine AllReadyH.cons (o := ⟨_, _, _, _, _, _⟩) rfl (fun K hK => ?_) (AllReadyH.cons (o := ⟨_, _, _, _, _, _⟩) rfl (fun K hK => ?_) (AllReadyH.nil))
          · go_simp
            refine hK.out _ _ ⟨y3, z3⟩ (fun hHeld => ?_)
            clear hK K
            try simp only [Act.put, List.setIfInBounds_toArray, List.set_cons_zero, List.set_cons_succ]
            refine wpAnyH_ready (rs := [8]) (by kernel_rfl) (by simp) ?_
            refine AllReadyH.cons (o := ⟨_, _, _, _, _, _⟩) rfl (fun K hK => ?_) (AllReadyH.nil)
            go_simp
            obtain ⟨A', c', w3, HRUN, c1, c2, c3, c4, c5, c6, hg⟩ := app_round hv3 hrow3 (Nat.le_trans hB.size b3.size) (Nat.le_refl _) (by omega) x.1
            have hv4 := hv3.alloc (.cells #[.string x.1.1, .string x.1.2] 53)
            have bX4 := bX3.below ((Below.refl _ _).alloc (Nat.le_refl _) (.cells #[.string x.1.1, .string x.1.2] 53))
            have y4 := bX4.cell 0
            have z4 := bX4.cell 1
            have q4 := hv4.cell
            simp only [List.getElem?_cons_zero, List.getElem?_cons_succ] at y4 z4
            refine hK.out _ _ ⟨y4, z4⟩ (fun hHeld => ?_)
            clear hK K
            try simp only [Act.put, List.setIfInBounds_toArray, List.set_cons_zero, List.set_cons_succ]
            have bX5 : Blk w3 Bx [.string x.1.1, .string x.1.2] 53 := (hg.block Bx bX4.lt hne).trans bX4
            have bX6 := bX5.other (show Bx ≠ w1.heap.size by omega) 0 (.slice A' (pre.length + 1) c')
            have y5 := bX5.cell 0
            have z5 := bX5.cell 1
            have y6 := bX6.cell 0
            have z6 := bX6.cell 1
            simp only [List.getElem?_cons_zero, List.getElem?_cons_succ] at y5 z5 y6 z6
            refine wpAnyH_ready (rs := [9]) (by kernel_rfl) (by simp) ?_
            refine AllReadyH.cons (o := ⟨_, _, _, _, _, _⟩) rfl (fun K hK => ?_) (AllReadyH.nil)
            refine stepApp2 (by rfl) (.tmp 11) (.tmp 19) 23 rfl _ _ _ rfl rfl HRUN.out ?_
            refine hK.out _ _ ⟨y5, z5⟩ (fun hHeld => ?_)
            clear hK K
            try simp only [Act.put, List.setIfInBounds_toArray, List.set_cons_zero, List.set_cons_succ]
            refine wpAnyH_ready (rs := [10]) (by kernel_rfl) (by simp) ?_
            refine AllReadyH.cons (o := ⟨_, _, _, _, _, _⟩) rfl (fun K hK => ?_) (AllReadyH.nil)
            go_simp
            refine hK.out _ _ ⟨y6, z6⟩ (fun hHeld => ?_)
            clear hK K
            try simp only [Act.put, List.setIfInBounds_toArray, List.set_cons_zero, List.set_cons_succ]
            refine wpAnyH_done (by kernel_rfl) ?_ _
            exact ⟨((keeps_below b3).trans c5).from _, (b3.mono hB.size).trans c6, ⟨_, c3, by simpa [filV_append, filV] using c4, trivial⟩, hB.trans ((b3.mono hB.size).trans c6)⟩
          · go_simp
            obtain ⟨A', c', w3, HRUN, c1, c2, c3, c4, c5, c6, hg⟩ := app_round hv3 hrow3 (Nat.le_trans hB.size b3.size) (Nat.le_refl _) (by omega) x.1
            have hv4 := hv3.alloc (.cells #[.string x.1.1, .string x.1.2] 53)
            have bX4 := bX3.below ((Below.refl _ _).alloc (Nat.le_refl _) (.cells #[.string x.1.1, .string x.1.2] 53))
            have y4 := bX4.cell 0
            have z4 := bX4.cell 1
            have q4 := hv4.cell
            simp only [List.getElem?_cons_zero, List.getElem?_cons_succ] at y4 z4
            refine hK.out _ _ ⟨y4, z4⟩ (fun hHeld => ?_)
            clear hK K
            try simp only [Act.put, List.setIfInBounds_toArray, List.set_cons_zero, List.set_cons_succ]
            refine wpAnyH_ready (rs := [0]) (by kernel_rfl) (by simp) ?_
            refine AllReadyH.cons (o := ⟨_, _, _, _, _, _⟩) rfl (fun K hK => ?_) (AllReadyH.nil)
            go_simp
            refine hK.out _ _ ⟨y4, z4⟩ (fun hHeld => ?_)
            clear hK K
            try simp only [Act.put, List.setIfInBounds_toArray, List.set_cons_zero, List.set_cons_succ]
            have bX5 : Blk w3 Bx [.string x.1.1, .string x.1.2] 53 := (hg.block Bx bX4.lt hne).trans bX4
            have bX6 := bX5.other (show Bx ≠ w1.heap.size by omega) 0 (.slice A' (pre.length + 1) c')
            have y5 := bX5.cell 0
            have z5 := bX5.cell 1
            have y6 := bX6.cell 0
            have z6 := bX6.cell 1
            simp only [List.getElem?_cons_zero, List.getElem?_cons_succ] at y5 z5 y6 z6
            refine wpAnyH_ready (rs := [9]) (by kernel_rfl) (by simp) ?_
            refine AllReadyH.cons (o := ⟨_, _, _, _, _, _⟩) rfl (fun K hK => ?_) (AllReadyH.nil)
            refine stepApp2 (by rfl) (.tmp 11) (.tmp 19) 23 rfl _ _ _ rfl rfl HRUN.out ?_
            refine hK.out _ _ ⟨y5, z5⟩ (fun hHeld => ?_)
            clear hK K
            try simp only [Act.put, List.setIfInBounds_toArray, List.set_cons_zero, List.set_cons_succ]
            refine wpAnyH_ready (rs := [10]) (by kernel_rfl) (by simp) ?_
            refine AllReadyH.cons (o := ⟨_, _, _, _, _, _⟩) rfl (fun K hK => ?_) (AllReadyH.nil)
            go_simp
            refine hK.out _ _ ⟨y6, z6⟩ (fun hHeld => ?_)
            clear hK K
            try simp only [Act.put, List.setIfInBounds_toArray, List.set_cons_zero, List.set_cons_succ]
            refine wpAnyH_done (by kernel_rfl) ?_ _
            exact ⟨((keeps_below b3).trans c5).from _, (b3.mono hB.size).trans c6, ⟨_, c3, by simpa [filV_append, filV] using c4, trivial⟩, hB.trans ((b3.mono hB.size).trans c6)⟩
    case done =>
      rintro D ys W hD rfl ⟨⟨v, hv, hrow, -⟩, hB⟩ hK
      have HS := hid (files_sz hsz)
      have HN := hid (filesOf_len es)
      rw [show (filT es).length = (filesOf es).length by rw [← filT_val hsz, List.length_map], filT_val hsz] at hrow
      have hcv := hv.cell
      have hrow2 := ownsRow_putObj hrow (.deferred none) hK rfl
      obtain ⟨B, d, rfl, hft⟩ := own2_ft hrow2 (by have := HN.out; omega) HS.out
      have hb2 := below2 hb1 (hB.trans (belowK_b (w := w1) (Nat.le_refl _) W D _ (.deferred none) (by omega) hK rfl rfl))
      gi_wp2
      refine ⟨by simp, .inl ⟨_, _, rfl, run_takeDeferred hK, ?_⟩⟩
      rw [HR.out]
      exact ⟨_, results_tmp rfl _ _ _, B, d, rfl, hft, hb2⟩
    case stop =>
      rintro D c pre W _ _ h _
      exact h.elim
end Go.Proofs.YtnkkjedckehoaaaDoor
