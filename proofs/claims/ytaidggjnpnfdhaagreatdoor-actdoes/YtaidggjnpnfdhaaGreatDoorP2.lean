/- The texts Hin, Sf, Sg, Sh, Si, Sj, Tk, Sk, Qf, Qr, Ua, Ub, Th, in one. -/
import Derived.Test.YtaidggjnpnfdhaaGreatDoorP1
import Derived.OrdersIn
import Derived.ControlIn
import Derived.RangeFuncCalls
import Derived.Deep.RegionHeld
import Derived.Deep.RegionHeld3
import Derived.Handy
namespace Go.Proofs.YtaidggjnpnfdhaaGreatDoor
open Go.RowKit

def noDefer (ops : Array Oper) : Bool := ops.all fun o => match o.op with
  | .defer _ => false
  | _ => true
theorem noDefer_at {ops : Array Oper} (h : noDefer ops = true) {i : Nat} {o : Oper} (ho : ops[i]? = some o) : ∀ c, o.op ≠ .defer c := by
  intro c hc
  have := (Array.all_eq_true.1 h) i (Array.getElem?_eq_some_iff.1 ho).1
  rw [(Array.getElem?_eq_some_iff.1 ho).2, hc] at this
  cases this
theorem op_round {l n : Nat} {P : Program} {o : Oper} {a : Act} {w : World} {K : Act → World → Prop} {Q : Exit → Act → World → Prop} (hd : ∀ c, o.op ≠ .defer c) (h : o.wp P a w K Q) : o.wpIn (Fence.wide.inRound l) n P a w K Q := by
  unfold Oper.wpIn
  refine ⟨fun _ _ => trivial, ?_⟩
  rw [Oper.semAt_eq _ _ _ hd]
  unfold Oper.wp at h
  generalize (execOp a.eval o).run P w = r at *
  cases r with
  | ok x w' =>
    cases x with
    | enter f args => exact ⟨fun h => (by cases h), CallsIn.inRound l (callsIn_wide.2 h)⟩
    | row rw_ args => exact ⟨fun h => (by cases h), fun c cs _ => by obtain ⟨v, w2, r, s⟩ := h c cs; exact ⟨v, w2, r, stepsIn_wide.2 s⟩⟩
    | round => exact h.elim
    | _ => exact h
  | halt x w' => cases x <;> exact h
theorem any_round {l n : Nat} {P : Program} {md : Region.Mode} {ops : Array Oper} {Q : Exit → Act → World → Prop} (hd : noDefer ops = true) (hno : ¬ LetsOut Q) :
    ∀ (fuel : Nat) (listed : Array Bool) (a : Act) (w : World), wpAny P md ops Q fuel listed a w → wpAnyIn (Fence.wide.inRound l) n P md ops Q fuel listed a w
  | 0, _, _, _, h => h
  | fuel + 1, listed, a, w, h => by
    refine ⟨h.1, fun i hi => ?_⟩
    have h1 := wpOp_mono (K' := wpAnyIn (Fence.wide.inRound l) n P md ops Q fuel (listed.setIfInBounds i true)) (fun a' w' h' => any_round (l := l) (n := n) hd hno fuel _ a' w' h') (h.2 i hi)
    unfold wpOp at h1
    unfold wpOpIn
    cases ho : ops[i]? with
    | none => rw [ho] at h1; exact h1
    | some o =>
      rw [ho] at h1
      simp only at h1 ⊢
      split
      · rename_i hw
        rw [if_pos hw] at h1
        rcases h1 with h1 | ⟨-, h1⟩
        · exact op_round (noDefer_at hd ho) h1
        · exact absurd h1 hno
      · rename_i hw
        rw [if_neg hw] at h1
        exact ⟨fun _ _ => trivial, h1⟩
/-- The beginning: as 'wp_region_held_drew', in a round. -/
theorem in_round {id l n : Nat} {P : Program} {ops : Array Oper} {Q : Exit → Act → World → Prop} {S : World → Prop} {a : Act} {w : World} (hm : P.follows .mixedOrders = true) (hd : noDefer ops = true) (hno : ¬ LetsOut Q) (hS : S w.drew)
    (h : S w.drew → wpAnyH P .any ops Q S ops.size (Array.replicate ops.size false) a w.drew) : (Code.region id ops true).wpIn (Fence.wide.inRound l) n P Q a w :=
  wpIn_region_any hm (any_round hd hno _ _ _ _ (wpAny_of_held _ _ _ _ (h hS)))
end Go.Proofs.YtaidggjnpnfdhaaGreatDoor
namespace Go.Proofs.YtaidggjnpnfdhaaGreatDoor
open Go.RowKit Go.Shelf

attribute [local go_sem] Oper.semAt_some

theorem boxed_below {W W' : World} {B : Nat} {t : TypeId} {v : Value} (h : Boxed W B t v) (hb : Below W.heap.size W W') : Boxed W' B t v := (hb.block B h.lt).trans h
theorem own_below {W W' : World} {base : Nat} {e : TypeId} {sz k : Nat} {v : Value} {xs : List Value} (h : W.ownsRow base e sz v k xs) (hb : Below W.heap.size W W') : W'.ownsRow base e sz v k xs := by
  refine h.kept (grown_below (row := none) hb) ?_
  rcases h.2 with ⟨e, -⟩ | ⟨g, cap', cur, e, -⟩
  · exact .inl (by rw [e]; rfl)
  · exact .inr (by rw [e]; simp [Value.ownBlock])
theorem own_low {w : World} {base base' : Nat} {e : TypeId} {sz : Nat} {v : Value} {n : Nat} {xs : List Value} (h : w.ownsRow base e sz v n xs) (hb : base' ≤ base) : w.ownsRow base' e sz v n xs := by
  refine ⟨h.1, ?_⟩
  rcases h.2 with h2 | ⟨g, cap, cur, h2, h3, h4⟩
  · exact .inl h2
  · exact .inr ⟨g, cap, cur, h2, by omega, h4⟩
theorem keeps_below {W W' : World} (h : Below W.heap.size W W') : KeepsOthers W W' := KeepsOthers.of_grownBy (grown_below (row := none) h) (by simp)
theorem below_undrew {W W' : World} (h : Below W.drew.heap.size W.drew W') : Below W.heap.size W W' := ⟨h.os, h.tape, h.output, h.size, h.block⟩

def treeE (es : List Ent) : List Fil := if archR es then filesOf es else []
set_option maxRecDepth 100000 in
set_option maxHeartbeats 4000000 in
theorem treeE_any {w : World} {A : Option Addr} {n c : Nat} {es : List Ent} (h : Et w A n c es) :
    Calls Tryz.prog 22 #[.slice A n c] w fun e w' => ∃ B d, e = .returned (.slice B (treeE es).length d) ∧ Ft w' B (treeE es).length d (treeE es) ∧ Below w.heap.size w w' := by
  have c0 := archR_any h
  cases hR : archR es with
  | false =>
    rw [hR] at c0
    have HR : Hid (treeE es = []) := by show _ = _; rw [treeE, hR]; rfl
    clear hR
    go_enter Tryz.func22, Tryz.ntmps22
    go_wp2_with fail
    refine c0.mono ?_
    clear c0
    rintro e w1 ⟨rfl, hb1⟩
    go_wp2
    go_ret
    rw [HR.out]
    exact ⟨none, 0, rfl, ⟨rfl, .inl rfl, Nat.le_refl _, by simp, by omega, by simp⟩, hb1⟩
  | true =>
    rw [hR] at c0
    have HR : Hid (treeE es = filesOf es) := by show _ = _; rw [treeE, hR]; rfl
    clear hR
    refine (callsIn_wide (n := 3)).1 ?_
    refine callsIn_of_wp_marks Tryz.func22 rfl trivial ?_ rfl
    simp only [Tryz.ntmps22, List.size_toArray, List.length_cons, List.length_nil, Nat.reduceAdd, Nat.reduceSub, Array.replicate_succ, Array.replicate_zero, List.push_toArray, List.append_toArray, List.nil_append, List.cons_append]
    gi_wp2_with (first
      | (refine ⟨trivial, ?_⟩; gi_at_call 38; refine (callsIn_wide.2 c0).mono ?_; rintro e w1 ⟨rfl, hb1⟩)
      | (refine ⟨trivial, ?_⟩; gi_at_call 43; refine (callsIn_wide.2 (files_any A n c _)).mono ?_; rintro e w' ⟨rfl, rfl⟩))
    have h1 := h.below hb1
    have hr1 := h1.rd
    have hl := h1.len
    have hn := h1.big
    have hsz : ∀ e ∈ es, SzE e := h1.sz
    clear h h1 c0
    have bO := (Boxed.new w1 22 (.slice none 0 0)).alloc (.cells #[.slice A n c] 40)
    have bN := Boxed.new (w1.alloc (.cells #[.slice none 0 0] 22)) 40 (.slice A n c)
    rw [World.size_alloc] at bN
    have hB0 : Below w1.heap.size w1 ((w1.alloc (.cells #[.slice none 0 0] 22)).alloc (.cells #[.slice A n c] 40)) := ((Below.refl _ _).alloc (Nat.le_refl _) _).alloc (by simp) _
    have hs0 : ((w1.alloc (.cells #[.slice none 0 0] 22)).alloc (.cells #[.slice A n c] 40)).heap.size = w1.heap.size + 2 := by simp
    obtain ⟨W0, hW0⟩ : ∃ W0, (w1.alloc (.cells #[.slice none 0 0] 22)).alloc (.cells #[.slice A n c] 40) = W0 := ⟨_, rfl⟩
    rw [hW0] at bO bN hB0 hs0 ⊢
    clear hW0
    refine wpIn_rangeFunc_ownH rfl (by omega) (gf := 59) (lb := #[.pointer (some ⟨w1.heap.size + 1, 0, none⟩)]) rfl trivial (enters_of Tryz.func59 (by kernel_rfl) rfl)
      (files_stops _ (by omega) (w1.heap.size + 1) w1 W0 A n c es hl hr1 hn hsz (by omega) bN.cell hB0) belowK_t (belowK_b (by omega)) (Below.refl _ _) (fun _ => rfl)
      (fun (pre : List SF) W => (∃ v, Boxed W w1.heap.size 22 v ∧ W.ownsRow w1.heap.size 38 2 v pre.length (filV (pre.map (·.1))) ∧ True) ∧ Below w1.heap.size w1 W)
      (fun _ _ _ => False)
      (OwnFrom.and (Own.from (holdsRow_own w1.heap.size w1.heap.size 22 38 2 (fun (pre : List SF) => pre.length) (fun pre => filV (pre.map (·.1))) (fun _ _ => True)) _) (ownFrom_below (Nat.le_refl _) (by omega)))
      (fun _ _ _ _ _ hs _ _ => hs)
      ⟨⟨_, bO, World.ownsRow_nil _ _ _ _, trivial⟩, hB0⟩
      (fun x a' W => ∃ Bx v', w1.heap.size < Bx ∧ Blk W Bx [.string x.1.1, .string x.1.2] 38 ∧ Boxed W w1.heap.size 22 v' ∧ some Bx ≠ v'.ownBlock ∧ a' = { tmps := #[.slice A n c, undef, .slice none 0 0, .pointer (some ⟨w1.heap.size, 0, none⟩), .pointer (some ⟨Bx, 0, none⟩), .slice A n c, .bool true, .bool false, .slice A n c, .func (.func 59) #[] #[.pointer (some ⟨w1.heap.size + 1, 0, none⟩)], .agg #[.string x.1.1, .string x.1.2], undef, undef, undef, undef, undef, undef, undef, undef, undef, undef, undef], defers := [] })
      (fun x a' _ X Y row hs hg hr => by obtain ⟨Bx, v', h1, h2, h3, h4⟩ := hs; exact ⟨Bx, v', h1, blk_kept h2 hg (fun r e => (hr r e).2), boxed_own _ _ (fun (_ : Unit) => v') () X Y row h3 hg (fun r e => (hr r e).2), h4⟩)
      ?assign ?body ?done ?stop
    case assign =>
      rintro l pre x W K ⟨⟨v, hv, hrow, -⟩, hB⟩ hK
      gi_wp2
      exact hK _ _ ((KeepsOthers.alloc _ _).from _) ((Below.refl _ W).alloc hB.size _) ⟨⟨v, hv.alloc _, hrow.alloc _, trivial⟩, hB.alloc hB.size _⟩ ⟨W.heap.size, v, hv.lt, Blk.new W _ _, hv.alloc _, fun e => by have := (hrow.lt _ e.symm).2; omega, rfl⟩
    case body =>
      rintro l pre x a' W hl ⟨r, hr⟩ ⟨⟨v, hv, hrow, -⟩, hB⟩ ⟨Bx, v', hBx, bX, hv', hne, rfl⟩ hlt
      obtain rfl : v = v' := by have := hv'.cell; rw [hv.cell] at this; injection this
      have hcv := hv.cell
      have x0 := bX.cell 0
      have x1 := bX.cell 1
      simp only [List.getElem?_cons_zero, List.getElem?_cons_succ] at x0 x1
      have hz := x.2
      unfold SzF at hz
      gi_wp2
      refine in_round (S := fun w' => w'.cell? ⟨Bx, 0, none⟩ = some (.string x.1.1) ∧ w'.cell? ⟨Bx, 1, none⟩ = some (.string x.1.2)) (by kernel_rfl) (by kernel_rfl) (by rintro ⟨_, _, h⟩; exact h) ⟨x0, x1⟩ (fun hHeld => ?_)
      refine wpAnyH_take (i := 1) (oi := ⟨_, _, _, _, _, _⟩) (v := ?_) rfl (by kernel_rfl) (by kernel_rfl) (by kernel_rfl) (fun _ _ _ h => h) (Or.inl ⟨by rfl, ?_⟩) (by assumption) ?_
      rotate_left
      · intro w hSw; (try dsimp only at hSw); go_simp; (try (with_reducible rfl))
      try simp only [Act.put, List.setIfInBounds_toArray, List.set_cons_zero, List.set_cons_succ]
      refine wpAnyH_take (i := 2) (oi := ⟨_, _, _, _, _, _⟩) (v := ?_) rfl (by kernel_rfl) (by kernel_rfl) (by kernel_rfl) (fun _ _ _ h => h) (Or.inl ⟨by rfl, ?_⟩) (by assumption) ?_
      rotate_left
      · intro w hSw; (try dsimp only at hSw); go_simp; (try (with_reducible rfl))
      try simp only [Act.put, List.setIfInBounds_toArray, List.set_cons_zero, List.set_cons_succ]
      refine wpAnyH_take (i := 4) (oi := ⟨_, _, _, _, _, _⟩) (v := ?_) rfl (by kernel_rfl) (by kernel_rfl) (by kernel_rfl) (fun _ _ _ h => h) (Or.inl ⟨by rfl, ?_⟩) (by assumption) ?_
      rotate_left
      · intro w hSw; (try dsimp only at hSw); go_simp; (try (with_reducible rfl))
      try simp only [Act.put, List.setIfInBounds_toArray, List.set_cons_zero, List.set_cons_succ]
      refine wpAnyH_take (i := 5) (oi := ⟨_, _, _, _, _, _⟩) (v := ?_) rfl (by kernel_rfl) (by kernel_rfl) (by kernel_rfl) (fun _ _ _ h => h) (Or.inl ⟨by rfl, ?_⟩) (by assumption) ?_
      rotate_left
      · intro w hSw; (try dsimp only at hSw); go_simp; (try (with_reducible rfl))
      try simp only [Act.put, List.setIfInBounds_toArray, List.set_cons_zero, List.set_cons_succ]
      refine wpAnyH_ready (rs := [0, 3]) (by kernel_rfl) (by simp) ?_
      refine AllReadyH.cons (o := ⟨_, _, _, _, _, _⟩) rfl (fun K hK => ?_) (AllReadyH.cons (o := ⟨_, _, _, _, _, _⟩) rfl (fun K hK => ?_) (AllReadyH.nil))
      · go_simp
        refine hK.out _ _ ⟨x0, x1⟩ (fun hHeld => ?_)
        clear hK K
        try simp only [Act.put, List.setIfInBounds_toArray, List.set_cons_zero, List.set_cons_succ]
        refine wpAnyH_ready (rs := [3]) (by kernel_rfl) (by simp) ?_
        refine AllReadyH.cons (o := ⟨_, _, _, _, _, _⟩) rfl (fun K hK => ?_) (AllReadyH.nil)
        go_simp
        refine (clone_any x.1.1 _ (by omega)).mono ?_
        rintro e W1 ⟨rfl, hb2⟩
        have b2 := below_undrew hb2
        have hv2 := boxed_below hv b2
        have hrow2 := own_below hrow b2
        have bX2 := bX.below b2
        have y2 := bX2.cell 0
        have z2 := bX2.cell 1
        have q2 := hv2.cell
        simp only [List.getElem?_cons_zero, List.getElem?_cons_succ] at y2 z2
        refine hK.out _ _ ⟨y2, z2⟩ (fun hHeld => ?_)
        clear hK K
        try simp only [Act.put, List.setIfInBounds_toArray, List.set_cons_zero, List.set_cons_succ]
        refine wpAnyH_ready (rs := [6]) (by kernel_rfl) (by simp) ?_
        refine AllReadyH.cons (o := ⟨_, _, _, _, _, _⟩) rfl (fun K hK => ?_) (AllReadyH.nil)
        go_simp
        refine (clone_any x.1.2 _ (by omega)).mono ?_
        rintro e W2 ⟨rfl, hb3⟩
        have hv3 := boxed_below hv2 hb3
        have hrow3 := own_below hrow2 hb3
        have bX3 := bX2.below hb3
        have b3 := below2 b2 hb3
        have y3 := bX3.cell 0
        have z3 := bX3.cell 1
        have q3 := hv3.cell
        simp only [List.getElem?_cons_zero, List.getElem?_cons_succ] at y3 z3
        refine hK.out _ _ ⟨y3, z3⟩ (fun hHeld => ?_)
        clear hK K
        try simp only [Act.put, List.setIfInBounds_toArray, List.set_cons_zero, List.set_cons_succ]
        refine wpAnyH_take (i := 7) (oi := ⟨_, _, _, _, _, _⟩) (v := ?_) rfl (by kernel_rfl) (by kernel_rfl) (by kernel_rfl) (fun _ _ _ h => h) (Or.inl ⟨by rfl, ?_⟩) (by assumption) ?_
        rotate_left
        · intro w hSw; (try dsimp only at hSw); go_simp; (try (with_reducible rfl))
        try simp only [Act.put, List.setIfInBounds_toArray, List.set_cons_zero, List.set_cons_succ]
        refine wpAnyH_ready (rs := [8]) (by kernel_rfl) (by simp) ?_
        refine AllReadyH.cons (o := ⟨_, _, _, _, _, _⟩) rfl (fun K hK => ?_) (AllReadyH.nil)
        go_simp
        obtain ⟨A', c', w3, HRUN, c1, c2, c3, c4, c5, c6, hg⟩ := app_round hv3 hrow3 (Nat.le_trans hB.size b3.size) (Nat.le_refl _) (by omega) x.1
        have hv4 := hv3.alloc (.cells #[.string x.1.1, .string x.1.2] 38)
        have bX4 := bX3.below ((Below.refl _ _).alloc (Nat.le_refl _) (.cells #[.string x.1.1, .string x.1.2] 38))
        have y4 := bX4.cell 0
        have z4 := bX4.cell 1
        have q4 := hv4.cell
        simp only [List.getElem?_cons_zero, List.getElem?_cons_succ] at y4 z4
        refine hK.out _ _ ⟨y4, z4⟩ (fun hHeld => ?_)
        clear hK K
        try simp only [Act.put, List.setIfInBounds_toArray, List.set_cons_zero, List.set_cons_succ]
        have bX5 : Blk w3 Bx [.string x.1.1, .string x.1.2] 38 := (hg.block Bx bX4.lt hne).trans bX4
        have bX6 := bX5.other (show Bx ≠ w1.heap.size by omega) 0 (.slice A' (pre.length + 1) c')
        have y5 := bX5.cell 0
        have z5 := bX5.cell 1
        have y6 := bX6.cell 0
        have z6 := bX6.cell 1
        simp only [List.getElem?_cons_zero, List.getElem?_cons_succ] at y5 z5 y6 z6
        refine wpAnyH_ready (rs := [9]) (by kernel_rfl) (by simp) ?_
        refine AllReadyH.cons (o := ⟨_, _, _, _, _, _⟩) rfl (fun K hK => ?_) (AllReadyH.nil)
        refine stepApp2 (by rfl) (.tmp 11) (.tmp 19) 22 rfl _ _ _ rfl rfl HRUN.out ?_
        refine hK.out _ _ ⟨y5, z5⟩ (fun hHeld => ?_)
        clear hK K
        try simp only [Act.put, List.setIfInBounds_toArray, List.set_cons_zero, List.set_cons_succ]
        refine wpAnyH_ready (rs := [10]) (by kernel_rfl) (by simp) ?_
        refine AllReadyH.cons (o := ⟨_, _, _, _, _, _⟩) rfl (fun K hK => ?_) (AllReadyH.nil)
        go_simp
        refine hK.out _ _ ⟨y6, z6⟩ (fun hHeld => ?_)
        clear hK K
        try simp only [Act.put, List.setIfInBounds_toArray, List.set_cons_zero, List.set_cons_succ]
        refine wpAnyH_done (by kernel_rfl) ?_ _
        exact ⟨((keeps_below b3).trans c5).from _, (b3.mono hB.size).trans c6, ⟨_, c3, by simpa [filV_append, filV] using c4, trivial⟩, hB.trans ((b3.mono hB.size).trans c6)⟩
      · go_simp
        refine (clone_any x.1.1 _ (by omega)).mono ?_
        rintro e W1 ⟨rfl, hb2⟩
        have b2 := below_undrew hb2
        have hv2 := boxed_below hv b2
        have hrow2 := own_below hrow b2
        have bX2 := bX.below b2
        have y2 := bX2.cell 0
        have z2 := bX2.cell 1
        have q2 := hv2.cell
        simp only [List.getElem?_cons_zero, List.getElem?_cons_succ] at y2 z2
        refine hK.out _ _ ⟨y2, z2⟩ (fun hHeld => ?_)
        clear hK K
        try simp only [Act.put, List.setIfInBounds_toArray, List.set_cons_zero, List.set_cons_succ]
        refine wpAnyH_ready (rs := [0, 6]) (by kernel_rfl) (by simp) ?_
        refine AllReadyH.cons (o := ⟨_, _, _, _, _, _⟩) rfl (fun K hK => ?_) (AllReadyH.cons (o := ⟨_, _, _, _, _, _⟩) rfl (fun K hK => ?_) (AllReadyH.nil))
        · go_simp
          refine hK.out _ _ ⟨y2, z2⟩ (fun hHeld => ?_)
          clear hK K
          try simp only [Act.put, List.setIfInBounds_toArray, List.set_cons_zero, List.set_cons_succ]
          refine wpAnyH_ready (rs := [6]) (by kernel_rfl) (by simp) ?_
          refine AllReadyH.cons (o := ⟨_, _, _, _, _, _⟩) rfl (fun K hK => ?_) (AllReadyH.nil)
          go_simp
          refine (clone_any x.1.2 _ (by omega)).mono ?_
          rintro e W2 ⟨rfl, hb3⟩
          have hv3 := boxed_below hv2 hb3
          have hrow3 := own_below hrow2 hb3
          have bX3 := bX2.below hb3
          have b3 := below2 b2 hb3
          have y3 := bX3.cell 0
          have z3 := bX3.cell 1
          have q3 := hv3.cell
          simp only [List.getElem?_cons_zero, List.getElem?_cons_succ] at y3 z3
          refine hK.out _ _ ⟨y3, z3⟩ (fun hHeld => ?_)
          clear hK K
          try simp only [Act.put, List.setIfInBounds_toArray, List.set_cons_zero, List.set_cons_succ]
          refine wpAnyH_take (i := 7) (oi := ⟨_, _, _, _, _, _⟩) (v := ?_) rfl (by kernel_rfl) (by kernel_rfl) (by kernel_rfl) (fun _ _ _ h => h) (Or.inl ⟨by rfl, ?_⟩) (by assumption) ?_
          rotate_left
          · intro w hSw; (try dsimp only at hSw); go_simp; (try (with_reducible rfl))
          try simp only [Act.put, List.setIfInBounds_toArray, List.set_cons_zero, List.set_cons_succ]
          refine wpAnyH_ready (rs := [8]) (by kernel_rfl) (by simp) ?_
          refine AllReadyH.cons (o := ⟨_, _, _, _, _, _⟩) rfl (fun K hK => ?_) (AllReadyH.nil)
          go_simp
          obtain ⟨A', c', w3, HRUN, c1, c2, c3, c4, c5, c6, hg⟩ := app_round hv3 hrow3 (Nat.le_trans hB.size b3.size) (Nat.le_refl _) (by omega) x.1
          have hv4 := hv3.alloc (.cells #[.string x.1.1, .string x.1.2] 38)
          have bX4 := bX3.below ((Below.refl _ _).alloc (Nat.le_refl _) (.cells #[.string x.1.1, .string x.1.2] 38))
          have y4 := bX4.cell 0
          have z4 := bX4.cell 1
          have q4 := hv4.cell
          simp only [List.getElem?_cons_zero, List.getElem?_cons_succ] at y4 z4
          refine hK.out _ _ ⟨y4, z4⟩ (fun hHeld => ?_)
          clear hK K
          try simp only [Act.put, List.setIfInBounds_toArray, List.set_cons_zero, List.set_cons_succ]
          have bX5 : Blk w3 Bx [.string x.1.1, .string x.1.2] 38 := (hg.block Bx bX4.lt hne).trans bX4
          have bX6 := bX5.other (show Bx ≠ w1.heap.size by omega) 0 (.slice A' (pre.length + 1) c')
          have y5 := bX5.cell 0
          have z5 := bX5.cell 1
          have y6 := bX6.cell 0
          have z6 := bX6.cell 1
          simp only [List.getElem?_cons_zero, List.getElem?_cons_succ] at y5 z5 y6 z6
          refine wpAnyH_ready (rs := [9]) (by kernel_rfl) (by simp) ?_
          refine AllReadyH.cons (o := ⟨_, _, _, _, _, _⟩) rfl (fun K hK => ?_) (AllReadyH.nil)
          refine stepApp2 (by rfl) (.tmp 11) (.tmp 19) 22 rfl _ _ _ rfl rfl HRUN.out ?_
          refine hK.out _ _ ⟨y5, z5⟩ (fun hHeld => ?_)
          clear hK K
          try simp only [Act.put, List.setIfInBounds_toArray, List.set_cons_zero, List.set_cons_succ]
          refine wpAnyH_ready (rs := [10]) (by kernel_rfl) (by simp) ?_
          refine AllReadyH.cons (o := ⟨_, _, _, _, _, _⟩) rfl (fun K hK => ?_) (AllReadyH.nil)
          go_simp
          refine hK.out _ _ ⟨y6, z6⟩ (fun hHeld => ?_)
          clear hK K
          try simp only [Act.put, List.setIfInBounds_toArray, List.set_cons_zero, List.set_cons_succ]
          refine wpAnyH_done (by kernel_rfl) ?_ _
          exact ⟨((keeps_below b3).trans c5).from _, (b3.mono hB.size).trans c6, ⟨_, c3, by simpa [filV_append, filV] using c4, trivial⟩, hB.trans ((b3.mono hB.size).trans c6)⟩
        · go_simp
          refine (clone_any x.1.2 _ (by omega)).mono ?_
          rintro e W2 ⟨rfl, hb3⟩
          have hv3 := boxed_below hv2 hb3
          have hrow3 := own_below hrow2 hb3
          have bX3 := bX2.below hb3
          have b3 := below2 b2 hb3
          have y3 := bX3.cell 0
          have z3 := bX3.cell 1
          have q3 := hv3.cell
          simp only [List.getElem?_cons_zero, List.getElem?_cons_succ] at y3 z3
          refine hK.out _ _ ⟨y3, z3⟩ (fun hHeld => ?_)
          clear hK K
          try simp only [Act.put, List.setIfInBounds_toArray, List.set_cons_zero, List.set_cons_succ]
          refine wpAnyH_take (i := 7) (oi := ⟨_, _, _, _, _, _⟩) (v := ?_) rfl (by kernel_rfl) (by kernel_rfl) (by kernel_rfl) (fun _ _ _ h => h) (Or.inl ⟨by rfl, ?_⟩) (by assumption) ?_
          rotate_left
          · intro w hSw; (try dsimp only at hSw); go_simp; (try (with_reducible rfl))
          try simp only [Act.put, List.setIfInBounds_toArray, List.set_cons_zero, List.set_cons_succ]
          refine wpAnyH_ready (rs := [0, 8]) (by kernel_rfl) (by simp) ?_
          refine AllReadyH.cons (o := ⟨_, _, _, _, _, _⟩) rfl (fun K hK => ?_) (AllReadyH.cons (o := ⟨_, _, _, _, _, _⟩) rfl (fun K hK => ?_) (AllReadyH.nil))
          · go_simp
            refine hK.out _ _ ⟨y3, z3⟩ (fun hHeld => ?_)
            clear hK K
            try simp only [Act.put, List.setIfInBounds_toArray, List.set_cons_zero, List.set_cons_succ]
            refine wpAnyH_ready (rs := [8]) (by kernel_rfl) (by simp) ?_
            refine AllReadyH.cons (o := ⟨_, _, _, _, _, _⟩) rfl (fun K hK => ?_) (AllReadyH.nil)
            go_simp
            obtain ⟨A', c', w3, HRUN, c1, c2, c3, c4, c5, c6, hg⟩ := app_round hv3 hrow3 (Nat.le_trans hB.size b3.size) (Nat.le_refl _) (by omega) x.1
            have hv4 := hv3.alloc (.cells #[.string x.1.1, .string x.1.2] 38)
            have bX4 := bX3.below ((Below.refl _ _).alloc (Nat.le_refl _) (.cells #[.string x.1.1, .string x.1.2] 38))
            have y4 := bX4.cell 0
            have z4 := bX4.cell 1
            have q4 := hv4.cell
            simp only [List.getElem?_cons_zero, List.getElem?_cons_succ] at y4 z4
            refine hK.out _ _ ⟨y4, z4⟩ (fun hHeld => ?_)
            clear hK K
            try simp only [Act.put, List.setIfInBounds_toArray, List.set_cons_zero, List.set_cons_succ]
            have bX5 : Blk w3 Bx [.string x.1.1, .string x.1.2] 38 := (hg.block Bx bX4.lt hne).trans bX4
            have bX6 := bX5.other (show Bx ≠ w1.heap.size by omega) 0 (.slice A' (pre.length + 1) c')
            have y5 := bX5.cell 0
            have z5 := bX5.cell 1
            have y6 := bX6.cell 0
            have z6 := bX6.cell 1
            simp only [List.getElem?_cons_zero, List.getElem?_cons_succ] at y5 z5 y6 z6
            refine wpAnyH_ready (rs := [9]) (by kernel_rfl) (by simp) ?_
            refine AllReadyH.cons (o := ⟨_, _, _, _, _, _⟩) rfl (fun K hK => ?_) (AllReadyH.nil)
            refine stepApp2 (by rfl) (.tmp 11) (.tmp 19) 22 rfl _ _ _ rfl rfl HRUN.out ?_
            refine hK.out _ _ ⟨y5, z5⟩ (fun hHeld => ?_)
            clear hK K
            try simp only [Act.put, List.setIfInBounds_toArray, List.set_cons_zero, List.set_cons_succ]
            refine wpAnyH_ready (rs := [10]) (by kernel_rfl) (by simp) ?_
            refine AllReadyH.cons (o := ⟨_, _, _, _, _, _⟩) rfl (fun K hK => ?_) (AllReadyH.nil)
            go_simp
            refine hK.out _ _ ⟨y6, z6⟩ (fun hHeld => ?_)
            clear hK K
            try simp only [Act.put, List.setIfInBounds_toArray, List.set_cons_zero, List.set_cons_succ]
            refine wpAnyH_done (by kernel_rfl) ?_ _
            exact ⟨((keeps_below b3).trans c5).from _, (b3.mono hB.size).trans c6, ⟨_, c3, by simpa [filV_append, filV] using c4, trivial⟩, hB.trans ((b3.mono hB.size).trans c6)⟩
          · go_simp
            obtain ⟨A', c', w3, HRUN, c1, c2, c3, c4, c5, c6, hg⟩ := app_round hv3 hrow3 (Nat.le_trans hB.size b3.size) (Nat.le_refl _) (by omega) x.1
            have hv4 := hv3.alloc (.cells #[.string x.1.1, .string x.1.2] 38)
            have bX4 := bX3.below ((Below.refl _ _).alloc (Nat.le_refl _) (.cells #[.string x.1.1, .string x.1.2] 38))
            have y4 := bX4.cell 0
            have z4 := bX4.cell 1
            have q4 := hv4.cell
            simp only [List.getElem?_cons_zero, List.getElem?_cons_succ] at y4 z4
            refine hK.out _ _ ⟨y4, z4⟩ (fun hHeld => ?_)
            clear hK K
            try simp only [Act.put, List.setIfInBounds_toArray, List.set_cons_zero, List.set_cons_succ]
            refine wpAnyH_ready (rs := [0]) (by kernel_rfl) (by simp) ?_
            refine AllReadyH.cons (o := ⟨_, _, _, _, _, _⟩) rfl (fun K hK => ?_) (AllReadyH.nil)
            go_simp
            refine hK.out _ _ ⟨y4, z4⟩ (fun hHeld => ?_)
            clear hK K
            try simp only [Act.put, List.setIfInBounds_toArray, List.set_cons_zero, List.set_cons_succ]
            have bX5 : Blk w3 Bx [.string x.1.1, .string x.1.2] 38 := (hg.block Bx bX4.lt hne).trans bX4
            have bX6 := bX5.other (show Bx ≠ w1.heap.size by omega) 0 (.slice A' (pre.length + 1) c')
            have y5 := bX5.cell 0
            have z5 := bX5.cell 1
            have y6 := bX6.cell 0
            have z6 := bX6.cell 1
            simp only [List.getElem?_cons_zero, List.getElem?_cons_succ] at y5 z5 y6 z6
            refine wpAnyH_ready (rs := [9]) (by kernel_rfl) (by simp) ?_
            refine AllReadyH.cons (o := ⟨_, _, _, _, _, _⟩) rfl (fun K hK => ?_) (AllReadyH.nil)
            refine stepApp2 (by rfl) (.tmp 11) (.tmp 19) 22 rfl _ _ _ rfl rfl HRUN.out ?_
            refine hK.out _ _ ⟨y5, z5⟩ (fun hHeld => ?_)
            clear hK K
            try simp only [Act.put, List.setIfInBounds_toArray, List.set_cons_zero, List.set_cons_succ]
            refine wpAnyH_ready (rs := [10]) (by kernel_rfl) (by simp) ?_
            refine AllReadyH.cons (o := ⟨_, _, _, _, _, _⟩) rfl (fun K hK => ?_) (AllReadyH.nil)
            go_simp
            refine hK.out _ _ ⟨y6, z6⟩ (fun hHeld => ?_)
            clear hK K
            try simp only [Act.put, List.setIfInBounds_toArray, List.set_cons_zero, List.set_cons_succ]
            refine wpAnyH_done (by kernel_rfl) ?_ _
            exact ⟨((keeps_below b3).trans c5).from _, (b3.mono hB.size).trans c6, ⟨_, c3, by simpa [filV_append, filV] using c4, trivial⟩, hB.trans ((b3.mono hB.size).trans c6)⟩
    case done =>
      rintro D ys W hD rfl ⟨⟨v, hv, hrow, -⟩, hB⟩ hK
      have HS := hid (files_sz hsz)
      have HN := hid (filesOf_len es)
      rw [show (filT es).length = (filesOf es).length by rw [← filT_val hsz, List.length_map], filT_val hsz] at hrow
      have hcv := hv.cell
      have hrow2 := ownsRow_putObj hrow (.deferred none) hK rfl
      obtain ⟨B, d, rfl, hft⟩ := own2_ft hrow2 (by have := HN.out; omega) HS.out
      have hb2 := below2 hb1 (hB.trans (belowK_b (w := w1) (Nat.le_refl _) W D _ (.deferred none) (by omega) hK rfl rfl))
      gi_wp2
      refine ⟨by simp, .inl ⟨_, _, rfl, run_takeDeferred hK, ?_⟩⟩
      rw [HR.out]
      exact ⟨_, results_tmp rfl _ _ _, B, d, rfl, hft, hb2⟩
    case stop =>
      rintro D c pre W _ _ h _
      exact h.elim
end Go.Proofs.YtaidggjnpnfdhaaGreatDoor
namespace Go.Proofs.YtaidggjnpnfdhaaGreatDoor
open Go.RowKit Go.Shelf

attribute [local go_sem] Oper.semAt_some

/-- The slice without its first one. -/
theorem cut_run {t e : TypeId} {sz : Nat} (ht : Tryz.prog.underlying t = some (.slice e)) (hz : ∀ w, (sizeOf e).run Tryz.prog w = .ok sz w) (A : Option Addr) (n c : Nat) (hn : 0 < n) (w : World) :
    (Instr.slice t (.slice A n c) (some (.int .i64 1)) none none).run Tryz.prog w = .ok (.slice (if c = 1 then A else A.map (·.add (1 * sz))) (n - 1) (c - 1)) w := by
  have h1 : (0 : Int) ≤ 1 ∧ (1 : Int) ≤ (n : Int) := by omega
  simp [Instr.slice, Instr.sliceBounds, Instr.sliceBound, run_underlying ht, hz, asIntOf, h1]
theorem rd_tail {w : World} {A : Option Addr} {xs ys : List Value} {c k : Nat} (h : Rd w A (xs ++ ys)) (hk : xs.length = k) (hc : ys ≠ [] → c ≠ 1) : Rd w (if c = 1 then A else A.map (·.add k)) ys := by
  by_cases hy : ys = []
  · exact .inl hy
  · rw [if_neg (hc hy)]
    rcases h with h | ⟨ad, rfl, h⟩
    · exact .inl (List.append_eq_nil_iff.1 h).2
    · refine .inr ⟨ad.add k, rfl, fun j u hu => ?_⟩
      rw [add_assoc']
      refine h _ u ?_
      rw [List.getElem?_append_right (by omega), hk, Nat.add_sub_cancel_left]
      exact hu
theorem ent_tail {w : World} {A : Option Addr} {e : Ent} {es : List Ent} {c : Nat} (h : Rd w A (entV (e :: es))) (hc : es.length + 1 ≤ c) :
    ∃ A', (∀ w, (Instr.slice 40 (.slice A (es.length + 1) c) (some (.int .i64 1)) none none).run Tryz.prog w = .ok (.slice A' es.length (c - 1)) w) ∧ Rd w A' (entV es) :=
  ⟨_, fun w => cut_run Tryz.underlying40 (fun w => Tryz.sizeOf66 w) A (es.length + 1) c (by omega) w, rd_tail (xs := eV e) h rfl (fun hy => by
    have : es ≠ [] := fun x => hy (by rw [x]; rfl)
    have := List.length_pos_iff.2 this
    omega)⟩
theorem fil_tail {w : World} {A : Option Addr} {f : Fil} {fs : List Fil} {c : Nat} (h : Rd w A (filV (f :: fs))) (hc : fs.length + 1 ≤ c) :
    ∃ A', (∀ w, (Instr.slice 22 (.slice A (fs.length + 1) c) (some (.int .i64 1)) none none).run Tryz.prog w = .ok (.slice A' fs.length (c - 1)) w) ∧ Rd w A' (filV fs) :=
  ⟨_, fun w => cut_run Tryz.underlying22 (fun w => Tryz.sizeOf38 w) A (fs.length + 1) c (by omega) w, rd_tail (xs := [.string f.1, .string f.2]) h rfl (fun hy => by
    have : fs ≠ [] := fun x => hy (by rw [x]; rfl)
    have := List.length_pos_iff.2 this
    omega)⟩
abbrev S2 := { p : Ent × Ent // SzE p.2 }
def sliceLen : Value → Nat
  | .slice _ n _ => n
  | _ => 0

/-- The pairs, each with its sizes. -/
def bothT (es : List Ent) (fs : List Fil) (h : ∀ p ∈ bothL es fs, SzE p.2) : List S2 := (bothL es fs).pmap (fun p hp => ⟨p, hp⟩) h
theorem bothT_val (es : List Ent) (fs : List Fil) (h : ∀ p ∈ bothL es fs, SzE p.2) : (bothT es fs h).map (·.1) = bothL es fs := by simp [bothT, List.map_pmap]
theorem both_sz {es : List Ent} {fs : List Fil} (h1 : ∀ e ∈ es, SzE e) (h2 : ∀ f ∈ fs, SzF f) : ∀ p ∈ bothL es fs, SzE p.2 := by
  intro p hp
  have hP := both_pair es fs p hp
  have hpath : p.2.path.size < 4294967281 := by
    rw [hP.path]
    rcases hP.was with h | ⟨h, h3⟩
    · exact (h1 _ h).1
    · have := (h2 _ (hP.is h3)).1
      rw [← hP.path]; exact this
  refine ⟨hpath, ?_⟩
  cases hh : p.2.has with
  | true => exact (h2 _ (hP.is hh)).2
  | false => rw [hP.none hh]; exact Nat.zero_le _
end Go.Proofs.YtaidggjnpnfdhaaGreatDoor
namespace Go.Proofs.YtaidggjnpnfdhaaGreatDoor
open Go.RowKit Go.Shelf

/-- append of one element, whose value is put into a box. -/
theorem app_gen {W : World} {n₀ B : Nat} {v : Value} {k : Nat} {xs : List Value} {T E : TypeId} {z : Value} {size bytes : Nat} (hT : Tryz.prog.underlying T = some (.slice E)) (hinf : (Tryz.prog.info? E).map (fun i => (i.zero, i.size, i.bytes)) = some (some z, size, bytes)) (hz : z.cells.size = size) (h0 : 0 < size) (hTE : T ≠ E)
    (hv : Boxed W B T v) (hrow : W.ownsRow n₀ E size v k xs) (hn : n₀ ≤ W.heap.size) (hB : n₀ ≤ B) (hk : (k + 1) * bytes ≤ 140737488355328) (hk2 : k + 1 ≤ maxLen) (cs : List Value) (hcs : cs.length = 1 * size) (hc1 : ∀ u ∈ cs, u.oneCell' = true) :
    ∃ A' c' w1, Hid ((Builtin.append_ #[T, T] T #[v, .slice (some ⟨W.heap.size, 0, none⟩) 1 1]).run Tryz.prog (W.alloc (.cells cs.toArray E)) = .ok (.slice A' (k + 1) c') w1) ∧
      w1.cell? ⟨B, 0, none⟩ = some v ∧ w1.frozen? ⟨B, 0, none⟩ = false ∧ Boxed (w1.setCell ⟨B, 0, none⟩ (.slice A' (k + 1) c')) B T (.slice A' (k + 1) c') ∧
      (w1.setCell ⟨B, 0, none⟩ (.slice A' (k + 1) c')).ownsRow n₀ E size (.slice A' (k + 1) c') (k + 1) (xs ++ cs) ∧ KeepsOthers W (w1.setCell ⟨B, 0, none⟩ (.slice A' (k + 1) c')) ∧ Below n₀ W (w1.setCell ⟨B, 0, none⟩ (.slice A' (k + 1) c')) ∧ (W.alloc (.cells cs.toArray E)).grownBy w1 v.ownBlock := by
  obtain ⟨i, hi, hz0, hz1, hz2⟩ := info_parts hinf
  obtain ⟨v', w1, h2, h3, h4, -⟩ := run_append_own (P := Tryz.prog) (W.alloc (.cells cs.toArray E)) n₀ T T E i z size bytes hT hi hz0 hz1 hz2 hz h0 v k xs (hrow.alloc _) ⟨W.heap.size, 0, none⟩ 1 1 cs hcs
    (new_cells W E cs) hc1 hk2 hk (by simp; omega)
  obtain ⟨g', cap', rfl⟩ := ownsRow_succ h3
  obtain ⟨a1, a2, a3, a4, a5⟩ := hv.appended hTE hrow hn hB h3 h4
  exact ⟨_, _, w1, h2, a1.cell, a1.frozen, a2, a3, a4, a5, h4⟩

/-- A tick, as the code tells it. -/
def tkc (l r a : Int) : Nat × Nat := if odd a then (cl l, up (cl r)) else (up (cl l), cl r)
theorem tkc_le (l r a : Int) : (tkc l r a).1 ≤ 1073741824 ∧ (tkc l r a).2 ≤ 1073741824 := by
  unfold tkc
  split
  · exact ⟨cl_le l, up_le _⟩
  · exact ⟨up_le _, cl_le r⟩
theorem tickL_eq (l r a : Int) : tickL l r a = (((tkc l r a).1 : Int), ((tkc l r a).2 : Int)) := by unfold tickL tkc; split <;> rfl
theorem boxed_kept {W W' : World} {row : Option Nat} {B : Nat} {t : TypeId} {v : Value} (h : Boxed W B t v) (hg : W.grownBy W' row) (hr : ∀ r, row = some r → ∃ o : Obj, W.heap[r]? = some o ∧ o.isCells = false) : Boxed W' B t v :=
  blk_kept (cs := [v]) h hg hr

/-- What Scan holds between two rounds: the author, the three results, what was scanned, what changed. -/
structure ScS (w : World) (a : Int) (q : Nat) (out : List Ent) (ch : List ByteArray) (W : World) : Prop where
  sc : ∃ v, Boxed W q 40 v ∧ W.ownsRow w.heap.size 66 5 v out.length (entV out) ∧ True
  chg : ∃ u, Boxed W (q + 1) 35 u ∧ W.ownsRow w.heap.size 9 1 u ch.length (strV ch) ∧ True
  au : Boxed W w.heap.size 3 (.int .i64 a)
  r6 : Boxed W (w.heap.size + 1) 40 (.slice none 0 0)
  r7 : Boxed W (w.heap.size + 1 + 1) 35 (.slice none 0 0)
  r8 : Boxed W (w.heap.size + 1 + 1 + 1) 27 (.int .i64 0)
  low : Below w.heap.size w W
theorem ScS.grown {w : World} {a : Int} {q : Nat} {out : List Ent} {ch : List ByteArray} {W W' : World} {row : Option Nat} (h : ScS w a q out ch W) (hg : W.grownBy W' row) (hr : ∀ r, row = some r → w.heap.size ≤ r ∧ ∃ o : Obj, W.heap[r]? = some o ∧ o.isCells = false) : ScS w a q out ch W' := by
  have hr' : ∀ r, row = some r → ∃ o : Obj, W.heap[r]? = some o ∧ o.isCells = false := fun r e => (hr r e).2
  exact ⟨holdsRow_own (β := Unit) _ _ _ _ 5 (fun _ => out.length) (fun _ => entV out) (fun _ _ => True) () W W' row h.sc hg hr', holdsRow_own (β := Unit) _ _ _ _ 1 (fun _ => ch.length) (fun _ => strV ch) (fun _ _ => True) () W W' row h.chg hg hr',
    boxed_kept h.au hg hr', boxed_kept h.r6 hg hr', boxed_kept h.r7 hg hr', boxed_kept h.r8 hg hr', ownFrom_below (β := Unit) (Nat.le_refl _) (Nat.le_refl _) () W W' row h.low hg hr⟩
theorem ScS.below {w : World} {a : Int} {q : Nat} {out : List Ent} {ch : List ByteArray} {W W' : World} (h : ScS w a q out ch W) (hb : Below W.heap.size W W') : ScS w a q out ch W' := h.grown (row := none) (grown_below hb) (by simp)
/-- A store into a block that is none of these. -/
theorem ScS.store {w : World} {a : Int} {q : Nat} {out : List Ent} {ch : List ByteArray} {W : World} (h : ScS w a q out ch W) {B : Nat} (hB : q + 1 < B) (hq : w.heap.size + 3 < q) {v : Value} (hv : Boxed W q 40 v) (hne : some B ≠ v.ownBlock) {cs : List Value} (hb : Blk W B cs 66) (i : Nat) (x : Value) : ScS w a q out ch (W.setCell ⟨B, i, none⟩ x) := by
  have hg := grown_set (w := W) (g := B) i x
  obtain ⟨v', hv', hrow, -⟩ := h.sc
  obtain ⟨u, hu, hrow2, -⟩ := h.chg
  obtain rfl : v = v' := by have := hv'.cell; rw [hv.cell] at this; injection this
  have hne2 : some B ≠ u.ownBlock := by
    intro e
    rcases hrow2.2 with ⟨rfl, -⟩ | ⟨g, cap, cur, rfl, -, hh, -⟩
    · cases e
    · injection e with e
      obtain rfl : B = g := e
      unfold Blk at hb
      rw [hb] at hh
      injection hh with hh
      injection hh with _ hh
      exact absurd hh (by decide)
  have k : ∀ {t : TypeId} {y : Value} {C : Nat}, C ≠ B → Boxed W C t y → Boxed (W.setCell ⟨B, i, none⟩ x) C t y := fun hC hb => hb.kept hg (fun e => hC (by injection e))
  exact ⟨⟨v, k (by omega) hv, hrow.kept hg (.inr (Ne.symm hne)), trivial⟩, ⟨u, k (by omega) hu, hrow2.kept hg (.inr (Ne.symm hne2)), trivial⟩, k (by omega) h.au, k (by omega) h.r6, k (by omega) h.r7, k (by omega) h.r8,
    h.low.setCell (p := ⟨B, i, none⟩) (by show w.heap.size ≤ B; omega) x⟩
theorem own_slice {W : World} {base : Nat} {e : TypeId} {sz : Nat} {v : Value} {k : Nat} {xs : List Value} (h : W.ownsRow base e sz v k xs) : ∃ A c, v = .slice A k c := by
  rcases h.2 with ⟨rfl, rfl⟩ | ⟨g, cap, cur, rfl, -⟩
  · exact ⟨none, 0, rfl⟩
  · exact ⟨_, cap, rfl⟩
/-- Rows of unlike elements lie apart. -/
theorem rows_apart {W : World} {b1 b2 : Nat} {e1 e2 : TypeId} {s1 s2 : Nat} {v1 v2 : Value} {k1 k2 : Nat} {xs1 xs2 : List Value} (h : W.ownsRow b1 e1 s1 v1 k1 xs1) (k : W.ownsRow b2 e2 s2 v2 k2 xs2) (hne : e1 ≠ e2) : v1.ownBlock = none ∨ v1.ownBlock ≠ v2.ownBlock := by
  rcases h.2 with ⟨rfl, -⟩ | ⟨g, cap, cur, rfl, -, hh, -⟩
  · exact .inl rfl
  · right
    intro e
    rcases k.2 with ⟨rfl, -⟩ | ⟨g', cap', cur', rfl, -, hh', -⟩
    · cases e
    · injection e with e
      obtain rfl : g = g' := e
      rw [hh] at hh'
      injection hh' with hh'
      injection hh' with _ hh'
      exact hne hh'
theorem boxed_one {W : World} {B : Nat} {t : TypeId} {v v' : Value} (h : Boxed W B t v) (k : Boxed W B t v') : v = v' := by have := k.cell; rw [h.cell] at this; injection this
theorem blk_row {W : World} {base : Nat} {e : TypeId} {sz : Nat} {v : Value} {k : Nat} {xs cs : List Value} {B : Nat} {t : TypeId} (h : W.ownsRow base e sz v k xs) (hB : Blk W B cs t) (hne : t ≠ e) : some B ≠ v.ownBlock := by
  intro e'
  rcases h.2 with ⟨rfl, -⟩ | ⟨g, cap, cur, rfl, -, hh, -⟩
  · cases e'
  · injection e' with e'
    obtain rfl : B = g := e'
    unfold Blk at hB
    rw [hB] at hh
    injection hh with hh
    injection hh with _ hh
    exact hne hh
/-- One more was scanned. -/
theorem ScS.app {w : World} {a : Int} {q : Nat} {out : List Ent} {ch : List ByteArray} {W : World} (h : ScS w a q out ch W) (hq : w.heap.size + 3 < q) (hk : out.length ≤ 1000000) {v : Value} (hv : Boxed W q 40 v) (z : Ent) :
    ∃ A' c' w3, Hid ((Builtin.append_ #[40, 40] 40 #[v, .slice (some ⟨W.heap.size, 0, none⟩) 1 1]).run Tryz.prog (W.alloc (.cells #[.string z.path, .bool z.has, .string z.data, .int .i64 z.l, .int .i64 z.r] 66)) = .ok (.slice A' (out.length + 1) c') w3) ∧
      w3.cell? ⟨q, 0, none⟩ = some v ∧ w3.frozen? ⟨q, 0, none⟩ = false ∧ ScS w a q (out ++ [z]) ch (w3.setCell ⟨q, 0, none⟩ (.slice A' (out.length + 1) c')) ∧ KeepsOthers W (w3.setCell ⟨q, 0, none⟩ (.slice A' (out.length + 1) c')) ∧ Below w.heap.size W (w3.setCell ⟨q, 0, none⟩ (.slice A' (out.length + 1) c')) ∧
      (∀ B cs t, Blk W B cs t → some B ≠ v.ownBlock → Blk w3 B cs t) := by
  obtain ⟨v', hv', hrow, -⟩ := h.sc
  obtain rfl := boxed_one hv hv'
  obtain ⟨u, hu, hrow2, -⟩ := h.chg
  obtain ⟨A', c', w3, hrun, c1, c2, c3, c4, c5, c6, hg⟩ := app_gen (n₀ := w.heap.size) Tryz.underlying40 Tryz.infoE rfl (by decide) (by decide) hv hrow h.low.size (by omega) (by omega) (by unfold maxLen; omega) (eV z) rfl (by intro u hu; exact entV_one [z] u (by simpa [entV] using hu))
  have kb : ∀ B cs t, Blk W B cs t → some B ≠ v.ownBlock → Blk w3 B cs t := fun B cs t hb hne => (hg.block B (by have := hb.lt; simp; omega) hne).trans (Blk.below hb ((Below.refl _ _).alloc (Nat.le_refl _) _))
  have kx : ∀ {t : TypeId} {y : Value} {C : Nat}, t ≠ 66 → C ≠ q → Boxed W C t y → Boxed (w3.setCell ⟨q, 0, none⟩ (.slice A' (out.length + 1) c')) C t y := fun ht hC hb =>
    Boxed.kept (show Boxed w3 _ _ _ from kb _ [_] _ hb (hb.not_row ht hrow)) (grownBy_setCell' _ _ _) (fun e => hC (by injection e))
  refine ⟨A', c', w3, hrun, c1, c2, ⟨⟨_, c3, ?_, trivial⟩, ⟨u, kx (by decide) (by omega) hu, ?_, trivial⟩, kx (by decide) (by omega) h.au, kx (by decide) (by omega) h.r6, kx (by decide) (by omega) h.r7, kx (by decide) (by omega) h.r8, h.low.trans c6⟩, c5, c6, kb⟩
  · simpa [entV] using c4
  · have r1 := (hrow2.alloc (.cells (eV z).toArray 66)).kept hg ((rows_apart hrow2 hrow (by decide)).imp id id)
    exact r1.kept (grownBy_setCell' _ _ _) (.inr (Ne.symm (Boxed.not_row (show Boxed w3 q 40 v from kb q [v] _ hv (hv.not_row (by decide) hrow)) (by decide) r1)))
/-- One more changed. -/
theorem ScS.appS {w : World} {a : Int} {q : Nat} {out : List Ent} {ch : List ByteArray} {W : World} (h : ScS w a q out ch W) (hq : w.heap.size + 3 < q) (hk : ch.length ≤ 1000000) {u : Value} (hu : Boxed W (q + 1) 35 u) (z : ByteArray) :
    ∃ A' c' w3, Hid ((Builtin.append_ #[35, 35] 35 #[u, .slice (some ⟨W.heap.size, 0, none⟩) 1 1]).run Tryz.prog (W.alloc (.cells #[.string z] 9)) = .ok (.slice A' (ch.length + 1) c') w3) ∧
      w3.cell? ⟨q + 1, 0, none⟩ = some u ∧ w3.frozen? ⟨q + 1, 0, none⟩ = false ∧ ScS w a q out (ch ++ [z]) (w3.setCell ⟨q + 1, 0, none⟩ (.slice A' (ch.length + 1) c')) ∧ KeepsOthers W (w3.setCell ⟨q + 1, 0, none⟩ (.slice A' (ch.length + 1) c')) ∧ Below w.heap.size W (w3.setCell ⟨q + 1, 0, none⟩ (.slice A' (ch.length + 1) c')) ∧
      (∀ B cs t, t ≠ 9 → Blk W B cs t → Blk w3 B cs t) := by
  obtain ⟨u', hu', hrow, -⟩ := h.chg
  obtain rfl := boxed_one hu hu'
  obtain ⟨v, hv, hrow2, -⟩ := h.sc
  obtain ⟨A', c', w3, hrun, c1, c2, c3, c4, c5, c6, hg⟩ := app_gen (n₀ := w.heap.size) Tryz.underlying35 Tryz.infoS rfl (by decide) (by decide) hu hrow h.low.size (by omega) (by omega) (by unfold maxLen; omega) [.string z] rfl (by simp [Value.oneCell'])
  have kb : ∀ B cs t, t ≠ 9 → Blk W B cs t → Blk w3 B cs t := fun B cs t ht hb => (hg.block B (by have := hb.lt; simp; omega) (blk_row hrow hb ht)).trans (Blk.below hb ((Below.refl _ _).alloc (Nat.le_refl _) _))
  have kx : ∀ {t : TypeId} {y : Value} {C : Nat}, t ≠ 9 → C ≠ q + 1 → Boxed W C t y → Boxed (w3.setCell ⟨q + 1, 0, none⟩ (.slice A' (ch.length + 1) c')) C t y := fun ht hC hb =>
    Boxed.kept (show Boxed w3 _ _ _ from kb _ [_] _ ht hb) (grownBy_setCell' _ _ _) (fun e => hC (by injection e))
  refine ⟨A', c', w3, hrun, c1, c2, ⟨⟨v, kx (by decide) (by omega) hv, ?_, trivial⟩, ⟨_, c3, ?_, trivial⟩, kx (by decide) (by omega) h.au, kx (by decide) (by omega) h.r6, kx (by decide) (by omega) h.r7, kx (by decide) (by omega) h.r8, h.low.trans c6⟩, c5, c6, kb⟩
  · have r1 := (hrow2.alloc (.cells [Value.string z].toArray 9)).kept hg ((rows_apart hrow2 hrow (by decide)).imp id id)
    exact r1.kept (grownBy_setCell' _ _ _) (.inr (Ne.symm (Boxed.not_row (show Boxed w3 (q + 1) 35 u from kb (q + 1) [u] _ (by decide) hu) (by decide) r1)))
  · simpa [strV] using c4
/-- Three results in their cells. -/
theorem res3 {W : World} {b : Nat} {t6 t7 t8 : TypeId} {a6 a7 a8 : Value} (q6 : Boxed W (b + 1) t6 a6) (q7 : Boxed W (b + 1 + 1) t7 a7) (q8 : Boxed W (b + 1 + 1 + 1) t8 a8) (x y z : Value) :
    Boxed (((W.setCell ⟨b + 1, 0, none⟩ x).setCell ⟨b + 1 + 1, 0, none⟩ y).setCell ⟨b + 1 + 1 + 1, 0, none⟩ z) (b + 1) t6 x ∧ Boxed (((W.setCell ⟨b + 1, 0, none⟩ x).setCell ⟨b + 1 + 1, 0, none⟩ y).setCell ⟨b + 1 + 1 + 1, 0, none⟩ z) (b + 1 + 1) t7 y ∧ Boxed (((W.setCell ⟨b + 1, 0, none⟩ x).setCell ⟨b + 1 + 1, 0, none⟩ y).setCell ⟨b + 1 + 1 + 1, 0, none⟩ z) (b + 1 + 1 + 1) t8 z := by
  have k : ∀ {W : World} {B C : Nat} {t : TypeId} {v u : Value}, C ≠ B → Boxed W C t v → Boxed (W.setCell ⟨B, 0, none⟩ u) C t v := fun hC hb => hb.kept (grownBy_setCell' _ _ _) (fun e => hC (by injection e))
  exact ⟨k (by omega) (k (by omega) (q6.set x)), k (by omega) ((k (by omega) q7).set y), (k (by omega) (k (by omega) q8)).set z⟩
theorem res3_row {W : World} {b : Nat} {t6 t7 t8 : TypeId} {a6 a7 a8 : Value} (q6 : Boxed W (b + 1) t6 a6) (q7 : Boxed W (b + 1 + 1) t7 a7) (q8 : Boxed W (b + 1 + 1 + 1) t8 a8) (x y z : Value) {base : Nat} {e : TypeId} {sz k : Nat} {v : Value} {xs : List Value} (h : W.ownsRow base e sz v k xs) (h6 : t6 ≠ e) (h7 : t7 ≠ e) (h8 : t8 ≠ e) :
    (((W.setCell ⟨b + 1, 0, none⟩ x).setCell ⟨b + 1 + 1, 0, none⟩ y).setCell ⟨b + 1 + 1 + 1, 0, none⟩ z).ownsRow base e sz v k xs := by
  have kk : ∀ {W : World} {B C : Nat} {t : TypeId} {v u : Value}, C ≠ B → Boxed W C t v → Boxed (W.setCell ⟨B, 0, none⟩ u) C t v := fun hC hb => hb.kept (grownBy_setCell' _ _ _) (fun e => hC (by injection e))
  have r1 := h.kept (grownBy_setCell' W (b + 1) x) (.inr (Ne.symm (q6.not_row h6 h)))
  have r2 := r1.kept (grownBy_setCell' _ (b + 1 + 1) y) (.inr (Ne.symm (Boxed.not_row (kk (by omega) q7) h7 r1)))
  exact r2.kept (grownBy_setCell' _ (b + 1 + 1 + 1) z) (.inr (Ne.symm (Boxed.not_row (kk (by omega) (kk (by omega) q8)) h8 r2)))
end Go.Proofs.YtaidggjnpnfdhaaGreatDoor
namespace Go.Proofs.YtaidggjnpnfdhaaGreatDoor
open Go.RowKit Go.Shelf

attribute [local go_sem] Oper.semAt_some

/-- What Scan answers. -/
def ScanPost (w : World) (es : List Ent) (fs : List Fil) (a : Int) (e : Ending) (w' : World) : Prop :=
  ∃ A' c' B' d', e = .returned (.tuple #[.slice A' (scanA es fs a).length c', .slice B' (scanC es fs a).length d', .int .i64 (scanN es fs a : Nat)]) ∧
    w'.ownsRow w.heap.size 66 5 (.slice A' (scanA es fs a).length c') (scanA es fs a).length (entV (scanA es fs a)) ∧
    w'.ownsRow w.heap.size 9 1 (.slice B' (scanC es fs a).length d') (scanC es fs a).length (strV (scanC es fs a)) ∧ Below w.heap.size w w'
theorem scan_err {w w' : World} {es : List Ent} {fs : List Fil} {a : Int} (k : Nat) (hk : scanN es fs a = k) (h0 : k ≠ 0) (hb : Below w.heap.size w w') : ScanPost w es fs a (.returned (.tuple #[.slice none 0 0, .slice none 0 0, .int .i64 (k : Nat)])) w' := by
  have e1 : scanA es fs a = [] := by unfold scanA; rw [hk, if_neg h0]
  have e2 : scanC es fs a = [] := by unfold scanC; rw [hk, if_neg h0]
  refine ⟨none, 0, none, 0, ?_, ?_, ?_, hb⟩
  · rw [e1, e2, hk]; rfl
  · rw [e1]; exact World.ownsRow_nil _ _ _ _
  · rw [e2]; exact World.ownsRow_nil _ _ _ _

end Go.Proofs.YtaidggjnpnfdhaaGreatDoor
namespace Go.Proofs.YtaidggjnpnfdhaaGreatDoor
open Go.RowKit Go.Shelf

attribute [local go_sem] Oper.semAt_some

theorem outP_more (a : Int) (ps : List (Ent × Ent)) (p : Ent × Ent) : outP a (ps ++ [p]) = outP a ps ++ [newE a p] := by simp [outP]
theorem chgP_more (ps : List (Ent × Ent)) (p : Ent × Ent) : chgP (ps ++ [p]) = chgP ps ++ (if p.2 = p.1 then [] else [p.2.path]) := by
  unfold chgP
  rw [List.filter_append, List.map_append, List.filter_cons, List.filter_nil]
  by_cases h : p.2 = p.1 <;> simp [h]
theorem chgP_len (ps : List (Ent × Ent)) : (chgP ps).length ≤ ps.length := by rw [chgP, List.length_map]; exact List.length_filter_le _ _
theorem okP_more (a : Int) (ps : List (Ent × Ent)) (p : Ent × Ent) (h : okP a ps = true) (hl : ps.length < 32) (hs : stuck a p = false) : okP a (ps ++ [p]) = true := by
  unfold okP at *
  rw [Bool.and_eq_true, decide_eq_true_eq] at *
  refine ⟨by simp; omega, ?_⟩
  rw [List.all_append, h.2]
  simp [hs]
theorem okP_len {a : Int} {ps : List (Ent × Ent)} (h : okP a ps = true) : ps.length ≤ 32 := by
  unfold okP at h
  rw [Bool.and_eq_true, decide_eq_true_eq] at h
  exact h.1
theorem okP_long {a : Int} {ps : List (Ent × Ent)} (h : 32 < ps.length) : okP a ps = false := not_true fun e => by have := okP_len e; omega
theorem okP_stuck {a : Int} {ps : List (Ent × Ent)} {p : Ent × Ent} (hp : p ∈ ps) (h : stuck a p = true) : okP a ps = false := not_true fun e => by
  unfold okP at e
  rw [Bool.and_eq_true, List.all_eq_true] at e
  have := e.2 p hp
  rw [h] at this
  cases this
theorem okP_pre {a : Int} {ps qs : List (Ent × Ent)} (h : ps <+: qs) (hb : okP a ps = false) : okP a qs = false := not_true fun e => by
  obtain ⟨r, rfl⟩ := h
  unfold okP at e hb
  rw [List.all_append, List.length_append, Bool.and_eq_true, Bool.and_eq_true, decide_eq_true_eq] at e
  rw [e.2.1, decide_eq_true (by omega)] at hb
  cases hb
theorem stuck_eq {a : Int} {p : Ent × Ent} {t1 t2 : Nat} (ht : tkc p.1.l p.1.r a = (t1, t2)) (hne : ¬ p.2 = p.1) : stuck a p = (decide ((t1 : Int) = p.1.l) && decide ((t2 : Int) = p.1.r)) := by
  unfold stuck
  rw [tickL_eq, ht, decide_eq_false hne]
  by_cases h1 : (t1 : Int) = p.1.l <;> by_cases h2 : (t2 : Int) = p.1.r <;> simp [h1, h2]
theorem newE_ne {a : Int} {p : Ent × Ent} {t1 t2 : Nat} (ht : tkc p.1.l p.1.r a = (t1, t2)) (hne : ¬ p.2 = p.1) : newE a p = ⟨p.2.path, p.2.has, p.2.data, (t1 : Int), (t2 : Int)⟩ := by unfold newE; rw [if_neg hne, tickL_eq, ht]
theorem newE_eq {a : Int} {p : Ent × Ent} (h : p.2 = p.1) : newE a p = p.2 := by unfold newE; rw [if_pos h]

end Go.Proofs.YtaidggjnpnfdhaaGreatDoor
namespace Go.Proofs.YtaidggjnpnfdhaaGreatDoor
open Go.RowKit

def fewF (f : Fil) : Bool := decide (f.1.size ≤ 100) && decide (f.2.size ≤ 1000)
def fewB (fs : List Fil) : Bool := decide (fs.length ≤ 40) && fs.all fewF
theorem few_sz {fs : List Fil} (h : fewB fs = true) : fs.length ≤ 40 ∧ ∀ f ∈ fs, f.1.size ≤ 100 ∧ f.2.size ≤ 1000 := by
  simp only [fewB, fewF, Bool.and_eq_true, decide_eq_true_eq, List.all_eq_true] at h
  exact h
theorem few_no {fs : List Fil} {j : Nat} (hj : j < fs.length) (h : fewF fs[j] = false) : false = fewB fs := by
  cases hf : fewB fs with
  | false => rfl
  | true =>
    rw [fewB, Bool.and_eq_true, List.all_eq_true] at hf
    rw [hf.2 _ (List.getElem_mem hj)] at h
    cases h

set_option maxHeartbeats 1000000 in
theorem few_any (A : Option Addr) (n c : Nat) (fs : List Fil) (w : World) (hl : fs.length = n) (hr : Rd w A (filV fs)) :
    Calls Tryz.prog 6 #[.slice A n c] w fun e w' => e = .returned (.bool (fewB fs)) ∧ w = w' := by
  have HL := hid hl
  clear hl
  by_cases h40 : (40 : Int) < n
  · go_enter Tryz.func6, Tryz.ntmps6
    go_wp2
    go_ret
    refine ⟨ret_bool ?_, rfl⟩
    symm
    refine not_true fun h => ?_
    have := (few_sz h).1
    have := HL.out
    omega
  · go_enter Tryz.func6, Tryz.ntmps6
    go_wp2_with fail
    go_loop [3] (fun i => ∃ j : Nat, j ≤ n ∧ i = .int .i64 j ∧ Hid ((fs.take j).all fewF = true)) (fun i => n - (intOf i).toNat)
    case atStart => exact ⟨0, by omega, rfl, by simp [Hid]⟩
    case round =>
      obtain ⟨j, hj, rfl, HO⟩ := hrel
      by_cases hjn : j < n
      · have hjl : j < fs.length := by rw [HL.out]; exact hjn
        obtain ⟨b, off, rfl, h1, h2, -⟩ := hr.fil hjl
        have HN := hid (@few_no fs j hjl)
        have HK := hid (all_take_more fewF fs j hjl)
        have hz : (0 : Int) ≤ j := by omega
        have hlt : (j : Int) < n := by omega
        generalize fs[j] = f at *
        obtain ⟨x, d⟩ := f
        simp only at h1 h2
        by_cases hx : (100 : Int) < x.size
        · go_wp2
          go_ret
          exact ⟨ret_bool (HN.out (by simp [fewF]; omega)), rfl⟩
        · have hxb : decide ((100 : Int) < x.size) = false := by simp; omega
          by_cases hd : (1000 : Int) < d.size
          · go_wp2
            go_ret
            exact ⟨ret_bool (HN.out (by simp [fewF]; omega)), rfl⟩
          · have hdb : decide ((1000 : Int) < d.size) = false := by simp; omega
            go_wp2
            go_round
            case rel => exact ⟨j + 1, by omega, by go_num, hid (by rw [HK.out, HO.out]; simp [fewF]; omega)⟩
            case measure => simp [intOf]; omega
      · have HE := hid (show j = n by omega)
        have hnlt : ¬ (j : Int) < n := by omega
        go_wp2
        go_ret
        refine ⟨ret_bool ?_, rfl⟩
        have ho := HO.out
        rw [HE.out, ← HL.out, List.take_length] at ho
        rw [fewB, ho, decide_eq_true (by rw [HL.out]; omega)]
        rfl
theorem few_ft {w : World} {A : Option Addr} {n c : Nat} {fs : List Fil} (hf : fewB fs = true) (hl : fs.length = n) (hr : Rd w A (filV fs)) (hc : n ≤ c) (hcm : c ≤ maxLen) : Ft w A n c fs := by
  obtain ⟨h1, h2⟩ := few_sz hf
  exact ⟨hl, hr, hc, by omega, hcm, fun f hm => by have := h2 f hm; omega⟩
theorem toList_ne {a b : ByteArray} (h : a ≠ b) : (a.toList == b.toList) = false := by
  rw [beq_eq_false_iff_ne, Lib.toList_data, Lib.toList_data]
  exact fun e => h (data_inj e)
theorem toList_eq {a b : ByteArray} (h : a = b) : (a.toList == b.toList) = true := by rw [h]; simp
end Go.Proofs.YtaidggjnpnfdhaaGreatDoor
namespace Go.Proofs.YtaidggjnpnfdhaaGreatDoor
open Go.RowKit

/-! ### What Scan answers -/
theorem newE_sz {a : Int} {p : Ent × Ent} (h : SzE p.2) : SzE (newE a p) := by unfold SzE; rw [newE_path, newE_data]; exact h
theorem scanA_sz {es : List Ent} {fs : List Fil} (a : Int) (h1 : ∀ e ∈ es, SzE e) (h2 : ∀ f ∈ fs, SzF f) : ∀ e ∈ scanA es fs a, SzE e := by
  intro e he
  unfold scanA at he
  split at he
  · obtain ⟨p, hp, rfl⟩ := List.mem_map.1 he
    exact newE_sz (both_sz h1 h2 p hp)
  · cases he
theorem scanA_len (es : List Ent) (fs : List Fil) (a : Int) : (scanA es fs a).length ≤ 32 := by
  unfold scanA
  split
  · rename_i h
    rw [outP, List.length_map]
    exact okP_len (scanN_ok.1 h).2.2
  · simp
theorem scanC_len (es : List Ent) (fs : List Fil) (a : Int) : (scanC es fs a).length ≤ 32 := by
  unfold scanC
  split
  · rename_i h
    have := okP_len (scanN_ok.1 h).2.2
    have := chgP_len (bothL es fs)
    omega
  · simp
theorem own5_et {w : World} {base : Nat} {A : Option Addr} {c : Nat} {es : List Ent} (h : w.ownsRow base 66 5 (.slice A es.length c) es.length (entV es)) (hn : es.length ≤ 1000000) (hs : ∀ e ∈ es, SzE e) : Et w A es.length c es := by
  rcases h.2 with ⟨h1, h0⟩ | ⟨g, cap, cur, h1, _, _, h2, h3, _⟩
  · injection h1 with a1 a2 a3
    subst a1 a3
    exact ⟨rfl, .inl (List.eq_nil_of_length_eq_zero (by rw [entV_length, h0])), by omega, hn, by omega, hs⟩
  · injection h1 with a1 a2 a3
    subst a1 a3
    exact ⟨rfl, .inr ⟨_, rfl, h.cells (g := g) rfl⟩, h2, hn, h3, hs⟩
/-- What Scan answers, to be read. -/
def ScanOut (w : World) (es : List Ent) (fs : List Fil) (a : Int) (e : Ending) (w' : World) : Prop :=
  ∃ A' c' B' d', e = .returned (.tuple #[.slice A' (scanA es fs a).length c', .slice B' (scanC es fs a).length d', .int .i64 (scanN es fs a : Nat)]) ∧ Et w' A' (scanA es fs a).length c' (scanA es fs a) ∧ Rd w' B' (strV (scanC es fs a)) ∧ Below w.heap.size w w'
theorem et_nil (w : World) : Et w none 0 0 [] := ⟨rfl, .inl rfl, Nat.le_refl _, by omega, by omega, by simp⟩
theorem ft_nil (w : World) : Ft w none 0 0 [] := ⟨rfl, .inl rfl, Nat.le_refl _, by omega, by omega, by simp⟩
theorem ft_one (w : World) (p d : ByteArray) (hp : p.size < 4294967281) (hd : d.size ≤ 140737488355328) : Ft (w.alloc (.cells #[.string p, .string d] 38)) (some ⟨w.heap.size, 0, none⟩) 1 1 [(p, d)] :=
  ⟨rfl, (Blk.new w [.string p, .string d] 38).rd, Nat.le_refl _, by omega, by omega, by simp; exact ⟨hp, hd⟩⟩

/-! ### Few -/
def fewE (e : Ent) : Bool := decide (e.path.size ≤ 100) && decide (e.data.size ≤ 1000)
def few9 (es : List Ent) : Bool := decide (es.length ≤ 60) && es.all fewE
theorem few9_sz {es : List Ent} (h : few9 es = true) : es.length ≤ 60 ∧ ∀ e ∈ es, e.path.size ≤ 100 ∧ e.data.size ≤ 1000 := by
  simp only [few9, fewE, Bool.and_eq_true, decide_eq_true_eq, List.all_eq_true] at h
  exact h
theorem few9_no {es : List Ent} {j : Nat} (hj : j < es.length) (h : fewE es[j] = false) : false = few9 es := by
  cases hf : few9 es with
  | false => rfl
  | true =>
    rw [few9, Bool.and_eq_true, List.all_eq_true] at hf
    rw [hf.2 _ (List.getElem_mem hj)] at h
    cases h
set_option maxHeartbeats 1000000 in
theorem few9_any (A : Option Addr) (n c : Nat) (es : List Ent) (w : World) (hl : es.length = n) (hr : Rd w A (entV es)) :
    Calls Tryz.prog 19 #[.slice A n c] w fun e w' => e = .returned (.bool (few9 es)) ∧ w = w' := by
  have HL := hid hl
  clear hl
  by_cases h60 : (60 : Int) < n
  · go_enter Tryz.func19, Tryz.ntmps19
    go_wp2
    go_ret
    refine ⟨ret_bool ?_, rfl⟩
    symm
    refine not_true fun h => ?_
    have := (few9_sz h).1
    have := HL.out
    omega
  · go_enter Tryz.func19, Tryz.ntmps19
    go_wp2_with fail
    go_loop [3] (fun i => ∃ j : Nat, j ≤ n ∧ i = .int .i64 j ∧ Hid ((es.take j).all fewE = true)) (fun i => n - (intOf i).toNat)
    case atStart => exact ⟨0, by omega, rfl, by simp [Hid]⟩
    case round =>
      obtain ⟨j, hj, rfl, HO⟩ := hrel
      by_cases hjn : j < n
      · have hjl : j < es.length := by rw [HL.out]; exact hjn
        obtain ⟨b, off, rfl, h1, -, h2, -⟩ := hr.ent hjl
        have HN := hid (@few9_no es j hjl)
        have HK := hid (all_take_more fewE es j hjl)
        have hz : (0 : Int) ≤ j := by omega
        have hlt : (j : Int) < n := by omega
        generalize es[j] = f at *
        by_cases hx : (100 : Int) < f.path.size
        · go_wp2
          go_ret
          exact ⟨ret_bool (HN.out (by simp [fewE]; omega)), rfl⟩
        · have hxb : decide ((100 : Int) < f.path.size) = false := by simp; omega
          by_cases hd : (1000 : Int) < f.data.size
          · go_wp2
            go_ret
            exact ⟨ret_bool (HN.out (by simp [fewE]; omega)), rfl⟩
          · have hdb : decide ((1000 : Int) < f.data.size) = false := by simp; omega
            go_wp2
            go_round
            case rel => exact ⟨j + 1, by omega, by go_num, hid (by rw [HK.out, HO.out]; simp [fewE]; omega)⟩
            case measure => simp [intOf]; omega
      · have HE := hid (show j = n by omega)
        have hnlt : ¬ (j : Int) < n := by omega
        go_wp2
        go_ret
        refine ⟨ret_bool ?_, rfl⟩
        have ho := HO.out
        rw [HE.out, ← HL.out, List.take_length] at ho
        rw [few9, ho, decide_eq_true (by rw [HL.out]; omega)]
        rfl
theorem few9_et {w : World} {A : Option Addr} {n c : Nat} {es : List Ent} (hf : few9 es = true) (hl : es.length = n) (hr : Rd w A (entV es)) (hc : n ≤ c) (hcm : c ≤ maxLen) : Et w A n c es := by
  obtain ⟨h1, h2⟩ := few9_sz hf
  exact ⟨hl, hr, hc, by omega, hcm, fun f hm => by have := h2 f hm; omega⟩

/-! ### The small case -/
abbrev sa : ByteArray := ⟨#[97]⟩
abbrev sb : ByteArray := ⟨#[98]⟩
abbrev s1 : ByteArray := ⟨#[49]⟩
abbrev L1 : List Ent := [⟨sa, true, s1, 1, 0⟩]
abbrev L2 : List Ent := [⟨sa, false, noS, 1, 1⟩, ⟨sb, true, noS, 0, 1⟩]
theorem smB1 : bothL [] [(sa, s1)] = [(fresh sa, kept (fresh sa) s1)] := by rw [bothL_t, bothL_nil]
theorem smB2 : bothL L1 [(sb, noS)] = [(⟨sa, true, s1, 1, 0⟩, ⟨sa, false, noS, 1, 0⟩), (fresh sb, kept (fresh sb) noS)] := by
  rw [bothL_gt (by decide) (by decide +kernel), bothL_t, bothL_nil]; rfl
theorem smB3 : bothL L2 [(sb, noS)] = [(⟨sa, false, noS, 1, 1⟩, ⟨sa, false, noS, 1, 1⟩), (⟨sb, true, noS, 0, 1⟩, ⟨sb, true, noS, 0, 1⟩)] := by
  rw [bothL_gt (by decide) (by decide +kernel), bothL_eq (by rfl), bothL_nil]; rfl
theorem smN1 : scanN [] [(sa, s1)] 0 = 0 := by rw [scanN, smB1]; decide +kernel
theorem smN2 : scanN L1 [(sb, noS)] 1 = 0 := by rw [scanN, smB2]; decide +kernel
theorem smN3 : scanN L2 [(sb, noS)] 0 = 0 := by rw [scanN, smB3]; decide +kernel
theorem smA1 : scanA [] [(sa, s1)] 0 = L1 := by rw [scanA, if_pos smN1, smB1]; decide +kernel
theorem smA2 : scanA L1 [(sb, noS)] 1 = L2 := by rw [scanA, if_pos smN2, smB2]; decide +kernel
theorem smA3 : scanA L2 [(sb, noS)] 0 = L2 := by rw [scanA, if_pos smN3, smB3]; decide +kernel
theorem smC1 : scanC [] [(sa, s1)] 0 = [sa] := by rw [scanC, if_pos smN1, smB1]; decide +kernel
theorem smC2 : scanC L1 [(sb, noS)] 1 = [sa, sb] := by rw [scanC, if_pos smN2, smB2]; decide +kernel
theorem smC3 : scanC L2 [(sb, noS)] 0 = [] := by rw [scanC, if_pos smN3, smB3]; decide +kernel
theorem smR2 : archR L2 = true := by decide +kernel
theorem smR4 : archR [⟨sa, true, noS, 0, 0⟩] = false := by decide +kernel
theorem smF2 : findE L2 sb = 1 := by decide +kernel
theorem smT2 : (treeE L2).length = 1 := by decide +kernel
end Go.Proofs.YtaidggjnpnfdhaaGreatDoor
namespace Go.Proofs.YtaidggjnpnfdhaaGreatDoor
open Go.RowKit

theorem okB_no {b : UInt8} (h : okB b = false) : ((b.toNat : Int) < 97 ∨ (122 : Int) < b.toNat) ∧ ((b.toNat : Int) < 48 ∨ (57 : Int) < b.toNat) ∧ (b.toNat : Int) ≠ 46 ∧ (b.toNat : Int) ≠ 45 := by
  simp [okB] at h
  omega
theorem okB_yes {b : UInt8} (h : okB b = true) : ((97 : Int) ≤ b.toNat ∧ (b.toNat : Int) ≤ 122) ∨ ((48 : Int) ≤ b.toNat ∧ (b.toNat : Int) ≤ 57) ∨ (b.toNat : Int) = 46 ∨ (b.toNat : Int) = 45 := by
  simp [okB] at h
  omega

set_option maxHeartbeats 2000000 in
theorem refName (s : ByteArray) (w : World) :
    Calls Tryz.prog 66 #[.string s] w fun e w' => e = .returned (.bool (nameL s.data.toList)) ∧ w = w' := by
  by_cases h1 : (s.size : Int) < 1
  · go_enter Tryz.func66, Tryz.ntmps66
    go_wp2
    go_ret
    exact ⟨ret_bool (nameL_no (by have := size_len s; omega)), rfl⟩
  by_cases h2 : (12 : Int) < s.size
  · go_enter Tryz.func66, Tryz.ntmps66
    go_wp2
    go_ret
    exact ⟨ret_bool (nameL_no (by have := size_len s; omega)), rfl⟩
  cases h3 : (s.toList == [46])
  case true =>
    have H := hid (show s.data.toList = [46] by rw [← Lib.toList_data s]; simpa using h3)
    go_enter Tryz.func66, Tryz.ntmps66
    go_wp2
    go_ret
    exact ⟨ret_bool (nameL_no (fun h => h.2.2.1 H.out)), rfl⟩
  cases h4 : (s.toList == [46, 46])
  case true =>
    have H := hid (show s.data.toList = [46, 46] by rw [← Lib.toList_data s]; simpa using h4)
    go_enter Tryz.func66, Tryz.ntmps66
    go_wp2
    go_ret
    exact ⟨ret_bool (nameL_no (fun h => h.2.2.2 H.out)), rfl⟩
  have HH := hid (show 1 ≤ s.data.toList.length ∧ s.data.toList.length ≤ 12 ∧ s.data.toList ≠ [46] ∧ s.data.toList ≠ [46, 46] by
    have hl := size_len s
    rw [Lib.toList_data s] at h3 h4
    exact ⟨by omega, by omega, by simpa using h3, by simpa using h4⟩)
  go_enter Tryz.func66, Tryz.ntmps66
  go_wp2_with fail
  go_loop [3] (fun i => ∃ j : Nat, j ≤ s.size ∧ i = .int .i64 j ∧ (s.data.toList.take j).all okB = true) (fun i => s.size - (intOf i).toNat)
  case atStart => exact ⟨0, by omega, rfl, by simp⟩
  case round =>
    obtain ⟨j, hj, rfl, hok⟩ := hrel
    by_cases hjn : j < s.size
    · have hlt : (j : Int) < s.size := by omega
      have HK := hid (take_ok s j hjn)
      have HO := hid hok
      clear hok
      obtain ⟨b, hb⟩ : ∃ b, s[j] = b := ⟨_, rfl⟩
      rw [hb] at HK
      have hyes : okB b = true → (s.data.toList.take (j + 1)).all okB = true := fun h => by rw [HK.out, HO.out, h]; rfl
      have hno : okB b = false → false = nameL s.data.toList := fun h => by
        have hk : (s.data.toList.take (j + 1)).all okB = false := by rw [HK.out, HO.out, h]; rfl
        cases hn : nameL s.data.toList with
        | false => rfl
        | true =>
          simp only [nameL, Bool.and_eq_true, List.all_eq_true] at hn
          have : (s.data.toList.take (j + 1)).all okB = true := List.all_eq_true.2 fun b hbm => hn.2 b (List.mem_of_mem_take hbm)
          rw [hk] at this
          cases this
      have HY := hid hyes
      have HN := hid hno
      clear hyes hno HK
      cases hob : okB b
      · have h5 := okB_no hob
        go_wp2
        all_goals first
          | (go_ret; exact ⟨ret_bool (HN.out hob), rfl⟩)
          | (exfalso; rename_i h; simp at h; omega)
      · have HT := HY.out hob
        clear HY HN
        rcases okB_yes hob with ⟨h5, h6⟩ | ⟨h5, h6⟩ | h5 | h5
        all_goals
          go_wp2
          go_roundw
          case rel => exact ⟨j + 1, by omega, by go_num, HT⟩
          case measure => simp [intOf]; omega
    · have e : s.size = j := by omega
      have HE := hid e
      have HO := hid hok
      have hnlt : ¬ (j : Int) < s.size := by omega
      clear e hok
      go_wp2
      go_ret
      refine ⟨ret_bool ?_, rfl⟩
      have hl := size_len s
      have ho := HO.out
      rw [← HE.out, hl, List.take_length] at ho
      have hh := HH.out
      simp only [nameL, ho, Bool.and_true]
      exact (decide_eq_true hh).symm

/-- What is cut so far: the pieces that end, and from where the last one goes on. -/
def CutInv (l : List UInt8) (j f : Nat) (done : List (List UInt8)) : Prop :=
  (j ≤ l.length ∧ f ≤ j ∧ 47 ∉ (l.drop f).take (j - f) ∧ done ++ pieces (l.drop f) = pieces l) ∨ (j = l.length + 1 ∧ done = pieces l)
theorem cut_last {l : List UInt8} {f : Nat} {done : List (List UInt8)} (h : CutInv l l.length f done) : f ≤ l.length ∧ done ++ [(l.drop f).take (l.length - f)] = pieces l := by
  rcases h with ⟨_, h2, h3, h4⟩ | ⟨h1, _⟩
  · have e : (l.drop f).take (l.length - f) = l.drop f := List.take_of_length_le (by simp)
    rw [e] at h3 ⊢
    rw [← h4, pieces_none _ h3]
    exact ⟨h2, rfl⟩
  · omega
theorem drop_at {l : List UInt8} {j f : Nat} (h : j < l.length) (hf : f ≤ j) : l.drop f = (l.drop f).take (j - f) ++ l[j] :: l.drop (j + 1) := by
  have e1 : (l.drop f).drop (j - f) = l.drop j := by rw [List.drop_drop]; congr 1; omega
  have e2 : l.drop j = l[j] :: l.drop (j + 1) := List.drop_eq_getElem_cons h
  rw [← e2, ← e1, List.take_append_drop]
theorem cut_stroke {l : List UInt8} {j f : Nat} {done : List (List UInt8)} (h : CutInv l j f done) (hj : j < l.length) (hb : l[j] = 47) :
    f ≤ j ∧ CutInv l (j + 1) (j + 1) (done ++ [(l.drop f).take (j - f)]) := by
  rcases h with ⟨_, h2, h3, h4⟩ | ⟨h1, _⟩
  · refine ⟨h2, .inl ⟨by omega, Nat.le_refl _, by simp, ?_⟩⟩
    have e := drop_at hj h2
    rw [hb] at e
    have e2 : pieces (l.drop f) = (l.drop f).take (j - f) :: pieces (l.drop (j + 1)) := by
      conv => lhs; rw [e]
      rw [pieces_app, pieces_none _ h3]
      rfl
    rw [← h4, e2]
    simp
  · omega
theorem cut_on {l : List UInt8} {j f : Nat} {done : List (List UInt8)} (h : CutInv l j f done) (hj : j < l.length) (hb : l[j] ≠ 47) : CutInv l (j + 1) f done := by
  rcases h with ⟨_, h2, h3, h4⟩ | ⟨h1, _⟩
  · refine .inl ⟨by omega, by omega, ?_, h4⟩
    have e : j + 1 - f = (j - f) + 1 := by omega
    have e2 : (l.drop f)[j - f]? = some l[j] := by rw [List.getElem?_drop, show f + (j - f) = j by omega, List.getElem?_eq_getElem hj]
    rw [e, List.take_add_one, e2]
    intro hm
    rcases List.mem_append.1 hm with hm | hm
    · exact h3 hm
    · simp at hm
      exact hb hm.symm
  · omega
theorem ba_at (s : ByteArray) (j : Nat) (h : j < s.size) : s[j] = s.data.toList[j]'(by have := size_len s; omega) := rfl

/-- A slice of pieces that the call made. -/
def CutPost (w : World) (L : List (List UInt8)) (e : Ending) (w' : World) : Prop :=
  ∃ A c, e = .returned (.slice A L.length c) ∧ Rd w' A (strV (L.map mkS)) ∧ L.length ≤ c ∧ Below w.heap.size w w'

set_option maxHeartbeats 2000000 in
theorem refCut (s : ByteArray) (w : World) (hs : s.size < 4294967281) :
    Calls Tryz.prog 65 #[.string s] w (CutPost w (pieces s.data.toList)) := by
  go_enter Tryz.func65, Tryz.ntmps65
  go_wp2_with fail
  go_loopw [3, 4, 5] (fun v f i wr => ∃ j k : Nat, ∃ done : List ByteArray, ∃ A c, i = .int .i64 j ∧ f = .int .i64 k ∧ v = .slice A done.length c ∧ done.length ≤ j ∧ j ≤ s.size + 1 ∧ wr.ownsRow w.heap.size 9 1 (.slice A done.length c) done.length (strV done) ∧ CutInv s.data.toList j k (lst done) ∧ Below w.heap.size w wr) (fun _ _ i _ => s.size + 1 - (intOf i).toNat)
  case atStart => exact ⟨0, 0, [], none, 0, rfl, rfl, rfl, Nat.le_refl _, by omega, World.ownsRow_nil _ _ _ _, .inl ⟨by omega, Nat.le_refl _, by simp, rfl⟩, Below.refl _ _⟩
  case round =>
    obtain ⟨j, k, done, A, c, rfl, rfl, rfl, hdl, hj, hown, hinv, hb⟩ := hrel
    have HI := hid hinv
    clear hinv
    by_cases hjs : j ≤ s.size
    · have hle : (j : Int) ≤ s.size := by omega
      by_cases hje : j = s.size
      · subst hje
        have HI2 := hid (show CutInv s.data.toList (s.size + 1) (s.size + 1) (lst done ++ [(s.data.toList.drop k).take (s.size - k)]) by
          have h := HI.out
          rw [size_len] at h ⊢
          exact .inr ⟨rfl, (cut_last h).2⟩)
        have hk : (k : Int) ≤ s.size := by
          have h := HI.out
          rw [size_len] at h ⊢
          have := (cut_last h).1
          omega
        clear HI
        go_wp2_with (at_builtin; refine wpApp _ rfl _ _ 35 rfl w.heap.size 9 (.string ⟨#[]⟩) 16 Tryz.underlying35 Tryz.infoS rfl A done.length c _ rfl (hown.alloc _) _ _ _ (strV [s.extract k s.size]) rfl rfl (.inr ⟨_, rfl, new_cells wr 9 _⟩) (strV_one _) (by omega) (by have := hb.size; simp; omega) (by omega) ?_)
        intro A2 c2 w2 hown2 hg2
        have hb2 : Below w.heap.size w w2 := (hb.alloc hb.size _).grown hg2 (by have := hb.size; simp; omega) (own_app_block hown)
        have hown3 : w2.ownsRow w.heap.size 9 1 (.slice A2 (done ++ [s.extract k s.size]).length c2) (done ++ [s.extract k s.size]).length (strV (done ++ [s.extract k s.size])) := by
          rw [strV_append, List.length_append]
          exact hown2
        clear hown hown2 hg2 hb
        go_wp2
        go_roundw
        case rel =>
          exact ⟨s.size + 1, s.size + 1, done ++ [s.extract k s.size], A2, c2, by go_num, by go_num, by simp, by simp; omega, by omega, hown3, by rw [lst, List.map_append, List.map_cons, List.map_nil, Lib.extract_data]; exact HI2.out, hb2⟩
        case measure => simp [intOf]
      · have hjn : j < s.size := by omega
        have hlt : (j : Int) < s.size := by omega
        have hne : ((j : Int) == (s.size : Int)) = false := by simp; omega
        have hjl : j < s.data.toList.length := by rw [← size_len]; exact hjn
        have HB := hid (ba_at s j hjn)
        obtain ⟨b, hbe⟩ : ∃ b, s[j] = b := ⟨_, rfl⟩
        rw [hbe] at HB
        by_cases h47 : b = 47
        · subst h47
          have HI2 := hid (show CutInv s.data.toList (j + 1) (j + 1) (lst done ++ [(s.data.toList.drop k).take (j - k)]) from (cut_stroke HI.out hjl HB.out.symm).2)
          have hk : (k : Int) ≤ j := by
            have := (cut_stroke HI.out hjl HB.out.symm).1
            omega
          clear HI HB
          go_wp2_with (at_builtin; refine wpApp _ rfl _ _ 35 rfl w.heap.size 9 (.string ⟨#[]⟩) 16 Tryz.underlying35 Tryz.infoS rfl A done.length c _ rfl (hown.alloc _) _ _ _ (strV [s.extract k j]) rfl rfl (.inr ⟨_, rfl, new_cells wr 9 _⟩) (strV_one _) (by omega) (by have := hb.size; simp; omega) (by omega) ?_)
          intro A2 c2 w2 hown2 hg2
          have hb2 : Below w.heap.size w w2 := (hb.alloc hb.size _).grown hg2 (by have := hb.size; simp; omega) (own_app_block hown)
          have hown3 : w2.ownsRow w.heap.size 9 1 (.slice A2 (done ++ [s.extract k j]).length c2) (done ++ [s.extract k j]).length (strV (done ++ [s.extract k j])) := by
            rw [strV_append, List.length_append]
            exact hown2
          clear hown hown2 hg2 hb
          go_wp2
          go_roundw
          case rel =>
            exact ⟨j + 1, j + 1, done ++ [s.extract k j], A2, c2, by go_num, by go_num, by simp, by simp; omega, by omega, hown3, by rw [lst, List.map_append, List.map_cons, List.map_nil, Lib.extract_data]; exact HI2.out, hb2⟩
          case measure => simp [intOf]; omega
        · have hb47 : ¬ (b.toNat : Int) = 47 := fun h => h47 (by
            have : b.toNat = 47 := by omega
            exact UInt8.toNat_inj.1 this)
          have hq : ((b.toNat : Int) == 47) = false := by simpa using hb47
          have HI2 := hid (cut_on HI.out hjl (by rw [← HB.out]; exact h47))
          clear HI HB
          go_wp2
          go_roundw
          case rel => exact ⟨j + 1, k, done, A, c, by go_num, rfl, rfl, by omega, by omega, hown, HI2.out, hb⟩
          case measure => simp [intOf]; omega
    · have hnle : ¬ (j : Int) ≤ s.size := by omega
      have HJ := hid (show j = s.size + 1 by omega)
      go_wp2
      go_ret
      have e : lst done = pieces s.data.toList := by
        rcases HI.out with ⟨h1, _⟩ | ⟨_, h2⟩
        · have := HJ.out
          rw [size_len] at this
          omega
        · exact h2
      rw [← e]
      obtain ⟨_, A', c', hv, hc, _⟩ := own_form hown
      injection hv with e1 e2 e3
      subst e1 e3
      refine ⟨A, c, by rw [lst_length]; rfl, ?_, by rw [lst_length]; exact hc, hb⟩
      rw [lst, mkS_map]
      exact Rd.of_own hown
end Go.Proofs.YtaidggjnpnfdhaaGreatDoor
namespace Go.Proofs.YtaidggjnpnfdhaaGreatDoor
open Go.RowKit

theorem all_take_step (L : List (List UInt8)) (j : Nat) (h : j < L.length) : (L.take (j + 1)).all nameL = ((L.take j).all nameL && nameL L[j]) := by
  rw [List.take_add_one, List.getElem?_eq_getElem h, List.all_append]
  simp
theorem not_fine_at {L : List (List UInt8)} {j : Nat} (h : j < L.length) (hb : nameL L[j] = false) : fineL L = false := by
  cases hf : fineL L with
  | false => rfl
  | true =>
    have := fine_all hf L[j] (List.getElem_mem h)
    rw [hb] at this
    cases this

set_option maxHeartbeats 1000000 in
theorem refRight (s : ByteArray) (w : World) (hs : s.size < 4294967281) :
    Calls Tryz.prog 48 #[.string s] w fun e w' => e = .returned (.bool (rightL s.data.toList)) ∧ Below w.heap.size w w' := by
  have c0 := refCut s w hs
  have hpl := pieces_len s.data.toList
  rw [← size_len] at hpl
  have hpos := List.length_pos_iff.2 (pieces_ne s.data.toList)
  unfold rightL
  generalize pieces s.data.toList = L at c0 hpl hpos ⊢
  go_enter Tryz.func48, Tryz.ntmps48
  go_wp2_with fail
  refine c0.mono ?_
  clear c0
  rintro e w1 ⟨A, c, rfl, hr1, hc1, hb1⟩
  by_cases h4 : (4 : Int) < L.length
  · go_wp2
    go_ret
    exact ⟨ret_bool (fine_long (by omega)).symm, hb1⟩
  go_wp2_with fail
  go_loop [4] (fun i => ∃ j : Nat, j ≤ L.length ∧ i = .int .i64 j ∧ (L.take j).all nameL = true) (fun i => L.length - (intOf i).toNat)
  case atStart => exact ⟨0, by omega, rfl, by simp⟩
  case round =>
    obtain ⟨j, hj, rfl, hok⟩ := hrel
    by_cases hjn : j < L.length
    · obtain ⟨b, off, rfl, hc, -⟩ := hr1.at_ (k := j) (by rw [strV_length, List.length_map]; exact hjn)
      have h5 : w1.cell? ⟨b, off + j, none⟩ = some (.string (mkS L[j])) := by rw [hc]; simp [strV]
      have HK := hid (all_take_step L j hjn)
      have HO := hid hok
      clear hc hok
      have hz : (0 : Int) ≤ j := by omega
      have hlt : (j : Int) < L.length := by omega
      go_wp2_with fail
      refine (refName _ _).mono ?_
      rintro e w2 ⟨he, rfl⟩
      rw [mkS_data] at he
      subst he
      cases hb : nameL L[j]
      · go_wp2
        go_ret
        exact ⟨ret_bool (not_fine_at hjn hb).symm, hb1⟩
      · go_wp2
        go_roundw
        case rel => exact ⟨j + 1, by omega, by go_num, by rw [HK.out, HO.out, hb]; rfl⟩
        case measure => simp [intOf]; omega
    · have HE := hid (show j = L.length by omega)
      have HO := hid hok
      have hnlt : ¬ (j : Int) < L.length := by omega
      clear hok
      go_wp2
      go_ret
      refine ⟨ret_bool ?_, hb1⟩
      have ho := HO.out
      rw [HE.out, List.take_length] at ho
      exact (fine_mk (by omega) (by omega) (List.all_eq_true.1 ho)).symm

theorem pre_no {s d : List UInt8} (h : s.length ≤ d.length) : Lib.hasPrefix s (d ++ [47]) = false := by
  cases hp : Lib.hasPrefix s (d ++ [47]) with
  | false => rfl
  | true =>
    have := Lib.hasPrefix_of_take s (d ++ [47])
    rw [hp] at this
    simp at this
    omega
theorem pre_at {s d : List UInt8} (h : d.length < s.length) : Lib.hasPrefix s (d ++ [47]) = (s.take d.length == d && s[d.length] == 47) := by
  rw [← Lib.hasPrefix_of_take]
  have e1 : decide ((d ++ [47]).length ≤ s.length) = true := by simp; omega
  have e2 : s.take (d ++ [47]).length = s.take d.length ++ [s[d.length]] := by
    rw [List.length_append, List.length_cons, List.length_nil, List.take_add_one, List.getElem?_eq_getElem h]
    rfl
  rw [e1, e2, Bool.true_and, Bool.eq_iff_iff]
  simp only [beq_iff_eq, Bool.and_eq_true]
  constructor
  · intro e
    have := List.append_inj' e rfl
    exact ⟨this.1, by simpa using this.2⟩
  · rintro ⟨h1, h2⟩
    rw [h1, h2]

set_option maxHeartbeats 1000000 in
theorem refUnder (s d : ByteArray) (w : World) (hs : s.size < 4294967281) (hd : d.size < 4294967281) :
    Calls Tryz.prog 49 #[.string s, .string d] w fun e w' => e = .returned (.bool (underL s.data.toList d.data.toList)) ∧ Below w.heap.size w w' := by
  have HL1 := hid (size_len s)
  have HL2 := hid (size_len d)
  go_enter Tryz.func49, Tryz.ntmps49
  go_wp2_with fail
  refine (refRight s _ hs).mono ?_
  rintro e w1 ⟨rfl, hb1⟩
  cases h1 : rightL s.data.toList
  · go_wp2
    go_ret
    exact ⟨ret_bool (by simp [underL, h1]), hb1⟩
  · go_wp2_with fail
    refine (refRight d _ hd).mono ?_
    rintro e w2 ⟨rfl, hb2⟩
    have hb2' := below2 hb1 hb2
    clear hb1 hb2
    cases h2 : rightL d.data.toList
    · go_wp2
      go_ret
      exact ⟨ret_bool (by simp [underL, h2]), hb2'⟩
    · by_cases hle : (s.size : Int) ≤ d.size
      · go_wp2
        go_ret
        exact ⟨ret_bool (by rw [underL, pre_no (by have := HL1.out; have := HL2.out; omega)]; simp), hb2'⟩
      · have hlt : d.size < s.size := by omega
        have HP := hid (pre_at (s := s.data.toList) (d := d.data.toList) (by have := HL1.out; have := HL2.out; omega))
        cases h7 : ((s.extract 0 d.size).toList == d.toList)
        · go_wp2
          go_ret
          refine ⟨ret_bool ?_, hb2'⟩
          rw [underL, h1, h2, HP.out]
          rw [Lib.toList_data, Lib.toList_data, Lib.extract_from_zero, HL2.out] at h7
          rw [h7]
          rfl
        · have hlti : (d.size : Int) < s.size := by omega
          have HB := hid (ba_at s d.size hlt)
          go_wp2
          go_ret
          refine ⟨ret_bool ?_, hb2'⟩
          rw [underL, h1, h2, HP.out]
          rw [Lib.toList_data, Lib.toList_data, Lib.extract_from_zero, HL2.out] at h7
          rw [h7, HB.out]
          have e : s.data.toList[d.size]'(by have := HL1.out; omega) = s.data.toList[d.data.toList.length]'(by have := HL1.out; have := HL2.out; omega) := by congr 1
          rw [e]
          generalize s.data.toList[d.data.toList.length]'(by have := HL1.out; have := HL2.out; omega) = b
          rw [Bool.eq_iff_iff]
          simp only [beq_iff_eq, Bool.and_self, Bool.true_and]
          constructor
          · intro h
            exact UInt8.toNat_inj.1 (show b.toNat = 47 by omega)
          · rintro rfl
            rfl
end Go.Proofs.YtaidggjnpnfdhaaGreatDoor
namespace Go.Proofs.YtaidggjnpnfdhaaGreatDoor
open Go.RowKit

set_option maxHeartbeats 1000000 in
theorem refSame {w : World} {A B : Option Addr} {n c m d : Nat} {fs gs : List Fil} (h : Ft w A n c fs) (k : Ft w B m d gs) :
    Calls Tryz.prog 10 #[.slice A n c, .slice B m d] w fun e w' => e = .returned (.bool (decide (fs = gs))) ∧ Below w.heap.size w w' := by
  have hn := h.big
  have HL := hid h.len
  have HL2 := hid k.len
  have hr := h.rd
  have hr2 := k.rd
  clear h k
  by_cases hnm : n = m
  · subst hnm
    go_enter Tryz.func10, Tryz.ntmps10
    go_wp2
    go_loopw [5] (fun i wr => ∃ j : Nat, j ≤ n ∧ i = .int .i64 j ∧ Hid (fs.take j = gs.take j) ∧ ∃ q, wr = w.drewN q) (fun i _ => n - (intOf i).toNat)
    case atStart => exact ⟨0, by omega, rfl, by simp [Hid], 0, rfl⟩
    case round =>
      obtain ⟨j, hj, rfl, HO, q, rfl⟩ := hrel
      by_cases hjn : j < n
      · have hjl : j < fs.length := by rw [HL.out]; exact hjn
        have hjl2 : j < gs.length := by rw [HL2.out]; exact hjn
        obtain ⟨b, off, rfl, h1, h2, -⟩ := hr.fil hjl
        obtain ⟨b', off', rfl, h3, h4, -⟩ := hr2.fil hjl2
        have HN := hid (@same_no fs gs j hjl hjl2)
        have HT1 := hid (show fs.take (j + 1) = fs.take j ++ [fs[j]] by rw [List.take_add_one, List.getElem?_eq_getElem hjl]; rfl)
        have HT2 := hid (show gs.take (j + 1) = gs.take j ++ [gs[j]] by rw [List.take_add_one, List.getElem?_eq_getElem hjl2]; rfl)
        have hz : (0 : Int) ≤ j := by omega
        have hlt : (j : Int) < n := by omega
        have hneq : ∀ w, (binOp .neq 38 (.agg #[.string fs[j].1, .string fs[j].2]) (.agg #[.string gs[j].1, .string gs[j].2])).run Tryz.prog w = .ok (.bool (!decide (fs[j] = gs[j]))) w := neqF fs[j] gs[j]
        generalize fs[j] = f at *
        generalize gs[j] = g at *
        by_cases hfg : f = g
        · rw [decide_eq_true hfg] at hneq
          have HFG := hid hfg
          clear hfg
          go_wp2_with fail
          go_quiet (fail)
          go_wp2
          go_roundw
          case rel => exact ⟨j + 1, by omega, by go_num, hid (by rw [HT1.out, HT2.out, HO.out, HFG.out]), _, rfl⟩
          case measure => simp [intOf]; omega
        · rw [decide_eq_false hfg] at hneq
          have HFG := hid hfg
          clear hfg
          go_wp2_with fail
          go_quiet (fail)
          go_wp2
          go_ret
          exact ⟨ret_bool (decide_eq_false (HN.out HFG.out)).symm, below_drewN (below_drewN (Below.refl _ _) _) _⟩
      · have HE := hid (show j = n by omega)
        have hnlt : ¬ (j : Int) < n := by omega
        go_wp2
        go_ret
        refine ⟨ret_bool ?_, below_drewN (Below.refl _ _) _⟩
        have ho := HO.out
        have e1 := HE.out
        rw [e1, List.take_of_length_le (by rw [HL.out]; omega), List.take_of_length_le (by rw [HL2.out]; omega)] at ho
        exact (decide_eq_true ho).symm
  · have hnz : ¬ (n : Int) = m := by omega
    go_enter Tryz.func10, Tryz.ntmps10
    go_wp2
    go_ret
    refine ⟨ret_bool ?_, Below.refl _ _⟩
    refine (decide_eq_false ?_).symm
    intro e
    subst e
    exact hnm (by rw [← HL.out, HL2.out])

set_option maxHeartbeats 400000 in
theorem refSize {w : World} {A : Option Addr} {n c : Nat} {fs : List Fil} (h : Ft w A n c fs) (hs : sizeT fs ≤ 140737488355328) :
    Calls Tryz.prog 30 #[.slice A n c] w fun e w' => e = .returned (.int .i64 (sizeT fs : Nat)) ∧ Below w.heap.size w w' := by
  have hn := h.big
  have HL := hid h.len
  have hr := h.rd
  clear h
  go_enter Tryz.func30, Tryz.ntmps30
  go_wp2_with fail
  go_loopw [3, 4] (fun s i wr => ∃ j : Nat, j ≤ n ∧ i = .int .i64 j ∧ s = .int .i64 (sizeT (fs.take j) : Nat) ∧ Below w.heap.size w wr) (fun _ i _ => n - (intOf i).toNat)
  case atStart => exact ⟨0, by omega, rfl, rfl, Below.refl _ _⟩
  case round =>
    obtain ⟨j, hj, rfl, rfl, hb⟩ := hrel
    by_cases hjn : j < n
    · have hjl : j < fs.length := by rw [HL.out]; exact hjn
      have hr1 := hr.below hb
      obtain ⟨b, off, rfl, h1, h2, -⟩ := hr1.fil hjl
      have HM := hid (size_more fs j hjl)
      have hp1 := size_part fs (j + 1)
      rw [HM.out] at hp1
      have hz : (0 : Int) ≤ j := by omega
      have hlt : (j : Int) < n := by omega
      clear hr1
      generalize fs[j] = f at *
      generalize sizeT (fs.take j) = s at *
      go_wp2
      go_roundw
      case rel => exact ⟨j + 1, by omega, by go_num, by rw [HM.out]; go_num, hb⟩
      case measure => simp [intOf]; omega
    · have HE := hid (show j = n by omega)
      have hnlt : ¬ (j : Int) < n := by omega
      go_wp2
      go_ret
      refine ⟨ret_int ?_, hb⟩
      rw [HE.out, ← HL.out, List.take_length]

/-- Where a path stands, in a tree that rises. -/
def posT (fs : List Fil) (p : List UInt8) : Int := if thereT fs p then ((lowT fs p).length : Int) else -1
theorem pos_at {fs : List Fil} {p : List UInt8} (hs : Srt fs) {j : Nat} (hj : j < fs.length) (e : pth fs[j] = p) : posT fs p = j := by
  have ht : thereT fs p = true := there_iff.2 ⟨fs[j], List.getElem_mem hj, e⟩
  obtain ⟨hl, e2⟩ := (there_at hs).1 ht
  rw [posT, if_pos ht]
  have hp := List.pairwise_iff_getElem.1 hs
  generalize (lowT fs p).length = k at *
  rcases Nat.lt_trichotomy k j with h | h | h
  · have h1 := hp k j hl hj h
    rw [e2, e] at h1
    exact absurd h1 (List.lt_irrefl _)
  · rw [h]
  · have h1 := hp j k hj hl h
    rw [e2, e] at h1
    exact absurd h1 (List.lt_irrefl _)

set_option maxHeartbeats 400000 in
theorem refPos {w : World} {A : Option Addr} {n c : Nat} {fs : List Fil} (h : Ft w A n c fs) (hs : Srt fs) (p : ByteArray) :
    Calls Tryz.prog 50 #[.slice A n c, .string p] w fun e w' => e = .returned (.int .i64 (posT fs p.data.toList)) ∧ w = w' := by
  have hn := h.big
  have HL := hid h.len
  have hr := h.rd
  have HS := hid hs
  clear h hs
  go_enter Tryz.func50, Tryz.ntmps50
  go_wp2_with fail
  go_loop [5] (fun i => ∃ j : Nat, j ≤ n ∧ i = .int .i64 j ∧ Hid (∀ k (hk : k < fs.length), k < j → pth fs[k] ≠ p.data.toList)) (fun i => n - (intOf i).toNat)
  case atStart => exact ⟨0, by omega, rfl, hid (fun k _ hk => absurd hk (by omega))⟩
  case round =>
    obtain ⟨j, hj, rfl, HO⟩ := hrel
    by_cases hjn : j < n
    · have hjl : j < fs.length := by rw [HL.out]; exact hjn
      obtain ⟨b, off, rfl, h1, -, -⟩ := hr.fil hjl
      have hz : (0 : Int) ≤ j := by omega
      have hlt : (j : Int) < n := by omega
      by_cases he : fs[j].1 = p
      · have hb := toList_eq he
        have HP := hid (pos_at HS.out hjl (show fs[j].1.data.toList = p.data.toList by rw [he]))
        clear he
        generalize fs[j].1 = x at *
        go_wp2
        go_ret
        exact ⟨ret_int HP.out.symm, rfl⟩
      · have hb := toList_ne he
        have HP := hid (show pth fs[j] ≠ p.data.toList from fun e => he (data_inj e))
        clear he
        have HX := hid (rfl : fs[j].1 = fs[j].1)
        generalize fs[j].1 = x at h1 hb
        go_wp2
        go_round
        case rel =>
          refine ⟨j + 1, by omega, by go_num, hid (fun k hk hkj => ?_)⟩
          by_cases e : k = j
          · subst e; exact HP.out
          · exact HO.out k hk (by omega)
        case measure => simp [intOf]; omega
    · have HE := hid (show j = n by omega)
      have hnlt : ¬ (j : Int) < n := by omega
      go_wp2
      go_ret
      refine ⟨ret_int ?_, rfl⟩
      have ht : thereT fs p.data.toList = false := there_no.2 fun f hf => by
        obtain ⟨k, hk, rfl⟩ := List.mem_iff_getElem.1 hf
        exact HO.out k hk (by have h1 := HE.out; have h2 := HL.out; omega)
      rw [posT, ht]
      rfl
end Go.Proofs.YtaidggjnpnfdhaaGreatDoor
namespace Go.Proofs.YtaidggjnpnfdhaaGreatDoor
open Go.RowKit

def ltAt (fs : List Fil) (j : Nat) (hj : j < fs.length) : Prop := ∀ _ : 0 < j, pth fs[j - 1] < pth fs[j]
theorem lt_none {fs : List Fil} {j : Nat} (hj : j < fs.length) : ¬ 0 < j → ltAt fs j hj := fun h0 h => absurd h h0
def okAt (fs : List Fil) (i : Nat) (hi : i < fs.length) : Prop :=
  rightL (pth fs[i]) = true ∧ fs[i].2.size ≤ 600 ∧ (∀ _ : 0 < i, pth fs[i - 1] < pth fs[i]) ∧ ∀ k (hk : k < i), underL (pth fs[i]) (pth (fs[k]'(by omega))) = false
theorem tree_bad {fs : List Fil} (h : treeR fs = true) (i : Nat) (hi : i < fs.length) : okAt fs i hi := by
  have hR := (treeR_iff fs).1 h
  have hs := List.pairwise_iff_getElem.1 hR.srt
  exact ⟨hR.paths _ (List.getElem_mem hi), hR.datas _ (List.getElem_mem hi), fun h0 => hs (i - 1) i (by omega) hi (by omega), fun k hk => hR.apart _ (List.getElem_mem hi) _ (List.getElem_mem _)⟩
theorem tree_good {fs : List Fil} (h16 : fs.length ≤ 16) (h : ∀ i (hi : i < fs.length), okAt fs i hi) : treeR fs = true := by
  have hl : (fs.map pth).length = fs.length := by simp
  have e : ∀ i (hi : i < fs.length), (fs.map pth).getD i [] = pth fs[i] := fun i hi => by simp [List.getD, hi]
  unfold treeR
  rw [Bool.and_eq_true, Bool.and_eq_true, Bool.and_eq_true, decide_eq_true_eq]
  refine ⟨⟨⟨h16, List.all_eq_true.2 fun f hf => ?_⟩, List.all_eq_true.2 fun i hi => ?_⟩, (apart_idx _).2 fun i k hik hk => ?_⟩
  · obtain ⟨i, hi, rfl⟩ := List.mem_iff_getElem.1 hf
    exact decide_eq_true (h i hi).2.1
  · have hi' : i < fs.length := by rw [← hl]; exact List.mem_range.1 hi
    unfold srtAt
    rw [Bool.and_eq_true, Bool.or_eq_true, e i hi']
    refine ⟨(h i hi').1, ?_⟩
    by_cases h0 : i = 0
    · left; simp [h0]
    · right
      rw [e (i - 1) (by omega), less_iff]
      exact (h i hi').2.2.1 (by omega)
  · rw [List.getElem_map, List.getElem_map]
    exact (h k (by rw [← hl]; exact hk)).2.2.2 i hik

set_option maxHeartbeats 4000000 in
set_option maxRecDepth 10000 in
theorem refTree {w : World} {A : Option Addr} {n c : Nat} {fs : List Fil} (h : Ft w A n c fs) :
    Calls Tryz.prog 27 #[.slice A n c] w fun e w' => e = .returned (.bool (treeR fs)) ∧ Below w.heap.size w w' := by
  have HL := hid h.len
  have HS := hid h.sz
  have hr := h.rd
  clear h
  by_cases h16 : (16 : Int) < n
  · go_enter Tryz.func27, Tryz.ntmps27
    go_wp2
    go_ret
    refine ⟨ret_bool ?_, Below.refl _ _⟩
    symm
    refine treeR_no fun h => ?_
    have h1 := h.few
    have h2 := HL.out
    omega
  · have hn16 : n ≤ 16 := by omega
    go_enter Tryz.func27, Tryz.ntmps27
    go_wp2_with fail
    go_loopw [3] (fun i wr => ∃ j : Nat, j ≤ n ∧ i = .int .i64 j ∧ Hid (∀ i (hi : i < fs.length), i < j → okAt fs i hi) ∧ Below w.heap.size w wr) (fun i _ => n - (intOf i).toNat)
    case atStart => exact ⟨0, by omega, rfl, hid (fun i _ h => absurd h (by omega)), Below.refl _ _⟩
    case round =>
      obtain ⟨j, hj, rfl, HO, hb⟩ := hrel
      by_cases hjn : j < n
      · have hjl : j < fs.length := by rw [HL.out]; exact hjn
        have hr1 := hr.below hb
        obtain ⟨b, off, rfl, h1, h2, -⟩ := hr1.fil hjl
        have hz : (0 : Int) ≤ j := by omega
        have hlt : (j : Int) < n := by omega
        have hsx := (HS.out fs[j] (List.getElem_mem hjl)).1
        obtain ⟨x, hx⟩ : ∃ x, fs[j].1 = x := ⟨_, rfl⟩
        obtain ⟨d, hd⟩ : ∃ d, fs[j].2 = d := ⟨_, rfl⟩
        have HX := hid hx
        have HD := hid hd
        rw [hx] at h1 hsx
        rw [hd] at h2
        clear hx hd hr1
        go_wp2_with fail
        refine (refRight x _ hsx).mono ?_
        rintro e w2 ⟨rfl, hb2⟩
        have k1 := (hb2.cell (p := ⟨b, off + j * 2, none⟩) (World.block_lt_of_cell? _ _ h1)).trans h1
        have k2 := (hb2.cell (p := ⟨b, off + j * 2 + 1, none⟩) (World.block_lt_of_cell? _ _ h2)).trans h2
        have b2 := below2 hb hb2
        have hr2 := hr.below b2
        clear h1 h2 hb hb2
        cases hf : rightL x.data.toList
        · have HF := hid hf
          clear hf
          go_wp2_with fail
          go_quiet (fail)
          go_wp2
          go_ret
          refine ⟨ret_bool ?_, below_drewN b2 _⟩
          symm
          refine not_true fun hT => ?_
          have := (tree_bad hT j hjl).1
          rw [pth, HX.out, HF.out] at this
          cases this
        · have HF := hid hf
          clear hf
          by_cases hd6 : (600 : Int) < d.size
          · go_wp2_with fail
            go_quiet (fail)
            go_wp2
            go_ret
            refine ⟨ret_bool ?_, below_drewN b2 _⟩
            symm
            refine not_true fun hT => ?_
            have := (tree_bad hT j hjl).2.1
            rw [HD.out] at this
            omega
          · have hd6b : decide ((600 : Int) < d.size) = false := by simp; omega
            by_cases hj0 : 0 < j
            · have hj0z : (0 : Int) < j := by omega
              have hjl2 : j - 1 < fs.length := by omega
              obtain ⟨b', off', he, k3, -, -⟩ := hr2.fil hjl2
              injection he with he
              injection he with he1 he2
              subst he1 he2
              obtain ⟨y, hy⟩ : ∃ y, fs[j - 1].1 = y := ⟨_, rfl⟩
              have HY := hid hy
              rw [hy] at k3
              clear hy
              have hj1 : ((j : Int) - 1) = ((j - 1 : Nat) : Int) := by omega
              have hj1z : (0 : Int) ≤ (j - 1 : Nat) := by omega
              have hj1n : ((j - 1 : Nat) : Int) < n := by omega
              have hfl := less_flip y.data.toList x.data.toList
              cases hls : Op.bytesLess y.data.toList x.data.toList
              · rw [hls] at hfl
                rw [← Lib.toList_data, ← Lib.toList_data] at hfl
                have HLS := hid hls
                clear hls
                go_wp2_with fail
                go_quiet (fail)
                go_wp2
                go_ret
                refine ⟨ret_bool ?_, below_drewN b2 _⟩
                symm
                refine not_true fun hT => ?_
                have := (tree_bad hT j hjl).2.2.1 hj0
                rw [show pth fs[j - 1] = y.data.toList by rw [pth, HY.out], show pth fs[j] = x.data.toList by rw [pth, HX.out], ← less_iff, HLS.out] at this
                cases this
              · rw [hls] at hfl
                rw [← Lib.toList_data, ← Lib.toList_data] at hfl
                have HLT := hid (show ∀ _ : 0 < j, pth fs[j - 1] < pth fs[j] from fun _ => by
                  rw [show pth fs[j - 1] = y.data.toList by rw [pth, HY.out], show pth fs[j] = x.data.toList by rw [pth, HX.out], ← less_iff]
                  exact hls)
                clear hls
                go_wp2_with fail
                go_quiet (fail)
                clear k1 k2 k3 hr2 hj1 hj1z hj1n hfl hd6b
                go_wp2_with fail
                go_loopw [5] (fun v wx => ∃ k : Nat, k ≤ j ∧ v = .int .i64 k ∧ Hid (∀ i (hi : i < fs.length), i < k → underL x.data.toList (pth fs[i]) = false) ∧ Below w.heap.size w wx) (fun v _ => j - (intOf v).toNat)
                case atStart => exact ⟨0, by omega, rfl, hid (fun i _ h => absurd h (by omega)), below_drewN b2 _⟩
                case round =>
                  clear b2
                  obtain ⟨k, hk, rfl, HU, hb4⟩ := hrel
                  by_cases hkj : k < j
                  · have hkl : k < fs.length := by omega
                    have hr4 := hr.below hb4
                    obtain ⟨b', off', he, m1, -, -⟩ := hr4.fil hjl
                    injection he with he
                    injection he with he1 he2
                    subst he1 he2
                    obtain ⟨b', off', he, m2, -, -⟩ := hr4.fil hkl
                    injection he with he
                    injection he with he1 he2
                    subst he1 he2
                    rw [HX.out] at m1
                    have hsy := (HS.out fs[k] (List.getElem_mem hkl)).1
                    obtain ⟨y, hy⟩ : ∃ y, fs[k].1 = y := ⟨_, rfl⟩
                    have HYY := hid hy
                    rw [hy] at m2 hsy
                    clear hy hr4
                    have hkz : (0 : Int) ≤ k := by omega
                    have hkz1 : (k : Int) < j := by omega
                    have hkz2 : (k : Int) < n := by omega
                    go_wp2_with fail
                    refine wp_region_held_drew (S := fun w' => w'.cell? ⟨b, off + j * 2, none⟩ = some (.string x) ∧ w'.cell? ⟨b, off + k * 2, none⟩ = some (.string y)) (by kernel_rfl) ⟨m1, m2⟩ (fun hHeld => ?_)
                    refine wpAnyH_take (i := 0) (oi := ⟨_, _, _, _, _, _⟩) (v := ?_) rfl (by kernel_rfl) (by kernel_rfl) (by kernel_rfl) (fun _ _ _ h => h) (Or.inl ⟨by rfl, ?_⟩) (by assumption) ?_
                    rotate_left
                    · intro w hSw; (try dsimp only at hSw); go_simp; (try (with_reducible rfl))
                    try simp only [Act.put, List.setIfInBounds_toArray, List.set_cons_zero, List.set_cons_succ]
                    refine wpAnyH_take (i := 1) (oi := ⟨_, _, _, _, _, _⟩) (v := ?_) rfl (by kernel_rfl) (by kernel_rfl) (by kernel_rfl) (fun _ _ _ h => h) (Or.inl ⟨by rfl, ?_⟩) (by assumption) ?_
                    rotate_left
                    · intro w hSw; (try dsimp only at hSw); go_simp; (try (with_reducible rfl))
                    try simp only [Act.put, List.setIfInBounds_toArray, List.set_cons_zero, List.set_cons_succ]
                    refine wpAnyH_take (i := 2) (oi := ⟨_, _, _, _, _, _⟩) (v := ?_) rfl (by kernel_rfl) (by kernel_rfl) (by kernel_rfl) (fun _ _ _ h => h) (Or.inl ⟨by rfl, ?_⟩) (by assumption) ?_
                    rotate_left
                    · intro w hSw; (try dsimp only at hSw); go_simp; (try (with_reducible rfl))
                    try simp only [Act.put, List.setIfInBounds_toArray, List.set_cons_zero, List.set_cons_succ]
                    refine wpAnyH_take (i := 3) (oi := ⟨_, _, _, _, _, _⟩) (v := ?_) rfl (by kernel_rfl) (by kernel_rfl) (by kernel_rfl) (fun _ _ _ h => h) (Or.inl ⟨by rfl, ?_⟩) (by assumption) ?_
                    rotate_left
                    · intro w hSw; (try dsimp only at hSw); go_simp; (try (with_reducible rfl))
                    try simp only [Act.put, List.setIfInBounds_toArray, List.set_cons_zero, List.set_cons_succ]
                    refine wpAnyH_take (i := 4) (oi := ⟨_, _, _, _, _, _⟩) (v := ?_) rfl (by kernel_rfl) (by kernel_rfl) (by kernel_rfl) (fun _ _ _ h => h) (Or.inl ⟨by rfl, ?_⟩) (by assumption) ?_
                    rotate_left
                    · intro w hSw; (try dsimp only at hSw); go_simp; (try (with_reducible rfl))
                    try simp only [Act.put, List.setIfInBounds_toArray, List.set_cons_zero, List.set_cons_succ]
                    refine wpAnyH_take (i := 5) (oi := ⟨_, _, _, _, _, _⟩) (v := ?_) rfl (by kernel_rfl) (by kernel_rfl) (by kernel_rfl) (fun _ _ _ h => h) (Or.inl ⟨by rfl, ?_⟩) (by assumption) ?_
                    rotate_left
                    · intro w hSw; (try dsimp only at hSw); go_simp; (try (with_reducible rfl))
                    try simp only [Act.put, List.setIfInBounds_toArray, List.set_cons_zero, List.set_cons_succ]
                    refine wpAnyH_take (i := 6) (oi := ⟨_, _, _, _, _, _⟩) (v := ?_) rfl (by kernel_rfl) (by kernel_rfl) (by kernel_rfl) (fun _ _ _ h => h) (Or.inl ⟨by rfl, ?_⟩) (by assumption) ?_
                    rotate_left
                    · intro w hSw; (try dsimp only at hSw); go_simp; (try (with_reducible rfl))
                    try simp only [Act.put, List.setIfInBounds_toArray, List.set_cons_zero, List.set_cons_succ]
                    refine wpAnyH_take (i := 7) (oi := ⟨_, _, _, _, _, _⟩) (v := ?_) rfl (by kernel_rfl) (by kernel_rfl) (by kernel_rfl) (fun _ _ _ h => h) (Or.inl ⟨by rfl, ?_⟩) (by assumption) ?_
                    rotate_left
                    · intro w hSw; (try dsimp only at hSw); go_simp; (try (with_reducible rfl))
                    try simp only [Act.put, List.setIfInBounds_toArray, List.set_cons_zero, List.set_cons_succ]
                    refine wpAnyH_take (i := 8) (oi := ⟨_, _, _, _, _, _⟩) (v := ?_) rfl (by kernel_rfl) (by kernel_rfl) (by kernel_rfl) (fun _ _ _ h => h) (Or.inl ⟨by rfl, ?_⟩) (by assumption) ?_
                    rotate_left
                    · intro w hSw; (try dsimp only at hSw); go_simp; (try (with_reducible rfl))
                    try simp only [Act.put, List.setIfInBounds_toArray, List.set_cons_zero, List.set_cons_succ]
                    refine wpAnyH_take (i := 9) (oi := ⟨_, _, _, _, _, _⟩) (v := ?_) rfl (by kernel_rfl) (by kernel_rfl) (by kernel_rfl) (fun _ _ _ h => h) (Or.inl ⟨by rfl, ?_⟩) (by assumption) ?_
                    rotate_left
                    · intro w hSw; (try dsimp only at hSw); go_simp; (try (with_reducible rfl))
                    try simp only [Act.put, List.setIfInBounds_toArray, List.set_cons_zero, List.set_cons_succ]
                    refine wpAnyH_ready (rs := [10]) (by kernel_rfl) (by simp) ?_
                    refine AllReadyH.cons (o := ⟨_, _, _, _, _, _⟩) rfl (fun K hK => ?_) AllReadyH.nil
                    go_simp
                    refine (refUnder x y _ hsx hsy).mono ?_
                    rintro e w5 ⟨rfl, hb5⟩
                    have n1 := (hb5.cell (p := ⟨b, off + j * 2, none⟩) (World.block_lt_of_cell? _ _ m1)).trans m1
                    have n2 := (hb5.cell (p := ⟨b, off + k * 2, none⟩) (World.block_lt_of_cell? _ _ m2)).trans m2
                    have b5 := hb4.drew.trans (hb5.mono hb4.drew.size)
                    refine hK.out _ _ ⟨n1, n2⟩ (fun hHeld => ?_)
                    clear hK K
                    try simp only [Act.put, List.setIfInBounds_toArray, List.set_cons_zero, List.set_cons_succ]
                    refine wpAnyH_done (by kernel_rfl) ?_ _
                    cases hu : underL x.data.toList y.data.toList
                    · have HUU := hid hu
                      clear hu hHeld
                      go_wp2
                      go_roundw
                      case rel =>
                        refine ⟨k + 1, by omega, by go_num, hid (fun i hi hik => ?_), b5⟩
                        by_cases e : i = k
                        · subst e
                          rw [pth, HYY.out]
                          exact HUU.out
                        · exact HU.out i hi (by omega)
                      case measure => simp [intOf]; omega
                    · have HUU := hid hu
                      clear hu hHeld
                      go_wp2
                      go_ret
                      refine ⟨ret_bool ?_, b5⟩
                      symm
                      refine not_true fun hT => ?_
                      have := (tree_bad hT j hjl).2.2.2 k hkj
                      rw [show pth fs[k] = y.data.toList by rw [pth, HYY.out], show pth fs[j] = x.data.toList by rw [pth, HX.out], HUU.out] at this
                      cases this
                  · have hnk : ¬ (k : Int) < j := by omega
                    go_wp2
                    go_roundw
                    case rel =>
                      refine ⟨j + 1, by omega, by go_num, hid (fun i hi hij => ?_), hb4⟩
                      by_cases e : i = j
                      · subst e
                        refine ⟨by rw [pth, HX.out]; exact HF.out, by rw [HD.out]; omega, HLT.out, fun q hq => ?_⟩
                        rw [show pth fs[i] = x.data.toList by rw [pth, HX.out]]
                        exact HU.out q (by omega) (by omega)
                      · exact HO.out i hi (by omega)
                    case measure => simp [intOf]; omega
            · have HLT := hid (lt_none hjl hj0)
              have hj0b : decide ((0 : Int) < j) = false := by simp; omega
              have hj0n : ¬ (0 : Int) < j := by omega
              have hj0c : decide (0 < j) = false := decide_eq_false hj0
              clear hj0
              go_wp2_with fail
              go_quiet (fail)
              clear k1 k2 hr2 hd6b hj0b hj0n hj0c
              go_wp2_with fail
              go_loopw [5] (fun v wx => ∃ k : Nat, k ≤ j ∧ v = .int .i64 k ∧ Hid (∀ i (hi : i < fs.length), i < k → underL x.data.toList (pth fs[i]) = false) ∧ Below w.heap.size w wx) (fun v _ => j - (intOf v).toNat)
              case atStart => exact ⟨0, by omega, rfl, hid (fun i _ h => absurd h (by omega)), below_drewN b2 _⟩
              case round =>
                clear b2
                obtain ⟨k, hk, rfl, HU, hb4⟩ := hrel
                by_cases hkj : k < j
                · have hkl : k < fs.length := by omega
                  have hr4 := hr.below hb4
                  obtain ⟨b', off', he, m1, -, -⟩ := hr4.fil hjl
                  injection he with he
                  injection he with he1 he2
                  subst he1 he2
                  obtain ⟨b', off', he, m2, -, -⟩ := hr4.fil hkl
                  injection he with he
                  injection he with he1 he2
                  subst he1 he2
                  rw [HX.out] at m1
                  have hsy := (HS.out fs[k] (List.getElem_mem hkl)).1
                  obtain ⟨y, hy⟩ : ∃ y, fs[k].1 = y := ⟨_, rfl⟩
                  have HYY := hid hy
                  rw [hy] at m2 hsy
                  clear hy hr4
                  have hkz : (0 : Int) ≤ k := by omega
                  have hkz1 : (k : Int) < j := by omega
                  have hkz2 : (k : Int) < n := by omega
                  go_wp2_with fail
                  refine wp_region_held_drew (S := fun w' => w'.cell? ⟨b, off + j * 2, none⟩ = some (.string x) ∧ w'.cell? ⟨b, off + k * 2, none⟩ = some (.string y)) (by kernel_rfl) ⟨m1, m2⟩ (fun hHeld => ?_)
                  refine wpAnyH_take (i := 0) (oi := ⟨_, _, _, _, _, _⟩) (v := ?_) rfl (by kernel_rfl) (by kernel_rfl) (by kernel_rfl) (fun _ _ _ h => h) (Or.inl ⟨by rfl, ?_⟩) (by assumption) ?_
                  rotate_left
                  · intro w hSw; (try dsimp only at hSw); go_simp; (try (with_reducible rfl))
                  try simp only [Act.put, List.setIfInBounds_toArray, List.set_cons_zero, List.set_cons_succ]
                  refine wpAnyH_take (i := 1) (oi := ⟨_, _, _, _, _, _⟩) (v := ?_) rfl (by kernel_rfl) (by kernel_rfl) (by kernel_rfl) (fun _ _ _ h => h) (Or.inl ⟨by rfl, ?_⟩) (by assumption) ?_
                  rotate_left
                  · intro w hSw; (try dsimp only at hSw); go_simp; (try (with_reducible rfl))
                  try simp only [Act.put, List.setIfInBounds_toArray, List.set_cons_zero, List.set_cons_succ]
                  refine wpAnyH_take (i := 2) (oi := ⟨_, _, _, _, _, _⟩) (v := ?_) rfl (by kernel_rfl) (by kernel_rfl) (by kernel_rfl) (fun _ _ _ h => h) (Or.inl ⟨by rfl, ?_⟩) (by assumption) ?_
                  rotate_left
                  · intro w hSw; (try dsimp only at hSw); go_simp; (try (with_reducible rfl))
                  try simp only [Act.put, List.setIfInBounds_toArray, List.set_cons_zero, List.set_cons_succ]
                  refine wpAnyH_take (i := 3) (oi := ⟨_, _, _, _, _, _⟩) (v := ?_) rfl (by kernel_rfl) (by kernel_rfl) (by kernel_rfl) (fun _ _ _ h => h) (Or.inl ⟨by rfl, ?_⟩) (by assumption) ?_
                  rotate_left
                  · intro w hSw; (try dsimp only at hSw); go_simp; (try (with_reducible rfl))
                  try simp only [Act.put, List.setIfInBounds_toArray, List.set_cons_zero, List.set_cons_succ]
                  refine wpAnyH_take (i := 4) (oi := ⟨_, _, _, _, _, _⟩) (v := ?_) rfl (by kernel_rfl) (by kernel_rfl) (by kernel_rfl) (fun _ _ _ h => h) (Or.inl ⟨by rfl, ?_⟩) (by assumption) ?_
                  rotate_left
                  · intro w hSw; (try dsimp only at hSw); go_simp; (try (with_reducible rfl))
                  try simp only [Act.put, List.setIfInBounds_toArray, List.set_cons_zero, List.set_cons_succ]
                  refine wpAnyH_take (i := 5) (oi := ⟨_, _, _, _, _, _⟩) (v := ?_) rfl (by kernel_rfl) (by kernel_rfl) (by kernel_rfl) (fun _ _ _ h => h) (Or.inl ⟨by rfl, ?_⟩) (by assumption) ?_
                  rotate_left
                  · intro w hSw; (try dsimp only at hSw); go_simp; (try (with_reducible rfl))
                  try simp only [Act.put, List.setIfInBounds_toArray, List.set_cons_zero, List.set_cons_succ]
                  refine wpAnyH_take (i := 6) (oi := ⟨_, _, _, _, _, _⟩) (v := ?_) rfl (by kernel_rfl) (by kernel_rfl) (by kernel_rfl) (fun _ _ _ h => h) (Or.inl ⟨by rfl, ?_⟩) (by assumption) ?_
                  rotate_left
                  · intro w hSw; (try dsimp only at hSw); go_simp; (try (with_reducible rfl))
                  try simp only [Act.put, List.setIfInBounds_toArray, List.set_cons_zero, List.set_cons_succ]
                  refine wpAnyH_take (i := 7) (oi := ⟨_, _, _, _, _, _⟩) (v := ?_) rfl (by kernel_rfl) (by kernel_rfl) (by kernel_rfl) (fun _ _ _ h => h) (Or.inl ⟨by rfl, ?_⟩) (by assumption) ?_
                  rotate_left
                  · intro w hSw; (try dsimp only at hSw); go_simp; (try (with_reducible rfl))
                  try simp only [Act.put, List.setIfInBounds_toArray, List.set_cons_zero, List.set_cons_succ]
                  refine wpAnyH_take (i := 8) (oi := ⟨_, _, _, _, _, _⟩) (v := ?_) rfl (by kernel_rfl) (by kernel_rfl) (by kernel_rfl) (fun _ _ _ h => h) (Or.inl ⟨by rfl, ?_⟩) (by assumption) ?_
                  rotate_left
                  · intro w hSw; (try dsimp only at hSw); go_simp; (try (with_reducible rfl))
                  try simp only [Act.put, List.setIfInBounds_toArray, List.set_cons_zero, List.set_cons_succ]
                  refine wpAnyH_take (i := 9) (oi := ⟨_, _, _, _, _, _⟩) (v := ?_) rfl (by kernel_rfl) (by kernel_rfl) (by kernel_rfl) (fun _ _ _ h => h) (Or.inl ⟨by rfl, ?_⟩) (by assumption) ?_
                  rotate_left
                  · intro w hSw; (try dsimp only at hSw); go_simp; (try (with_reducible rfl))
                  try simp only [Act.put, List.setIfInBounds_toArray, List.set_cons_zero, List.set_cons_succ]
                  refine wpAnyH_ready (rs := [10]) (by kernel_rfl) (by simp) ?_
                  refine AllReadyH.cons (o := ⟨_, _, _, _, _, _⟩) rfl (fun K hK => ?_) AllReadyH.nil
                  go_simp
                  refine (refUnder x y _ hsx hsy).mono ?_
                  rintro e w5 ⟨rfl, hb5⟩
                  have n1 := (hb5.cell (p := ⟨b, off + j * 2, none⟩) (World.block_lt_of_cell? _ _ m1)).trans m1
                  have n2 := (hb5.cell (p := ⟨b, off + k * 2, none⟩) (World.block_lt_of_cell? _ _ m2)).trans m2
                  have b5 := hb4.drew.trans (hb5.mono hb4.drew.size)
                  refine hK.out _ _ ⟨n1, n2⟩ (fun hHeld => ?_)
                  clear hK K
                  try simp only [Act.put, List.setIfInBounds_toArray, List.set_cons_zero, List.set_cons_succ]
                  refine wpAnyH_done (by kernel_rfl) ?_ _
                  cases hu : underL x.data.toList y.data.toList
                  · have HUU := hid hu
                    clear hu hHeld
                    go_wp2
                    go_roundw
                    case rel =>
                      refine ⟨k + 1, by omega, by go_num, hid (fun i hi hik => ?_), b5⟩
                      by_cases e : i = k
                      · subst e
                        rw [pth, HYY.out]
                        exact HUU.out
                      · exact HU.out i hi (by omega)
                    case measure => simp [intOf]; omega
                  · have HUU := hid hu
                    clear hu hHeld
                    go_wp2
                    go_ret
                    refine ⟨ret_bool ?_, b5⟩
                    symm
                    refine not_true fun hT => ?_
                    have := (tree_bad hT j hjl).2.2.2 k hkj
                    rw [show pth fs[k] = y.data.toList by rw [pth, HYY.out], show pth fs[j] = x.data.toList by rw [pth, HX.out], HUU.out] at this
                    cases this
                · have hnk : ¬ (k : Int) < j := by omega
                  go_wp2
                  go_roundw
                  case rel =>
                    refine ⟨j + 1, by omega, by go_num, hid (fun i hi hij => ?_), hb4⟩
                    by_cases e : i = j
                    · subst e
                      refine ⟨by rw [pth, HX.out]; exact HF.out, by rw [HD.out]; omega, HLT.out, fun q hq => ?_⟩
                      rw [show pth fs[i] = x.data.toList by rw [pth, HX.out]]
                      exact HU.out q (by omega) (by omega)
                    · exact HO.out i hi (by omega)
                  case measure => simp [intOf]; omega
      · have HE := hid (show j = n by omega)
        have hnlt : ¬ (j : Int) < n := by omega
        go_wp2
        go_ret
        refine ⟨ret_bool ?_, hb⟩
        symm
        exact tree_good (by rw [HL.out]; exact hn16) (fun i hi => HO.out i hi (by have h1 := HE.out; have h2 := HL.out; omega))
end Go.Proofs.YtaidggjnpnfdhaaGreatDoor
namespace Go.Proofs.YtaidggjnpnfdhaaGreatDoor
open Go.RowKit

set_option maxHeartbeats 1000000 in
theorem anew_any (x d : ByteArray) (w : World) (hx : x.size ≤ 281474976710656) (hd : d.size ≤ 281474976710656) :
    Calls Tryz.prog 87 #[.agg #[.string x, .string d]] w fun e w' => e = .returned (.agg #[.string x, .string d]) ∧ Below w.heap.size w w' := by
  have p0 : Blk ((w.alloc (.cells #[.string x, .string d] 38)).alloc (.cells #[zS, zS] 38)) w.heap.size [.string x, .string d] 38 := (Blk.new w [.string x, .string d] 38).below ((Below.refl _ _).alloc (Nat.le_refl _) _)
  have q0 : Blk ((w.alloc (.cells #[.string x, .string d] 38)).alloc (.cells #[zS, zS] 38)) (w.heap.size + 1) [zS, zS] 38 := by
    have := Blk.new (w.alloc (.cells #[.string x, .string d] 38)) [zS, zS] 38
    simpa using this
  have b0 : Below w.heap.size w ((w.alloc (.cells #[.string x, .string d] 38)).alloc (.cells #[zS, zS] 38)) := ((Below.refl _ _).alloc (Nat.le_refl _) _).alloc (by simp) _
  go_enter Tryz.func87, Tryz.ntmps87
  go_upto_region 1 with (fail)
  generalize (w.alloc (.cells #[.string x, .string d] 38)).alloc (.cells #[zS, zS] 38) = W0 at *
  have d1 := p0.cell 0
  have d2 := p0.cell 1
  simp only [List.getElem?_cons_zero, List.getElem?_cons_succ] at d1 d2
  refine wp_region_held_drew (S := fun w' => w'.cell? ⟨w.heap.size, 0, none⟩ = some (.string x) ∧ w'.cell? ⟨w.heap.size, 1, none⟩ = some (.string d)) (by kernel_rfl) ⟨d1, d2⟩ (fun hHeld => ?_)
  refine wpAnyH_take (i := 0) (oi := ⟨_, _, _, _, _, _⟩) (v := ?_) rfl (by kernel_rfl) (by kernel_rfl) (by kernel_rfl) (fun _ _ _ h => h) (Or.inl ⟨by rfl, ?_⟩) (by assumption) ?_
  rotate_left
  · intro w hSw; (try dsimp only at hSw); go_simp; (try (with_reducible rfl))
  try simp only [Act.put, List.setIfInBounds_toArray, List.set_cons_zero, List.set_cons_succ]
  refine wpAnyH_take (i := 1) (oi := ⟨_, _, _, _, _, _⟩) (v := ?_) rfl (by kernel_rfl) (by kernel_rfl) (by kernel_rfl) (fun _ _ _ h => h) (Or.inl ⟨by rfl, ?_⟩) (by assumption) ?_
  rotate_left
  · intro w hSw; (try dsimp only at hSw); go_simp; (try (with_reducible rfl))
  try simp only [Act.put, List.setIfInBounds_toArray, List.set_cons_zero, List.set_cons_succ]
  refine wpAnyH_take (i := 3) (oi := ⟨_, _, _, _, _, _⟩) (v := ?_) rfl (by kernel_rfl) (by kernel_rfl) (by kernel_rfl) (fun _ _ _ h => h) (Or.inl ⟨by rfl, ?_⟩) (by assumption) ?_
  rotate_left
  · intro w hSw; (try dsimp only at hSw); go_simp; (try (with_reducible rfl))
  try simp only [Act.put, List.setIfInBounds_toArray, List.set_cons_zero, List.set_cons_succ]
  refine wpAnyH_take (i := 4) (oi := ⟨_, _, _, _, _, _⟩) (v := ?_) rfl (by kernel_rfl) (by kernel_rfl) (by kernel_rfl) (fun _ _ _ h => h) (Or.inl ⟨by rfl, ?_⟩) (by assumption) ?_
  rotate_left
  · intro w hSw; (try dsimp only at hSw); go_simp; (try (with_reducible rfl))
  try simp only [Act.put, List.setIfInBounds_toArray, List.set_cons_zero, List.set_cons_succ]
  refine wpAnyH_ready (rs := [2]) (by kernel_rfl) (by simp) ?_
  refine AllReadyH.cons (o := ⟨_, _, _, _, _, _⟩) rfl (fun K hK => ?_) AllReadyH.nil
  go_simp
  refine (clone_any x _ hx).mono ?_
  rintro e w1 ⟨rfl, hb1⟩
  have p1 := Blk.below (w := W0.drew) p0 hb1
  have q1 := Blk.below (w := W0.drew) q0 hb1
  have b1 := b0.drew.trans (hb1.mono b0.drew.size)
  have d3 := p1.cell 0
  have d4 := p1.cell 1
  simp only [List.getElem?_cons_zero, List.getElem?_cons_succ] at d3 d4
  refine hK.out _ _ ⟨d3, d4⟩ (fun hHeld => ?_)
  clear hK K
  try simp only [Act.put, List.setIfInBounds_toArray, List.set_cons_zero, List.set_cons_succ]
  refine wpAnyH_ready (rs := [5]) (by kernel_rfl) (by simp) ?_
  refine AllReadyH.cons (o := ⟨_, _, _, _, _, _⟩) rfl (fun K hK => ?_) AllReadyH.nil
  go_simp
  refine (clone_any d _ hd).mono ?_
  rintro e w2 ⟨rfl, hb2⟩
  have p2 := p1.below (hb2)
  have q2 := q1.below (hb2)
  have d5 := p2.cell 0
  have d6 := p2.cell 1
  simp only [List.getElem?_cons_zero, List.getElem?_cons_succ] at d5 d6
  have b2 := b1.trans (hb2.mono b1.size)
  refine hK.out _ _ ⟨d5, d6⟩ (fun hHeld => ?_)
  clear hK K
  try simp only [Act.put, List.setIfInBounds_toArray, List.set_cons_zero, List.set_cons_succ]
  refine wpAnyH_take (i := 6) (oi := ⟨_, _, _, _, _, _⟩) (v := ?_) rfl (by kernel_rfl) (by kernel_rfl) (by kernel_rfl) (fun _ _ _ h => h) (Or.inl ⟨by rfl, ?_⟩) (by assumption) ?_
  rotate_left
  · intro w hSw; (try dsimp only at hSw); go_simp; (try (with_reducible rfl))
  try simp only [Act.put, List.setIfInBounds_toArray, List.set_cons_zero, List.set_cons_succ]
  have z0 := q2.cell 0
  have z1 := q2.cell 1
  simp only [List.getElem?_cons_zero, List.getElem?_cons_succ] at z0 z1
  have f0 := q2.frozen 0
  have f1 := q2.frozen 1
  have P3 := (p2.other (show w.heap.size ≠ w.heap.size + 1 by omega) 0 (.string x)).other (show w.heap.size ≠ w.heap.size + 1 by omega) 1 (.string d)
  have Q3 := (q2.set_ 0 (.string x)).set_ 1 (.string d)
  have B3 := (b2.setCell (p := ⟨w.heap.size + 1, 0, none⟩) (by show w.heap.size ≤ w.heap.size + 1; omega) (.string x)).setCell (p := ⟨w.heap.size + 1, 1, none⟩) (by show w.heap.size ≤ w.heap.size + 1; omega) (.string d)
  have e1 := P3.cell 0
  have e2 := P3.cell 1
  have r1 := Q3.cell 0
  have r2 := Q3.cell 1
  simp only [List.set_cons_zero, List.set_cons_succ, List.getElem?_cons_zero, List.getElem?_cons_succ] at e1 e2 r1 r2
  refine wpAnyH_ready (rs := [7]) (by kernel_rfl) (by simp) ?_
  refine AllReadyH.cons (o := ⟨_, _, _, _, _, _⟩) rfl (fun K hK => ?_) AllReadyH.nil
  go_simp
  generalize (w2.setCell ⟨w.heap.size + 1, 0, none⟩ (.string x)).setCell ⟨w.heap.size + 1, 1, none⟩ (.string d) = w3 at *
  refine hK.out _ _ ⟨e1, e2⟩ (fun hHeld => ?_)
  clear hK K
  try simp only [Act.put, List.setIfInBounds_toArray, List.set_cons_zero, List.set_cons_succ]
  refine wpAnyH_done (by kernel_rfl) ?_ _
  clear hHeld P3 Q3 p2 q2 p1 q1 p0 q0
  go_wp2
  refine bodyPost_ret (v := .agg #[.string x, .string d]) (by simp [results, Tryz.results87, go_sem, r1, r2]) rfl ⟨rfl, B3⟩

theorem make_files (n : Nat) (hn : n ≤ 1000000) (w : World) : (Instr.makeSlice 22 (.int .i64 (n : Int)) (.int .i64 (n : Int))).run Tryz.prog w = .ok (.slice (some ⟨w.heap.size, 0, none⟩) n n) (w.alloc (.cells (List.replicate (n * 2) zS).toArray 38)) := by
  obtain ⟨i, hi, hz0, hz1, hz2⟩ := info_parts Tryz.infoF
  have h := run_make (P := Tryz.prog) w 22 38 i _ Tryz.underlying22 hi hz0 .i64 .i64 n n (by omega) (Int.le_refl _) (by rw [hz2]; omega) (by omega)
  rw [h, hz1, Int.toNat_natCast, ← made_two]
  rfl

set_option maxHeartbeats 1000000 in
theorem copied_any {w : World} {A : Option Addr} {n c : Nat} {fs : List Fil} (h : Ft w A n c fs) (hn : n ≤ 1000000) :
    Calls Tryz.prog 85 #[.slice A n c] w fun e w' => e = .returned (.slice (some ⟨w.heap.size, 0, none⟩) n n) ∧ Blk w' w.heap.size (filV fs) 38 ∧ Below w.heap.size w w' := by
  have hmk := make_files n hn
  have HL := hid h.len
  have HS := hid h.sz
  have hr := h.rd
  clear h
  go_enter Tryz.func85, Tryz.ntmps85
  go_upto_region 3 with (fail)
  go_loopw [11] (fun i wr => ∃ j : Nat, j ≤ n ∧ i = .int .i64 j ∧ Blk wr w.heap.size (fill (filV fs) zS (j * 2)) 38 ∧ Below w.heap.size w wr) (fun i _ => n - (intOf i).toNat)
  case atStart =>
    refine ⟨0, by omega, rfl, ?_, (Below.refl _ _).alloc (Nat.le_refl _) _⟩
    have := Blk.new w (List.replicate (n * 2) zS) 38
    rw [Nat.zero_mul, fill_zero, filV_length, HL.out]
    simpa using this
  case round =>
    obtain ⟨j, hj, rfl, hblk, hb⟩ := hrel
    by_cases hjn : j < n
    · have hjl : j < fs.length := by rw [HL.out]; exact hjn
      have hr1 := hr.below hb
      obtain ⟨b, off, rfl, h1, h2, -⟩ := hr1.fil hjl
      have hz : (0 : Int) ≤ j := by omega
      have hlt : (j : Int) < n := by omega
      have HX0 := hid (filV_at0 fs j hjl)
      have HX1 := hid (filV_at1 fs j hjl)
      have hsz := HS.out fs[j] (List.getElem_mem hjl)
      have hll := filV_length fs
      clear hr1
      go_upto_region 5 with (fail)
      have hblk2 := hblk.below ((Below.refl _ _).alloc (Nat.le_refl _) (.cells #[.string fs[j].1, .string fs[j].2] 38))
      have hb2 := hb.alloc hb.size (.cells #[.string fs[j].1, .string fs[j].2] 38)
      have k := Blk.new wr [.string fs[j].1, .string fs[j].2] 38
      have k1 := k.cell 0
      have k2 := k.cell 1
      simp only [List.getElem?_cons_zero, List.getElem?_cons_succ] at k1 k2
      clear k hblk hb h1 h2
      generalize fs[j] = f at *
      obtain ⟨x, d⟩ := f
      simp only at hsz k1 k2 HX0 HX1
      generalize wr.alloc (.cells #[.string x, .string d] 38) = wa at *
      generalize wr.heap.size = g at *
      go_wp2_with fail
      refine (anew_any x d _ (by omega) (by omega)).mono ?_
      rintro e w1 ⟨rfl, hb1⟩
      have hblk3 := hblk2.below hb1
      have hb3 := hb2.trans (hb1.mono hb2.size)
      have c0 := hblk3.cell (j * 2)
      have c1 := hblk3.cell (j * 2 + 1)
      have f0 := hblk3.frozen (j * 2)
      have f1 := hblk3.frozen (j * 2 + 1)
      have hblk4 := (hblk3.set_ (j * 2) (.string x)).set_ (j * 2 + 1) (.string d)
      rw [fill_set _ _ _ _ HX0.out, fill_set _ _ _ _ HX1.out] at hblk4
      rw [fill_at _ _ _ (by omega)] at c0
      rw [fill, List.getElem?_append_right (by rw [List.length_take]; omega), List.length_take, List.getElem?_replicate, if_pos (by omega)] at c1
      have hb4 := (hb3.setCell (p := ⟨w.heap.size, j * 2, none⟩) (Nat.le_refl _) (.string x)).setCell (p := ⟨w.heap.size, j * 2 + 1, none⟩) (Nat.le_refl _) (.string d)
      clear hblk2 hb1 hb2 hblk3 k1 k2
      go_wp2
      go_roundw
      case rel => exact ⟨j + 1, by omega, by go_num, by rw [show (j + 1) * 2 = j * 2 + 1 + 1 by omega]; exact hblk4, hb4⟩
      case measure => simp [intOf]; omega
    · have HE := hid (show j = n by omega)
      have hnlt : ¬ (j : Int) < n := by omega
      go_wp2
      go_ret
      refine ⟨rfl, ?_, hb⟩
      have := fill_all (filV fs) zS
      rw [filV_length, HL.out] at this
      rw [HE.out, this] at hblk
      exact hblk
end Go.Proofs.YtaidggjnpnfdhaaGreatDoor
