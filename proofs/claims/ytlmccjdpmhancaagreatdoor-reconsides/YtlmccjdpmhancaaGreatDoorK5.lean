/- The texts Sj, in one. -/
import Derived.Test.YtlmccjdpmhancaaGreatDoorK4
namespace Go.Proofs.YtlmccjdpmhancaaGreatDoor
open Go.RowKit Go.Shelf

attribute [local go_sem] Oper.semAt_some

theorem outP_more (a : Int) (ps : List (Ent × Ent)) (p : Ent × Ent) : outP a (ps ++ [p]) = outP a ps ++ [newE a p] := by simp [outP]
theorem chgP_more (ps : List (Ent × Ent)) (p : Ent × Ent) : chgP (ps ++ [p]) = chgP ps ++ (if p.2 = p.1 then [] else [p.2.path]) := by
  unfold chgP
  rw [List.filter_append, List.map_append, List.filter_cons, List.filter_nil]
  by_cases h : p.2 = p.1 <;> simp [h]
theorem chgP_len (ps : List (Ent × Ent)) : (chgP ps).length ≤ ps.length := by rw [chgP, List.length_map]; exact List.length_filter_le _ _
theorem okP_more (a : Int) (ps : List (Ent × Ent)) (p : Ent × Ent) (h : okP a ps = true) (hl : ps.length < 32) (hs : stuck a p = false) : okP a (ps ++ [p]) = true := by
  unfold okP at *
  rw [Bool.and_eq_true, decide_eq_true_eq] at *
  refine ⟨by simp; omega, ?_⟩
  rw [List.all_append, h.2]
  simp [hs]
theorem okP_len {a : Int} {ps : List (Ent × Ent)} (h : okP a ps = true) : ps.length ≤ 32 := by
  unfold okP at h
  rw [Bool.and_eq_true, decide_eq_true_eq] at h
  exact h.1
theorem okP_long {a : Int} {ps : List (Ent × Ent)} (h : 32 < ps.length) : okP a ps = false := not_true fun e => by have := okP_len e; omega
theorem okP_stuck {a : Int} {ps : List (Ent × Ent)} {p : Ent × Ent} (hp : p ∈ ps) (h : stuck a p = true) : okP a ps = false := not_true fun e => by
  unfold okP at e
  rw [Bool.and_eq_true, List.all_eq_true] at e
  have := e.2 p hp
  rw [h] at this
  cases this
theorem okP_pre {a : Int} {ps qs : List (Ent × Ent)} (h : ps <+: qs) (hb : okP a ps = false) : okP a qs = false := not_true fun e => by
  obtain ⟨r, rfl⟩ := h
  unfold okP at e hb
  rw [List.all_append, List.length_append, Bool.and_eq_true, Bool.and_eq_true, decide_eq_true_eq] at e
  rw [e.2.1, decide_eq_true (by omega)] at hb
  cases hb
theorem stuck_eq {a : Int} {p : Ent × Ent} {t1 t2 : Nat} (ht : tkc p.1.l p.1.r a = (t1, t2)) (hne : ¬ p.2 = p.1) : stuck a p = (decide ((t1 : Int) = p.1.l) && decide ((t2 : Int) = p.1.r)) := by
  unfold stuck
  rw [tickL_eq, ht, decide_eq_false hne]
  by_cases h1 : (t1 : Int) = p.1.l <;> by_cases h2 : (t2 : Int) = p.1.r <;> simp [h1, h2]
theorem newE_ne {a : Int} {p : Ent × Ent} {t1 t2 : Nat} (ht : tkc p.1.l p.1.r a = (t1, t2)) (hne : ¬ p.2 = p.1) : newE a p = ⟨p.2.path, p.2.has, p.2.data, (t1 : Int), (t2 : Int)⟩ := by unfold newE; rw [if_neg hne, tickL_eq, ht]
theorem newE_eq {a : Int} {p : Ent × Ent} (h : p.2 = p.1) : newE a p = p.2 := by unfold newE; rw [if_pos h]

set_option maxRecDepth 100000 in
set_option maxHeartbeats 8000000 in
theorem scan_good {w : World} {A B : Option Addr} {n c m d : Nat} {es : List Ent} {fs : List Fil} (h : Et w A n c es) (k : Ft w B m d fs) (a : Int) (hgood : (archR es && treeR fs) = true) :
    Calls Tryz.prog 23 #[.slice A n c, .slice B m d, .int .i64 a] w (ScanPost w es fs a) := by
  have HN := hid (scanN_two (a := a) hgood)
  rw [Bool.and_eq_true] at hgood
  have b0 : Below w.heap.size w ((((w.alloc (.cells #[.int .i64 a] 3)).alloc (.cells #[.slice none 0 0] 22)).alloc (.cells #[.slice none 0 0] 25)).alloc (.cells #[.int .i64 0] 26)) := ((((Below.refl _ _).alloc (Nat.le_refl _) _).alloc (by simp) _).alloc (by simp; omega) _).alloc (by simp; omega) _
  have p5 := (((Boxed.new w 3 (.int .i64 a)).alloc (.cells #[.slice none 0 0] 22)).alloc (.cells #[.slice none 0 0] 25)).alloc (.cells #[.int .i64 0] 26)
  have p6 := ((Boxed.new (w.alloc (.cells #[.int .i64 a] 3)) 22 (.slice none 0 0)).alloc (.cells #[.slice none 0 0] 25)).alloc (.cells #[.int .i64 0] 26)
  have p7 := (Boxed.new ((w.alloc (.cells #[.int .i64 a] 3)).alloc (.cells #[.slice none 0 0] 22)) 25 (.slice none 0 0)).alloc (.cells #[.int .i64 0] 26)
  have p8 := Boxed.new (((w.alloc (.cells #[.int .i64 a] 3)).alloc (.cells #[.slice none 0 0] 22)).alloc (.cells #[.slice none 0 0] 25)) 26 (.int .i64 0)
  simp only [World.size_alloc] at p6 p7 p8
  have h1 := h.below b0
  have k1 := k.below b0
  have c0 := archR_any h1
  rw [hgood.1] at c0
  have c1 : ∀ W, Below _ _ W → _ := fun W hW => tree_any (k1.below hW)
  rw [hgood.2] at c1
  have hr := h.rd
  have hl := h.len
  have hn := h.big
  have hcap := h.cap
  have hr2 := k.rd
  have hl2 := k.len
  have hcap2 := k.cap
  have HS := hid (both_sz (fs := fs) (es := es) h.sz k.sz)
  clear h k h1 k1 hgood
  refine (callsIn_wide (n := 3)).1 ?_
  refine callsIn_of_wp_marks Tryz.func23 rfl trivial ?_ rfl
  simp only [Tryz.ntmps23, List.size_toArray, List.length_cons, List.length_nil, Nat.reduceAdd, Nat.reduceSub, Array.replicate_succ, Array.replicate_zero, List.push_toArray, List.append_toArray, List.nil_append, List.cons_append]
  gi_wp2_with (first
    | (refine ⟨trivial, ?_⟩; gi_at_call 24; refine (callsIn_wide.2 c0).mono ?_; rintro e w1 ⟨rfl, hb1⟩)
    | (refine ⟨trivial, ?_⟩; gi_at_call 42; refine (callsIn_wide.2 (c1 _ hb1)).mono ?_; rintro e w2 ⟨rfl, hb2⟩)
    | (refine ⟨trivial, ?_⟩; gi_at_call 56; refine (callsIn_wide.2 (both_any A B n c m d _)).mono ?_; rintro e w3 ⟨rfl, rfl⟩))
  have q5 := (((((boxed_below (boxed_below p5 hb1) hb2).alloc (.cells #[.slice none 0 0] 22)).alloc (.cells #[.slice none 0 0] 25)).alloc (.cells #[.slice A n c] 22)).alloc (.cells #[.slice B m d] 36))
  have q6 := (((((boxed_below (boxed_below p6 hb1) hb2).alloc (.cells #[.slice none 0 0] 22)).alloc (.cells #[.slice none 0 0] 25)).alloc (.cells #[.slice A n c] 22)).alloc (.cells #[.slice B m d] 36))
  have q7 := (((((boxed_below (boxed_below p7 hb1) hb2).alloc (.cells #[.slice none 0 0] 22)).alloc (.cells #[.slice none 0 0] 25)).alloc (.cells #[.slice A n c] 22)).alloc (.cells #[.slice B m d] 36))
  have q8 := (((((boxed_below (boxed_below p8 hb1) hb2).alloc (.cells #[.slice none 0 0] 22)).alloc (.cells #[.slice none 0 0] 25)).alloc (.cells #[.slice A n c] 22)).alloc (.cells #[.slice B m d] 36))
  have hq3 := (boxed_below (boxed_below p8 hb1) hb2).lt
  have hlow := below2 (below2 b0 hb1) hb2
  have q9 := ((Boxed.new w2 22 (.slice none 0 0)).alloc (.cells #[.slice none 0 0] 25)).alloc (.cells #[.slice A n c] 22) |>.alloc (.cells #[.slice B m d] 36)
  have q10 := ((Boxed.new (w2.alloc (.cells #[.slice none 0 0] 22)) 25 (.slice none 0 0)).alloc (.cells #[.slice A n c] 22)).alloc (.cells #[.slice B m d] 36)
  have qL := (Boxed.new ((w2.alloc (.cells #[.slice none 0 0] 22)).alloc (.cells #[.slice none 0 0] 25)) 22 (.slice A n c)).alloc (.cells #[.slice B m d] 36)
  have qT := Boxed.new (((w2.alloc (.cells #[.slice none 0 0] 22)).alloc (.cells #[.slice none 0 0] 25)).alloc (.cells #[.slice A n c] 22)) 36 (.slice B m d)
  simp only [World.size_alloc] at q10 qL qT
  have hL0 : Below w.heap.size w ((((w2.alloc (.cells #[.slice none 0 0] 22)).alloc (.cells #[.slice none 0 0] 25)).alloc (.cells #[.slice A n c] 22)).alloc (.cells #[.slice B m d] 36)) := (((hlow.alloc hlow.size _).alloc (by have := hlow.size; simp; omega) _).alloc (by have := hlow.size; simp; omega) _).alloc (by have := hlow.size; simp; omega) _
  have hs0 : ((((w2.alloc (.cells #[.slice none 0 0] 22)).alloc (.cells #[.slice none 0 0] 25)).alloc (.cells #[.slice A n c] 22)).alloc (.cells #[.slice B m d] 36)).heap.size = w2.heap.size + 4 := by simp
  obtain ⟨W0, hW0⟩ : ∃ W0, (((w2.alloc (.cells #[.slice none 0 0] 22)).alloc (.cells #[.slice none 0 0] 25)).alloc (.cells #[.slice A n c] 22)).alloc (.cells #[.slice B m d] 36) = W0 := ⟨_, rfl⟩
  rw [hW0] at q5 q6 q7 q8 q9 q10 qL qT hL0 hs0 ⊢
  have hq : w.heap.size + 3 < w2.heap.size := by omega
  clear hW0 hq3 hlow hb1 hb2 p5 p6 p7 p8 b0 c0 c1
  generalize w2.heap.size = q at *
  have st0 : ScS w a q (outP a []) (chgP []) W0 := ⟨⟨_, q9, World.ownsRow_nil _ _ _ _, trivial⟩, ⟨_, q10, World.ownsRow_nil _ _ _ _, trivial⟩, q5, q6, q7, q8, hL0⟩
  clear q5 q6 q7 q8 q9 q10
  refine wpIn_rangeFunc_ownH rfl (by omega) (gf := 92) (lb := #[.pointer (some ⟨q + 1 + 1, 0, none⟩), .pointer (some ⟨q + 1 + 1 + 1, 0, none⟩)]) rfl trivial (enters_of Tryz.func92 (by kernel_rfl) rfl)
    (both_stops _ (by omega) (q + 1 + 1) (q + 1 + 1 + 1) w W0 A B n c m d es fs hl hr hcap hl2 hr2 hcap2 HS.out qL.lt qL.cell qT.lt qT.cell hL0) belowK_t (belowK_b (by omega)) (Below.refl _ _) (fun _ => rfl)
    (fun (pre : List S2) W => ScS w a q (outP a (pre.map (·.1))) (chgP (pre.map (·.1))) W ∧ Hid (okP a (pre.map (·.1)) = true))
    (fun cd (pre : List S2) W => cd = .ret ∧ Hid (okP a (pre.map (·.1)) = false) ∧ Boxed W (w.heap.size + 1) 22 (.slice none 0 0) ∧ Boxed W (w.heap.size + 1 + 1) 25 (.slice none 0 0) ∧ Boxed W (w.heap.size + 1 + 1 + 1) 26 (.int .i64 2) ∧ Below w.heap.size w W)
    (fun _ _ _ row hs hg hr => ⟨hs.1.grown hg (fun r e => ⟨by have := (hr r e).1; omega, (hr r e).2⟩), hs.2⟩)
    (fun cd s X Y row hs hg hr => ⟨hs.1, hs.2.1, boxed_kept hs.2.2.1 hg (fun r e => (hr r e).2), boxed_kept hs.2.2.2.1 hg (fun r e => (hr r e).2), boxed_kept hs.2.2.2.2.1 hg (fun r e => (hr r e).2), ownFrom_below (β := Unit) (Nat.le_refl _) (by omega) () X Y row hs.2.2.2.2.2 hg hr⟩)
    ⟨st0, by simp [Hid, okP]⟩
    (fun x a' W => ∃ Bw Bi v', q + 1 < Bw ∧ q + 1 < Bi ∧ Bw ≠ Bi ∧ Blk W Bw [.string x.1.1.path, .bool x.1.1.has, .string x.1.1.data, .int .i64 x.1.1.l, .int .i64 x.1.1.r] 34 ∧ Blk W Bi [.string x.1.2.path, .bool x.1.2.has, .string x.1.2.data, .int .i64 x.1.2.l, .int .i64 x.1.2.r] 34 ∧ Boxed W q 22 v' ∧ some Bi ≠ v'.ownBlock ∧
      a' = { tmps := #[.slice A n c, .slice B m d, .int .i64 a, undef, undef, .pointer (some ⟨w.heap.size, 0, none⟩), .pointer (some ⟨w.heap.size + 1, 0, none⟩), .pointer (some ⟨w.heap.size + 1 + 1, 0, none⟩), .pointer (some ⟨w.heap.size + 1 + 1 + 1, 0, none⟩), .pointer (some ⟨q, 0, none⟩), .pointer (some ⟨q + 1, 0, none⟩), .pointer (some ⟨Bw, 0, none⟩), .pointer (some ⟨Bi, 0, none⟩), .slice A n c, .bool true, .bool false, .bool false, .slice B m d, .bool true, .bool false, .bool false, .slice A n c, .slice B m d, .func (.func 92) #[] #[.pointer (some ⟨q + 1 + 1, 0, none⟩), .pointer (some ⟨q + 1 + 1 + 1, 0, none⟩)], eA x.1.1, eA x.1.2, undef, undef, undef, undef, undef, undef, undef, undef, undef, undef, undef, undef, undef, undef, undef, undef, undef, undef, undef, undef, undef, undef, undef, undef, undef, undef, undef, undef, undef, undef, undef], defers := [] })
    (fun x a' _ X Y row hs hg hr => by obtain ⟨Bw, Bi, v', h1, h2, h3, h4, h5, h6, h7⟩ := hs; exact ⟨Bw, Bi, v', h1, h2, h3, blk_kept h4 hg (fun r e => (hr r e).2), blk_kept h5 hg (fun r e => (hr r e).2), boxed_kept h6 hg (fun r e => (hr r e).2), h7⟩)
    ?assign ?body ?done ?stop
  case assign =>
    rintro l pre x W K ⟨hS, HO⟩ hK
    obtain ⟨v, hv, hrow, -⟩ := hS.sc
    obtain ⟨u, hu, -⟩ := hS.chg
    have hb1 : Below W.heap.size W ((W.alloc (.cells #[.string x.1.1.path, .bool x.1.1.has, .string x.1.1.data, .int .i64 x.1.1.l, .int .i64 x.1.1.r] 34)).alloc (.cells #[.string x.1.2.path, .bool x.1.2.has, .string x.1.2.data, .int .i64 x.1.2.l, .int .i64 x.1.2.r] 34)) := ((Below.refl _ _).alloc (Nat.le_refl _) _).alloc (by simp) _
    have bI := Blk.new (W.alloc (.cells #[.string x.1.1.path, .bool x.1.1.has, .string x.1.1.data, .int .i64 x.1.1.l, .int .i64 x.1.1.r] 34)) [.string x.1.2.path, .bool x.1.2.has, .string x.1.2.data, .int .i64 x.1.2.l, .int .i64 x.1.2.r] 34
    rw [World.size_alloc] at bI
    gi_wp2
    exact hK _ _ ((keeps_below hb1).from _) (hb1.mono hS.low.size) ⟨hS.below hb1, HO⟩ ⟨W.heap.size, W.heap.size + 1, v, hu.lt, by have := hu.lt; omega, by omega, (Blk.new W _ _).below ((Below.refl _ _).alloc (Nat.le_refl _) _), bI, boxed_below hv hb1, fun e => by have := (hrow.lt _ e.symm).2; omega, rfl⟩
  case body =>
    rintro l pre ⟨⟨was, is⟩, hx⟩ a' W hl ⟨r, hr⟩ ⟨hS, HO⟩ ⟨Bw, Bi, v', hBw, hBi, hBB, bW, bI, hv', hne, rfl⟩ hlt
    simp only at bW bI hx
    obtain ⟨v, hv, hrow, -⟩ := hS.sc
    obtain rfl := boxed_one hv hv'
    obtain ⟨Av, cv, rfl⟩ := own_slice hrow
    have HOUT := hid (outP_more a (pre.map (·.1)) (was, is))
    have HCH := hid (chgP_more (pre.map (·.1)) (was, is))
    have HOK := hid (okP_more a (pre.map (·.1)) (was, is) HO.out)
    have HK : Hid ((outP a (pre.map (·.1))).length = pre.length) := by simp [Hid, outP]
    have HMAP : Hid ((pre ++ [(⟨(was, is), hx⟩ : S2)]).map (·.1) = pre.map (·.1) ++ [(was, is)]) := by simp [Hid]
    have HLEN : Hid (pre.length ≤ 32) := by have := okP_len HO.out; rw [List.length_map] at this; exact this
    have HCL : Hid ((chgP (pre.map (·.1))).length ≤ pre.length) := by have := chgP_len (pre.map (·.1)); rw [List.length_map] at this; exact this
    have HST : Hid (stuck a (was, is) = true → okP a (pre.map (·.1) ++ [(was, is)]) = false) := fun h => okP_stuck (by simp) h
    have HLONG : Hid (pre.length = 32 → okP a (pre.map (·.1) ++ [(was, is)]) = false) := fun h => okP_long (by simp; omega)
    clear HO
    generalize outP a (pre.map (·.1)) = out at *
    generalize chgP (pre.map (·.1)) = ch at *
    have d9 := hv.cell
    have d6 := hS.r6.cell
    have d7 := hS.r7.cell
    have d8 := hS.r8.cell
    have z6 := hS.r6.frozen
    have z7 := hS.r7.frozen
    have z8 := hS.r8.frozen
    by_cases h32 : out.length = 32
    · obtain ⟨e6, e7, e8⟩ := res3 hS.r6 hS.r7 hS.r8 (.slice none 0 0) (.slice none 0 0) (.int .i64 2)
      have bz := ((hS.low.setCell (p := ⟨w.heap.size + 1, 0, none⟩) (by show _ ≤ w.heap.size + 1; omega) (.slice none 0 0)).setCell (p := ⟨w.heap.size + 1 + 1, 0, none⟩) (by show _ ≤ w.heap.size + 1 + 1; omega) (.slice none 0 0)).setCell (p := ⟨w.heap.size + 1 + 1 + 1, 0, none⟩) (by show _ ≤ w.heap.size + 1 + 1 + 1; omega) (.int .i64 2)
      have HBAD : Hid (okP a ((pre ++ [(⟨(was, is), hx⟩ : S2)]).map (·.1)) = false) := by show _ = _; rw [HMAP.out]; exact HLONG.out (by rw [← HK.out]; exact h32)
      rw [h32] at d9
      clear hS hrow hv hv'
      gi_wp2
      exact ⟨(((KeepsOthers.setCell _ _ _).trans (KeepsOthers.setCell _ _ _)).trans (KeepsOthers.setCell _ _ _)).from _, rfl, HBAD, e6, e7, e8, bz⟩
    · have h32' : ¬ (out.length : Int) = 32 := by omega
      have HLT : Hid (pre.length < 32) := by have h1 := HLEN.out; have h2 := HK.out; show _ < _; omega
      have w0 := bW.cell 0
      have w1 := bW.cell 1
      have w2 := bW.cell 2
      have w3 := bW.cell 3
      have w4 := bW.cell 4
      have i0 := bI.cell 0
      have i1 := bI.cell 1
      have i2 := bI.cell 2
      have i3 := bI.cell 3
      have i4 := bI.cell 4
      simp only [List.getElem?_cons_zero, List.getElem?_cons_succ] at w0 w1 w2 w3 w4 i0 i1 i2 i3 i4
      have hnq := neqE is was
      by_cases heq : is = was
      · rw [decide_eq_true heq] at hnq
        have HOK2 : Hid (okP a ((pre ++ [(⟨(was, is), hx⟩ : S2)]).map (·.1)) = true) := by
          show _ = _
          rw [HMAP.out]
          exact HOK.out (by rw [List.length_map]; exact HLT.out) (by unfold stuck; rw [decide_eq_true heq]; rfl)
        have HOUT2 : Hid (outP a ((pre ++ [(⟨(was, is), hx⟩ : S2)]).map (·.1)) = out ++ [is]) := by show _ = _; rw [HMAP.out, HOUT.out, newE_eq heq]
        have HCH2 : Hid (chgP ((pre ++ [(⟨(was, is), hx⟩ : S2)]).map (·.1)) = ch) := by show _ = _; rw [HMAP.out, HCH.out, if_pos heq, List.append_nil]
        have hz : SzE is := hx
        clear heq HOK HOUT HCH HST HLONG d6 d7 d8 z6 z7 z8 hrow
        gi_wp2
        clear w0 w1 w2 w3 w4 i0 i1 i2 i3 i4 bW
        obtain ⟨z, rfl⟩ : ∃ z, z = is := ⟨_, rfl⟩
        have kp0 := KeepsOthers.refl W
        have bl0 := Below.refl w.heap.size W
        have j0 := bI.cell 0
        have j1 := bI.cell 1
        have j2 := bI.cell 2
        have j3 := bI.cell 3
        have j4 := bI.cell 4
        simp only [List.getElem?_cons_zero, List.getElem?_cons_succ] at j0 j1 j2 j3 j4
        have d9 := hv.cell
        refine in_round (S := fun w' => w'.cell? ⟨Bi, 0, none⟩ = some (.string z.path) ∧ w'.cell? ⟨Bi, 1, none⟩ = some (.bool z.has) ∧ w'.cell? ⟨Bi, 2, none⟩ = some (.string z.data) ∧ w'.cell? ⟨Bi, 3, none⟩ = some (.int .i64 z.l) ∧ w'.cell? ⟨Bi, 4, none⟩ = some (.int .i64 z.r)) (by kernel_rfl) (by kernel_rfl) (by rintro ⟨_, _, h⟩; exact h) ⟨j0, j1, j2, j3, j4⟩ (fun hHeld => ?_)
        refine wpAnyH_take (i := 1) (oi := ⟨_, _, _, _, _, _⟩) (v := ?_) rfl (by kernel_rfl) (by kernel_rfl) (by kernel_rfl) (fun _ _ _ h => h) (Or.inl ⟨by rfl, ?_⟩) (by assumption) ?_
        rotate_left
        · intro w hSw; (try dsimp only at hSw); go_simp; (try (with_reducible rfl))
        try simp only [Act.put, List.setIfInBounds_toArray, List.set_cons_zero, List.set_cons_succ]
        refine wpAnyH_ready (rs := [0, 2]) (by kernel_rfl) (by simp) ?_
        refine AllReadyH.cons (o := ⟨_, _, _, _, _, _⟩) rfl (fun K hK => ?_) (AllReadyH.cons (o := ⟨_, _, _, _, _, _⟩) rfl (fun K hK => ?_) (AllReadyH.nil))
        · go_simp
          refine hK.out _ _ ⟨j0, j1, j2, j3, j4⟩ (fun hHeld => ?_)
          clear hK K
          try simp only [Act.put, List.setIfInBounds_toArray, List.set_cons_zero, List.set_cons_succ]
          refine wpAnyH_ready (rs := [2]) (by kernel_rfl) (by simp) ?_
          refine AllReadyH.cons (o := ⟨_, _, _, _, _, _⟩) rfl (fun K hK => ?_) (AllReadyH.nil)
          go_simp
          refine (eanew_any z _ (by have := hz.1; omega) (by have := hz.2; omega)).mono ?_
          rintro e W1 ⟨rfl, hb2⟩
          have b2 := below_undrew hb2
          have S2' := hS.below b2
          have hv2 := boxed_below hv b2
          have bI2 := bI.below b2
          have q2 := hv2.cell
          have m0 := bI2.cell 0
          have m1 := bI2.cell 1
          have m2 := bI2.cell 2
          have m3 := bI2.cell 3
          have m4 := bI2.cell 4
          simp only [List.getElem?_cons_zero, List.getElem?_cons_succ] at m0 m1 m2 m3 m4
          refine hK.out _ _ ⟨m0, m1, m2, m3, m4⟩ (fun hHeld => ?_)
          clear hK K
          try simp only [Act.put, List.setIfInBounds_toArray, List.set_cons_zero, List.set_cons_succ]
          refine wpAnyH_ready (rs := [3]) (by kernel_rfl) (by simp) ?_
          refine AllReadyH.cons (o := ⟨_, _, _, _, _, _⟩) rfl (fun K hK => ?_) (AllReadyH.nil)
          go_simp
          obtain ⟨A', c', w3, HRUN, c1, c2, c3, c5, c6, kb⟩ := S2'.app hq (by have h1 := HLEN.out; have h2 := HK.out; omega) hv2 z
          have hv3 := hv2.alloc (.cells #[.string z.path, .bool z.has, .string z.data, .int .i64 z.l, .int .i64 z.r] 34)
          have bI3 := bI2.below ((Below.refl _ _).alloc (Nat.le_refl _) (.cells #[.string z.path, .bool z.has, .string z.data, .int .i64 z.l, .int .i64 z.r] 34))
          have q3 := hv3.cell
          have o0 := bI3.cell 0
          have o1 := bI3.cell 1
          have o2 := bI3.cell 2
          have o3 := bI3.cell 3
          have o4 := bI3.cell 4
          simp only [List.getElem?_cons_zero, List.getElem?_cons_succ] at o0 o1 o2 o3 o4
          refine hK.out _ _ ⟨o0, o1, o2, o3, o4⟩ (fun hHeld => ?_)
          clear hK K
          try simp only [Act.put, List.setIfInBounds_toArray, List.set_cons_zero, List.set_cons_succ]
          have bI5 := kb Bi _ _ bI2 hne
          have bI6 := bI5.other (show Bi ≠ q by omega) 0 (.slice A' (out.length + 1) c')
          have y0 := bI5.cell 0
          have y1 := bI5.cell 1
          have y2 := bI5.cell 2
          have y3 := bI5.cell 3
          have y4 := bI5.cell 4
          simp only [List.getElem?_cons_zero, List.getElem?_cons_succ] at y0 y1 y2 y3 y4
          have x0 := bI6.cell 0
          have x1 := bI6.cell 1
          have x2 := bI6.cell 2
          have x3 := bI6.cell 3
          have x4 := bI6.cell 4
          simp only [List.getElem?_cons_zero, List.getElem?_cons_succ] at x0 x1 x2 x3 x4
          refine wpAnyH_ready (rs := [4]) (by kernel_rfl) (by simp) ?_
          refine AllReadyH.cons (o := ⟨_, _, _, _, _, _⟩) rfl (fun K hK => ?_) (AllReadyH.nil)
          refine stepApp2 (by rfl) (.tmp 50) (.tmp 53) 22 rfl _ _ _ rfl rfl HRUN.out ?_
          refine hK.out _ _ ⟨y0, y1, y2, y3, y4⟩ (fun hHeld => ?_)
          clear hK K
          try simp only [Act.put, List.setIfInBounds_toArray, List.set_cons_zero, List.set_cons_succ]
          refine wpAnyH_ready (rs := [5]) (by kernel_rfl) (by simp) ?_
          refine AllReadyH.cons (o := ⟨_, _, _, _, _, _⟩) rfl (fun K hK => ?_) (AllReadyH.nil)
          go_simp
          refine hK.out _ _ ⟨x0, x1, x2, x3, x4⟩ (fun hHeld => ?_)
          clear hK K
          try simp only [Act.put, List.setIfInBounds_toArray, List.set_cons_zero, List.set_cons_succ]
          refine wpAnyH_done (by kernel_rfl) ?_ _
          have kp := kp0.trans ((keeps_below b2).trans c5)
          have bl := bl0.trans ((b2.mono hS.low.size).trans c6)
          exact ⟨kp.from _, bl, by rw [HOUT2.out, HCH2.out]; exact c3, HOK2⟩
        · go_simp
          refine (eanew_any z _ (by have := hz.1; omega) (by have := hz.2; omega)).mono ?_
          rintro e W1 ⟨rfl, hb2⟩
          have b2 := below_undrew hb2
          have S2' := hS.below b2
          have hv2 := boxed_below hv b2
          have bI2 := bI.below b2
          have q2 := hv2.cell
          have m0 := bI2.cell 0
          have m1 := bI2.cell 1
          have m2 := bI2.cell 2
          have m3 := bI2.cell 3
          have m4 := bI2.cell 4
          simp only [List.getElem?_cons_zero, List.getElem?_cons_succ] at m0 m1 m2 m3 m4
          refine hK.out _ _ ⟨m0, m1, m2, m3, m4⟩ (fun hHeld => ?_)
          clear hK K
          try simp only [Act.put, List.setIfInBounds_toArray, List.set_cons_zero, List.set_cons_succ]
          refine wpAnyH_ready (rs := [0, 3]) (by kernel_rfl) (by simp) ?_
          refine AllReadyH.cons (o := ⟨_, _, _, _, _, _⟩) rfl (fun K hK => ?_) (AllReadyH.cons (o := ⟨_, _, _, _, _, _⟩) rfl (fun K hK => ?_) (AllReadyH.nil))
          · go_simp
            refine hK.out _ _ ⟨m0, m1, m2, m3, m4⟩ (fun hHeld => ?_)
            clear hK K
            try simp only [Act.put, List.setIfInBounds_toArray, List.set_cons_zero, List.set_cons_succ]
            refine wpAnyH_ready (rs := [3]) (by kernel_rfl) (by simp) ?_
            refine AllReadyH.cons (o := ⟨_, _, _, _, _, _⟩) rfl (fun K hK => ?_) (AllReadyH.nil)
            go_simp
            obtain ⟨A', c', w3, HRUN, c1, c2, c3, c5, c6, kb⟩ := S2'.app hq (by have h1 := HLEN.out; have h2 := HK.out; omega) hv2 z
            have hv3 := hv2.alloc (.cells #[.string z.path, .bool z.has, .string z.data, .int .i64 z.l, .int .i64 z.r] 34)
            have bI3 := bI2.below ((Below.refl _ _).alloc (Nat.le_refl _) (.cells #[.string z.path, .bool z.has, .string z.data, .int .i64 z.l, .int .i64 z.r] 34))
            have q3 := hv3.cell
            have o0 := bI3.cell 0
            have o1 := bI3.cell 1
            have o2 := bI3.cell 2
            have o3 := bI3.cell 3
            have o4 := bI3.cell 4
            simp only [List.getElem?_cons_zero, List.getElem?_cons_succ] at o0 o1 o2 o3 o4
            refine hK.out _ _ ⟨o0, o1, o2, o3, o4⟩ (fun hHeld => ?_)
            clear hK K
            try simp only [Act.put, List.setIfInBounds_toArray, List.set_cons_zero, List.set_cons_succ]
            have bI5 := kb Bi _ _ bI2 hne
            have bI6 := bI5.other (show Bi ≠ q by omega) 0 (.slice A' (out.length + 1) c')
            have y0 := bI5.cell 0
            have y1 := bI5.cell 1
            have y2 := bI5.cell 2
            have y3 := bI5.cell 3
            have y4 := bI5.cell 4
            simp only [List.getElem?_cons_zero, List.getElem?_cons_succ] at y0 y1 y2 y3 y4
            have x0 := bI6.cell 0
            have x1 := bI6.cell 1
            have x2 := bI6.cell 2
            have x3 := bI6.cell 3
            have x4 := bI6.cell 4
            simp only [List.getElem?_cons_zero, List.getElem?_cons_succ] at x0 x1 x2 x3 x4
            refine wpAnyH_ready (rs := [4]) (by kernel_rfl) (by simp) ?_
            refine AllReadyH.cons (o := ⟨_, _, _, _, _, _⟩) rfl (fun K hK => ?_) (AllReadyH.nil)
            refine stepApp2 (by rfl) (.tmp 50) (.tmp 53) 22 rfl _ _ _ rfl rfl HRUN.out ?_
            refine hK.out _ _ ⟨y0, y1, y2, y3, y4⟩ (fun hHeld => ?_)
            clear hK K
            try simp only [Act.put, List.setIfInBounds_toArray, List.set_cons_zero, List.set_cons_succ]
            refine wpAnyH_ready (rs := [5]) (by kernel_rfl) (by simp) ?_
            refine AllReadyH.cons (o := ⟨_, _, _, _, _, _⟩) rfl (fun K hK => ?_) (AllReadyH.nil)
            go_simp
            refine hK.out _ _ ⟨x0, x1, x2, x3, x4⟩ (fun hHeld => ?_)
            clear hK K
            try simp only [Act.put, List.setIfInBounds_toArray, List.set_cons_zero, List.set_cons_succ]
            refine wpAnyH_done (by kernel_rfl) ?_ _
            have kp := kp0.trans ((keeps_below b2).trans c5)
            have bl := bl0.trans ((b2.mono hS.low.size).trans c6)
            exact ⟨kp.from _, bl, by rw [HOUT2.out, HCH2.out]; exact c3, HOK2⟩
          · go_simp
            obtain ⟨A', c', w3, HRUN, c1, c2, c3, c5, c6, kb⟩ := S2'.app hq (by have h1 := HLEN.out; have h2 := HK.out; omega) hv2 z
            have hv3 := hv2.alloc (.cells #[.string z.path, .bool z.has, .string z.data, .int .i64 z.l, .int .i64 z.r] 34)
            have bI3 := bI2.below ((Below.refl _ _).alloc (Nat.le_refl _) (.cells #[.string z.path, .bool z.has, .string z.data, .int .i64 z.l, .int .i64 z.r] 34))
            have q3 := hv3.cell
            have o0 := bI3.cell 0
            have o1 := bI3.cell 1
            have o2 := bI3.cell 2
            have o3 := bI3.cell 3
            have o4 := bI3.cell 4
            simp only [List.getElem?_cons_zero, List.getElem?_cons_succ] at o0 o1 o2 o3 o4
            refine hK.out _ _ ⟨o0, o1, o2, o3, o4⟩ (fun hHeld => ?_)
            clear hK K
            try simp only [Act.put, List.setIfInBounds_toArray, List.set_cons_zero, List.set_cons_succ]
            refine wpAnyH_ready (rs := [0]) (by kernel_rfl) (by simp) ?_
            refine AllReadyH.cons (o := ⟨_, _, _, _, _, _⟩) rfl (fun K hK => ?_) (AllReadyH.nil)
            go_simp
            refine hK.out _ _ ⟨o0, o1, o2, o3, o4⟩ (fun hHeld => ?_)
            clear hK K
            try simp only [Act.put, List.setIfInBounds_toArray, List.set_cons_zero, List.set_cons_succ]
            have bI5 := kb Bi _ _ bI2 hne
            have bI6 := bI5.other (show Bi ≠ q by omega) 0 (.slice A' (out.length + 1) c')
            have y0 := bI5.cell 0
            have y1 := bI5.cell 1
            have y2 := bI5.cell 2
            have y3 := bI5.cell 3
            have y4 := bI5.cell 4
            simp only [List.getElem?_cons_zero, List.getElem?_cons_succ] at y0 y1 y2 y3 y4
            have x0 := bI6.cell 0
            have x1 := bI6.cell 1
            have x2 := bI6.cell 2
            have x3 := bI6.cell 3
            have x4 := bI6.cell 4
            simp only [List.getElem?_cons_zero, List.getElem?_cons_succ] at x0 x1 x2 x3 x4
            refine wpAnyH_ready (rs := [4]) (by kernel_rfl) (by simp) ?_
            refine AllReadyH.cons (o := ⟨_, _, _, _, _, _⟩) rfl (fun K hK => ?_) (AllReadyH.nil)
            refine stepApp2 (by rfl) (.tmp 50) (.tmp 53) 22 rfl _ _ _ rfl rfl HRUN.out ?_
            refine hK.out _ _ ⟨y0, y1, y2, y3, y4⟩ (fun hHeld => ?_)
            clear hK K
            try simp only [Act.put, List.setIfInBounds_toArray, List.set_cons_zero, List.set_cons_succ]
            refine wpAnyH_ready (rs := [5]) (by kernel_rfl) (by simp) ?_
            refine AllReadyH.cons (o := ⟨_, _, _, _, _, _⟩) rfl (fun K hK => ?_) (AllReadyH.nil)
            go_simp
            refine hK.out _ _ ⟨x0, x1, x2, x3, x4⟩ (fun hHeld => ?_)
            clear hK K
            try simp only [Act.put, List.setIfInBounds_toArray, List.set_cons_zero, List.set_cons_succ]
            refine wpAnyH_done (by kernel_rfl) ?_ _
            have kp := kp0.trans ((keeps_below b2).trans c5)
            have bl := bl0.trans ((b2.mono hS.low.size).trans c6)
            exact ⟨kp.from _, bl, by rw [HOUT2.out, HCH2.out]; exact c3, HOK2⟩
      · rw [decide_eq_false heq] at hnq
        obtain ⟨t1, t2, ht⟩ : ∃ t1 t2, tkc was.l was.r a = (t1, t2) := ⟨_, _, rfl⟩
        have HSTK := hid (stuck_eq (p := (was, is)) ht heq)
        have HNEW := hid (newE_ne (p := (was, is)) ht heq)
        have ct := tick_any was.l was.r a
        have hle := tkc_le was.l was.r a
        rw [ht] at ct hle
        have cp : ∀ w, _ := fun w => pair_clk hle.1 hle.2 w
        have HNE := hid heq
        have y5 := hS.au.cell
        clear heq ht hrow
        gi_wp2
        refine in_round (S := fun w' => w'.cell? ⟨Bw, 3, none⟩ = some (.int .i64 was.l) ∧ w'.cell? ⟨Bw, 4, none⟩ = some (.int .i64 was.r) ∧ w'.cell? ⟨w.heap.size, 0, none⟩ = some (.int .i64 a)) (by kernel_rfl) (by kernel_rfl) (by rintro ⟨_, _, h⟩; exact h) ⟨w3, w4, y5⟩ (fun hHeld => ?_)
        refine wpAnyH_take (i := 0) (oi := ⟨_, _, _, _, _, _⟩) (v := ?_) rfl (by kernel_rfl) (by kernel_rfl) (by kernel_rfl) (fun _ _ _ h => h) (Or.inl ⟨by rfl, ?_⟩) (by assumption) ?_
        rotate_left
        · intro w hSw; (try dsimp only at hSw); go_simp; (try (with_reducible rfl))
        try simp only [Act.put, List.setIfInBounds_toArray, List.set_cons_zero, List.set_cons_succ]
        refine wpAnyH_take (i := 1) (oi := ⟨_, _, _, _, _, _⟩) (v := ?_) rfl (by kernel_rfl) (by kernel_rfl) (by kernel_rfl) (fun _ _ _ h => h) (Or.inl ⟨by rfl, ?_⟩) (by assumption) ?_
        rotate_left
        · intro w hSw; (try dsimp only at hSw); go_simp; (try (with_reducible rfl))
        try simp only [Act.put, List.setIfInBounds_toArray, List.set_cons_zero, List.set_cons_succ]
        refine wpAnyH_take (i := 3) (oi := ⟨_, _, _, _, _, _⟩) (v := ?_) rfl (by kernel_rfl) (by kernel_rfl) (by kernel_rfl) (fun _ _ _ h => h) (Or.inl ⟨by rfl, ?_⟩) (by assumption) ?_
        rotate_left
        · intro w hSw; (try dsimp only at hSw); go_simp; (try (with_reducible rfl))
        try simp only [Act.put, List.setIfInBounds_toArray, List.set_cons_zero, List.set_cons_succ]
        refine wpAnyH_ready (rs := [2]) (by kernel_rfl) (by simp) ?_
        refine AllReadyH.cons (o := ⟨_, _, _, _, _, _⟩) rfl (fun K hK => ?_) (AllReadyH.nil)
        go_simp
        refine (of_any was.l was.r _).mono ?_
        rintro e Wa ⟨rfl, hba⟩
        have b1 := below_undrew hba
        have S1' := hS.below b1
        have bW1 := bW.below b1
        have bI1 := bI.below b1
        have hv1 := boxed_below hv b1
        have g1 := S1'.au.cell
        have a1_3 := bW1.cell 3
        have a1_4 := bW1.cell 4
        simp only [List.getElem?_cons_zero, List.getElem?_cons_succ] at a1_3 a1_4
        refine hK.out _ _ ⟨a1_3, a1_4, g1⟩ (fun hHeld => ?_)
        clear hK K
        try simp only [Act.put, List.setIfInBounds_toArray, List.set_cons_zero, List.set_cons_succ]
        refine wpAnyH_ready (rs := [4]) (by kernel_rfl) (by simp) ?_
        refine AllReadyH.cons (o := ⟨_, _, _, _, _, _⟩) rfl (fun K hK => ?_) (AllReadyH.nil)
        go_simp
        refine (ct _).mono ?_
        rintro e Wb ⟨rfl, hbb⟩
        have b2 := below2 b1 hbb
        have S2' := S1'.below hbb
        have bW2 := bW1.below hbb
        have bI2 := bI1.below hbb
        have hv2 := boxed_below hv1 hbb
        have g2 := S2'.au.cell
        have a2_3 := bW2.cell 3
        have a2_4 := bW2.cell 4
        simp only [List.getElem?_cons_zero, List.getElem?_cons_succ] at a2_3 a2_4
        refine hK.out _ _ ⟨a2_3, a2_4, g2⟩ (fun hHeld => ?_)
        clear hK K
        try simp only [Act.put, List.setIfInBounds_toArray, List.set_cons_zero, List.set_cons_succ]
        refine wpAnyH_ready (rs := [5]) (by kernel_rfl) (by simp) ?_
        refine AllReadyH.cons (o := ⟨_, _, _, _, _, _⟩) rfl (fun K hK => ?_) (AllReadyH.nil)
        go_simp
        refine (cp _).mono ?_
        rintro e Wc ⟨rfl, hbc⟩
        have b3 := below2 b2 hbc
        have S3' := S2'.below hbc
        have bW3 := bW2.below hbc
        have bI3 := bI2.below hbc
        have hv3 := boxed_below hv2 hbc
        have g3 := S3'.au.cell
        have a3_3 := bW3.cell 3
        have a3_4 := bW3.cell 4
        simp only [List.getElem?_cons_zero, List.getElem?_cons_succ] at a3_3 a3_4
        refine hK.out _ _ ⟨a3_3, a3_4, g3⟩ (fun hHeld => ?_)
        clear hK K
        try simp only [Act.put, List.setIfInBounds_toArray, List.set_cons_zero, List.set_cons_succ]
        refine wpAnyH_take (i := 6) (oi := ⟨_, _, _, _, _, _⟩) (v := ?_) rfl (by kernel_rfl) (by kernel_rfl) (by kernel_rfl) (fun _ _ _ h => h) (Or.inl ⟨by rfl, ?_⟩) (by assumption) ?_
        rotate_left
        · intro w hSw; (try dsimp only at hSw); go_simp; (try (with_reducible rfl))
        try simp only [Act.put, List.setIfInBounds_toArray, List.set_cons_zero, List.set_cons_succ]
        have p3 := bI3.cell 3
        have p4 := bI3.cell 4
        simp only [List.getElem?_cons_zero, List.getElem?_cons_succ] at p3 p4
        have n3 := bI3.frozen 3
        have n4 := bI3.frozen 4
        have S4' := S3'.store hBi hq hv3 hne bI3 3 (.int .i64 (t1 : Int))
        have bI4 := bI3.set_ 3 (.int .i64 (t1 : Int))
        have hv4 : Boxed (Wc.setCell ⟨Bi, 3, none⟩ (.int .i64 (t1 : Int))) q 22 (.slice Av out.length cv) := hv3.kept (grown_set 3 _) (fun e => by injection e; omega)
        have S5' := S4'.store hBi hq hv4 hne bI4 4 (.int .i64 (t2 : Int))
        have bI5 := bI4.set_ 4 (.int .i64 (t2 : Int))
        have hv5 : Boxed ((Wc.setCell ⟨Bi, 3, none⟩ (.int .i64 (t1 : Int))).setCell ⟨Bi, 4, none⟩ (.int .i64 (t2 : Int))) q 22 (.slice Av out.length cv) := hv4.kept (grown_set 4 _) (fun e => by injection e; omega)
        have bW5 := (bW3.other hBB 3 (.int .i64 (t1 : Int))).other hBB 4 (.int .i64 (t2 : Int))
        have kp5 := ((keeps_below b3).trans (KeepsOthers.setCell Wc ⟨Bi, 3, none⟩ (.int .i64 (t1 : Int)))).trans (KeepsOthers.setCell _ ⟨Bi, 4, none⟩ (.int .i64 (t2 : Int)))
        have bl5 := ((b3.mono hS.low.size).setCell (p := ⟨Bi, 3, none⟩) (by show w.heap.size ≤ Bi; omega) (.int .i64 (t1 : Int))).setCell (p := ⟨Bi, 4, none⟩) (by show w.heap.size ≤ Bi; omega) (.int .i64 (t2 : Int))
        simp only [List.set_cons_zero, List.set_cons_succ] at bI5
        have s3 := bW5.cell 3
        have s4 := bW5.cell 4
        simp only [List.getElem?_cons_zero, List.getElem?_cons_succ] at s3 s4
        have s5 := S5'.au.cell
        refine wpAnyH_ready (rs := [7]) (by kernel_rfl) (by simp) ?_
        refine AllReadyH.cons (o := ⟨_, _, _, _, _, _⟩) rfl (fun K hK => ?_) (AllReadyH.nil)
        go_simp
        generalize (Wc.setCell ⟨Bi, 3, none⟩ (.int .i64 (t1 : Int))).setCell ⟨Bi, 4, none⟩ (.int .i64 (t2 : Int)) = Wd at *
        refine hK.out _ _ ⟨s3, s4, s5⟩ (fun hHeld => ?_)
        clear hK K
        try simp only [Act.put, List.setIfInBounds_toArray, List.set_cons_zero, List.set_cons_succ]
        refine wpAnyH_done (by kernel_rfl) ?_ _
        clear hHeld S1' S2' S3' S4' bW1 bW2 bW3 bI1 bI2 bI3 bI4 hv1 hv2 hv3 hv4 g1 g2 g3 a1_3 a1_4 a2_3 a2_4 a3_3 a3_4 p3 p4 n3 n4 hba hbb hbc b1 b2 b3 ct cp w0 w1 w2 w3 w4 i0 i1 i2 i3 i4 d6 d7 d8 d9 z6 z7 z8 hS bW bI hv hv' y5
        have u3 := bW5.cell 3
        have u4 := bW5.cell 4
        simp only [List.getElem?_cons_zero, List.getElem?_cons_succ] at u3 u4
        have x3 := bI5.cell 3
        have x4 := bI5.cell 4
        simp only [List.getElem?_cons_zero, List.getElem?_cons_succ] at x3 x4
        have hep := eqP (t1 : Int) (t2 : Int) was.l was.r
        by_cases hst : (t1 : Int) = was.l ∧ (t2 : Int) = was.r
        · rw [decide_eq_true hst.1, decide_eq_true hst.2] at hep HSTK
          clear hst
          have d6 := S5'.r6.cell
          have d7 := S5'.r7.cell
          have d8 := S5'.r8.cell
          have z6 := S5'.r6.frozen
          have z7 := S5'.r7.frozen
          have z8 := S5'.r8.frozen
          obtain ⟨e6, e7, e8⟩ := res3 S5'.r6 S5'.r7 S5'.r8 (.slice none 0 0) (.slice none 0 0) (.int .i64 2)
          have bz := ((S5'.low.setCell (p := ⟨w.heap.size + 1, 0, none⟩) (by show _ ≤ w.heap.size + 1; omega) (.slice none 0 0)).setCell (p := ⟨w.heap.size + 1 + 1, 0, none⟩) (by show _ ≤ w.heap.size + 1 + 1; omega) (.slice none 0 0)).setCell (p := ⟨w.heap.size + 1 + 1 + 1, 0, none⟩) (by show _ ≤ w.heap.size + 1 + 1 + 1; omega) (.int .i64 2)
          have HBAD : Hid (okP a ((pre ++ [(⟨(was, is), hx⟩ : S2)]).map (·.1)) = false) := by show _ = _; rw [HMAP.out]; exact HST.out HSTK.out
          have kp6 := ((kp5.trans (KeepsOthers.setCell Wd ⟨w.heap.size + 1, 0, none⟩ (.slice none 0 0))).trans (KeepsOthers.setCell _ ⟨w.heap.size + 1 + 1, 0, none⟩ (.slice none 0 0))).trans (KeepsOthers.setCell _ ⟨w.heap.size + 1 + 1 + 1, 0, none⟩ (.int .i64 2))
          clear S5'
          gi_wp2
          exact ⟨kp6.from _, rfl, HBAD, e6, e7, e8, bz⟩
        · have hstb : (decide ((t1 : Int) = was.l) && decide ((t2 : Int) = was.r)) = false := by by_cases h1 : (t1 : Int) = was.l <;> by_cases h2 : (t2 : Int) = was.r <;> simp [h1, h2] <;> exact hst ⟨h1, h2⟩
          rw [hstb] at hep HSTK
          clear hst hstb
          have HOK2 : Hid (okP a ((pre ++ [(⟨(was, is), hx⟩ : S2)]).map (·.1)) = true) := by show _ = _; rw [HMAP.out]; exact HOK.out (by rw [List.length_map]; exact HLT.out) HSTK.out
          obtain ⟨z, HZ⟩ : ∃ z, Hid (newE a (was, is) = z) := ⟨_, rfl⟩
          have HZ2 := hid (HNEW.out.symm.trans HZ.out)
          have hz : SzE z := by rw [← HZ2.out]; exact hx
          have HOUT2 : Hid (outP a ((pre ++ [(⟨(was, is), hx⟩ : S2)]).map (·.1)) = out ++ [z]) := by show _ = _; rw [HMAP.out, HOUT.out, HZ.out]
          have HCH2 : Hid (chgP ((pre ++ [(⟨(was, is), hx⟩ : S2)]).map (·.1)) = ch ++ [z.path]) := by show _ = _; rw [HMAP.out, HCH.out, if_neg HNE.out, ← HZ2.out]
          have bZ : Blk Wd Bi [.string z.path, .bool z.has, .string z.data, .int .i64 z.l, .int .i64 z.r] 34 := by rw [← HZ2.out]; exact bI5
          gi_wp2
          clear bI5 bW5 x3 x4 u3 u4 HOK HOUT HCH HST HLONG HNEW HSTK HZ HNE hep hnq hle s3 s4 s5
          obtain ⟨u, hu, hrowu, -⟩ := S5'.chg
          have d10 := hu.cell
          have j0 := bZ.cell 0
          simp only [List.getElem?_cons_zero] at j0
          refine in_round (S := fun w' => w'.cell? ⟨Bi, 0, none⟩ = some (.string z.path)) (by kernel_rfl) (by kernel_rfl) (by rintro ⟨_, _, h⟩; exact h) j0 (fun hHeld => ?_)
          refine wpAnyH_take (i := 1) (oi := ⟨_, _, _, _, _, _⟩) (v := ?_) rfl (by kernel_rfl) (by kernel_rfl) (by kernel_rfl) (fun _ _ _ h => h) (Or.inl ⟨by rfl, ?_⟩) (by assumption) ?_
          rotate_left
          · intro w hSw; (try dsimp only at hSw); go_simp; (try (with_reducible rfl))
          try simp only [Act.put, List.setIfInBounds_toArray, List.set_cons_zero, List.set_cons_succ]
          refine wpAnyH_take (i := 2) (oi := ⟨_, _, _, _, _, _⟩) (v := ?_) rfl (by kernel_rfl) (by kernel_rfl) (by kernel_rfl) (fun _ _ _ h => h) (Or.inl ⟨by rfl, ?_⟩) (by assumption) ?_
          rotate_left
          · intro w hSw; (try dsimp only at hSw); go_simp; (try (with_reducible rfl))
          try simp only [Act.put, List.setIfInBounds_toArray, List.set_cons_zero, List.set_cons_succ]
          refine wpAnyH_ready (rs := [0, 3]) (by kernel_rfl) (by simp) ?_
          refine AllReadyH.cons (o := ⟨_, _, _, _, _, _⟩) rfl (fun K hK => ?_) (AllReadyH.cons (o := ⟨_, _, _, _, _, _⟩) rfl (fun K hK => ?_) (AllReadyH.nil))
          · go_simp
            refine hK.out _ _ j0 (fun hHeld => ?_)
            clear hK K
            try simp only [Act.put, List.setIfInBounds_toArray, List.set_cons_zero, List.set_cons_succ]
            refine wpAnyH_ready (rs := [3]) (by kernel_rfl) (by simp) ?_
            refine AllReadyH.cons (o := ⟨_, _, _, _, _, _⟩) rfl (fun K hK => ?_) (AllReadyH.nil)
            go_simp
            refine (clone_any z.path _ (by have := hz.1; omega)).mono ?_
            rintro e Wx ⟨rfl, hb2⟩
            have bx := below_undrew hb2
            have Sx := S5'.below bx
            have hux := boxed_below hu bx
            have bZx := bZ.below bx
            have hvx := boxed_below hv5 bx
            have qx := hux.cell
            have m0 := bZx.cell 0
            simp only [List.getElem?_cons_zero] at m0
            refine hK.out _ _ m0 (fun hHeld => ?_)
            clear hK K
            try simp only [Act.put, List.setIfInBounds_toArray, List.set_cons_zero, List.set_cons_succ]
            refine wpAnyH_ready (rs := [4]) (by kernel_rfl) (by simp) ?_
            refine AllReadyH.cons (o := ⟨_, _, _, _, _, _⟩) rfl (fun K hK => ?_) (AllReadyH.nil)
            go_simp
            obtain ⟨A', c', w3, HRUN, c1, c2, c3, c5, c6, kb⟩ := Sx.appS hq (by have h1 := HLEN.out; have h2 := HCL.out; omega) hux z.path
            have huy := hux.alloc (.cells #[.string z.path] 9)
            have bZy := bZx.below ((Below.refl _ _).alloc (Nat.le_refl _) (.cells #[.string z.path] 9))
            have qy := huy.cell
            have o0 := bZy.cell 0
            simp only [List.getElem?_cons_zero] at o0
            refine hK.out _ _ o0 (fun hHeld => ?_)
            clear hK K
            try simp only [Act.put, List.setIfInBounds_toArray, List.set_cons_zero, List.set_cons_succ]
            have bZ5 := kb Bi _ _ (by decide) bZx
            have bZ6 := bZ5.other (show Bi ≠ q + 1 by omega) 0 (.slice A' (ch.length + 1) c')
            have hv6 : Boxed (w3.setCell ⟨q + 1, 0, none⟩ (.slice A' (ch.length + 1) c')) q 22 (.slice Av out.length cv) := Boxed.kept (show Boxed w3 q 22 _ from kb q [_] _ (by decide) hvx) (grownBy_setCell' _ _ _) (fun e => by injection e; omega)
            have y0 := bZ5.cell 0
            simp only [List.getElem?_cons_zero] at y0
            have x0 := bZ6.cell 0
            simp only [List.getElem?_cons_zero] at x0
            refine wpAnyH_ready (rs := [5]) (by kernel_rfl) (by simp) ?_
            refine AllReadyH.cons (o := ⟨_, _, _, _, _, _⟩) rfl (fun K hK => ?_) (AllReadyH.nil)
            refine stepApp2 (by rfl) (.tmp 44) (.tmp 48) 25 rfl _ _ _ rfl rfl HRUN.out ?_
            refine hK.out _ _ y0 (fun hHeld => ?_)
            clear hK K
            try simp only [Act.put, List.setIfInBounds_toArray, List.set_cons_zero, List.set_cons_succ]
            refine wpAnyH_ready (rs := [6]) (by kernel_rfl) (by simp) ?_
            refine AllReadyH.cons (o := ⟨_, _, _, _, _, _⟩) rfl (fun K hK => ?_) (AllReadyH.nil)
            go_simp
            generalize w3.setCell ⟨q + 1, 0, none⟩ (.slice A' (ch.length + 1) c') = We at *
            refine hK.out _ _ x0 (fun hHeld => ?_)
            clear hK K
            try simp only [Act.put, List.setIfInBounds_toArray, List.set_cons_zero, List.set_cons_succ]
            refine wpAnyH_done (by kernel_rfl) ?_ _
            have kp7 := kp5.trans ((keeps_below bx).trans c5)
            have bl7 := bl5.trans ((bx.mono S5'.low.size).trans c6)
            clear hHeld S5' Sx hu hux huy hrowu d10 qx qy bZ bZx bZy bZ5 hv5 hvx kb HRUN c1 c2 c5 c6 bx hb2 kp5 bl5 y0 x0 m0 o0 j0
            gi_wp2
            have j0 := bZ6.cell 0
            have j1 := bZ6.cell 1
            have j2 := bZ6.cell 2
            have j3 := bZ6.cell 3
            have j4 := bZ6.cell 4
            simp only [List.getElem?_cons_zero, List.getElem?_cons_succ] at j0 j1 j2 j3 j4
            have d9 := hv6.cell
            refine in_round (S := fun w' => w'.cell? ⟨Bi, 0, none⟩ = some (.string z.path) ∧ w'.cell? ⟨Bi, 1, none⟩ = some (.bool z.has) ∧ w'.cell? ⟨Bi, 2, none⟩ = some (.string z.data) ∧ w'.cell? ⟨Bi, 3, none⟩ = some (.int .i64 z.l) ∧ w'.cell? ⟨Bi, 4, none⟩ = some (.int .i64 z.r)) (by kernel_rfl) (by kernel_rfl) (by rintro ⟨_, _, h⟩; exact h) ⟨j0, j1, j2, j3, j4⟩ (fun hHeld => ?_)
            refine wpAnyH_take (i := 1) (oi := ⟨_, _, _, _, _, _⟩) (v := ?_) rfl (by kernel_rfl) (by kernel_rfl) (by kernel_rfl) (fun _ _ _ h => h) (Or.inl ⟨by rfl, ?_⟩) (by assumption) ?_
            rotate_left
            · intro w hSw; (try dsimp only at hSw); go_simp; (try (with_reducible rfl))
            try simp only [Act.put, List.setIfInBounds_toArray, List.set_cons_zero, List.set_cons_succ]
            refine wpAnyH_ready (rs := [0, 2]) (by kernel_rfl) (by simp) ?_
            refine AllReadyH.cons (o := ⟨_, _, _, _, _, _⟩) rfl (fun K hK => ?_) (AllReadyH.cons (o := ⟨_, _, _, _, _, _⟩) rfl (fun K hK => ?_) (AllReadyH.nil))
            · go_simp
              refine hK.out _ _ ⟨j0, j1, j2, j3, j4⟩ (fun hHeld => ?_)
              clear hK K
              try simp only [Act.put, List.setIfInBounds_toArray, List.set_cons_zero, List.set_cons_succ]
              refine wpAnyH_ready (rs := [2]) (by kernel_rfl) (by simp) ?_
              refine AllReadyH.cons (o := ⟨_, _, _, _, _, _⟩) rfl (fun K hK => ?_) (AllReadyH.nil)
              go_simp
              refine (eanew_any z _ (by have := hz.1; omega) (by have := hz.2; omega)).mono ?_
              rintro e W1 ⟨rfl, hb2⟩
              have b2 := below_undrew hb2
              have S2' := c3.below b2
              have hv2 := boxed_below hv6 b2
              have bI2 := bZ6.below b2
              have q2 := hv2.cell
              have m0 := bI2.cell 0
              have m1 := bI2.cell 1
              have m2 := bI2.cell 2
              have m3 := bI2.cell 3
              have m4 := bI2.cell 4
              simp only [List.getElem?_cons_zero, List.getElem?_cons_succ] at m0 m1 m2 m3 m4
              refine hK.out _ _ ⟨m0, m1, m2, m3, m4⟩ (fun hHeld => ?_)
              clear hK K
              try simp only [Act.put, List.setIfInBounds_toArray, List.set_cons_zero, List.set_cons_succ]
              refine wpAnyH_ready (rs := [3]) (by kernel_rfl) (by simp) ?_
              refine AllReadyH.cons (o := ⟨_, _, _, _, _, _⟩) rfl (fun K hK => ?_) (AllReadyH.nil)
              go_simp
              obtain ⟨A2, c2', w4, HRUN2, c1, c2, c4, c5, c6, kb⟩ := S2'.app hq (by have h1 := HLEN.out; have h2 := HK.out; omega) hv2 z
              have hv3 := hv2.alloc (.cells #[.string z.path, .bool z.has, .string z.data, .int .i64 z.l, .int .i64 z.r] 34)
              have bI3 := bI2.below ((Below.refl _ _).alloc (Nat.le_refl _) (.cells #[.string z.path, .bool z.has, .string z.data, .int .i64 z.l, .int .i64 z.r] 34))
              have q3 := hv3.cell
              have o0 := bI3.cell 0
              have o1 := bI3.cell 1
              have o2 := bI3.cell 2
              have o3 := bI3.cell 3
              have o4 := bI3.cell 4
              simp only [List.getElem?_cons_zero, List.getElem?_cons_succ] at o0 o1 o2 o3 o4
              refine hK.out _ _ ⟨o0, o1, o2, o3, o4⟩ (fun hHeld => ?_)
              clear hK K
              try simp only [Act.put, List.setIfInBounds_toArray, List.set_cons_zero, List.set_cons_succ]
              have bI5 := kb Bi _ _ bI2 hne
              have bI6 := bI5.other (show Bi ≠ q by omega) 0 (.slice A2 (out.length + 1) c2')
              have y0 := bI5.cell 0
              have y1 := bI5.cell 1
              have y2 := bI5.cell 2
              have y3 := bI5.cell 3
              have y4 := bI5.cell 4
              simp only [List.getElem?_cons_zero, List.getElem?_cons_succ] at y0 y1 y2 y3 y4
              have x0 := bI6.cell 0
              have x1 := bI6.cell 1
              have x2 := bI6.cell 2
              have x3 := bI6.cell 3
              have x4 := bI6.cell 4
              simp only [List.getElem?_cons_zero, List.getElem?_cons_succ] at x0 x1 x2 x3 x4
              refine wpAnyH_ready (rs := [4]) (by kernel_rfl) (by simp) ?_
              refine AllReadyH.cons (o := ⟨_, _, _, _, _, _⟩) rfl (fun K hK => ?_) (AllReadyH.nil)
              refine stepApp2 (by rfl) (.tmp 50) (.tmp 53) 22 rfl _ _ _ rfl rfl HRUN2.out ?_
              refine hK.out _ _ ⟨y0, y1, y2, y3, y4⟩ (fun hHeld => ?_)
              clear hK K
              try simp only [Act.put, List.setIfInBounds_toArray, List.set_cons_zero, List.set_cons_succ]
              refine wpAnyH_ready (rs := [5]) (by kernel_rfl) (by simp) ?_
              refine AllReadyH.cons (o := ⟨_, _, _, _, _, _⟩) rfl (fun K hK => ?_) (AllReadyH.nil)
              go_simp
              refine hK.out _ _ ⟨x0, x1, x2, x3, x4⟩ (fun hHeld => ?_)
              clear hK K
              try simp only [Act.put, List.setIfInBounds_toArray, List.set_cons_zero, List.set_cons_succ]
              refine wpAnyH_done (by kernel_rfl) ?_ _
              have kp := kp7.trans ((keeps_below b2).trans c5)
              have bl := bl7.trans ((b2.mono c3.low.size).trans c6)
              exact ⟨kp.from _, bl, by rw [HOUT2.out, HCH2.out]; exact c4, HOK2⟩
            · go_simp
              refine (eanew_any z _ (by have := hz.1; omega) (by have := hz.2; omega)).mono ?_
              rintro e W1 ⟨rfl, hb2⟩
              have b2 := below_undrew hb2
              have S2' := c3.below b2
              have hv2 := boxed_below hv6 b2
              have bI2 := bZ6.below b2
              have q2 := hv2.cell
              have m0 := bI2.cell 0
              have m1 := bI2.cell 1
              have m2 := bI2.cell 2
              have m3 := bI2.cell 3
              have m4 := bI2.cell 4
              simp only [List.getElem?_cons_zero, List.getElem?_cons_succ] at m0 m1 m2 m3 m4
              refine hK.out _ _ ⟨m0, m1, m2, m3, m4⟩ (fun hHeld => ?_)
              clear hK K
              try simp only [Act.put, List.setIfInBounds_toArray, List.set_cons_zero, List.set_cons_succ]
              refine wpAnyH_ready (rs := [0, 3]) (by kernel_rfl) (by simp) ?_
              refine AllReadyH.cons (o := ⟨_, _, _, _, _, _⟩) rfl (fun K hK => ?_) (AllReadyH.cons (o := ⟨_, _, _, _, _, _⟩) rfl (fun K hK => ?_) (AllReadyH.nil))
              · go_simp
                refine hK.out _ _ ⟨m0, m1, m2, m3, m4⟩ (fun hHeld => ?_)
                clear hK K
                try simp only [Act.put, List.setIfInBounds_toArray, List.set_cons_zero, List.set_cons_succ]
                refine wpAnyH_ready (rs := [3]) (by kernel_rfl) (by simp) ?_
                refine AllReadyH.cons (o := ⟨_, _, _, _, _, _⟩) rfl (fun K hK => ?_) (AllReadyH.nil)
                go_simp
                obtain ⟨A2, c2', w4, HRUN2, c1, c2, c4, c5, c6, kb⟩ := S2'.app hq (by have h1 := HLEN.out; have h2 := HK.out; omega) hv2 z
                have hv3 := hv2.alloc (.cells #[.string z.path, .bool z.has, .string z.data, .int .i64 z.l, .int .i64 z.r] 34)
                have bI3 := bI2.below ((Below.refl _ _).alloc (Nat.le_refl _) (.cells #[.string z.path, .bool z.has, .string z.data, .int .i64 z.l, .int .i64 z.r] 34))
                have q3 := hv3.cell
                have o0 := bI3.cell 0
                have o1 := bI3.cell 1
                have o2 := bI3.cell 2
                have o3 := bI3.cell 3
                have o4 := bI3.cell 4
                simp only [List.getElem?_cons_zero, List.getElem?_cons_succ] at o0 o1 o2 o3 o4
                refine hK.out _ _ ⟨o0, o1, o2, o3, o4⟩ (fun hHeld => ?_)
                clear hK K
                try simp only [Act.put, List.setIfInBounds_toArray, List.set_cons_zero, List.set_cons_succ]
                have bI5 := kb Bi _ _ bI2 hne
                have bI6 := bI5.other (show Bi ≠ q by omega) 0 (.slice A2 (out.length + 1) c2')
                have y0 := bI5.cell 0
                have y1 := bI5.cell 1
                have y2 := bI5.cell 2
                have y3 := bI5.cell 3
                have y4 := bI5.cell 4
                simp only [List.getElem?_cons_zero, List.getElem?_cons_succ] at y0 y1 y2 y3 y4
                have x0 := bI6.cell 0
                have x1 := bI6.cell 1
                have x2 := bI6.cell 2
                have x3 := bI6.cell 3
                have x4 := bI6.cell 4
                simp only [List.getElem?_cons_zero, List.getElem?_cons_succ] at x0 x1 x2 x3 x4
                refine wpAnyH_ready (rs := [4]) (by kernel_rfl) (by simp) ?_
                refine AllReadyH.cons (o := ⟨_, _, _, _, _, _⟩) rfl (fun K hK => ?_) (AllReadyH.nil)
                refine stepApp2 (by rfl) (.tmp 50) (.tmp 53) 22 rfl _ _ _ rfl rfl HRUN2.out ?_
                refine hK.out _ _ ⟨y0, y1, y2, y3, y4⟩ (fun hHeld => ?_)
                clear hK K
                try simp only [Act.put, List.setIfInBounds_toArray, List.set_cons_zero, List.set_cons_succ]
                refine wpAnyH_ready (rs := [5]) (by kernel_rfl) (by simp) ?_
                refine AllReadyH.cons (o := ⟨_, _, _, _, _, _⟩) rfl (fun K hK => ?_) (AllReadyH.nil)
                go_simp
                refine hK.out _ _ ⟨x0, x1, x2, x3, x4⟩ (fun hHeld => ?_)
                clear hK K
                try simp only [Act.put, List.setIfInBounds_toArray, List.set_cons_zero, List.set_cons_succ]
                refine wpAnyH_done (by kernel_rfl) ?_ _
                have kp := kp7.trans ((keeps_below b2).trans c5)
                have bl := bl7.trans ((b2.mono c3.low.size).trans c6)
                exact ⟨kp.from _, bl, by rw [HOUT2.out, HCH2.out]; exact c4, HOK2⟩
              · go_simp
                obtain ⟨A2, c2', w4, HRUN2, c1, c2, c4, c5, c6, kb⟩ := S2'.app hq (by have h1 := HLEN.out; have h2 := HK.out; omega) hv2 z
                have hv3 := hv2.alloc (.cells #[.string z.path, .bool z.has, .string z.data, .int .i64 z.l, .int .i64 z.r] 34)
                have bI3 := bI2.below ((Below.refl _ _).alloc (Nat.le_refl _) (.cells #[.string z.path, .bool z.has, .string z.data, .int .i64 z.l, .int .i64 z.r] 34))
                have q3 := hv3.cell
                have o0 := bI3.cell 0
                have o1 := bI3.cell 1
                have o2 := bI3.cell 2
                have o3 := bI3.cell 3
                have o4 := bI3.cell 4
                simp only [List.getElem?_cons_zero, List.getElem?_cons_succ] at o0 o1 o2 o3 o4
                refine hK.out _ _ ⟨o0, o1, o2, o3, o4⟩ (fun hHeld => ?_)
                clear hK K
                try simp only [Act.put, List.setIfInBounds_toArray, List.set_cons_zero, List.set_cons_succ]
                refine wpAnyH_ready (rs := [0]) (by kernel_rfl) (by simp) ?_
                refine AllReadyH.cons (o := ⟨_, _, _, _, _, _⟩) rfl (fun K hK => ?_) (AllReadyH.nil)
                go_simp
                refine hK.out _ _ ⟨o0, o1, o2, o3, o4⟩ (fun hHeld => ?_)
                clear hK K
                try simp only [Act.put, List.setIfInBounds_toArray, List.set_cons_zero, List.set_cons_succ]
                have bI5 := kb Bi _ _ bI2 hne
                have bI6 := bI5.other (show Bi ≠ q by omega) 0 (.slice A2 (out.length + 1) c2')
                have y0 := bI5.cell 0
                have y1 := bI5.cell 1
                have y2 := bI5.cell 2
                have y3 := bI5.cell 3
                have y4 := bI5.cell 4
                simp only [List.getElem?_cons_zero, List.getElem?_cons_succ] at y0 y1 y2 y3 y4
                have x0 := bI6.cell 0
                have x1 := bI6.cell 1
                have x2 := bI6.cell 2
                have x3 := bI6.cell 3
                have x4 := bI6.cell 4
                simp only [List.getElem?_cons_zero, List.getElem?_cons_succ] at x0 x1 x2 x3 x4
                refine wpAnyH_ready (rs := [4]) (by kernel_rfl) (by simp) ?_
                refine AllReadyH.cons (o := ⟨_, _, _, _, _, _⟩) rfl (fun K hK => ?_) (AllReadyH.nil)
                refine stepApp2 (by rfl) (.tmp 50) (.tmp 53) 22 rfl _ _ _ rfl rfl HRUN2.out ?_
                refine hK.out _ _ ⟨y0, y1, y2, y3, y4⟩ (fun hHeld => ?_)
                clear hK K
                try simp only [Act.put, List.setIfInBounds_toArray, List.set_cons_zero, List.set_cons_succ]
                refine wpAnyH_ready (rs := [5]) (by kernel_rfl) (by simp) ?_
                refine AllReadyH.cons (o := ⟨_, _, _, _, _, _⟩) rfl (fun K hK => ?_) (AllReadyH.nil)
                go_simp
                refine hK.out _ _ ⟨x0, x1, x2, x3, x4⟩ (fun hHeld => ?_)
                clear hK K
                try simp only [Act.put, List.setIfInBounds_toArray, List.set_cons_zero, List.set_cons_succ]
                refine wpAnyH_done (by kernel_rfl) ?_ _
                have kp := kp7.trans ((keeps_below b2).trans c5)
                have bl := bl7.trans ((b2.mono c3.low.size).trans c6)
                exact ⟨kp.from _, bl, by rw [HOUT2.out, HCH2.out]; exact c4, HOK2⟩
          · go_simp
            refine (clone_any z.path _ (by have := hz.1; omega)).mono ?_
            rintro e Wx ⟨rfl, hb2⟩
            have bx := below_undrew hb2
            have Sx := S5'.below bx
            have hux := boxed_below hu bx
            have bZx := bZ.below bx
            have hvx := boxed_below hv5 bx
            have qx := hux.cell
            have m0 := bZx.cell 0
            simp only [List.getElem?_cons_zero] at m0
            refine hK.out _ _ m0 (fun hHeld => ?_)
            clear hK K
            try simp only [Act.put, List.setIfInBounds_toArray, List.set_cons_zero, List.set_cons_succ]
            refine wpAnyH_ready (rs := [0, 4]) (by kernel_rfl) (by simp) ?_
            refine AllReadyH.cons (o := ⟨_, _, _, _, _, _⟩) rfl (fun K hK => ?_) (AllReadyH.cons (o := ⟨_, _, _, _, _, _⟩) rfl (fun K hK => ?_) (AllReadyH.nil))
            · go_simp
              refine hK.out _ _ m0 (fun hHeld => ?_)
              clear hK K
              try simp only [Act.put, List.setIfInBounds_toArray, List.set_cons_zero, List.set_cons_succ]
              refine wpAnyH_ready (rs := [4]) (by kernel_rfl) (by simp) ?_
              refine AllReadyH.cons (o := ⟨_, _, _, _, _, _⟩) rfl (fun K hK => ?_) (AllReadyH.nil)
              go_simp
              obtain ⟨A', c', w3, HRUN, c1, c2, c3, c5, c6, kb⟩ := Sx.appS hq (by have h1 := HLEN.out; have h2 := HCL.out; omega) hux z.path
              have huy := hux.alloc (.cells #[.string z.path] 9)
              have bZy := bZx.below ((Below.refl _ _).alloc (Nat.le_refl _) (.cells #[.string z.path] 9))
              have qy := huy.cell
              have o0 := bZy.cell 0
              simp only [List.getElem?_cons_zero] at o0
              refine hK.out _ _ o0 (fun hHeld => ?_)
              clear hK K
              try simp only [Act.put, List.setIfInBounds_toArray, List.set_cons_zero, List.set_cons_succ]
              have bZ5 := kb Bi _ _ (by decide) bZx
              have bZ6 := bZ5.other (show Bi ≠ q + 1 by omega) 0 (.slice A' (ch.length + 1) c')
              have hv6 : Boxed (w3.setCell ⟨q + 1, 0, none⟩ (.slice A' (ch.length + 1) c')) q 22 (.slice Av out.length cv) := Boxed.kept (show Boxed w3 q 22 _ from kb q [_] _ (by decide) hvx) (grownBy_setCell' _ _ _) (fun e => by injection e; omega)
              have y0 := bZ5.cell 0
              simp only [List.getElem?_cons_zero] at y0
              have x0 := bZ6.cell 0
              simp only [List.getElem?_cons_zero] at x0
              refine wpAnyH_ready (rs := [5]) (by kernel_rfl) (by simp) ?_
              refine AllReadyH.cons (o := ⟨_, _, _, _, _, _⟩) rfl (fun K hK => ?_) (AllReadyH.nil)
              refine stepApp2 (by rfl) (.tmp 44) (.tmp 48) 25 rfl _ _ _ rfl rfl HRUN.out ?_
              refine hK.out _ _ y0 (fun hHeld => ?_)
              clear hK K
              try simp only [Act.put, List.setIfInBounds_toArray, List.set_cons_zero, List.set_cons_succ]
              refine wpAnyH_ready (rs := [6]) (by kernel_rfl) (by simp) ?_
              refine AllReadyH.cons (o := ⟨_, _, _, _, _, _⟩) rfl (fun K hK => ?_) (AllReadyH.nil)
              go_simp
              generalize w3.setCell ⟨q + 1, 0, none⟩ (.slice A' (ch.length + 1) c') = We at *
              refine hK.out _ _ x0 (fun hHeld => ?_)
              clear hK K
              try simp only [Act.put, List.setIfInBounds_toArray, List.set_cons_zero, List.set_cons_succ]
              refine wpAnyH_done (by kernel_rfl) ?_ _
              have kp7 := kp5.trans ((keeps_below bx).trans c5)
              have bl7 := bl5.trans ((bx.mono S5'.low.size).trans c6)
              clear hHeld S5' Sx hu hux huy hrowu d10 qx qy bZ bZx bZy bZ5 hv5 hvx kb HRUN c1 c2 c5 c6 bx hb2 kp5 bl5 y0 x0 m0 o0 j0
              gi_wp2
              have j0 := bZ6.cell 0
              have j1 := bZ6.cell 1
              have j2 := bZ6.cell 2
              have j3 := bZ6.cell 3
              have j4 := bZ6.cell 4
              simp only [List.getElem?_cons_zero, List.getElem?_cons_succ] at j0 j1 j2 j3 j4
              have d9 := hv6.cell
              refine in_round (S := fun w' => w'.cell? ⟨Bi, 0, none⟩ = some (.string z.path) ∧ w'.cell? ⟨Bi, 1, none⟩ = some (.bool z.has) ∧ w'.cell? ⟨Bi, 2, none⟩ = some (.string z.data) ∧ w'.cell? ⟨Bi, 3, none⟩ = some (.int .i64 z.l) ∧ w'.cell? ⟨Bi, 4, none⟩ = some (.int .i64 z.r)) (by kernel_rfl) (by kernel_rfl) (by rintro ⟨_, _, h⟩; exact h) ⟨j0, j1, j2, j3, j4⟩ (fun hHeld => ?_)
              refine wpAnyH_take (i := 1) (oi := ⟨_, _, _, _, _, _⟩) (v := ?_) rfl (by kernel_rfl) (by kernel_rfl) (by kernel_rfl) (fun _ _ _ h => h) (Or.inl ⟨by rfl, ?_⟩) (by assumption) ?_
              rotate_left
              · intro w hSw; (try dsimp only at hSw); go_simp; (try (with_reducible rfl))
              try simp only [Act.put, List.setIfInBounds_toArray, List.set_cons_zero, List.set_cons_succ]
              refine wpAnyH_ready (rs := [0, 2]) (by kernel_rfl) (by simp) ?_
              refine AllReadyH.cons (o := ⟨_, _, _, _, _, _⟩) rfl (fun K hK => ?_) (AllReadyH.cons (o := ⟨_, _, _, _, _, _⟩) rfl (fun K hK => ?_) (AllReadyH.nil))
              · go_simp
                refine hK.out _ _ ⟨j0, j1, j2, j3, j4⟩ (fun hHeld => ?_)
                clear hK K
                try simp only [Act.put, List.setIfInBounds_toArray, List.set_cons_zero, List.set_cons_succ]
                refine wpAnyH_ready (rs := [2]) (by kernel_rfl) (by simp) ?_
                refine AllReadyH.cons (o := ⟨_, _, _, _, _, _⟩) rfl (fun K hK => ?_) (AllReadyH.nil)
                go_simp
                refine (eanew_any z _ (by have := hz.1; omega) (by have := hz.2; omega)).mono ?_
                rintro e W1 ⟨rfl, hb2⟩
                have b2 := below_undrew hb2
                have S2' := c3.below b2
                have hv2 := boxed_below hv6 b2
                have bI2 := bZ6.below b2
                have q2 := hv2.cell
                have m0 := bI2.cell 0
                have m1 := bI2.cell 1
                have m2 := bI2.cell 2
                have m3 := bI2.cell 3
                have m4 := bI2.cell 4
                simp only [List.getElem?_cons_zero, List.getElem?_cons_succ] at m0 m1 m2 m3 m4
                refine hK.out _ _ ⟨m0, m1, m2, m3, m4⟩ (fun hHeld => ?_)
                clear hK K
                try simp only [Act.put, List.setIfInBounds_toArray, List.set_cons_zero, List.set_cons_succ]
                refine wpAnyH_ready (rs := [3]) (by kernel_rfl) (by simp) ?_
                refine AllReadyH.cons (o := ⟨_, _, _, _, _, _⟩) rfl (fun K hK => ?_) (AllReadyH.nil)
                go_simp
                obtain ⟨A2, c2', w4, HRUN2, c1, c2, c4, c5, c6, kb⟩ := S2'.app hq (by have h1 := HLEN.out; have h2 := HK.out; omega) hv2 z
                have hv3 := hv2.alloc (.cells #[.string z.path, .bool z.has, .string z.data, .int .i64 z.l, .int .i64 z.r] 34)
                have bI3 := bI2.below ((Below.refl _ _).alloc (Nat.le_refl _) (.cells #[.string z.path, .bool z.has, .string z.data, .int .i64 z.l, .int .i64 z.r] 34))
                have q3 := hv3.cell
                have o0 := bI3.cell 0
                have o1 := bI3.cell 1
                have o2 := bI3.cell 2
                have o3 := bI3.cell 3
                have o4 := bI3.cell 4
                simp only [List.getElem?_cons_zero, List.getElem?_cons_succ] at o0 o1 o2 o3 o4
                refine hK.out _ _ ⟨o0, o1, o2, o3, o4⟩ (fun hHeld => ?_)
                clear hK K
                try simp only [Act.put, List.setIfInBounds_toArray, List.set_cons_zero, List.set_cons_succ]
                have bI5 := kb Bi _ _ bI2 hne
                have bI6 := bI5.other (show Bi ≠ q by omega) 0 (.slice A2 (out.length + 1) c2')
                have y0 := bI5.cell 0
                have y1 := bI5.cell 1
                have y2 := bI5.cell 2
                have y3 := bI5.cell 3
                have y4 := bI5.cell 4
                simp only [List.getElem?_cons_zero, List.getElem?_cons_succ] at y0 y1 y2 y3 y4
                have x0 := bI6.cell 0
                have x1 := bI6.cell 1
                have x2 := bI6.cell 2
                have x3 := bI6.cell 3
                have x4 := bI6.cell 4
                simp only [List.getElem?_cons_zero, List.getElem?_cons_succ] at x0 x1 x2 x3 x4
                refine wpAnyH_ready (rs := [4]) (by kernel_rfl) (by simp) ?_
                refine AllReadyH.cons (o := ⟨_, _, _, _, _, _⟩) rfl (fun K hK => ?_) (AllReadyH.nil)
                refine stepApp2 (by rfl) (.tmp 50) (.tmp 53) 22 rfl _ _ _ rfl rfl HRUN2.out ?_
                refine hK.out _ _ ⟨y0, y1, y2, y3, y4⟩ (fun hHeld => ?_)
                clear hK K
                try simp only [Act.put, List.setIfInBounds_toArray, List.set_cons_zero, List.set_cons_succ]
                refine wpAnyH_ready (rs := [5]) (by kernel_rfl) (by simp) ?_
                refine AllReadyH.cons (o := ⟨_, _, _, _, _, _⟩) rfl (fun K hK => ?_) (AllReadyH.nil)
                go_simp
                refine hK.out _ _ ⟨x0, x1, x2, x3, x4⟩ (fun hHeld => ?_)
                clear hK K
                try simp only [Act.put, List.setIfInBounds_toArray, List.set_cons_zero, List.set_cons_succ]
                refine wpAnyH_done (by kernel_rfl) ?_ _
                have kp := kp7.trans ((keeps_below b2).trans c5)
                have bl := bl7.trans ((b2.mono c3.low.size).trans c6)
                exact ⟨kp.from _, bl, by rw [HOUT2.out, HCH2.out]; exact c4, HOK2⟩
              · go_simp
                refine (eanew_any z _ (by have := hz.1; omega) (by have := hz.2; omega)).mono ?_
                rintro e W1 ⟨rfl, hb2⟩
                have b2 := below_undrew hb2
                have S2' := c3.below b2
                have hv2 := boxed_below hv6 b2
                have bI2 := bZ6.below b2
                have q2 := hv2.cell
                have m0 := bI2.cell 0
                have m1 := bI2.cell 1
                have m2 := bI2.cell 2
                have m3 := bI2.cell 3
                have m4 := bI2.cell 4
                simp only [List.getElem?_cons_zero, List.getElem?_cons_succ] at m0 m1 m2 m3 m4
                refine hK.out _ _ ⟨m0, m1, m2, m3, m4⟩ (fun hHeld => ?_)
                clear hK K
                try simp only [Act.put, List.setIfInBounds_toArray, List.set_cons_zero, List.set_cons_succ]
                refine wpAnyH_ready (rs := [0, 3]) (by kernel_rfl) (by simp) ?_
                refine AllReadyH.cons (o := ⟨_, _, _, _, _, _⟩) rfl (fun K hK => ?_) (AllReadyH.cons (o := ⟨_, _, _, _, _, _⟩) rfl (fun K hK => ?_) (AllReadyH.nil))
                · go_simp
                  refine hK.out _ _ ⟨m0, m1, m2, m3, m4⟩ (fun hHeld => ?_)
                  clear hK K
                  try simp only [Act.put, List.setIfInBounds_toArray, List.set_cons_zero, List.set_cons_succ]
                  refine wpAnyH_ready (rs := [3]) (by kernel_rfl) (by simp) ?_
                  refine AllReadyH.cons (o := ⟨_, _, _, _, _, _⟩) rfl (fun K hK => ?_) (AllReadyH.nil)
                  go_simp
                  obtain ⟨A2, c2', w4, HRUN2, c1, c2, c4, c5, c6, kb⟩ := S2'.app hq (by have h1 := HLEN.out; have h2 := HK.out; omega) hv2 z
                  have hv3 := hv2.alloc (.cells #[.string z.path, .bool z.has, .string z.data, .int .i64 z.l, .int .i64 z.r] 34)
                  have bI3 := bI2.below ((Below.refl _ _).alloc (Nat.le_refl _) (.cells #[.string z.path, .bool z.has, .string z.data, .int .i64 z.l, .int .i64 z.r] 34))
                  have q3 := hv3.cell
                  have o0 := bI3.cell 0
                  have o1 := bI3.cell 1
                  have o2 := bI3.cell 2
                  have o3 := bI3.cell 3
                  have o4 := bI3.cell 4
                  simp only [List.getElem?_cons_zero, List.getElem?_cons_succ] at o0 o1 o2 o3 o4
                  refine hK.out _ _ ⟨o0, o1, o2, o3, o4⟩ (fun hHeld => ?_)
                  clear hK K
                  try simp only [Act.put, List.setIfInBounds_toArray, List.set_cons_zero, List.set_cons_succ]
                  have bI5 := kb Bi _ _ bI2 hne
                  have bI6 := bI5.other (show Bi ≠ q by omega) 0 (.slice A2 (out.length + 1) c2')
                  have y0 := bI5.cell 0
                  have y1 := bI5.cell 1
                  have y2 := bI5.cell 2
                  have y3 := bI5.cell 3
                  have y4 := bI5.cell 4
                  simp only [List.getElem?_cons_zero, List.getElem?_cons_succ] at y0 y1 y2 y3 y4
                  have x0 := bI6.cell 0
                  have x1 := bI6.cell 1
                  have x2 := bI6.cell 2
                  have x3 := bI6.cell 3
                  have x4 := bI6.cell 4
                  simp only [List.getElem?_cons_zero, List.getElem?_cons_succ] at x0 x1 x2 x3 x4
                  refine wpAnyH_ready (rs := [4]) (by kernel_rfl) (by simp) ?_
                  refine AllReadyH.cons (o := ⟨_, _, _, _, _, _⟩) rfl (fun K hK => ?_) (AllReadyH.nil)
                  refine stepApp2 (by rfl) (.tmp 50) (.tmp 53) 22 rfl _ _ _ rfl rfl HRUN2.out ?_
                  refine hK.out _ _ ⟨y0, y1, y2, y3, y4⟩ (fun hHeld => ?_)
                  clear hK K
                  try simp only [Act.put, List.setIfInBounds_toArray, List.set_cons_zero, List.set_cons_succ]
                  refine wpAnyH_ready (rs := [5]) (by kernel_rfl) (by simp) ?_
                  refine AllReadyH.cons (o := ⟨_, _, _, _, _, _⟩) rfl (fun K hK => ?_) (AllReadyH.nil)
                  go_simp
                  refine hK.out _ _ ⟨x0, x1, x2, x3, x4⟩ (fun hHeld => ?_)
                  clear hK K
                  try simp only [Act.put, List.setIfInBounds_toArray, List.set_cons_zero, List.set_cons_succ]
                  refine wpAnyH_done (by kernel_rfl) ?_ _
                  have kp := kp7.trans ((keeps_below b2).trans c5)
                  have bl := bl7.trans ((b2.mono c3.low.size).trans c6)
                  exact ⟨kp.from _, bl, by rw [HOUT2.out, HCH2.out]; exact c4, HOK2⟩
                · go_simp
                  obtain ⟨A2, c2', w4, HRUN2, c1, c2, c4, c5, c6, kb⟩ := S2'.app hq (by have h1 := HLEN.out; have h2 := HK.out; omega) hv2 z
                  have hv3 := hv2.alloc (.cells #[.string z.path, .bool z.has, .string z.data, .int .i64 z.l, .int .i64 z.r] 34)
                  have bI3 := bI2.below ((Below.refl _ _).alloc (Nat.le_refl _) (.cells #[.string z.path, .bool z.has, .string z.data, .int .i64 z.l, .int .i64 z.r] 34))
                  have q3 := hv3.cell
                  have o0 := bI3.cell 0
                  have o1 := bI3.cell 1
                  have o2 := bI3.cell 2
                  have o3 := bI3.cell 3
                  have o4 := bI3.cell 4
                  simp only [List.getElem?_cons_zero, List.getElem?_cons_succ] at o0 o1 o2 o3 o4
                  refine hK.out _ _ ⟨o0, o1, o2, o3, o4⟩ (fun hHeld => ?_)
                  clear hK K
                  try simp only [Act.put, List.setIfInBounds_toArray, List.set_cons_zero, List.set_cons_succ]
                  refine wpAnyH_ready (rs := [0]) (by kernel_rfl) (by simp) ?_
                  refine AllReadyH.cons (o := ⟨_, _, _, _, _, _⟩) rfl (fun K hK => ?_) (AllReadyH.nil)
                  go_simp
                  refine hK.out _ _ ⟨o0, o1, o2, o3, o4⟩ (fun hHeld => ?_)
                  clear hK K
                  try simp only [Act.put, List.setIfInBounds_toArray, List.set_cons_zero, List.set_cons_succ]
                  have bI5 := kb Bi _ _ bI2 hne
                  have bI6 := bI5.other (show Bi ≠ q by omega) 0 (.slice A2 (out.length + 1) c2')
                  have y0 := bI5.cell 0
                  have y1 := bI5.cell 1
                  have y2 := bI5.cell 2
                  have y3 := bI5.cell 3
                  have y4 := bI5.cell 4
                  simp only [List.getElem?_cons_zero, List.getElem?_cons_succ] at y0 y1 y2 y3 y4
                  have x0 := bI6.cell 0
                  have x1 := bI6.cell 1
                  have x2 := bI6.cell 2
                  have x3 := bI6.cell 3
                  have x4 := bI6.cell 4
                  simp only [List.getElem?_cons_zero, List.getElem?_cons_succ] at x0 x1 x2 x3 x4
                  refine wpAnyH_ready (rs := [4]) (by kernel_rfl) (by simp) ?_
                  refine AllReadyH.cons (o := ⟨_, _, _, _, _, _⟩) rfl (fun K hK => ?_) (AllReadyH.nil)
                  refine stepApp2 (by rfl) (.tmp 50) (.tmp 53) 22 rfl _ _ _ rfl rfl HRUN2.out ?_
                  refine hK.out _ _ ⟨y0, y1, y2, y3, y4⟩ (fun hHeld => ?_)
                  clear hK K
                  try simp only [Act.put, List.setIfInBounds_toArray, List.set_cons_zero, List.set_cons_succ]
                  refine wpAnyH_ready (rs := [5]) (by kernel_rfl) (by simp) ?_
                  refine AllReadyH.cons (o := ⟨_, _, _, _, _, _⟩) rfl (fun K hK => ?_) (AllReadyH.nil)
                  go_simp
                  refine hK.out _ _ ⟨x0, x1, x2, x3, x4⟩ (fun hHeld => ?_)
                  clear hK K
                  try simp only [Act.put, List.setIfInBounds_toArray, List.set_cons_zero, List.set_cons_succ]
                  refine wpAnyH_done (by kernel_rfl) ?_ _
                  have kp := kp7.trans ((keeps_below b2).trans c5)
                  have bl := bl7.trans ((b2.mono c3.low.size).trans c6)
                  exact ⟨kp.from _, bl, by rw [HOUT2.out, HCH2.out]; exact c4, HOK2⟩
            · go_simp
              obtain ⟨A', c', w3, HRUN, c1, c2, c3, c5, c6, kb⟩ := Sx.appS hq (by have h1 := HLEN.out; have h2 := HCL.out; omega) hux z.path
              have huy := hux.alloc (.cells #[.string z.path] 9)
              have bZy := bZx.below ((Below.refl _ _).alloc (Nat.le_refl _) (.cells #[.string z.path] 9))
              have qy := huy.cell
              have o0 := bZy.cell 0
              simp only [List.getElem?_cons_zero] at o0
              refine hK.out _ _ o0 (fun hHeld => ?_)
              clear hK K
              try simp only [Act.put, List.setIfInBounds_toArray, List.set_cons_zero, List.set_cons_succ]
              refine wpAnyH_ready (rs := [0]) (by kernel_rfl) (by simp) ?_
              refine AllReadyH.cons (o := ⟨_, _, _, _, _, _⟩) rfl (fun K hK => ?_) (AllReadyH.nil)
              go_simp
              refine hK.out _ _ o0 (fun hHeld => ?_)
              clear hK K
              try simp only [Act.put, List.setIfInBounds_toArray, List.set_cons_zero, List.set_cons_succ]
              have bZ5 := kb Bi _ _ (by decide) bZx
              have bZ6 := bZ5.other (show Bi ≠ q + 1 by omega) 0 (.slice A' (ch.length + 1) c')
              have hv6 : Boxed (w3.setCell ⟨q + 1, 0, none⟩ (.slice A' (ch.length + 1) c')) q 22 (.slice Av out.length cv) := Boxed.kept (show Boxed w3 q 22 _ from kb q [_] _ (by decide) hvx) (grownBy_setCell' _ _ _) (fun e => by injection e; omega)
              have y0 := bZ5.cell 0
              simp only [List.getElem?_cons_zero] at y0
              have x0 := bZ6.cell 0
              simp only [List.getElem?_cons_zero] at x0
              refine wpAnyH_ready (rs := [5]) (by kernel_rfl) (by simp) ?_
              refine AllReadyH.cons (o := ⟨_, _, _, _, _, _⟩) rfl (fun K hK => ?_) (AllReadyH.nil)
              refine stepApp2 (by rfl) (.tmp 44) (.tmp 48) 25 rfl _ _ _ rfl rfl HRUN.out ?_
              refine hK.out _ _ y0 (fun hHeld => ?_)
              clear hK K
              try simp only [Act.put, List.setIfInBounds_toArray, List.set_cons_zero, List.set_cons_succ]
              refine wpAnyH_ready (rs := [6]) (by kernel_rfl) (by simp) ?_
              refine AllReadyH.cons (o := ⟨_, _, _, _, _, _⟩) rfl (fun K hK => ?_) (AllReadyH.nil)
              go_simp
              generalize w3.setCell ⟨q + 1, 0, none⟩ (.slice A' (ch.length + 1) c') = We at *
              refine hK.out _ _ x0 (fun hHeld => ?_)
              clear hK K
              try simp only [Act.put, List.setIfInBounds_toArray, List.set_cons_zero, List.set_cons_succ]
              refine wpAnyH_done (by kernel_rfl) ?_ _
              have kp7 := kp5.trans ((keeps_below bx).trans c5)
              have bl7 := bl5.trans ((bx.mono S5'.low.size).trans c6)
              clear hHeld S5' Sx hu hux huy hrowu d10 qx qy bZ bZx bZy bZ5 hv5 hvx kb HRUN c1 c2 c5 c6 bx hb2 kp5 bl5 y0 x0 m0 o0 j0
              gi_wp2
              have j0 := bZ6.cell 0
              have j1 := bZ6.cell 1
              have j2 := bZ6.cell 2
              have j3 := bZ6.cell 3
              have j4 := bZ6.cell 4
              simp only [List.getElem?_cons_zero, List.getElem?_cons_succ] at j0 j1 j2 j3 j4
              have d9 := hv6.cell
              refine in_round (S := fun w' => w'.cell? ⟨Bi, 0, none⟩ = some (.string z.path) ∧ w'.cell? ⟨Bi, 1, none⟩ = some (.bool z.has) ∧ w'.cell? ⟨Bi, 2, none⟩ = some (.string z.data) ∧ w'.cell? ⟨Bi, 3, none⟩ = some (.int .i64 z.l) ∧ w'.cell? ⟨Bi, 4, none⟩ = some (.int .i64 z.r)) (by kernel_rfl) (by kernel_rfl) (by rintro ⟨_, _, h⟩; exact h) ⟨j0, j1, j2, j3, j4⟩ (fun hHeld => ?_)
              refine wpAnyH_take (i := 1) (oi := ⟨_, _, _, _, _, _⟩) (v := ?_) rfl (by kernel_rfl) (by kernel_rfl) (by kernel_rfl) (fun _ _ _ h => h) (Or.inl ⟨by rfl, ?_⟩) (by assumption) ?_
              rotate_left
              · intro w hSw; (try dsimp only at hSw); go_simp; (try (with_reducible rfl))
              try simp only [Act.put, List.setIfInBounds_toArray, List.set_cons_zero, List.set_cons_succ]
              refine wpAnyH_ready (rs := [0, 2]) (by kernel_rfl) (by simp) ?_
              refine AllReadyH.cons (o := ⟨_, _, _, _, _, _⟩) rfl (fun K hK => ?_) (AllReadyH.cons (o := ⟨_, _, _, _, _, _⟩) rfl (fun K hK => ?_) (AllReadyH.nil))
              · go_simp
                refine hK.out _ _ ⟨j0, j1, j2, j3, j4⟩ (fun hHeld => ?_)
                clear hK K
                try simp only [Act.put, List.setIfInBounds_toArray, List.set_cons_zero, List.set_cons_succ]
                refine wpAnyH_ready (rs := [2]) (by kernel_rfl) (by simp) ?_
                refine AllReadyH.cons (o := ⟨_, _, _, _, _, _⟩) rfl (fun K hK => ?_) (AllReadyH.nil)
                go_simp
                refine (eanew_any z _ (by have := hz.1; omega) (by have := hz.2; omega)).mono ?_
                rintro e W1 ⟨rfl, hb2⟩
                have b2 := below_undrew hb2
                have S2' := c3.below b2
                have hv2 := boxed_below hv6 b2
                have bI2 := bZ6.below b2
                have q2 := hv2.cell
                have m0 := bI2.cell 0
                have m1 := bI2.cell 1
                have m2 := bI2.cell 2
                have m3 := bI2.cell 3
                have m4 := bI2.cell 4
                simp only [List.getElem?_cons_zero, List.getElem?_cons_succ] at m0 m1 m2 m3 m4
                refine hK.out _ _ ⟨m0, m1, m2, m3, m4⟩ (fun hHeld => ?_)
                clear hK K
                try simp only [Act.put, List.setIfInBounds_toArray, List.set_cons_zero, List.set_cons_succ]
                refine wpAnyH_ready (rs := [3]) (by kernel_rfl) (by simp) ?_
                refine AllReadyH.cons (o := ⟨_, _, _, _, _, _⟩) rfl (fun K hK => ?_) (AllReadyH.nil)
                go_simp
                obtain ⟨A2, c2', w4, HRUN2, c1, c2, c4, c5, c6, kb⟩ := S2'.app hq (by have h1 := HLEN.out; have h2 := HK.out; omega) hv2 z
                have hv3 := hv2.alloc (.cells #[.string z.path, .bool z.has, .string z.data, .int .i64 z.l, .int .i64 z.r] 34)
                have bI3 := bI2.below ((Below.refl _ _).alloc (Nat.le_refl _) (.cells #[.string z.path, .bool z.has, .string z.data, .int .i64 z.l, .int .i64 z.r] 34))
                have q3 := hv3.cell
                have o0 := bI3.cell 0
                have o1 := bI3.cell 1
                have o2 := bI3.cell 2
                have o3 := bI3.cell 3
                have o4 := bI3.cell 4
                simp only [List.getElem?_cons_zero, List.getElem?_cons_succ] at o0 o1 o2 o3 o4
                refine hK.out _ _ ⟨o0, o1, o2, o3, o4⟩ (fun hHeld => ?_)
                clear hK K
                try simp only [Act.put, List.setIfInBounds_toArray, List.set_cons_zero, List.set_cons_succ]
                have bI5 := kb Bi _ _ bI2 hne
                have bI6 := bI5.other (show Bi ≠ q by omega) 0 (.slice A2 (out.length + 1) c2')
                have y0 := bI5.cell 0
                have y1 := bI5.cell 1
                have y2 := bI5.cell 2
                have y3 := bI5.cell 3
                have y4 := bI5.cell 4
                simp only [List.getElem?_cons_zero, List.getElem?_cons_succ] at y0 y1 y2 y3 y4
                have x0 := bI6.cell 0
                have x1 := bI6.cell 1
                have x2 := bI6.cell 2
                have x3 := bI6.cell 3
                have x4 := bI6.cell 4
                simp only [List.getElem?_cons_zero, List.getElem?_cons_succ] at x0 x1 x2 x3 x4
                refine wpAnyH_ready (rs := [4]) (by kernel_rfl) (by simp) ?_
                refine AllReadyH.cons (o := ⟨_, _, _, _, _, _⟩) rfl (fun K hK => ?_) (AllReadyH.nil)
                refine stepApp2 (by rfl) (.tmp 50) (.tmp 53) 22 rfl _ _ _ rfl rfl HRUN2.out ?_
                refine hK.out _ _ ⟨y0, y1, y2, y3, y4⟩ (fun hHeld => ?_)
                clear hK K
                try simp only [Act.put, List.setIfInBounds_toArray, List.set_cons_zero, List.set_cons_succ]
                refine wpAnyH_ready (rs := [5]) (by kernel_rfl) (by simp) ?_
                refine AllReadyH.cons (o := ⟨_, _, _, _, _, _⟩) rfl (fun K hK => ?_) (AllReadyH.nil)
                go_simp
                refine hK.out _ _ ⟨x0, x1, x2, x3, x4⟩ (fun hHeld => ?_)
                clear hK K
                try simp only [Act.put, List.setIfInBounds_toArray, List.set_cons_zero, List.set_cons_succ]
                refine wpAnyH_done (by kernel_rfl) ?_ _
                have kp := kp7.trans ((keeps_below b2).trans c5)
                have bl := bl7.trans ((b2.mono c3.low.size).trans c6)
                exact ⟨kp.from _, bl, by rw [HOUT2.out, HCH2.out]; exact c4, HOK2⟩
              · go_simp
                refine (eanew_any z _ (by have := hz.1; omega) (by have := hz.2; omega)).mono ?_
                rintro e W1 ⟨rfl, hb2⟩
                have b2 := below_undrew hb2
                have S2' := c3.below b2
                have hv2 := boxed_below hv6 b2
                have bI2 := bZ6.below b2
                have q2 := hv2.cell
                have m0 := bI2.cell 0
                have m1 := bI2.cell 1
                have m2 := bI2.cell 2
                have m3 := bI2.cell 3
                have m4 := bI2.cell 4
                simp only [List.getElem?_cons_zero, List.getElem?_cons_succ] at m0 m1 m2 m3 m4
                refine hK.out _ _ ⟨m0, m1, m2, m3, m4⟩ (fun hHeld => ?_)
                clear hK K
                try simp only [Act.put, List.setIfInBounds_toArray, List.set_cons_zero, List.set_cons_succ]
                refine wpAnyH_ready (rs := [0, 3]) (by kernel_rfl) (by simp) ?_
                refine AllReadyH.cons (o := ⟨_, _, _, _, _, _⟩) rfl (fun K hK => ?_) (AllReadyH.cons (o := ⟨_, _, _, _, _, _⟩) rfl (fun K hK => ?_) (AllReadyH.nil))
                · go_simp
                  refine hK.out _ _ ⟨m0, m1, m2, m3, m4⟩ (fun hHeld => ?_)
                  clear hK K
                  try simp only [Act.put, List.setIfInBounds_toArray, List.set_cons_zero, List.set_cons_succ]
                  refine wpAnyH_ready (rs := [3]) (by kernel_rfl) (by simp) ?_
                  refine AllReadyH.cons (o := ⟨_, _, _, _, _, _⟩) rfl (fun K hK => ?_) (AllReadyH.nil)
                  go_simp
                  obtain ⟨A2, c2', w4, HRUN2, c1, c2, c4, c5, c6, kb⟩ := S2'.app hq (by have h1 := HLEN.out; have h2 := HK.out; omega) hv2 z
                  have hv3 := hv2.alloc (.cells #[.string z.path, .bool z.has, .string z.data, .int .i64 z.l, .int .i64 z.r] 34)
                  have bI3 := bI2.below ((Below.refl _ _).alloc (Nat.le_refl _) (.cells #[.string z.path, .bool z.has, .string z.data, .int .i64 z.l, .int .i64 z.r] 34))
                  have q3 := hv3.cell
                  have o0 := bI3.cell 0
                  have o1 := bI3.cell 1
                  have o2 := bI3.cell 2
                  have o3 := bI3.cell 3
                  have o4 := bI3.cell 4
                  simp only [List.getElem?_cons_zero, List.getElem?_cons_succ] at o0 o1 o2 o3 o4
                  refine hK.out _ _ ⟨o0, o1, o2, o3, o4⟩ (fun hHeld => ?_)
                  clear hK K
                  try simp only [Act.put, List.setIfInBounds_toArray, List.set_cons_zero, List.set_cons_succ]
                  have bI5 := kb Bi _ _ bI2 hne
                  have bI6 := bI5.other (show Bi ≠ q by omega) 0 (.slice A2 (out.length + 1) c2')
                  have y0 := bI5.cell 0
                  have y1 := bI5.cell 1
                  have y2 := bI5.cell 2
                  have y3 := bI5.cell 3
                  have y4 := bI5.cell 4
                  simp only [List.getElem?_cons_zero, List.getElem?_cons_succ] at y0 y1 y2 y3 y4
                  have x0 := bI6.cell 0
                  have x1 := bI6.cell 1
                  have x2 := bI6.cell 2
                  have x3 := bI6.cell 3
                  have x4 := bI6.cell 4
                  simp only [List.getElem?_cons_zero, List.getElem?_cons_succ] at x0 x1 x2 x3 x4
                  refine wpAnyH_ready (rs := [4]) (by kernel_rfl) (by simp) ?_
                  refine AllReadyH.cons (o := ⟨_, _, _, _, _, _⟩) rfl (fun K hK => ?_) (AllReadyH.nil)
                  refine stepApp2 (by rfl) (.tmp 50) (.tmp 53) 22 rfl _ _ _ rfl rfl HRUN2.out ?_
                  refine hK.out _ _ ⟨y0, y1, y2, y3, y4⟩ (fun hHeld => ?_)
                  clear hK K
                  try simp only [Act.put, List.setIfInBounds_toArray, List.set_cons_zero, List.set_cons_succ]
                  refine wpAnyH_ready (rs := [5]) (by kernel_rfl) (by simp) ?_
                  refine AllReadyH.cons (o := ⟨_, _, _, _, _, _⟩) rfl (fun K hK => ?_) (AllReadyH.nil)
                  go_simp
                  refine hK.out _ _ ⟨x0, x1, x2, x3, x4⟩ (fun hHeld => ?_)
                  clear hK K
                  try simp only [Act.put, List.setIfInBounds_toArray, List.set_cons_zero, List.set_cons_succ]
                  refine wpAnyH_done (by kernel_rfl) ?_ _
                  have kp := kp7.trans ((keeps_below b2).trans c5)
                  have bl := bl7.trans ((b2.mono c3.low.size).trans c6)
                  exact ⟨kp.from _, bl, by rw [HOUT2.out, HCH2.out]; exact c4, HOK2⟩
                · go_simp
                  obtain ⟨A2, c2', w4, HRUN2, c1, c2, c4, c5, c6, kb⟩ := S2'.app hq (by have h1 := HLEN.out; have h2 := HK.out; omega) hv2 z
                  have hv3 := hv2.alloc (.cells #[.string z.path, .bool z.has, .string z.data, .int .i64 z.l, .int .i64 z.r] 34)
                  have bI3 := bI2.below ((Below.refl _ _).alloc (Nat.le_refl _) (.cells #[.string z.path, .bool z.has, .string z.data, .int .i64 z.l, .int .i64 z.r] 34))
                  have q3 := hv3.cell
                  have o0 := bI3.cell 0
                  have o1 := bI3.cell 1
                  have o2 := bI3.cell 2
                  have o3 := bI3.cell 3
                  have o4 := bI3.cell 4
                  simp only [List.getElem?_cons_zero, List.getElem?_cons_succ] at o0 o1 o2 o3 o4
                  refine hK.out _ _ ⟨o0, o1, o2, o3, o4⟩ (fun hHeld => ?_)
                  clear hK K
                  try simp only [Act.put, List.setIfInBounds_toArray, List.set_cons_zero, List.set_cons_succ]
                  refine wpAnyH_ready (rs := [0]) (by kernel_rfl) (by simp) ?_
                  refine AllReadyH.cons (o := ⟨_, _, _, _, _, _⟩) rfl (fun K hK => ?_) (AllReadyH.nil)
                  go_simp
                  refine hK.out _ _ ⟨o0, o1, o2, o3, o4⟩ (fun hHeld => ?_)
                  clear hK K
                  try simp only [Act.put, List.setIfInBounds_toArray, List.set_cons_zero, List.set_cons_succ]
                  have bI5 := kb Bi _ _ bI2 hne
                  have bI6 := bI5.other (show Bi ≠ q by omega) 0 (.slice A2 (out.length + 1) c2')
                  have y0 := bI5.cell 0
                  have y1 := bI5.cell 1
                  have y2 := bI5.cell 2
                  have y3 := bI5.cell 3
                  have y4 := bI5.cell 4
                  simp only [List.getElem?_cons_zero, List.getElem?_cons_succ] at y0 y1 y2 y3 y4
                  have x0 := bI6.cell 0
                  have x1 := bI6.cell 1
                  have x2 := bI6.cell 2
                  have x3 := bI6.cell 3
                  have x4 := bI6.cell 4
                  simp only [List.getElem?_cons_zero, List.getElem?_cons_succ] at x0 x1 x2 x3 x4
                  refine wpAnyH_ready (rs := [4]) (by kernel_rfl) (by simp) ?_
                  refine AllReadyH.cons (o := ⟨_, _, _, _, _, _⟩) rfl (fun K hK => ?_) (AllReadyH.nil)
                  refine stepApp2 (by rfl) (.tmp 50) (.tmp 53) 22 rfl _ _ _ rfl rfl HRUN2.out ?_
                  refine hK.out _ _ ⟨y0, y1, y2, y3, y4⟩ (fun hHeld => ?_)
                  clear hK K
                  try simp only [Act.put, List.setIfInBounds_toArray, List.set_cons_zero, List.set_cons_succ]
                  refine wpAnyH_ready (rs := [5]) (by kernel_rfl) (by simp) ?_
                  refine AllReadyH.cons (o := ⟨_, _, _, _, _, _⟩) rfl (fun K hK => ?_) (AllReadyH.nil)
                  go_simp
                  refine hK.out _ _ ⟨x0, x1, x2, x3, x4⟩ (fun hHeld => ?_)
                  clear hK K
                  try simp only [Act.put, List.setIfInBounds_toArray, List.set_cons_zero, List.set_cons_succ]
                  refine wpAnyH_done (by kernel_rfl) ?_ _
                  have kp := kp7.trans ((keeps_below b2).trans c5)
                  have bl := bl7.trans ((b2.mono c3.low.size).trans c6)
                  exact ⟨kp.from _, bl, by rw [HOUT2.out, HCH2.out]; exact c4, HOK2⟩
  case done =>
    rintro D ys W hD rfl ⟨hS, HO⟩ hK
    rw [bothT_val] at hS HO
    have HN0 : Hid (scanN es fs a = 0) := by show _ = _; rw [HN.out, HO.out]; rfl
    have HA : Hid (scanA es fs a = outP a (bothL es fs)) := by show _ = _; rw [scanA, if_pos HN0.out]
    have HC : Hid (scanC es fs a = chgP (bothL es fs)) := by show _ = _; rw [scanC, if_pos HN0.out]
    generalize outP a (bothL es fs) = out at *
    generalize chgP (bothL es fs) = ch at *
    clear HO st0
    gi_wp2
    refine wpIn_wide.2 ?_
    have hd : Below W.heap.size W W.drew := ⟨rfl, rfl, rfl, Nat.le_refl _, fun _ _ => rfl⟩
    have hS' := hS.below hd
    have hK' : W.drew.heap[D]? = some (.deferred (some [])) := hK
    obtain ⟨v, hv, hrow, -⟩ := hS'.sc
    obtain ⟨u, hu, hrow2, -⟩ := hS'.chg
    obtain ⟨Av, cv, rfl⟩ := own_slice hrow
    obtain ⟨Au, cu, rfl⟩ := own_slice hrow2
    have d9 := hv.cell
    have d10 := hu.cell
    refine wp_region_held_drew (S := fun _ => True) (by kernel_rfl) trivial (fun hHeld => ?_)
    clear hS
    generalize W.drew = W at *
    have d6 := hS'.r6.cell
    have d7 := hS'.r7.cell
    have d8 := hS'.r8.cell
    have z6 := hS'.r6.frozen
    have z7 := hS'.r7.frozen
    have z8 := hS'.r8.frozen
    obtain ⟨e6, e7, e8⟩ := res3 hS'.r6 hS'.r7 hS'.r8 (.slice Av out.length cv) (.slice Au ch.length cu) (.int .i64 0)
    have r1 := res3_row hS'.r6 hS'.r7 hS'.r8 (.slice Av out.length cv) (.slice Au ch.length cu) (.int .i64 0) hrow (by decide) (by decide) (by decide)
    have r2 := res3_row hS'.r6 hS'.r7 hS'.r8 (.slice Av out.length cv) (.slice Au ch.length cu) (.int .i64 0) hrow2 (by decide) (by decide) (by decide)
    have bz := ((hS'.low.setCell (p := ⟨w.heap.size + 1, 0, none⟩) (by show _ ≤ w.heap.size + 1; omega) (.slice Av out.length cv)).setCell (p := ⟨w.heap.size + 1 + 1, 0, none⟩) (by show _ ≤ w.heap.size + 1 + 1; omega) (.slice Au ch.length cu)).setCell (p := ⟨w.heap.size + 1 + 1 + 1, 0, none⟩) (by show _ ≤ w.heap.size + 1 + 1 + 1; omega) (.int .i64 0)
    have kz := (((KeepsOthers.setCell W ⟨w.heap.size + 1, 0, none⟩ (.slice Av out.length cv)).trans (KeepsOthers.setCell _ ⟨w.heap.size + 1 + 1, 0, none⟩ (.slice Au ch.length cu))).trans (KeepsOthers.setCell _ ⟨w.heap.size + 1 + 1 + 1, 0, none⟩ (.int .i64 0))).same D _ hK' rfl
    generalize HZ : ((W.setCell ⟨w.heap.size + 1, 0, none⟩ (.slice Av out.length cv)).setCell ⟨w.heap.size + 1 + 1, 0, none⟩ (.slice Au ch.length cu)).setCell ⟨w.heap.size + 1 + 1 + 1, 0, none⟩ (.int .i64 0) = Z at e6 e7 e8 r1 r2 bz kz
    have f6 := cell_kept e6.cell (grownBy_putObj' Z D (.deferred none)) (fun r e => by cases e; exact ⟨_, kz, rfl⟩)
    have f7 := cell_kept e7.cell (grownBy_putObj' Z D (.deferred none)) (fun r e => by cases e; exact ⟨_, kz, rfl⟩)
    have f8 := cell_kept e8.cell (grownBy_putObj' Z D (.deferred none)) (fun r e => by cases e; exact ⟨_, kz, rfl⟩)
    have s1 := ownsRow_putObj r1 (.deferred none) kz rfl
    have s2 := ownsRow_putObj r2 (.deferred none) kz rfl
    have bq := bz.trans (belowK_b (w := w) (Nat.le_refl _) Z D _ (.deferred none) (by omega) kz rfl rfl)
    clear e6 e7 e8 r1 r2 bz hrow hrow2 hS' hK hK'
    refine wpAnyH_ready (rs := [0, 1]) (by kernel_rfl) (by simp) ?_
    refine AllReadyH.cons (o := ⟨_, _, _, _, _, _⟩) rfl (fun K hK => ?_) (AllReadyH.cons (o := ⟨_, _, _, _, _, _⟩) rfl (fun K hK => ?_) (AllReadyH.nil))
    · go_simp
      refine hK.out _ _ trivial (fun hHeld => ?_)
      clear hK K
      try simp only [Act.put, List.setIfInBounds_toArray, List.set_cons_zero, List.set_cons_succ]
      refine wpAnyH_ready (rs := [1, 2]) (by kernel_rfl) (by simp) ?_
      refine AllReadyH.cons (o := ⟨_, _, _, _, _, _⟩) rfl (fun K hK => ?_) (AllReadyH.cons (o := ⟨_, _, _, _, _, _⟩) rfl (fun K hK => ?_) (AllReadyH.nil))
      · go_simp
        refine hK.out _ _ trivial (fun hHeld => ?_)
        clear hK K
        try simp only [Act.put, List.setIfInBounds_toArray, List.set_cons_zero, List.set_cons_succ]
        refine wpAnyH_ready (rs := [2]) (by kernel_rfl) (by simp) ?_
        refine AllReadyH.cons (o := ⟨_, _, _, _, _, _⟩) rfl (fun K hK => ?_) (AllReadyH.nil)
        go_simp
        refine hK.out _ _ trivial (fun hHeld => ?_)
        clear hK K
        try simp only [Act.put, List.setIfInBounds_toArray, List.set_cons_zero, List.set_cons_succ]
        refine wpAnyH_ready (rs := [3]) (by kernel_rfl) (by simp) ?_
        refine AllReadyH.cons (o := ⟨_, _, _, _, _, _⟩) rfl (fun K hK => ?_) (AllReadyH.nil)
        go_simp
        refine hK.out _ _ trivial (fun hHeld => ?_)
        clear hK K
        try simp only [Act.put, List.setIfInBounds_toArray, List.set_cons_zero, List.set_cons_succ]
        refine wpAnyH_ready (rs := [4]) (by kernel_rfl) (by simp) ?_
        refine AllReadyH.cons (o := ⟨_, _, _, _, _, _⟩) rfl (fun K hK => ?_) (AllReadyH.nil)
        go_simp
        refine hK.out _ _ trivial (fun hHeld => ?_)
        clear hK K
        try simp only [Act.put, List.setIfInBounds_toArray, List.set_cons_zero, List.set_cons_succ]
        refine wpAnyH_done (by kernel_rfl) ?_ _
        gi_wp2
        refine ⟨by simp, .inl ⟨_, _, rfl, run_takeDeferred kz, ?_⟩⟩
        refine ⟨.tuple #[.slice Av out.length cv, .slice Au ch.length cu, .int .i64 0], by simp [results, Tryz.results23, go_sem, f6, f7, f8], Av, cv, Au, cu, by rw [HA.out, HC.out, HN0.out]; rfl, ?_, ?_, bq⟩
        · rw [HA.out]; exact s1
        · rw [HC.out]; exact s2
      · go_simp
        refine hK.out _ _ trivial (fun hHeld => ?_)
        clear hK K
        try simp only [Act.put, List.setIfInBounds_toArray, List.set_cons_zero, List.set_cons_succ]
        refine wpAnyH_ready (rs := [1]) (by kernel_rfl) (by simp) ?_
        refine AllReadyH.cons (o := ⟨_, _, _, _, _, _⟩) rfl (fun K hK => ?_) (AllReadyH.nil)
        go_simp
        refine hK.out _ _ trivial (fun hHeld => ?_)
        clear hK K
        try simp only [Act.put, List.setIfInBounds_toArray, List.set_cons_zero, List.set_cons_succ]
        refine wpAnyH_ready (rs := [3]) (by kernel_rfl) (by simp) ?_
        refine AllReadyH.cons (o := ⟨_, _, _, _, _, _⟩) rfl (fun K hK => ?_) (AllReadyH.nil)
        go_simp
        refine hK.out _ _ trivial (fun hHeld => ?_)
        clear hK K
        try simp only [Act.put, List.setIfInBounds_toArray, List.set_cons_zero, List.set_cons_succ]
        refine wpAnyH_ready (rs := [4]) (by kernel_rfl) (by simp) ?_
        refine AllReadyH.cons (o := ⟨_, _, _, _, _, _⟩) rfl (fun K hK => ?_) (AllReadyH.nil)
        go_simp
        refine hK.out _ _ trivial (fun hHeld => ?_)
        clear hK K
        try simp only [Act.put, List.setIfInBounds_toArray, List.set_cons_zero, List.set_cons_succ]
        refine wpAnyH_done (by kernel_rfl) ?_ _
        gi_wp2
        refine ⟨by simp, .inl ⟨_, _, rfl, run_takeDeferred kz, ?_⟩⟩
        refine ⟨.tuple #[.slice Av out.length cv, .slice Au ch.length cu, .int .i64 0], by simp [results, Tryz.results23, go_sem, f6, f7, f8], Av, cv, Au, cu, by rw [HA.out, HC.out, HN0.out]; rfl, ?_, ?_, bq⟩
        · rw [HA.out]; exact s1
        · rw [HC.out]; exact s2
    · go_simp
      refine hK.out _ _ trivial (fun hHeld => ?_)
      clear hK K
      try simp only [Act.put, List.setIfInBounds_toArray, List.set_cons_zero, List.set_cons_succ]
      refine wpAnyH_ready (rs := [0]) (by kernel_rfl) (by simp) ?_
      refine AllReadyH.cons (o := ⟨_, _, _, _, _, _⟩) rfl (fun K hK => ?_) (AllReadyH.nil)
      go_simp
      refine hK.out _ _ trivial (fun hHeld => ?_)
      clear hK K
      try simp only [Act.put, List.setIfInBounds_toArray, List.set_cons_zero, List.set_cons_succ]
      refine wpAnyH_ready (rs := [2]) (by kernel_rfl) (by simp) ?_
      refine AllReadyH.cons (o := ⟨_, _, _, _, _, _⟩) rfl (fun K hK => ?_) (AllReadyH.nil)
      go_simp
      refine hK.out _ _ trivial (fun hHeld => ?_)
      clear hK K
      try simp only [Act.put, List.setIfInBounds_toArray, List.set_cons_zero, List.set_cons_succ]
      refine wpAnyH_ready (rs := [3]) (by kernel_rfl) (by simp) ?_
      refine AllReadyH.cons (o := ⟨_, _, _, _, _, _⟩) rfl (fun K hK => ?_) (AllReadyH.nil)
      go_simp
      refine hK.out _ _ trivial (fun hHeld => ?_)
      clear hK K
      try simp only [Act.put, List.setIfInBounds_toArray, List.set_cons_zero, List.set_cons_succ]
      refine wpAnyH_ready (rs := [4]) (by kernel_rfl) (by simp) ?_
      refine AllReadyH.cons (o := ⟨_, _, _, _, _, _⟩) rfl (fun K hK => ?_) (AllReadyH.nil)
      go_simp
      refine hK.out _ _ trivial (fun hHeld => ?_)
      clear hK K
      try simp only [Act.put, List.setIfInBounds_toArray, List.set_cons_zero, List.set_cons_succ]
      refine wpAnyH_done (by kernel_rfl) ?_ _
      gi_wp2
      refine ⟨by simp, .inl ⟨_, _, rfl, run_takeDeferred kz, ?_⟩⟩
      refine ⟨.tuple #[.slice Av out.length cv, .slice Au ch.length cu, .int .i64 0], by simp [results, Tryz.results23, go_sem, f6, f7, f8], Av, cv, Au, cu, by rw [HA.out, HC.out, HN0.out]; rfl, ?_, ?_, bq⟩
      · rw [HA.out]; exact s1
      · rw [HC.out]; exact s2
  case stop =>
    rintro D cd pre W hD hpre ⟨rfl, HB, e6, e7, e8, hb⟩ hK
    have HBAD : Hid (scanN es fs a = 2) := by
      show _ = _
      rw [HN.out, okP_pre (qs := bothL es fs) (by rw [← bothT_val es fs HS.out]; exact hpre.map _) HB.out]
      rfl
    have f6 := cell_kept e6.cell (grownBy_putObj' W D (.deferred none)) (fun r e => by cases e; exact ⟨_, hK, rfl⟩)
    have f7 := cell_kept e7.cell (grownBy_putObj' W D (.deferred none)) (fun r e => by cases e; exact ⟨_, hK, rfl⟩)
    have f8 := cell_kept e8.cell (grownBy_putObj' W D (.deferred none)) (fun r e => by cases e; exact ⟨_, hK, rfl⟩)
    have hb2 := hb.trans (belowK_b (w := w) (Nat.le_refl _) W D _ (.deferred none) (by omega) hK rfl rfl)
    gi_wp2
    refine ⟨by simp, .inl ⟨_, _, rfl, run_takeDeferred hK, ?_⟩⟩
    exact ⟨.tuple #[.slice none 0 0, .slice none 0 0, .int .i64 2], by simp [results, Tryz.results23, go_sem, f6, f7, f8], scan_err 2 HBAD.out (by decide) hb2⟩
theorem scan_any {w : World} {A B : Option Addr} {n c m d : Nat} {es : List Ent} {fs : List Fil} (h : Et w A n c es) (k : Ft w B m d fs) (a : Int) :
    Calls Tryz.prog 23 #[.slice A n c, .slice B m d, .int .i64 a] w (ScanPost w es fs a) := by
  cases hg : archR es && treeR fs with
  | false => exact scan_bad h k a hg
  | true => exact scan_good h k a hg
end Go.Proofs.YtlmccjdpmhancaaGreatDoor
