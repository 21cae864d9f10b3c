/- VaultKeeps: the walk. -/
import Derived.Test.YtdejhpinmkbngaaVn
import Derived.Deep.Cut
namespace Go.Proofs.Ytdejhpinmkbngaa
open Go.RowKit Go.Maps

/-- append(v, l...) of calls. -/
theorem app_calls {w : World} {base : Nat} {v : Value} {n : Nat} {xs : List Value} (hown : w.ownsRow base 33 5 v n xs) {A : Option Addr} {ls : List Cal} (hr : Rd w A (calV ls)) (c : Nat) (hb : (n + ls.length) * 56 ≤ 140737488355328) (hbase : base ≤ w.heap.size) (ty : TypeId) :
    ∃ v' w', Hid ((Builtin.append_ #[22, 22] ty #[v, .slice A ls.length c]).run Try.prog w = .ok v' w') ∧ w'.ownsRow base 33 5 v' (n + ls.length) (xs ++ calV ls) ∧ w.grownBy w' v.ownBlock := by
  obtain ⟨i, hi, hz0, hz1, hz2⟩ := info_parts Try.infoC
  cases A with
  | some ad =>
    have hc : ∀ j u, (calV ls)[j]? = some u → w.cell? (ad.add j) = some u := by
      rcases hr with h | ⟨ad', e, h⟩
      · intro j u hu
        rw [h] at hu
        simp at hu
      · injection e with e
        subst e
        exact h
    obtain ⟨v', w', h1, h2, h3, _⟩ := run_append_own w base 22 ty 33 i _ 5 56 Try.underlying22 hi hz0 hz1 hz2 rfl (by decide) v n xs hown ad ls.length c (calV ls) (calV_length ls) hc (calV_one ls) (by unfold maxLen; omega) hb hbase
    exact ⟨v', w', h1, h2, h3⟩
  | none =>
    have hl : ls = [] := by
      rcases hr with h | ⟨ad', e, _⟩
      · have := congrArg List.length h
        rw [calV_length] at this
        simp only [List.length_nil] at this
        exact List.eq_nil_of_length_eq_zero (by omega)
      · cases e
    subst hl
    refine ⟨v, w, ?_, by simpa [calV] using hown, World.grownBy.refl _ _⟩
    show _ = _
    rcases hown.2 with ⟨rfl, rfl⟩ | ⟨g, cap, cur, rfl, _, _, hnc, _⟩
    · simp [Builtin.append_, run_underlying Try.underlying22, sizeOf, typeInfo, hi, Builtin.lenOf, Builtin.firstCells]
    · simp [Builtin.append_, run_underlying Try.underlying22, sizeOf, typeInfo, hi, Builtin.lenOf, Builtin.firstCells, hnc, storeCells]

theorem own_empty (w : World) (t : TypeId) : (w.alloc (.cells #[] t)).ownsRow w.heap.size t 5 (.slice (some ⟨w.heap.size, 0, none⟩) 0 0) 0 [] :=
  ⟨rfl, .inr ⟨w.heap.size, 0, #[], rfl, Nat.le_refl _, heap_alloc_new w _, Nat.le_refl _, by unfold maxLen; omega, rfl, rfl⟩⟩
theorem own_lower {w : World} {base base' size : Nat} {e : TypeId} {v : Value} {n : Nat} {xs : List Value} (h : w.ownsRow base e size v n xs) (hb : base' ≤ base) : w.ownsRow base' e size v n xs := by
  refine ⟨h.1, ?_⟩
  rcases h.2 with h2 | ⟨g, cap, cur, h2, h3, h4⟩
  · exact .inl h2
  · exact .inr ⟨g, cap, cur, h2, by omega, h4⟩
theorem rd_other {w w' : World} {row : Option Nat} {b : Nat} {xs : List Value} (hg : w.grownBy w' row) (h : Rd w (some ⟨b, 0, none⟩) xs) (hne : ∀ k, row = some k → k ≠ b) : Rd w' (some ⟨b, 0, none⟩) xs := by
  rcases h with h | ⟨ad, e, hc⟩
  · exact .inl h
  · injection e with e
    subst e
    exact .inr ⟨_, rfl, fun j u hu => (World.cell?_of_block (hg.block _ (World.block_lt_of_cell? w _ (hc j u hu)) (fun e => by rw [add_block] at e; exact hne _ e.symm rfl))).trans (hc j u hu)⟩
theorem rd_call (w : World) (x : Cal) : Rd (w.alloc (.cells (callV x).toArray 33)) (some ⟨w.heap.size, 0, none⟩) (calV [x]) := .inr ⟨_, rfl, by
  have := new_cells w 33 (calV [x])
  simpa [calV] using this⟩

theorem find_keeps {S : List Sec} {h : Int} {s : Sec} (e : findS S h = some s) (k : Int) (a p : ByteArray) (x : Int) : findS (sealT S k a p x) h = some s := by
  unfold sealT
  split
  · unfold findS sealS at *
    rw [List.find?_append, e]
    rfl
  · exact e
theorem name_found {N : List Nam} {k : Int} {l : ByteArray} {y : Int} (h : (findN N k l).map Nam.h = some y) (x : Int) : nameI N k l x = y ∧ nameN N k l x = N := by
  obtain ⟨m, hm, rfl⟩ := Option.map_eq_some_iff.1 h
  unfold nameI nameN
  rw [hm]
  exact ⟨rfl, rfl⟩
theorem name_keeps' {N : List Nam} {k : Int} {l : ByteArray} {y : Int} (h : (findN N k l).map Nam.h = some y) (k' : Int) (l' : ByteArray) (x : Int) : (findN (nameN N k' l' x) k l).map Nam.h = some y := by
  obtain ⟨m, hm, rfl⟩ := Option.map_eq_some_iff.1 h
  rw [name_keeps hm]
  rfl
def KInv (j : Nat) (x0 : Cal) (d y : Int) (S : List Sec) (N : List Nam) : Prop :=
  S.length ≤ j + 1 ∧ N.length ≤ j + 1 ∧ (x0.plain.size ≤ 5116 → findS S d = some ⟨d, x0.key, x0.ad, x0.plain⟩) ∧ (findN N x0.key x0.ad).map Nam.h = some y
theorem few_last {ls : List Cal} {x : Cal} (h : fewB (ls ++ [x]) = true) : ls.length ≤ 99 ∧ x.ad.size ≤ 200 ∧ x.plain.size ≤ 6000 ∧ fewB ls = true := by
  obtain ⟨h1, h2⟩ := of_decide_eq_true h
  rw [List.length_append, List.length_singleton] at h1
  exact ⟨by omega, (h2 x (by simp)).1, (h2 x (by simp)).2, decide_eq_true ⟨by omega, fun y hy => h2 y (by simp [hy])⟩⟩

set_option maxHeartbeats 4000000 in
set_option maxRecDepth 20000 in
theorem vaultKeeps_walk (x0 : Cal) (A : Option Addr) (c : Nat) (ls : List Cal) (w : World) (hx0 : CalOk x0) (hr : Rd w A (calV ls)) (hlc : ls.length ≤ c) (hc : c * 56 ≤ 140737488351232) (hok : ∀ x ∈ ls, CalOk x) :
    Calls Try.prog 7 #[.agg (callV x0).toArray, .slice A ls.length c] w fun e w' => e = .returned (.bool true) ∧ Below w.heap.size w w' := by
  have HO := hid hok
  clear hok
  have hq := Blk.new w (callV x0) 33
  have hr0 := hr.alloc (.cells (callV x0).toArray 33)
  have b0 : Below w.heap.size w (w.alloc (.cells (callV x0).toArray 33)) := (Below.refl _ _).alloc (Nat.le_refl _) _
  clear hr
  rw [show (callV x0).toArray = #[.int .i64 x0.which, .int .i64 x0.key, .int .i64 x0.num, .string x0.ad, .string x0.plain] from rfl] at hq hr0 b0 ⊢
  obtain ⟨n, hn⟩ : ∃ n, n = ls.length := ⟨_, rfl⟩
  rw [← hn] at hlc ⊢
  have HN := hid hn
  clear hn
  have hnb : n ≤ 140737488355328 := by omega
  go_enter Try.func7, Try.ntmps7
  go_wp2_with fail
  generalize w.alloc (.cells #[.int .i64 x0.which, .int .i64 x0.key, .int .i64 x0.num, .string x0.ad, .string x0.plain] 33) = w0 at hq hr0 b0 ⊢
  refine (small_any _).mono ?_
  rintro e w1 ⟨rfl, b1⟩
  have hr1 := hr0.below b1
  have hc1 := hq.below b1
  have b2 := b0.trans (b1.mono b0.size)
  clear hr0 hq b0 b1
  obtain ⟨c0, c1, c2, c3, c4⟩ := call_cells hc1
  go_upto_region 2 with (fail)
  have KS : Hid (∀ W, Below w1.heap.size w1 W → (fun w' => w'.cell? ⟨w.heap.size, 0, none⟩ = some (.int .i64 x0.which) ∧ w'.cell? ⟨w.heap.size, 1, none⟩ = some (.int .i64 x0.key) ∧ w'.cell? ⟨w.heap.size, 2, none⟩ = some (.int .i64 x0.num) ∧ w'.cell? ⟨w.heap.size, 3, none⟩ = some (.string x0.ad) ∧ w'.cell? ⟨w.heap.size, 4, none⟩ = some (.string x0.plain)) W) := hid (fun W bW => ⟨(bW.cell (p := ⟨w.heap.size, 0, none⟩) hc1.lt).trans c0, (bW.cell (p := ⟨w.heap.size, 1, none⟩) hc1.lt).trans c1, (bW.cell (p := ⟨w.heap.size, 2, none⟩) hc1.lt).trans c2, (bW.cell (p := ⟨w.heap.size, 3, none⟩) hc1.lt).trans c3, (bW.cell (p := ⟨w.heap.size, 4, none⟩) hc1.lt).trans c4⟩)
  go_cut [6] from 18 (fun v wx => v = .bool (fewB (ls ++ [x0])) ∧ Below w1.heap.size w1 wx)
  case first =>
    refine wp_region_held_drew (S := fun w' => w'.cell? ⟨w.heap.size, 0, none⟩ = some (.int .i64 x0.which) ∧ w'.cell? ⟨w.heap.size, 1, none⟩ = some (.int .i64 x0.key) ∧ w'.cell? ⟨w.heap.size, 2, none⟩ = some (.int .i64 x0.num) ∧ w'.cell? ⟨w.heap.size, 3, none⟩ = some (.string x0.ad) ∧ w'.cell? ⟨w.heap.size, 4, none⟩ = some (.string x0.plain)) (by kernel_rfl) ⟨c0, c1, c2, c3, c4⟩ (fun hHeld => ?_)
    refine wpAnyH_take (i := 1) (oi := ⟨_, _, _, _, _, _⟩) (v := ?_) rfl (by kernel_rfl) (by kernel_rfl) (by kernel_rfl) (fun _ _ _ h => h) (Or.inl ⟨by rfl, ?_⟩) (by assumption) ?_
    rotate_left
    · intro w hSw; (try dsimp only at hSw); go_simp; (try (with_reducible rfl))
    try simp only [Act.put, List.setIfInBounds_toArray, List.set_cons_zero, List.set_cons_succ]
    refine wpAnyH_take (i := 3) (oi := ⟨_, _, _, _, _, _⟩) (v := ?_) rfl (by kernel_rfl) (by kernel_rfl) (by kernel_rfl) (fun _ _ _ h => h) (Or.inl ⟨by rfl, ?_⟩) (by assumption) ?_
    rotate_left
    · intro w hSw; (try dsimp only at hSw); go_simp; (try (with_reducible rfl))
    try simp only [Act.put, List.setIfInBounds_toArray, List.set_cons_zero, List.set_cons_succ]
    have bo0 : Below w1.heap.size w1 w1.drew := (Below.refl _ _).drew
    generalize w1.drew = W0 at *
    refine wpAnyH_ready (rs := [0, 4]) (by kernel_rfl) (by simp) ?_
    refine AllReadyH.cons (o := ⟨_, _, _, _, _, _⟩) rfl (fun K hK => ?_) (AllReadyH.cons (o := ⟨_, _, _, _, _, _⟩) rfl (fun K hK => ?_) (AllReadyH.nil))
    · go_simp
      have bo1 := (bo0.alloc bo0.size (.cells #[] 33))
      have ow1 := own_lower (own_empty W0 33) bo0.size
      refine hK.out _ _ (KS.out _ bo1) (fun hHeld => ?_)
      clear hK K
      try simp only [Act.put, List.setIfInBounds_toArray, List.set_cons_zero, List.set_cons_succ]
      generalize (W0.alloc (.cells #[] 33)) = W1 at *
      refine wpAnyH_ready (rs := [2, 4]) (by kernel_rfl) (by simp) ?_
      refine AllReadyH.cons (o := ⟨_, _, _, _, _, _⟩) rfl (fun K hK => ?_) (AllReadyH.cons (o := ⟨_, _, _, _, _, _⟩) rfl (fun K hK => ?_) (AllReadyH.nil))
      · obtain ⟨v2, W2, R2, ow2, gr2⟩ := app_calls ow1 (hr1.below bo1) c (by rw [← HN.out]; omega) bo1.size 22
        rw [← HN.out, Nat.zero_add] at ow2
        rw [← HN.out] at R2
        rw [List.nil_append] at ow2
        have bo2 := bo1.trans (below_grown bo1.size (fun k hk => (ow1.lt k hk).1) gr2)
        refine stepApp2 (by rfl) (.tmp 19) (.tmp 20) 22 rfl _ _ _ rfl rfl R2.out ?_
        try simp only [Act.put, List.setIfInBounds_toArray, List.set_cons_zero, List.set_cons_succ]
        refine hK.out _ _ (KS.out _ bo2) (fun hHeld => ?_)
        clear hK K
        try simp only [Act.put, List.setIfInBounds_toArray, List.set_cons_zero, List.set_cons_succ]
        refine wpAnyH_ready (rs := [4]) (by kernel_rfl) (by simp) ?_
        refine AllReadyH.cons (o := ⟨_, _, _, _, _, _⟩) rfl (fun K hK => ?_) (AllReadyH.nil)
        go_simp
        have bo3 := (bo2.alloc bo2.size (.cells #[.int .i64 x0.which, .int .i64 x0.key, .int .i64 x0.num, .string x0.ad, .string x0.plain] 33))
        have rk3 := rd_call W2 x0
        rw [show (callV x0).toArray = #[.int .i64 x0.which, .int .i64 x0.key, .int .i64 x0.num, .string x0.ad, .string x0.plain] from rfl] at rk3
        have sz3 : W2.heap.size < (W2.alloc (.cells #[.int .i64 x0.which, .int .i64 x0.key, .int .i64 x0.num, .string x0.ad, .string x0.plain] 33)).heap.size := by show W2.heap.size < (W2.alloc (.cells #[.int .i64 x0.which, .int .i64 x0.key, .int .i64 x0.num, .string x0.ad, .string x0.plain] 33)).heap.size; simp
        have ow3 := row_keep' ow2 (w' := (W2.alloc (.cells #[.int .i64 x0.which, .int .i64 x0.key, .int .i64 x0.num, .string x0.ad, .string x0.plain] 33))) (fun i hi => ((Below.refl _ _).alloc (Nat.le_refl _) _).block i ((ow2.lt i hi).2))
        refine hK.out _ _ (KS.out _ bo3) (fun hHeld => ?_)
        clear hK K
        try simp only [Act.put, List.setIfInBounds_toArray, List.set_cons_zero, List.set_cons_succ]
        generalize hW3 : (W2.alloc (.cells #[.int .i64 x0.which, .int .i64 x0.key, .int .i64 x0.num, .string x0.ad, .string x0.plain] 33)) = W3 at *
        clear hW3
        refine wpAnyH_ready (rs := [5]) (by kernel_rfl) (by simp) ?_
        refine AllReadyH.cons (o := ⟨_, _, _, _, _, _⟩) rfl (fun K hK => ?_) (AllReadyH.nil)
        obtain ⟨v4, W4, R4, ow4, gr4⟩ := app_calls ow3 rk3 1 (by show (n + 1) * 56 ≤ _; omega) bo3.size 22
        have bo4 := bo3.trans (below_grown bo3.size (fun k hk => (ow3.lt k hk).1) gr4)
        refine stepApp2 (by rfl) (.tmp 21) (.tmp 23) 22 rfl _ _ _ rfl rfl R4.out ?_
        try simp only [Act.put, List.setIfInBounds_toArray, List.set_cons_zero, List.set_cons_succ]
        refine hK.out _ _ (KS.out _ bo4) (fun hHeld => ?_)
        clear hK K
        try simp only [Act.put, List.setIfInBounds_toArray, List.set_cons_zero, List.set_cons_succ]
        rw [← calV_append] at ow4
        obtain ⟨A4, q4, rfl, rd4, -⟩ := own5_form ow4
        refine wpAnyH_ready (rs := [6]) (by kernel_rfl) (by simp) ?_
        refine AllReadyH.cons (o := ⟨_, _, _, _, _, _⟩) rfl (fun K hK => ?_) AllReadyH.nil
        go_simp
        refine (few_any A4 (n + 1) q4 (ls ++ [x0]) _ (by rw [List.length_append, ← HN.out]; rfl) (by omega) rd4).mono ?_
        rintro e wv ⟨rfl, rfl⟩
        refine hK.out _ _ (KS.out _ bo4) (fun hHeld => ?_)
        clear hK K
        try simp only [Act.put, List.setIfInBounds_toArray, List.set_cons_zero, List.set_cons_succ]
        refine wpAnyH_take (i := 7) (oi := ⟨_, _, _, _, _, _⟩) (v := ?_) rfl (by kernel_rfl) (by kernel_rfl) (by kernel_rfl) (fun _ _ _ h => h) (Or.inl ⟨by rfl, ?_⟩) (by assumption) ?_
        rotate_left
        · intro w hSw; (try dsimp only at hSw); go_simp; (try (with_reducible rfl))
        try simp only [Act.put, List.setIfInBounds_toArray, List.set_cons_zero, List.set_cons_succ]
        refine wpAnyH_done (by kernel_rfl) ?_ _
        go_wp2
        go_meet
        case rel => exact ⟨rfl, bo4⟩
      · go_simp
        have bo6 := (bo1.alloc bo1.size (.cells #[.int .i64 x0.which, .int .i64 x0.key, .int .i64 x0.num, .string x0.ad, .string x0.plain] 33))
        have rk6 := rd_call W1 x0
        rw [show (callV x0).toArray = #[.int .i64 x0.which, .int .i64 x0.key, .int .i64 x0.num, .string x0.ad, .string x0.plain] from rfl] at rk6
        have sz6 : W1.heap.size < (W1.alloc (.cells #[.int .i64 x0.which, .int .i64 x0.key, .int .i64 x0.num, .string x0.ad, .string x0.plain] 33)).heap.size := by show W1.heap.size < (W1.alloc (.cells #[.int .i64 x0.which, .int .i64 x0.key, .int .i64 x0.num, .string x0.ad, .string x0.plain] 33)).heap.size; simp
        have ow6 := row_keep' ow1 (w' := (W1.alloc (.cells #[.int .i64 x0.which, .int .i64 x0.key, .int .i64 x0.num, .string x0.ad, .string x0.plain] 33))) (fun i hi => ((Below.refl _ _).alloc (Nat.le_refl _) _).block i ((ow1.lt i hi).2))
        refine hK.out _ _ (KS.out _ bo6) (fun hHeld => ?_)
        clear hK K
        try simp only [Act.put, List.setIfInBounds_toArray, List.set_cons_zero, List.set_cons_succ]
        generalize hW6 : (W1.alloc (.cells #[.int .i64 x0.which, .int .i64 x0.key, .int .i64 x0.num, .string x0.ad, .string x0.plain] 33)) = W6 at *
        clear hW6
        refine wpAnyH_ready (rs := [2]) (by kernel_rfl) (by simp) ?_
        refine AllReadyH.cons (o := ⟨_, _, _, _, _, _⟩) rfl (fun K hK => ?_) (AllReadyH.nil)
        obtain ⟨v7, W7, R7, ow7, gr7⟩ := app_calls ow6 (hr1.below bo6) c (by rw [← HN.out]; omega) bo6.size 22
        rw [← HN.out, Nat.zero_add] at ow7
        rw [← HN.out] at R7
        rw [List.nil_append] at ow7
        have bo7 := bo6.trans (below_grown bo6.size (fun k hk => (ow6.lt k hk).1) gr7)
        have rk7 : Rd W7 (some ⟨W1.heap.size, 0, none⟩) (calV [x0]) := rd_other gr7 rk6 (fun k hk => by have := (ow1.lt k hk).2; omega)
        refine stepApp2 (by rfl) (.tmp 19) (.tmp 20) 22 rfl _ _ _ rfl rfl R7.out ?_
        try simp only [Act.put, List.setIfInBounds_toArray, List.set_cons_zero, List.set_cons_succ]
        refine hK.out _ _ (KS.out _ bo7) (fun hHeld => ?_)
        clear hK K
        try simp only [Act.put, List.setIfInBounds_toArray, List.set_cons_zero, List.set_cons_succ]
        refine wpAnyH_ready (rs := [5]) (by kernel_rfl) (by simp) ?_
        refine AllReadyH.cons (o := ⟨_, _, _, _, _, _⟩) rfl (fun K hK => ?_) (AllReadyH.nil)
        obtain ⟨v8, W8, R8, ow8, gr8⟩ := app_calls ow7 rk7 1 (by show (n + 1) * 56 ≤ _; omega) bo7.size 22
        have bo8 := bo7.trans (below_grown bo7.size (fun k hk => (ow7.lt k hk).1) gr8)
        refine stepApp2 (by rfl) (.tmp 21) (.tmp 23) 22 rfl _ _ _ rfl rfl R8.out ?_
        try simp only [Act.put, List.setIfInBounds_toArray, List.set_cons_zero, List.set_cons_succ]
        refine hK.out _ _ (KS.out _ bo8) (fun hHeld => ?_)
        clear hK K
        try simp only [Act.put, List.setIfInBounds_toArray, List.set_cons_zero, List.set_cons_succ]
        rw [← calV_append] at ow8
        obtain ⟨A8, q8, rfl, rd8, -⟩ := own5_form ow8
        refine wpAnyH_ready (rs := [6]) (by kernel_rfl) (by simp) ?_
        refine AllReadyH.cons (o := ⟨_, _, _, _, _, _⟩) rfl (fun K hK => ?_) AllReadyH.nil
        go_simp
        refine (few_any A8 (n + 1) q8 (ls ++ [x0]) _ (by rw [List.length_append, ← HN.out]; rfl) (by omega) rd8).mono ?_
        rintro e wv ⟨rfl, rfl⟩
        refine hK.out _ _ (KS.out _ bo8) (fun hHeld => ?_)
        clear hK K
        try simp only [Act.put, List.setIfInBounds_toArray, List.set_cons_zero, List.set_cons_succ]
        refine wpAnyH_take (i := 7) (oi := ⟨_, _, _, _, _, _⟩) (v := ?_) rfl (by kernel_rfl) (by kernel_rfl) (by kernel_rfl) (fun _ _ _ h => h) (Or.inl ⟨by rfl, ?_⟩) (by assumption) ?_
        rotate_left
        · intro w hSw; (try dsimp only at hSw); go_simp; (try (with_reducible rfl))
        try simp only [Act.put, List.setIfInBounds_toArray, List.set_cons_zero, List.set_cons_succ]
        refine wpAnyH_done (by kernel_rfl) ?_ _
        go_wp2
        go_meet
        case rel => exact ⟨rfl, bo8⟩
    · go_simp
      have bo10 := (bo0.alloc bo0.size (.cells #[.int .i64 x0.which, .int .i64 x0.key, .int .i64 x0.num, .string x0.ad, .string x0.plain] 33))
      have rk10 := rd_call W0 x0
      rw [show (callV x0).toArray = #[.int .i64 x0.which, .int .i64 x0.key, .int .i64 x0.num, .string x0.ad, .string x0.plain] from rfl] at rk10
      have sz10 : W0.heap.size < (W0.alloc (.cells #[.int .i64 x0.which, .int .i64 x0.key, .int .i64 x0.num, .string x0.ad, .string x0.plain] 33)).heap.size := by show W0.heap.size < (W0.alloc (.cells #[.int .i64 x0.which, .int .i64 x0.key, .int .i64 x0.num, .string x0.ad, .string x0.plain] 33)).heap.size; simp
      refine hK.out _ _ (KS.out _ bo10) (fun hHeld => ?_)
      clear hK K
      try simp only [Act.put, List.setIfInBounds_toArray, List.set_cons_zero, List.set_cons_succ]
      generalize hW10 : (W0.alloc (.cells #[.int .i64 x0.which, .int .i64 x0.key, .int .i64 x0.num, .string x0.ad, .string x0.plain] 33)) = W10 at *
      clear hW10
      refine wpAnyH_ready (rs := [0]) (by kernel_rfl) (by simp) ?_
      refine AllReadyH.cons (o := ⟨_, _, _, _, _, _⟩) rfl (fun K hK => ?_) (AllReadyH.nil)
      go_simp
      have bo11 := (bo10.alloc bo10.size (.cells #[] 33))
      have ow11 := own_lower (own_empty W10 33) bo10.size
      have rk11 := rk10.below ((Below.refl _ _).alloc (Nat.le_refl _) (.cells #[] 33))
      refine hK.out _ _ (KS.out _ bo11) (fun hHeld => ?_)
      clear hK K
      try simp only [Act.put, List.setIfInBounds_toArray, List.set_cons_zero, List.set_cons_succ]
      generalize (W10.alloc (.cells #[] 33)) = W11 at *
      refine wpAnyH_ready (rs := [2]) (by kernel_rfl) (by simp) ?_
      refine AllReadyH.cons (o := ⟨_, _, _, _, _, _⟩) rfl (fun K hK => ?_) (AllReadyH.nil)
      obtain ⟨v12, W12, R12, ow12, gr12⟩ := app_calls ow11 (hr1.below bo11) c (by rw [← HN.out]; omega) bo11.size 22
      rw [← HN.out, Nat.zero_add] at ow12
      rw [← HN.out] at R12
      rw [List.nil_append] at ow12
      have bo12 := bo11.trans (below_grown bo11.size (fun k hk => (ow11.lt k hk).1) gr12)
      have rk12 : Rd W12 (some ⟨W0.heap.size, 0, none⟩) (calV [x0]) := rd_other gr12 rk11 (fun k hk => by have hk' : some W10.heap.size = some k := hk; injection hk' with hk'; have := sz10; omega)
      refine stepApp2 (by rfl) (.tmp 19) (.tmp 20) 22 rfl _ _ _ rfl rfl R12.out ?_
      try simp only [Act.put, List.setIfInBounds_toArray, List.set_cons_zero, List.set_cons_succ]
      refine hK.out _ _ (KS.out _ bo12) (fun hHeld => ?_)
      clear hK K
      try simp only [Act.put, List.setIfInBounds_toArray, List.set_cons_zero, List.set_cons_succ]
      refine wpAnyH_ready (rs := [5]) (by kernel_rfl) (by simp) ?_
      refine AllReadyH.cons (o := ⟨_, _, _, _, _, _⟩) rfl (fun K hK => ?_) (AllReadyH.nil)
      obtain ⟨v13, W13, R13, ow13, gr13⟩ := app_calls ow12 rk12 1 (by show (n + 1) * 56 ≤ _; omega) bo12.size 22
      have bo13 := bo12.trans (below_grown bo12.size (fun k hk => (ow12.lt k hk).1) gr13)
      refine stepApp2 (by rfl) (.tmp 21) (.tmp 23) 22 rfl _ _ _ rfl rfl R13.out ?_
      try simp only [Act.put, List.setIfInBounds_toArray, List.set_cons_zero, List.set_cons_succ]
      refine hK.out _ _ (KS.out _ bo13) (fun hHeld => ?_)
      clear hK K
      try simp only [Act.put, List.setIfInBounds_toArray, List.set_cons_zero, List.set_cons_succ]
      rw [← calV_append] at ow13
      obtain ⟨A13, q13, rfl, rd13, -⟩ := own5_form ow13
      refine wpAnyH_ready (rs := [6]) (by kernel_rfl) (by simp) ?_
      refine AllReadyH.cons (o := ⟨_, _, _, _, _, _⟩) rfl (fun K hK => ?_) AllReadyH.nil
      go_simp
      refine (few_any A13 (n + 1) q13 (ls ++ [x0]) _ (by rw [List.length_append, ← HN.out]; rfl) (by omega) rd13).mono ?_
      rintro e wv ⟨rfl, rfl⟩
      refine hK.out _ _ (KS.out _ bo13) (fun hHeld => ?_)
      clear hK K
      try simp only [Act.put, List.setIfInBounds_toArray, List.set_cons_zero, List.set_cons_succ]
      refine wpAnyH_take (i := 7) (oi := ⟨_, _, _, _, _, _⟩) (v := ?_) rfl (by kernel_rfl) (by kernel_rfl) (by kernel_rfl) (fun _ _ _ h => h) (Or.inl ⟨by rfl, ?_⟩) (by assumption) ?_
      rotate_left
      · intro w hSw; (try dsimp only at hSw); go_simp; (try (with_reducible rfl))
      try simp only [Act.put, List.setIfInBounds_toArray, List.set_cons_zero, List.set_cons_succ]
      refine wpAnyH_done (by kernel_rfl) ?_ _
      go_wp2
      go_meet
      case rel => exact ⟨rfl, bo13⟩
  case rest =>
    obtain ⟨rfl, b3⟩ := hcut
    have hr2 := hr1.below b3
    have hc2 := hc1.below b3
    have b4 := below2 b2 b3
    clear KS c0 c1 c2 c3 c4 hr1 hc1 b2 b3
    go_wp2_with fail
    refine (st_new _).mono ?_
    rintro e w2 ⟨g, rfl, h2⟩
    cases hf : fewB (ls ++ [x0])
    · clear hf
      have b5 := below2 b4 h2.bel
      go_wp2
      go_ret
      exact ⟨rfl, b5⟩
    obtain ⟨hn99, hz1, hz2, hf2⟩ := few_last hf
    have HF := hid hf2
    rw [← HN.out] at hn99
    clear hf hf2
    obtain ⟨-, c1, c2, c3, c4⟩ := call_cells (hc2.below h2.bel)
    go_wp2_with fail
    refine (st_seal h2 x0.key x0.ad x0.plain x0.num (by omega) (by decide)).mono ?_
    rintro e w3 ⟨rfl, h3⟩
    clear c1 c2 c3 c4 h2
    obtain ⟨-, c1, c2, c3, -⟩ := call_cells (hc2.below h3.bel)
    go_wp2_with fail
    refine (st_name h3 x0.num hx0.2.1 (by omega) (by decide)).mono ?_
    rintro e w4 ⟨rfl, h4⟩
    clear c1 c2 c3 h3
    have hI : I64 (sealI [] x0.plain x0.num) := sealI_i64 [] (by decide) _ _
    have HK : Hid (KInv 0 x0 (sealI [] x0.plain x0.num) (nameI [] x0.key x0.ad x0.num) (sealT [] x0.key x0.ad x0.plain x0.num) (nameN [] x0.key x0.ad x0.num)) :=
      ⟨sealT_len1 _ _ _ _ _, nameN_len _ _ _ _, fun hp => by simp [sealT, sealI, hp, sealS, findS], name_self _ _ _ _⟩
    have HZ : Hid (x0.plain.size ≤ 5116 → 0 < sizeV (sealT [] x0.key x0.ad x0.plain x0.num) (sealI [] x0.plain x0.num)) := hid (fun hp => by
      have h1 := HK.out.2.2.1 hp
      have h2 := size_bucket x0.plain.size hp
      have h3 := sizeN_four x0.plain.size
      unfold sizeV
      rw [h1]
      show 0 < sizeI (bucketI x0.plain.size)
      rw [h2]
      omega)
    have HZ2 : Hid (x0.plain.size ≤ 5116 → sizeV (sealT [] x0.key x0.ad x0.plain x0.num) (sealI [] x0.plain x0.num) = sizeI (bucketI x0.plain.size)) := hid (fun hp => by
      unfold sizeV
      rw [HK.out.2.2.1 hp])
    have HD : Hid (x0.plain.size ≤ 5116 ∨ sealI [] x0.plain x0.num = 0) := by
      by_cases hp : x0.plain.size ≤ 5116
      · exact .inl hp
      · exact .inr (by rw [sealI, if_neg hp])
    obtain ⟨d, hd⟩ : ∃ d, sealI [] x0.plain x0.num = d := ⟨_, rfl⟩
    obtain ⟨y, hy⟩ : ∃ y, nameI [] x0.key x0.ad x0.num = y := ⟨_, rfl⟩
    obtain ⟨S1, hS1⟩ : ∃ S1, sealT [] x0.key x0.ad x0.plain x0.num = S1 := ⟨_, rfl⟩
    obtain ⟨N1, hN1⟩ : ∃ N1, nameN [] x0.key x0.ad x0.num = N1 := ⟨_, rfl⟩
    rw [hd] at hI HK HZ HZ2 HD ⊢
    rw [hy] at HK ⊢
    rw [hS1] at h4 HK HZ HZ2
    rw [hN1] at h4 HK
    clear hd hy hS1 hN1
    go_wp2_with fail
    refine (st_size h4 hI).mono ?_
    rintro e w5 ⟨rfl, h5⟩
    clear h4
    generalize sizeV S1 d = z at *
    go_wp2_with fail
    go_loopw [13] (fun i wr => ∃ (j : Nat) (S : List Sec) (N : List Nam), j ≤ n ∧ i = .int .i64 j ∧ St wc wr g S N ∧ Hid (KInv j x0 d y S N)) (fun i _ => n - (intOf i).toNat)
    case atStart => exact ⟨0, S1, N1, by omega, rfl, h5, HK⟩
    case round =>
      clear h5 HK
      obtain ⟨j, S, N, hj, rfl, h5, HK⟩ := hrel
      by_cases hjn : j < n
      · have hz : (0 : Int) ≤ j := by omega
        have hlt : (j : Int) < n := by omega
        have hjl : j < ls.length := by rw [← HN.out]; exact hjn
        obtain ⟨b, off, rfl, hb0, g0, g1, g2, g3, g4⟩ := hr2.call hjl
        have hsx := few_size HF.out hjl
        have hxo := HO.out _ (List.getElem_mem hjl)
        obtain ⟨x, hx⟩ : ∃ x, ls[j] = x := ⟨_, rfl⟩
        rw [hx] at g0 g1 g2 g3 g4 hsx hxo
        clear hx
        have hSl : S.length ≤ j + 1 := HK.out.1
        have hNl : N.length ≤ j + 1 := HK.out.2.1
        have e0 := (h5.bel.cell (p := ⟨b, off + j * 5, none⟩) hb0).trans g0
        have e1 := (h5.bel.cell (p := ⟨b, off + j * 5 + 1, none⟩) hb0).trans g1
        have e2 := (h5.bel.cell (p := ⟨b, off + j * 5 + 2, none⟩) hb0).trans g2
        have e3 := (h5.bel.cell (p := ⟨b, off + j * 5 + 3, none⟩) hb0).trans g3
        have e4 := (h5.bel.cell (p := ⟨b, off + j * 5 + 4, none⟩) hb0).trans g4
        rcases mask2_cases x.which with hm | hm | hm | hm
        · go_upto_region 15 with (fail)
          refine wp_region_held_drew (S := fun w' => w'.cell? ⟨b, off + j * 5 + 1, none⟩ = some (.int .i64 x.key) ∧ w'.cell? ⟨b, off + j * 5 + 3, none⟩ = some (.string x.ad) ∧ w'.cell? ⟨b, off + j * 5 + 4, none⟩ = some (.string x.plain) ∧ w'.cell? ⟨b, off + j * 5 + 2, none⟩ = some (.int .i64 x.num)) (by kernel_rfl) ⟨e1, e3, e4, e2⟩ (fun hHeld => ?_)
          refine wpAnyH_take (i := 0) (oi := ⟨_, _, _, _, _, _⟩) (v := ?_) rfl (by kernel_rfl) (by kernel_rfl) (by kernel_rfl) (fun _ _ _ h => h) (Or.inl ⟨by rfl, ?_⟩) (by assumption) ?_
          rotate_left
          · intro w hSw; (try dsimp only at hSw); go_simp; (try (with_reducible rfl))
          try simp only [Act.put, List.setIfInBounds_toArray, List.set_cons_zero, List.set_cons_succ]
          refine wpAnyH_take (i := 1) (oi := ⟨_, _, _, _, _, _⟩) (v := ?_) rfl (by kernel_rfl) (by kernel_rfl) (by kernel_rfl) (fun _ _ _ h => h) (Or.inl ⟨by rfl, ?_⟩) (by assumption) ?_
          rotate_left
          · intro w hSw; (try dsimp only at hSw); go_simp; (try (with_reducible rfl))
          try simp only [Act.put, List.setIfInBounds_toArray, List.set_cons_zero, List.set_cons_succ]
          refine wpAnyH_take (i := 2) (oi := ⟨_, _, _, _, _, _⟩) (v := ?_) rfl (by kernel_rfl) (by kernel_rfl) (by kernel_rfl) (fun _ _ _ h => h) (Or.inl ⟨by rfl, ?_⟩) (by assumption) ?_
          rotate_left
          · intro w hSw; (try dsimp only at hSw); go_simp; (try (with_reducible rfl))
          try simp only [Act.put, List.setIfInBounds_toArray, List.set_cons_zero, List.set_cons_succ]
          refine wpAnyH_take (i := 3) (oi := ⟨_, _, _, _, _, _⟩) (v := ?_) rfl (by kernel_rfl) (by kernel_rfl) (by kernel_rfl) (fun _ _ _ h => h) (Or.inl ⟨by rfl, ?_⟩) (by assumption) ?_
          rotate_left
          · intro w hSw; (try dsimp only at hSw); go_simp; (try (with_reducible rfl))
          try simp only [Act.put, List.setIfInBounds_toArray, List.set_cons_zero, List.set_cons_succ]
          refine wpAnyH_take (i := 4) (oi := ⟨_, _, _, _, _, _⟩) (v := ?_) rfl (by kernel_rfl) (by kernel_rfl) (by kernel_rfl) (fun _ _ _ h => h) (Or.inl ⟨by rfl, ?_⟩) (by assumption) ?_
          rotate_left
          · intro w hSw; (try dsimp only at hSw); go_simp; (try (with_reducible rfl))
          try simp only [Act.put, List.setIfInBounds_toArray, List.set_cons_zero, List.set_cons_succ]
          refine wpAnyH_take (i := 5) (oi := ⟨_, _, _, _, _, _⟩) (v := ?_) rfl (by kernel_rfl) (by kernel_rfl) (by kernel_rfl) (fun _ _ _ h => h) (Or.inl ⟨by rfl, ?_⟩) (by assumption) ?_
          rotate_left
          · intro w hSw; (try dsimp only at hSw); go_simp; (try (with_reducible rfl))
          try simp only [Act.put, List.setIfInBounds_toArray, List.set_cons_zero, List.set_cons_succ]
          refine wpAnyH_take (i := 6) (oi := ⟨_, _, _, _, _, _⟩) (v := ?_) rfl (by kernel_rfl) (by kernel_rfl) (by kernel_rfl) (fun _ _ _ h => h) (Or.inl ⟨by rfl, ?_⟩) (by assumption) ?_
          rotate_left
          · intro w hSw; (try dsimp only at hSw); go_simp; (try (with_reducible rfl))
          try simp only [Act.put, List.setIfInBounds_toArray, List.set_cons_zero, List.set_cons_succ]
          refine wpAnyH_take (i := 7) (oi := ⟨_, _, _, _, _, _⟩) (v := ?_) rfl (by kernel_rfl) (by kernel_rfl) (by kernel_rfl) (fun _ _ _ h => h) (Or.inl ⟨by rfl, ?_⟩) (by assumption) ?_
          rotate_left
          · intro w hSw; (try dsimp only at hSw); go_simp; (try (with_reducible rfl))
          try simp only [Act.put, List.setIfInBounds_toArray, List.set_cons_zero, List.set_cons_succ]
          refine wpAnyH_take (i := 8) (oi := ⟨_, _, _, _, _, _⟩) (v := ?_) rfl (by kernel_rfl) (by kernel_rfl) (by kernel_rfl) (fun _ _ _ h => h) (Or.inl ⟨by rfl, ?_⟩) (by assumption) ?_
          rotate_left
          · intro w hSw; (try dsimp only at hSw); go_simp; (try (with_reducible rfl))
          try simp only [Act.put, List.setIfInBounds_toArray, List.set_cons_zero, List.set_cons_succ]
          refine wpAnyH_take (i := 9) (oi := ⟨_, _, _, _, _, _⟩) (v := ?_) rfl (by kernel_rfl) (by kernel_rfl) (by kernel_rfl) (fun _ _ _ h => h) (Or.inl ⟨by rfl, ?_⟩) (by assumption) ?_
          rotate_left
          · intro w hSw; (try dsimp only at hSw); go_simp; (try (with_reducible rfl))
          try simp only [Act.put, List.setIfInBounds_toArray, List.set_cons_zero, List.set_cons_succ]
          refine wpAnyH_take (i := 10) (oi := ⟨_, _, _, _, _, _⟩) (v := ?_) rfl (by kernel_rfl) (by kernel_rfl) (by kernel_rfl) (fun _ _ _ h => h) (Or.inl ⟨by rfl, ?_⟩) (by assumption) ?_
          rotate_left
          · intro w hSw; (try dsimp only at hSw); go_simp; (try (with_reducible rfl))
          try simp only [Act.put, List.setIfInBounds_toArray, List.set_cons_zero, List.set_cons_succ]
          refine wpAnyH_take (i := 11) (oi := ⟨_, _, _, _, _, _⟩) (v := ?_) rfl (by kernel_rfl) (by kernel_rfl) (by kernel_rfl) (fun _ _ _ h => h) (Or.inl ⟨by rfl, ?_⟩) (by assumption) ?_
          rotate_left
          · intro w hSw; (try dsimp only at hSw); go_simp; (try (with_reducible rfl))
          try simp only [Act.put, List.setIfInBounds_toArray, List.set_cons_zero, List.set_cons_succ]
          refine wpAnyH_take (i := 12) (oi := ⟨_, _, _, _, _, _⟩) (v := ?_) rfl (by kernel_rfl) (by kernel_rfl) (by kernel_rfl) (fun _ _ _ h => h) (Or.inl ⟨by rfl, ?_⟩) (by assumption) ?_
          rotate_left
          · intro w hSw; (try dsimp only at hSw); go_simp; (try (with_reducible rfl))
          try simp only [Act.put, List.setIfInBounds_toArray, List.set_cons_zero, List.set_cons_succ]
          refine wpAnyH_take (i := 13) (oi := ⟨_, _, _, _, _, _⟩) (v := ?_) rfl (by kernel_rfl) (by kernel_rfl) (by kernel_rfl) (fun _ _ _ h => h) (Or.inl ⟨by rfl, ?_⟩) (by assumption) ?_
          rotate_left
          · intro w hSw; (try dsimp only at hSw); go_simp; (try (with_reducible rfl))
          try simp only [Act.put, List.setIfInBounds_toArray, List.set_cons_zero, List.set_cons_succ]
          refine wpAnyH_take (i := 14) (oi := ⟨_, _, _, _, _, _⟩) (v := ?_) rfl (by kernel_rfl) (by kernel_rfl) (by kernel_rfl) (fun _ _ _ h => h) (Or.inl ⟨by rfl, ?_⟩) (by assumption) ?_
          rotate_left
          · intro w hSw; (try dsimp only at hSw); go_simp; (try (with_reducible rfl))
          try simp only [Act.put, List.setIfInBounds_toArray, List.set_cons_zero, List.set_cons_succ]
          refine wpAnyH_take (i := 15) (oi := ⟨_, _, _, _, _, _⟩) (v := ?_) rfl (by kernel_rfl) (by kernel_rfl) (by kernel_rfl) (fun _ _ _ h => h) (Or.inl ⟨by rfl, ?_⟩) (by assumption) ?_
          rotate_left
          · intro w hSw; (try dsimp only at hSw); go_simp; (try (with_reducible rfl))
          try simp only [Act.put, List.setIfInBounds_toArray, List.set_cons_zero, List.set_cons_succ]
          refine wpAnyH_take (i := 16) (oi := ⟨_, _, _, _, _, _⟩) (v := ?_) rfl (by kernel_rfl) (by kernel_rfl) (by kernel_rfl) (fun _ _ _ h => h) (Or.inl ⟨by rfl, ?_⟩) (by assumption) ?_
          rotate_left
          · intro w hSw; (try dsimp only at hSw); go_simp; (try (with_reducible rfl))
          try simp only [Act.put, List.setIfInBounds_toArray, List.set_cons_zero, List.set_cons_succ]
          refine wpAnyH_take (i := 17) (oi := ⟨_, _, _, _, _, _⟩) (v := ?_) rfl (by kernel_rfl) (by kernel_rfl) (by kernel_rfl) (fun _ _ _ h => h) (Or.inl ⟨by rfl, ?_⟩) (by assumption) ?_
          rotate_left
          · intro w hSw; (try dsimp only at hSw); go_simp; (try (with_reducible rfl))
          try simp only [Act.put, List.setIfInBounds_toArray, List.set_cons_zero, List.set_cons_succ]
          refine wpAnyH_take (i := 18) (oi := ⟨_, _, _, _, _, _⟩) (v := ?_) rfl (by kernel_rfl) (by kernel_rfl) (by kernel_rfl) (fun _ _ _ h => h) (Or.inl ⟨by rfl, ?_⟩) (by assumption) ?_
          rotate_left
          · intro w hSw; (try dsimp only at hSw); go_simp; (try (with_reducible rfl))
          try simp only [Act.put, List.setIfInBounds_toArray, List.set_cons_zero, List.set_cons_succ]
          refine wpAnyH_take (i := 19) (oi := ⟨_, _, _, _, _, _⟩) (v := ?_) rfl (by kernel_rfl) (by kernel_rfl) (by kernel_rfl) (fun _ _ _ h => h) (Or.inl ⟨by rfl, ?_⟩) (by assumption) ?_
          rotate_left
          · intro w hSw; (try dsimp only at hSw); go_simp; (try (with_reducible rfl))
          try simp only [Act.put, List.setIfInBounds_toArray, List.set_cons_zero, List.set_cons_succ]
          refine wpAnyH_take (i := 20) (oi := ⟨_, _, _, _, _, _⟩) (v := ?_) rfl (by kernel_rfl) (by kernel_rfl) (by kernel_rfl) (fun _ _ _ h => h) (Or.inl ⟨by rfl, ?_⟩) (by assumption) ?_
          rotate_left
          · intro w hSw; (try dsimp only at hSw); go_simp; (try (with_reducible rfl))
          try simp only [Act.put, List.setIfInBounds_toArray, List.set_cons_zero, List.set_cons_succ]
          refine wpAnyH_ready (rs := [21]) (by kernel_rfl) (by simp) ?_
          refine AllReadyH.cons (o := ⟨_, _, _, _, _, _⟩) rfl (fun K hK => ?_) AllReadyH.nil
          go_simp
          refine (st_seal h5.drew x.key x.ad x.plain x.num (by omega) (by omega)).mono ?_
          rintro e w6 ⟨rfl, h6⟩
          have f1 := (h6.bel.cell (p := ⟨b, off + j * 5 + 1, none⟩) hb0).trans g1
          have f3 := (h6.bel.cell (p := ⟨b, off + j * 5 + 3, none⟩) hb0).trans g3
          have f4 := (h6.bel.cell (p := ⟨b, off + j * 5 + 4, none⟩) hb0).trans g4
          have f2 := (h6.bel.cell (p := ⟨b, off + j * 5 + 2, none⟩) hb0).trans g2
          refine hK.out _ _ ⟨f1, f3, f4, f2⟩ (fun hHeld => ?_)
          clear hK K
          try simp only [Act.put, List.setIfInBounds_toArray, List.set_cons_zero, List.set_cons_succ]
          refine wpAnyH_done (by kernel_rfl) ?_ _
          go_wp2
          go_roundw
          case rel => exact ⟨j + 1, _, N, by omega, by go_num, h6, by have := sealT_len1 x.key x.ad x.plain x.num S; omega, by omega, fun hp => find_keeps (HK.out.2.2.1 hp) _ _ _ _, HK.out.2.2.2⟩
          case measure => simp [intOf]; omega
        · go_upto_region 17 with (fail)
          refine wp_region_held_drew (S := fun w' => w'.cell? ⟨b, off + j * 5 + 1, none⟩ = some (.int .i64 x.key) ∧ w'.cell? ⟨b, off + j * 5 + 3, none⟩ = some (.string x.ad) ∧ w'.cell? ⟨b, off + j * 5 + 2, none⟩ = some (.int .i64 x.num)) (by kernel_rfl) ⟨e1, e3, e2⟩ (fun hHeld => ?_)
          refine wpAnyH_take (i := 0) (oi := ⟨_, _, _, _, _, _⟩) (v := ?_) rfl (by kernel_rfl) (by kernel_rfl) (by kernel_rfl) (fun _ _ _ h => h) (Or.inl ⟨by rfl, ?_⟩) (by assumption) ?_
          rotate_left
          · intro w hSw; (try dsimp only at hSw); go_simp; (try (with_reducible rfl))
          try simp only [Act.put, List.setIfInBounds_toArray, List.set_cons_zero, List.set_cons_succ]
          refine wpAnyH_take (i := 1) (oi := ⟨_, _, _, _, _, _⟩) (v := ?_) rfl (by kernel_rfl) (by kernel_rfl) (by kernel_rfl) (fun _ _ _ h => h) (Or.inl ⟨by rfl, ?_⟩) (by assumption) ?_
          rotate_left
          · intro w hSw; (try dsimp only at hSw); go_simp; (try (with_reducible rfl))
          try simp only [Act.put, List.setIfInBounds_toArray, List.set_cons_zero, List.set_cons_succ]
          refine wpAnyH_take (i := 2) (oi := ⟨_, _, _, _, _, _⟩) (v := ?_) rfl (by kernel_rfl) (by kernel_rfl) (by kernel_rfl) (fun _ _ _ h => h) (Or.inl ⟨by rfl, ?_⟩) (by assumption) ?_
          rotate_left
          · intro w hSw; (try dsimp only at hSw); go_simp; (try (with_reducible rfl))
          try simp only [Act.put, List.setIfInBounds_toArray, List.set_cons_zero, List.set_cons_succ]
          refine wpAnyH_take (i := 3) (oi := ⟨_, _, _, _, _, _⟩) (v := ?_) rfl (by kernel_rfl) (by kernel_rfl) (by kernel_rfl) (fun _ _ _ h => h) (Or.inl ⟨by rfl, ?_⟩) (by assumption) ?_
          rotate_left
          · intro w hSw; (try dsimp only at hSw); go_simp; (try (with_reducible rfl))
          try simp only [Act.put, List.setIfInBounds_toArray, List.set_cons_zero, List.set_cons_succ]
          refine wpAnyH_take (i := 4) (oi := ⟨_, _, _, _, _, _⟩) (v := ?_) rfl (by kernel_rfl) (by kernel_rfl) (by kernel_rfl) (fun _ _ _ h => h) (Or.inl ⟨by rfl, ?_⟩) (by assumption) ?_
          rotate_left
          · intro w hSw; (try dsimp only at hSw); go_simp; (try (with_reducible rfl))
          try simp only [Act.put, List.setIfInBounds_toArray, List.set_cons_zero, List.set_cons_succ]
          refine wpAnyH_take (i := 5) (oi := ⟨_, _, _, _, _, _⟩) (v := ?_) rfl (by kernel_rfl) (by kernel_rfl) (by kernel_rfl) (fun _ _ _ h => h) (Or.inl ⟨by rfl, ?_⟩) (by assumption) ?_
          rotate_left
          · intro w hSw; (try dsimp only at hSw); go_simp; (try (with_reducible rfl))
          try simp only [Act.put, List.setIfInBounds_toArray, List.set_cons_zero, List.set_cons_succ]
          refine wpAnyH_take (i := 6) (oi := ⟨_, _, _, _, _, _⟩) (v := ?_) rfl (by kernel_rfl) (by kernel_rfl) (by kernel_rfl) (fun _ _ _ h => h) (Or.inl ⟨by rfl, ?_⟩) (by assumption) ?_
          rotate_left
          · intro w hSw; (try dsimp only at hSw); go_simp; (try (with_reducible rfl))
          try simp only [Act.put, List.setIfInBounds_toArray, List.set_cons_zero, List.set_cons_succ]
          refine wpAnyH_take (i := 7) (oi := ⟨_, _, _, _, _, _⟩) (v := ?_) rfl (by kernel_rfl) (by kernel_rfl) (by kernel_rfl) (fun _ _ _ h => h) (Or.inl ⟨by rfl, ?_⟩) (by assumption) ?_
          rotate_left
          · intro w hSw; (try dsimp only at hSw); go_simp; (try (with_reducible rfl))
          try simp only [Act.put, List.setIfInBounds_toArray, List.set_cons_zero, List.set_cons_succ]
          refine wpAnyH_take (i := 8) (oi := ⟨_, _, _, _, _, _⟩) (v := ?_) rfl (by kernel_rfl) (by kernel_rfl) (by kernel_rfl) (fun _ _ _ h => h) (Or.inl ⟨by rfl, ?_⟩) (by assumption) ?_
          rotate_left
          · intro w hSw; (try dsimp only at hSw); go_simp; (try (with_reducible rfl))
          try simp only [Act.put, List.setIfInBounds_toArray, List.set_cons_zero, List.set_cons_succ]
          refine wpAnyH_take (i := 9) (oi := ⟨_, _, _, _, _, _⟩) (v := ?_) rfl (by kernel_rfl) (by kernel_rfl) (by kernel_rfl) (fun _ _ _ h => h) (Or.inl ⟨by rfl, ?_⟩) (by assumption) ?_
          rotate_left
          · intro w hSw; (try dsimp only at hSw); go_simp; (try (with_reducible rfl))
          try simp only [Act.put, List.setIfInBounds_toArray, List.set_cons_zero, List.set_cons_succ]
          refine wpAnyH_take (i := 10) (oi := ⟨_, _, _, _, _, _⟩) (v := ?_) rfl (by kernel_rfl) (by kernel_rfl) (by kernel_rfl) (fun _ _ _ h => h) (Or.inl ⟨by rfl, ?_⟩) (by assumption) ?_
          rotate_left
          · intro w hSw; (try dsimp only at hSw); go_simp; (try (with_reducible rfl))
          try simp only [Act.put, List.setIfInBounds_toArray, List.set_cons_zero, List.set_cons_succ]
          refine wpAnyH_take (i := 11) (oi := ⟨_, _, _, _, _, _⟩) (v := ?_) rfl (by kernel_rfl) (by kernel_rfl) (by kernel_rfl) (fun _ _ _ h => h) (Or.inl ⟨by rfl, ?_⟩) (by assumption) ?_
          rotate_left
          · intro w hSw; (try dsimp only at hSw); go_simp; (try (with_reducible rfl))
          try simp only [Act.put, List.setIfInBounds_toArray, List.set_cons_zero, List.set_cons_succ]
          refine wpAnyH_take (i := 12) (oi := ⟨_, _, _, _, _, _⟩) (v := ?_) rfl (by kernel_rfl) (by kernel_rfl) (by kernel_rfl) (fun _ _ _ h => h) (Or.inl ⟨by rfl, ?_⟩) (by assumption) ?_
          rotate_left
          · intro w hSw; (try dsimp only at hSw); go_simp; (try (with_reducible rfl))
          try simp only [Act.put, List.setIfInBounds_toArray, List.set_cons_zero, List.set_cons_succ]
          refine wpAnyH_take (i := 13) (oi := ⟨_, _, _, _, _, _⟩) (v := ?_) rfl (by kernel_rfl) (by kernel_rfl) (by kernel_rfl) (fun _ _ _ h => h) (Or.inl ⟨by rfl, ?_⟩) (by assumption) ?_
          rotate_left
          · intro w hSw; (try dsimp only at hSw); go_simp; (try (with_reducible rfl))
          try simp only [Act.put, List.setIfInBounds_toArray, List.set_cons_zero, List.set_cons_succ]
          refine wpAnyH_take (i := 14) (oi := ⟨_, _, _, _, _, _⟩) (v := ?_) rfl (by kernel_rfl) (by kernel_rfl) (by kernel_rfl) (fun _ _ _ h => h) (Or.inl ⟨by rfl, ?_⟩) (by assumption) ?_
          rotate_left
          · intro w hSw; (try dsimp only at hSw); go_simp; (try (with_reducible rfl))
          try simp only [Act.put, List.setIfInBounds_toArray, List.set_cons_zero, List.set_cons_succ]
          refine wpAnyH_take (i := 15) (oi := ⟨_, _, _, _, _, _⟩) (v := ?_) rfl (by kernel_rfl) (by kernel_rfl) (by kernel_rfl) (fun _ _ _ h => h) (Or.inl ⟨by rfl, ?_⟩) (by assumption) ?_
          rotate_left
          · intro w hSw; (try dsimp only at hSw); go_simp; (try (with_reducible rfl))
          try simp only [Act.put, List.setIfInBounds_toArray, List.set_cons_zero, List.set_cons_succ]
          refine wpAnyH_ready (rs := [16]) (by kernel_rfl) (by simp) ?_
          refine AllReadyH.cons (o := ⟨_, _, _, _, _, _⟩) rfl (fun K hK => ?_) AllReadyH.nil
          go_simp
          refine (st_open h5.drew hxo.2.2.1 x.key x.ad).mono ?_
          rintro e w6 ⟨rfl, h6⟩
          unfold openE
          have f1 := (h6.bel.cell (p := ⟨b, off + j * 5 + 1, none⟩) hb0).trans g1
          have f3 := (h6.bel.cell (p := ⟨b, off + j * 5 + 3, none⟩) hb0).trans g3
          have f2 := (h6.bel.cell (p := ⟨b, off + j * 5 + 2, none⟩) hb0).trans g2
          refine hK.out _ _ ⟨f1, f3, f2⟩ (fun hHeld => ?_)
          clear hK K
          try simp only [Act.put, List.setIfInBounds_toArray, List.set_cons_zero, List.set_cons_succ]
          refine wpAnyH_done (by kernel_rfl) ?_ _
          go_wp2
          go_roundw
          case rel => exact ⟨j + 1, S, N, by omega, by go_num, h6, by omega, by omega, HK.out.2.2.1, HK.out.2.2.2⟩
          case measure => simp [intOf]; omega
        · go_upto_region 19 with (fail)
          refine wp_region_held_drew (S := fun w' => w'.cell? ⟨b, off + j * 5 + 1, none⟩ = some (.int .i64 x.key) ∧ w'.cell? ⟨b, off + j * 5 + 3, none⟩ = some (.string x.ad) ∧ w'.cell? ⟨b, off + j * 5 + 2, none⟩ = some (.int .i64 x.num)) (by kernel_rfl) ⟨e1, e3, e2⟩ (fun hHeld => ?_)
          refine wpAnyH_take (i := 0) (oi := ⟨_, _, _, _, _, _⟩) (v := ?_) rfl (by kernel_rfl) (by kernel_rfl) (by kernel_rfl) (fun _ _ _ h => h) (Or.inl ⟨by rfl, ?_⟩) (by assumption) ?_
          rotate_left
          · intro w hSw; (try dsimp only at hSw); go_simp; (try (with_reducible rfl))
          try simp only [Act.put, List.setIfInBounds_toArray, List.set_cons_zero, List.set_cons_succ]
          refine wpAnyH_take (i := 1) (oi := ⟨_, _, _, _, _, _⟩) (v := ?_) rfl (by kernel_rfl) (by kernel_rfl) (by kernel_rfl) (fun _ _ _ h => h) (Or.inl ⟨by rfl, ?_⟩) (by assumption) ?_
          rotate_left
          · intro w hSw; (try dsimp only at hSw); go_simp; (try (with_reducible rfl))
          try simp only [Act.put, List.setIfInBounds_toArray, List.set_cons_zero, List.set_cons_succ]
          refine wpAnyH_take (i := 2) (oi := ⟨_, _, _, _, _, _⟩) (v := ?_) rfl (by kernel_rfl) (by kernel_rfl) (by kernel_rfl) (fun _ _ _ h => h) (Or.inl ⟨by rfl, ?_⟩) (by assumption) ?_
          rotate_left
          · intro w hSw; (try dsimp only at hSw); go_simp; (try (with_reducible rfl))
          try simp only [Act.put, List.setIfInBounds_toArray, List.set_cons_zero, List.set_cons_succ]
          refine wpAnyH_take (i := 3) (oi := ⟨_, _, _, _, _, _⟩) (v := ?_) rfl (by kernel_rfl) (by kernel_rfl) (by kernel_rfl) (fun _ _ _ h => h) (Or.inl ⟨by rfl, ?_⟩) (by assumption) ?_
          rotate_left
          · intro w hSw; (try dsimp only at hSw); go_simp; (try (with_reducible rfl))
          try simp only [Act.put, List.setIfInBounds_toArray, List.set_cons_zero, List.set_cons_succ]
          refine wpAnyH_take (i := 4) (oi := ⟨_, _, _, _, _, _⟩) (v := ?_) rfl (by kernel_rfl) (by kernel_rfl) (by kernel_rfl) (fun _ _ _ h => h) (Or.inl ⟨by rfl, ?_⟩) (by assumption) ?_
          rotate_left
          · intro w hSw; (try dsimp only at hSw); go_simp; (try (with_reducible rfl))
          try simp only [Act.put, List.setIfInBounds_toArray, List.set_cons_zero, List.set_cons_succ]
          refine wpAnyH_take (i := 5) (oi := ⟨_, _, _, _, _, _⟩) (v := ?_) rfl (by kernel_rfl) (by kernel_rfl) (by kernel_rfl) (fun _ _ _ h => h) (Or.inl ⟨by rfl, ?_⟩) (by assumption) ?_
          rotate_left
          · intro w hSw; (try dsimp only at hSw); go_simp; (try (with_reducible rfl))
          try simp only [Act.put, List.setIfInBounds_toArray, List.set_cons_zero, List.set_cons_succ]
          refine wpAnyH_take (i := 6) (oi := ⟨_, _, _, _, _, _⟩) (v := ?_) rfl (by kernel_rfl) (by kernel_rfl) (by kernel_rfl) (fun _ _ _ h => h) (Or.inl ⟨by rfl, ?_⟩) (by assumption) ?_
          rotate_left
          · intro w hSw; (try dsimp only at hSw); go_simp; (try (with_reducible rfl))
          try simp only [Act.put, List.setIfInBounds_toArray, List.set_cons_zero, List.set_cons_succ]
          refine wpAnyH_take (i := 7) (oi := ⟨_, _, _, _, _, _⟩) (v := ?_) rfl (by kernel_rfl) (by kernel_rfl) (by kernel_rfl) (fun _ _ _ h => h) (Or.inl ⟨by rfl, ?_⟩) (by assumption) ?_
          rotate_left
          · intro w hSw; (try dsimp only at hSw); go_simp; (try (with_reducible rfl))
          try simp only [Act.put, List.setIfInBounds_toArray, List.set_cons_zero, List.set_cons_succ]
          refine wpAnyH_take (i := 8) (oi := ⟨_, _, _, _, _, _⟩) (v := ?_) rfl (by kernel_rfl) (by kernel_rfl) (by kernel_rfl) (fun _ _ _ h => h) (Or.inl ⟨by rfl, ?_⟩) (by assumption) ?_
          rotate_left
          · intro w hSw; (try dsimp only at hSw); go_simp; (try (with_reducible rfl))
          try simp only [Act.put, List.setIfInBounds_toArray, List.set_cons_zero, List.set_cons_succ]
          refine wpAnyH_take (i := 9) (oi := ⟨_, _, _, _, _, _⟩) (v := ?_) rfl (by kernel_rfl) (by kernel_rfl) (by kernel_rfl) (fun _ _ _ h => h) (Or.inl ⟨by rfl, ?_⟩) (by assumption) ?_
          rotate_left
          · intro w hSw; (try dsimp only at hSw); go_simp; (try (with_reducible rfl))
          try simp only [Act.put, List.setIfInBounds_toArray, List.set_cons_zero, List.set_cons_succ]
          refine wpAnyH_take (i := 10) (oi := ⟨_, _, _, _, _, _⟩) (v := ?_) rfl (by kernel_rfl) (by kernel_rfl) (by kernel_rfl) (fun _ _ _ h => h) (Or.inl ⟨by rfl, ?_⟩) (by assumption) ?_
          rotate_left
          · intro w hSw; (try dsimp only at hSw); go_simp; (try (with_reducible rfl))
          try simp only [Act.put, List.setIfInBounds_toArray, List.set_cons_zero, List.set_cons_succ]
          refine wpAnyH_take (i := 11) (oi := ⟨_, _, _, _, _, _⟩) (v := ?_) rfl (by kernel_rfl) (by kernel_rfl) (by kernel_rfl) (fun _ _ _ h => h) (Or.inl ⟨by rfl, ?_⟩) (by assumption) ?_
          rotate_left
          · intro w hSw; (try dsimp only at hSw); go_simp; (try (with_reducible rfl))
          try simp only [Act.put, List.setIfInBounds_toArray, List.set_cons_zero, List.set_cons_succ]
          refine wpAnyH_take (i := 12) (oi := ⟨_, _, _, _, _, _⟩) (v := ?_) rfl (by kernel_rfl) (by kernel_rfl) (by kernel_rfl) (fun _ _ _ h => h) (Or.inl ⟨by rfl, ?_⟩) (by assumption) ?_
          rotate_left
          · intro w hSw; (try dsimp only at hSw); go_simp; (try (with_reducible rfl))
          try simp only [Act.put, List.setIfInBounds_toArray, List.set_cons_zero, List.set_cons_succ]
          refine wpAnyH_take (i := 13) (oi := ⟨_, _, _, _, _, _⟩) (v := ?_) rfl (by kernel_rfl) (by kernel_rfl) (by kernel_rfl) (fun _ _ _ h => h) (Or.inl ⟨by rfl, ?_⟩) (by assumption) ?_
          rotate_left
          · intro w hSw; (try dsimp only at hSw); go_simp; (try (with_reducible rfl))
          try simp only [Act.put, List.setIfInBounds_toArray, List.set_cons_zero, List.set_cons_succ]
          refine wpAnyH_take (i := 14) (oi := ⟨_, _, _, _, _, _⟩) (v := ?_) rfl (by kernel_rfl) (by kernel_rfl) (by kernel_rfl) (fun _ _ _ h => h) (Or.inl ⟨by rfl, ?_⟩) (by assumption) ?_
          rotate_left
          · intro w hSw; (try dsimp only at hSw); go_simp; (try (with_reducible rfl))
          try simp only [Act.put, List.setIfInBounds_toArray, List.set_cons_zero, List.set_cons_succ]
          refine wpAnyH_take (i := 15) (oi := ⟨_, _, _, _, _, _⟩) (v := ?_) rfl (by kernel_rfl) (by kernel_rfl) (by kernel_rfl) (fun _ _ _ h => h) (Or.inl ⟨by rfl, ?_⟩) (by assumption) ?_
          rotate_left
          · intro w hSw; (try dsimp only at hSw); go_simp; (try (with_reducible rfl))
          try simp only [Act.put, List.setIfInBounds_toArray, List.set_cons_zero, List.set_cons_succ]
          refine wpAnyH_ready (rs := [16]) (by kernel_rfl) (by simp) ?_
          refine AllReadyH.cons (o := ⟨_, _, _, _, _, _⟩) rfl (fun K hK => ?_) AllReadyH.nil
          go_simp
          refine (st_name h5.drew x.num hxo.2.1 (by omega) (by omega)).mono ?_
          rintro e w6 ⟨rfl, h6⟩
          have f1 := (h6.bel.cell (p := ⟨b, off + j * 5 + 1, none⟩) hb0).trans g1
          have f3 := (h6.bel.cell (p := ⟨b, off + j * 5 + 3, none⟩) hb0).trans g3
          have f2 := (h6.bel.cell (p := ⟨b, off + j * 5 + 2, none⟩) hb0).trans g2
          refine hK.out _ _ ⟨f1, f3, f2⟩ (fun hHeld => ?_)
          clear hK K
          try simp only [Act.put, List.setIfInBounds_toArray, List.set_cons_zero, List.set_cons_succ]
          refine wpAnyH_done (by kernel_rfl) ?_ _
          go_wp2
          go_roundw
          case rel => exact ⟨j + 1, S, _, by omega, by go_num, h6, by omega, by have := nameN_len N x.key x.ad x.num; omega, HK.out.2.2.1, name_keeps' HK.out.2.2.2 _ _ _⟩
          case measure => simp [intOf]; omega
        · go_upto_region 15 with (fail)
          refine wp_region_held_drew (S := fun w' => w'.cell? ⟨b, off + j * 5 + 1, none⟩ = some (.int .i64 x.key) ∧ w'.cell? ⟨b, off + j * 5 + 3, none⟩ = some (.string x.ad) ∧ w'.cell? ⟨b, off + j * 5 + 4, none⟩ = some (.string x.plain) ∧ w'.cell? ⟨b, off + j * 5 + 2, none⟩ = some (.int .i64 x.num)) (by kernel_rfl) ⟨e1, e3, e4, e2⟩ (fun hHeld => ?_)
          refine wpAnyH_take (i := 0) (oi := ⟨_, _, _, _, _, _⟩) (v := ?_) rfl (by kernel_rfl) (by kernel_rfl) (by kernel_rfl) (fun _ _ _ h => h) (Or.inl ⟨by rfl, ?_⟩) (by assumption) ?_
          rotate_left
          · intro w hSw; (try dsimp only at hSw); go_simp; (try (with_reducible rfl))
          try simp only [Act.put, List.setIfInBounds_toArray, List.set_cons_zero, List.set_cons_succ]
          refine wpAnyH_take (i := 1) (oi := ⟨_, _, _, _, _, _⟩) (v := ?_) rfl (by kernel_rfl) (by kernel_rfl) (by kernel_rfl) (fun _ _ _ h => h) (Or.inl ⟨by rfl, ?_⟩) (by assumption) ?_
          rotate_left
          · intro w hSw; (try dsimp only at hSw); go_simp; (try (with_reducible rfl))
          try simp only [Act.put, List.setIfInBounds_toArray, List.set_cons_zero, List.set_cons_succ]
          refine wpAnyH_take (i := 2) (oi := ⟨_, _, _, _, _, _⟩) (v := ?_) rfl (by kernel_rfl) (by kernel_rfl) (by kernel_rfl) (fun _ _ _ h => h) (Or.inl ⟨by rfl, ?_⟩) (by assumption) ?_
          rotate_left
          · intro w hSw; (try dsimp only at hSw); go_simp; (try (with_reducible rfl))
          try simp only [Act.put, List.setIfInBounds_toArray, List.set_cons_zero, List.set_cons_succ]
          refine wpAnyH_take (i := 3) (oi := ⟨_, _, _, _, _, _⟩) (v := ?_) rfl (by kernel_rfl) (by kernel_rfl) (by kernel_rfl) (fun _ _ _ h => h) (Or.inl ⟨by rfl, ?_⟩) (by assumption) ?_
          rotate_left
          · intro w hSw; (try dsimp only at hSw); go_simp; (try (with_reducible rfl))
          try simp only [Act.put, List.setIfInBounds_toArray, List.set_cons_zero, List.set_cons_succ]
          refine wpAnyH_take (i := 4) (oi := ⟨_, _, _, _, _, _⟩) (v := ?_) rfl (by kernel_rfl) (by kernel_rfl) (by kernel_rfl) (fun _ _ _ h => h) (Or.inl ⟨by rfl, ?_⟩) (by assumption) ?_
          rotate_left
          · intro w hSw; (try dsimp only at hSw); go_simp; (try (with_reducible rfl))
          try simp only [Act.put, List.setIfInBounds_toArray, List.set_cons_zero, List.set_cons_succ]
          refine wpAnyH_take (i := 5) (oi := ⟨_, _, _, _, _, _⟩) (v := ?_) rfl (by kernel_rfl) (by kernel_rfl) (by kernel_rfl) (fun _ _ _ h => h) (Or.inl ⟨by rfl, ?_⟩) (by assumption) ?_
          rotate_left
          · intro w hSw; (try dsimp only at hSw); go_simp; (try (with_reducible rfl))
          try simp only [Act.put, List.setIfInBounds_toArray, List.set_cons_zero, List.set_cons_succ]
          refine wpAnyH_take (i := 6) (oi := ⟨_, _, _, _, _, _⟩) (v := ?_) rfl (by kernel_rfl) (by kernel_rfl) (by kernel_rfl) (fun _ _ _ h => h) (Or.inl ⟨by rfl, ?_⟩) (by assumption) ?_
          rotate_left
          · intro w hSw; (try dsimp only at hSw); go_simp; (try (with_reducible rfl))
          try simp only [Act.put, List.setIfInBounds_toArray, List.set_cons_zero, List.set_cons_succ]
          refine wpAnyH_take (i := 7) (oi := ⟨_, _, _, _, _, _⟩) (v := ?_) rfl (by kernel_rfl) (by kernel_rfl) (by kernel_rfl) (fun _ _ _ h => h) (Or.inl ⟨by rfl, ?_⟩) (by assumption) ?_
          rotate_left
          · intro w hSw; (try dsimp only at hSw); go_simp; (try (with_reducible rfl))
          try simp only [Act.put, List.setIfInBounds_toArray, List.set_cons_zero, List.set_cons_succ]
          refine wpAnyH_take (i := 8) (oi := ⟨_, _, _, _, _, _⟩) (v := ?_) rfl (by kernel_rfl) (by kernel_rfl) (by kernel_rfl) (fun _ _ _ h => h) (Or.inl ⟨by rfl, ?_⟩) (by assumption) ?_
          rotate_left
          · intro w hSw; (try dsimp only at hSw); go_simp; (try (with_reducible rfl))
          try simp only [Act.put, List.setIfInBounds_toArray, List.set_cons_zero, List.set_cons_succ]
          refine wpAnyH_take (i := 9) (oi := ⟨_, _, _, _, _, _⟩) (v := ?_) rfl (by kernel_rfl) (by kernel_rfl) (by kernel_rfl) (fun _ _ _ h => h) (Or.inl ⟨by rfl, ?_⟩) (by assumption) ?_
          rotate_left
          · intro w hSw; (try dsimp only at hSw); go_simp; (try (with_reducible rfl))
          try simp only [Act.put, List.setIfInBounds_toArray, List.set_cons_zero, List.set_cons_succ]
          refine wpAnyH_take (i := 10) (oi := ⟨_, _, _, _, _, _⟩) (v := ?_) rfl (by kernel_rfl) (by kernel_rfl) (by kernel_rfl) (fun _ _ _ h => h) (Or.inl ⟨by rfl, ?_⟩) (by assumption) ?_
          rotate_left
          · intro w hSw; (try dsimp only at hSw); go_simp; (try (with_reducible rfl))
          try simp only [Act.put, List.setIfInBounds_toArray, List.set_cons_zero, List.set_cons_succ]
          refine wpAnyH_take (i := 11) (oi := ⟨_, _, _, _, _, _⟩) (v := ?_) rfl (by kernel_rfl) (by kernel_rfl) (by kernel_rfl) (fun _ _ _ h => h) (Or.inl ⟨by rfl, ?_⟩) (by assumption) ?_
          rotate_left
          · intro w hSw; (try dsimp only at hSw); go_simp; (try (with_reducible rfl))
          try simp only [Act.put, List.setIfInBounds_toArray, List.set_cons_zero, List.set_cons_succ]
          refine wpAnyH_take (i := 12) (oi := ⟨_, _, _, _, _, _⟩) (v := ?_) rfl (by kernel_rfl) (by kernel_rfl) (by kernel_rfl) (fun _ _ _ h => h) (Or.inl ⟨by rfl, ?_⟩) (by assumption) ?_
          rotate_left
          · intro w hSw; (try dsimp only at hSw); go_simp; (try (with_reducible rfl))
          try simp only [Act.put, List.setIfInBounds_toArray, List.set_cons_zero, List.set_cons_succ]
          refine wpAnyH_take (i := 13) (oi := ⟨_, _, _, _, _, _⟩) (v := ?_) rfl (by kernel_rfl) (by kernel_rfl) (by kernel_rfl) (fun _ _ _ h => h) (Or.inl ⟨by rfl, ?_⟩) (by assumption) ?_
          rotate_left
          · intro w hSw; (try dsimp only at hSw); go_simp; (try (with_reducible rfl))
          try simp only [Act.put, List.setIfInBounds_toArray, List.set_cons_zero, List.set_cons_succ]
          refine wpAnyH_take (i := 14) (oi := ⟨_, _, _, _, _, _⟩) (v := ?_) rfl (by kernel_rfl) (by kernel_rfl) (by kernel_rfl) (fun _ _ _ h => h) (Or.inl ⟨by rfl, ?_⟩) (by assumption) ?_
          rotate_left
          · intro w hSw; (try dsimp only at hSw); go_simp; (try (with_reducible rfl))
          try simp only [Act.put, List.setIfInBounds_toArray, List.set_cons_zero, List.set_cons_succ]
          refine wpAnyH_take (i := 15) (oi := ⟨_, _, _, _, _, _⟩) (v := ?_) rfl (by kernel_rfl) (by kernel_rfl) (by kernel_rfl) (fun _ _ _ h => h) (Or.inl ⟨by rfl, ?_⟩) (by assumption) ?_
          rotate_left
          · intro w hSw; (try dsimp only at hSw); go_simp; (try (with_reducible rfl))
          try simp only [Act.put, List.setIfInBounds_toArray, List.set_cons_zero, List.set_cons_succ]
          refine wpAnyH_take (i := 16) (oi := ⟨_, _, _, _, _, _⟩) (v := ?_) rfl (by kernel_rfl) (by kernel_rfl) (by kernel_rfl) (fun _ _ _ h => h) (Or.inl ⟨by rfl, ?_⟩) (by assumption) ?_
          rotate_left
          · intro w hSw; (try dsimp only at hSw); go_simp; (try (with_reducible rfl))
          try simp only [Act.put, List.setIfInBounds_toArray, List.set_cons_zero, List.set_cons_succ]
          refine wpAnyH_take (i := 17) (oi := ⟨_, _, _, _, _, _⟩) (v := ?_) rfl (by kernel_rfl) (by kernel_rfl) (by kernel_rfl) (fun _ _ _ h => h) (Or.inl ⟨by rfl, ?_⟩) (by assumption) ?_
          rotate_left
          · intro w hSw; (try dsimp only at hSw); go_simp; (try (with_reducible rfl))
          try simp only [Act.put, List.setIfInBounds_toArray, List.set_cons_zero, List.set_cons_succ]
          refine wpAnyH_take (i := 18) (oi := ⟨_, _, _, _, _, _⟩) (v := ?_) rfl (by kernel_rfl) (by kernel_rfl) (by kernel_rfl) (fun _ _ _ h => h) (Or.inl ⟨by rfl, ?_⟩) (by assumption) ?_
          rotate_left
          · intro w hSw; (try dsimp only at hSw); go_simp; (try (with_reducible rfl))
          try simp only [Act.put, List.setIfInBounds_toArray, List.set_cons_zero, List.set_cons_succ]
          refine wpAnyH_take (i := 19) (oi := ⟨_, _, _, _, _, _⟩) (v := ?_) rfl (by kernel_rfl) (by kernel_rfl) (by kernel_rfl) (fun _ _ _ h => h) (Or.inl ⟨by rfl, ?_⟩) (by assumption) ?_
          rotate_left
          · intro w hSw; (try dsimp only at hSw); go_simp; (try (with_reducible rfl))
          try simp only [Act.put, List.setIfInBounds_toArray, List.set_cons_zero, List.set_cons_succ]
          refine wpAnyH_take (i := 20) (oi := ⟨_, _, _, _, _, _⟩) (v := ?_) rfl (by kernel_rfl) (by kernel_rfl) (by kernel_rfl) (fun _ _ _ h => h) (Or.inl ⟨by rfl, ?_⟩) (by assumption) ?_
          rotate_left
          · intro w hSw; (try dsimp only at hSw); go_simp; (try (with_reducible rfl))
          try simp only [Act.put, List.setIfInBounds_toArray, List.set_cons_zero, List.set_cons_succ]
          refine wpAnyH_ready (rs := [21]) (by kernel_rfl) (by simp) ?_
          refine AllReadyH.cons (o := ⟨_, _, _, _, _, _⟩) rfl (fun K hK => ?_) AllReadyH.nil
          go_simp
          refine (st_seal h5.drew x.key x.ad x.plain x.num (by omega) (by omega)).mono ?_
          rintro e w6 ⟨rfl, h6⟩
          have f1 := (h6.bel.cell (p := ⟨b, off + j * 5 + 1, none⟩) hb0).trans g1
          have f3 := (h6.bel.cell (p := ⟨b, off + j * 5 + 3, none⟩) hb0).trans g3
          have f4 := (h6.bel.cell (p := ⟨b, off + j * 5 + 4, none⟩) hb0).trans g4
          have f2 := (h6.bel.cell (p := ⟨b, off + j * 5 + 2, none⟩) hb0).trans g2
          refine hK.out _ _ ⟨f1, f3, f4, f2⟩ (fun hHeld => ?_)
          clear hK K
          try simp only [Act.put, List.setIfInBounds_toArray, List.set_cons_zero, List.set_cons_succ]
          refine wpAnyH_done (by kernel_rfl) ?_ _
          go_wp2
          go_roundw
          case rel => exact ⟨j + 1, _, N, by omega, by go_num, h6, by have := sealT_len1 x.key x.ad x.plain x.num S; omega, by omega, fun hp => find_keeps (HK.out.2.2.1 hp) _ _ _ _, HK.out.2.2.2⟩
          case measure => simp [intOf]; omega
      · have e : n = j := by omega
        subst e
        have hnj : ¬ (n : Int) < n := by omega
        have hNl : N.length ≤ n + 1 := HK.out.2.1
        obtain ⟨-, c1, c2, c3, -⟩ := call_cells (hc2.below h5.bel)
        go_wp2_with fail
        refine (st_name h5 _ hx0.2.1 (by omega) (by omega)).mono ?_
        rintro e w6 ⟨rfl, h6⟩
        rw [(name_found HK.out.2.2.2 _).1]
        rw [(name_found HK.out.2.2.2 _).2] at h6
        clear c1 c2 c3 h5
        by_cases hp : x0.plain.size ≤ 5116
        · have hz0 := HZ.out hp
          have hsc : sealC x0.plain = 0 := by rw [sealC, if_pos hp]
          have HOV : Hid (openV S x0.key x0.ad d = some x0.plain) := by
            show _ = _
            unfold openV
            rw [HK.out.2.2.1 hp]
            simp
          have HSZ : Hid (sizeV S d = z) := by
            show _ = _
            rw [HZ2.out hp]
            unfold sizeV
            rw [HK.out.2.2.1 hp]
          obtain ⟨-, c1, -, c3, -⟩ := call_cells (hc2.below h6.bel)
          go_wp2_with fail
          refine (st_open h6 hI x0.key x0.ad).mono ?_
          rintro e w7 ⟨rfl, h7⟩
          rw [HOV.out, openE_some]
          clear h6 c1 c3
          obtain ⟨-, -, -, -, c4⟩ := call_cells (hc2.below h7.bel)
          go_wp2_with fail
          refine (st_size h7 hI).mono ?_
          rintro e w8 ⟨rfl, h8⟩
          rw [HSZ.out]
          have b8 := below2 b4 h8.bel
          go_wp2
          go_ret
          exact ⟨rfl, b8⟩
        · have hsc : sealC x0.plain = 5 := by rw [sealC, if_neg hp]
          have hd0 : d = 0 := HD.out.elim (fun h => absurd h hp) id
          subst hd0
          have b6 := below2 b4 h6.bel
          go_wp2
          go_ret
          exact ⟨rfl, b6⟩
end Go.Proofs.Ytdejhpinmkbngaa
