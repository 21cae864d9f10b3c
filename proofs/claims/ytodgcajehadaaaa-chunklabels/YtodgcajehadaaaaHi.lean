/- ChunkLabels. -/
import Derived.Test.YtodgcajehadaaaaHf
import Derived.Deep.DeepCutAuto
namespace Go.Proofs.Ytodgcajehadaaaa
open Go.RowKit

def InN (x : Int) : Prop := 0 ≤ x ∧ x ≤ 4294967295
def AAt (w : World) (g : Nat) (a b c : Int) : Prop := w.cell? ⟨g, 0, none⟩ = some (.int .i64 a) ∧ w.cell? ⟨g, 1, none⟩ = some (.int .i64 b) ∧ w.cell? ⟨g, 2, none⟩ = some (.int .i64 c)
theorem AAt.below {w w' : World} {g : Nat} {a b c : Int} (h : AAt w g a b c) (hb : Below w.heap.size w w') : AAt w' g a b c :=
  have hlt : g < w.heap.size := World.block_lt_of_cell? w _ h.1
  ⟨(hb.cell (by exact hlt)).trans h.1, (hb.cell (by exact hlt)).trans h.2.1, (hb.cell (by exact hlt)).trans h.2.2⟩
theorem AAt.new (w : World) (t : TypeId) (a b c : Int) : AAt (w.alloc (.cells #[.int .i64 a, .int .i64 b, .int .i64 c] t)) w.heap.size a b c :=
  have h := Blk.new w [.int .i64 a, .int .i64 b, .int .i64 c] t
  ⟨h.cell 0, h.cell 1, h.cell 2⟩
theorem AAt.alloc {w : World} {g : Nat} {a b c : Int} (h : AAt w g a b c) (o : Obj) : AAt (w.alloc o) g a b c := h.below ((Below.refl _ _).alloc (Nat.le_refl _) o)

theorem eq_arr3 (a b c x y z : Int) (w : World) : (Op.equalIn 10000 33 (.agg #[.int .i64 a, .int .i64 b, .int .i64 c]) (.agg #[.int .i64 x, .int .i64 y, .int .i64 z])).run Try.prog w = .ok (decide (a = x ∧ b = y ∧ c = z)) w := by
  have u3 := Try.underlying3
  have a3 := Try.isAgg3
  have z3 := Try.sizeOf3
  rw [show (10000 : Nat) = 9999 + 1 from rfl, Op.equalIn]
  simp only [Sem.run_bind, run_underlying Try.underlying33, Result.andThen_ok]
  simp only [Std.Legacy.Range.forIn_eq_forIn_range', Std.Legacy.Range.size, Nat.sub_zero, Nat.add_sub_cancel, Nat.div_one, List.range'_succ, List.range'_zero, List.forIn_cons, List.forIn_nil]
  go_simp
  by_cases h1 : a = x <;> by_cases h2 : b = y <;> by_cases h3 : c = z <;> simp [h1, h2, h3]
theorem strs_ne {a b : ByteArray} (h : a ≠ b) : (a.toList == b.toList) = false := by
  rw [Bool.eq_false_iff]
  intro e
  rw [beq_iff_eq, ByteArray.toList_eq, ByteArray.toList_eq] at e
  exact h (unB_inj e)
theorem lab_fin {s t : ByteArray} {a b c x y z : Int} (h : s = t ↔ (a = x ∧ b = y ∧ c = z)) : ((s.toList == t.toList) == (decide (a = x) && (decide (b = y) && decide (c = z)))) = true := by
  by_cases hs : s = t
  · obtain ⟨rfl, rfl, rfl⟩ := h.1 hs
    subst hs
    simp
  · rw [strs_ne hs]
    have hn : ¬ (a = x ∧ b = y ∧ c = z) := fun k => hs (h.2 k)
    simp
    omega
theorem numB_inj {x y : Int} (hx : InN x) (hy : InN y) (h : numB x = numB y) : x = y := by
  obtain ⟨h0, h1⟩ := hx
  obtain ⟨h2, h3⟩ := hy
  have e1 : clampN x = x.toNat := by unfold clampN; omega
  have e2 : clampN y = y.toNat := by unfold clampN; omega
  simp only [numB, e1, e2, List.cons.injEq, and_true] at h
  obtain ⟨g1, g2, g3, g4⟩ := h
  have f1 := congrArg UInt8.toNat g1
  have f2 := congrArg UInt8.toNat g2
  have f3 := congrArg UInt8.toNat g3
  have f4 := congrArg UInt8.toNat g4
  simp only [UInt8.toNat_ofNat'] at f1 f2 f3 f4
  omega
theorem lab_same {a0 a1 a2 b0 b1 b2 : Int} (u0 : InN a0) (u1 : InN a1) (u2 : InN a2) (v0 : InN b0) (v1 : InN b1) (v2 : InN b2) : toB (labB a0 a1 a2) = toB (labB b0 b1 b2) ↔ (a0 = b0 ∧ a1 = b1 ∧ a2 = b2) := by
  constructor
  · intro h
    have h' := toB_inj h
    unfold labB at h'
    obtain ⟨h1, h2⟩ := List.append_inj h' rfl
    obtain ⟨h3, h4⟩ := List.append_inj h1 rfl
    exact ⟨numB_inj u0 v0 h3, numB_inj u1 v1 h4, numB_inj u2 v2 h2⟩
  · rintro ⟨rfl, rfl, rfl⟩
    rfl
theorem one_below {w w' : World} (hb : Below w.heap.size w w') {a : Addr} {v : Value} (h : w.cell? a = some v) : w'.cell? a = some v := (hb.cell (World.block_lt_of_cell? w _ h)).trans h
theorem six_below {w w' : World} {k0 k1 k2 k3 k4 k5 : Addr} {z0 z1 z2 z3 z4 z5 : Value} (h : w.cell? k0 = some z0 ∧ w.cell? k1 = some z1 ∧ w.cell? k2 = some z2 ∧ w.cell? k3 = some z3 ∧ w.cell? k4 = some z4 ∧ w.cell? k5 = some z5) (hb : Below w.heap.size w w') :
    w'.cell? k0 = some z0 ∧ w'.cell? k1 = some z1 ∧ w'.cell? k2 = some z2 ∧ w'.cell? k3 = some z3 ∧ w'.cell? k4 = some z4 ∧ w'.cell? k5 = some z5 :=
  ⟨one_below hb h.1, one_below hb h.2.1, one_below hb h.2.2.1, one_below hb h.2.2.2.1, one_below hb h.2.2.2.2.1, one_below hb h.2.2.2.2.2⟩

set_option maxHeartbeats 2000000 in
theorem chunkLabels_walk (a0 a1 a2 b0 b1 b2 : Int) (w : World) :
    Calls Try.prog 5 #[.agg #[.int .i64 a0, .int .i64 a1, .int .i64 a2], .agg #[.int .i64 b0, .int .i64 b1, .int .i64 b2]] w fun e w' => e = .returned (.bool true) ∧ Below w.heap.size w w' := by
  have p0 := (AAt.new w 33 a0 a1 a2).alloc (.cells #[.int .i64 b0, .int .i64 b1, .int .i64 b2] 33)
  have q0 := AAt.new (w.alloc (.cells #[.int .i64 a0, .int .i64 a1, .int .i64 a2] 33)) 33 b0 b1 b2
  rw [World.size_alloc] at q0
  have bb0 : Below w.heap.size w ((w.alloc (.cells #[.int .i64 a0, .int .i64 a1, .int .i64 a2] 33)).alloc (.cells #[.int .i64 b0, .int .i64 b1, .int .i64 b2] 33)) := ((Below.refl _ _).alloc (Nat.le_refl _) _).alloc (by simp) _
  go_enter Try.func5, Try.ntmps5
  go_wp2_with fail
  refine (small_any _).mono ?_
  rintro e w1 ⟨rfl, hb1⟩
  have p1 := p0.below hb1
  have q1 := q0.below hb1
  have bel := below2 bb0 hb1
  clear p0 q0 hb1 bb0
  obtain ⟨x0, x1, x2⟩ := p1
  obtain ⟨y0, y1, y2⟩ := q1
  go_wp2_with fail
  go_loop [6] (fun i => ∃ j : Nat, j ≤ 3 ∧ i = .int .i64 j ∧ Hid ((0 < j → InN a0 ∧ InN b0) ∧ (1 < j → InN a1 ∧ InN b1) ∧ (2 < j → InN a2 ∧ InN b2))) (fun i => 3 - (intOf i).toNat)
  case atStart => exact ⟨0, by omega, rfl, hid ⟨by omega, by omega, by omega⟩⟩
  case round =>
    obtain ⟨j, hj, rfl, HJ⟩ := hrel
    rcases (by omega : j = 0 ∨ j = 1 ∨ j = 2 ∨ j = 3) with rfl | rfl | rfl | rfl
    · go_wp2
      all_goals first
        | (go_ret; exact ⟨rfl, bel⟩)
        | (go_round
           case rel =>
             refine ⟨1, by omega, rfl, hid ⟨fun hh => ?_, fun hh => ?_, fun hh => ?_⟩⟩
             all_goals first
               | omega
               | exact HJ.out.1 (by omega)
               | exact HJ.out.2.1 (by omega)
               | exact ⟨⟨by omega, by omega⟩, by omega, by omega⟩
           case measure => simp [intOf])
    · go_wp2
      all_goals first
        | (go_ret; exact ⟨rfl, bel⟩)
        | (go_round
           case rel =>
             refine ⟨2, by omega, rfl, hid ⟨fun hh => ?_, fun hh => ?_, fun hh => ?_⟩⟩
             all_goals first
               | omega
               | exact HJ.out.1 (by omega)
               | exact HJ.out.2.1 (by omega)
               | exact ⟨⟨by omega, by omega⟩, by omega, by omega⟩
           case measure => simp [intOf])
    · go_wp2
      all_goals first
        | (go_ret; exact ⟨rfl, bel⟩)
        | (go_round
           case rel =>
             refine ⟨3, by omega, rfl, hid ⟨fun hh => ?_, fun hh => ?_, fun hh => ?_⟩⟩
             all_goals first
               | omega
               | exact HJ.out.1 (by omega)
               | exact HJ.out.2.1 (by omega)
               | exact ⟨⟨by omega, by omega⟩, by omega, by omega⟩
           case measure => simp [intOf])
    · obtain ⟨⟨u0, v0⟩, ⟨u1, v1⟩, ⟨u2, v2⟩⟩ : (InN a0 ∧ InN b0) ∧ (InN a1 ∧ InN b1) ∧ (InN a2 ∧ InN b2) := ⟨HJ.out.1 (by omega), HJ.out.2.1 (by omega), HJ.out.2.2 (by omega)⟩
      have HL := hid (lab_same u0 u1 u2 v0 v1 v2)
      clear u0 u1 u2 v0 v1 v2 HJ
      have S0 : w1.drew.cell? ⟨w.heap.size, 0, none⟩ = some (.int .i64 a0) ∧ w1.drew.cell? ⟨w.heap.size, 1, none⟩ = some (.int .i64 a1) ∧ w1.drew.cell? ⟨w.heap.size, 2, none⟩ = some (.int .i64 a2) ∧ w1.drew.cell? ⟨w.heap.size + 1, 0, none⟩ = some (.int .i64 b0) ∧ w1.drew.cell? ⟨w.heap.size + 1, 1, none⟩ = some (.int .i64 b1) ∧ w1.drew.cell? ⟨w.heap.size + 1, 2, none⟩ = some (.int .i64 b2) := ⟨x0, x1, x2, y0, y1, y2⟩
      replace bel := bel.drew
      clear x0 x1 x2 y0 y1 y2
      go_wp2_with fail
      have heq := eq_arr3 a0 a1 a2 b0 b1 b2
      refine wp_region_held_drew (S := fun w' => w'.cell? ⟨w.heap.size, 0, none⟩ = some (.int .i64 a0) ∧ w'.cell? ⟨w.heap.size, 1, none⟩ = some (.int .i64 a1) ∧ w'.cell? ⟨w.heap.size, 2, none⟩ = some (.int .i64 a2) ∧ w'.cell? ⟨w.heap.size + 1, 0, none⟩ = some (.int .i64 b0) ∧ w'.cell? ⟨w.heap.size + 1, 1, none⟩ = some (.int .i64 b1) ∧ w'.cell? ⟨w.heap.size + 1, 2, none⟩ = some (.int .i64 b2)) (by kernel_rfl) S0 (fun hHeld => ?_)
      replace S0 := hHeld
      clear hHeld
      refine wpAnyH_take (i := 0) (oi := ⟨_, _, _, _, _, _⟩) (v := ?_) rfl (by kernel_rfl) (by kernel_rfl) (by kernel_rfl) (fun _ _ _ h => h) (Or.inl ⟨by rfl, ?_⟩) (by assumption) ?_
      rotate_left
      · intro w hSw; (try dsimp only at hSw); go_simp; (try (with_reducible rfl))
      try simp only [Act.put, List.setIfInBounds_toArray, List.set_cons_zero, List.set_cons_succ]
      refine wpAnyH_take (i := 1) (oi := ⟨_, _, _, _, _, _⟩) (v := ?_) rfl (by kernel_rfl) (by kernel_rfl) (by kernel_rfl) (fun _ _ _ h => h) (Or.inl ⟨by rfl, ?_⟩) (by assumption) ?_
      rotate_left
      · intro w hSw; (try dsimp only at hSw); go_simp; (try (with_reducible rfl))
      try simp only [Act.put, List.setIfInBounds_toArray, List.set_cons_zero, List.set_cons_succ]
      refine wpAnyH_take (i := 2) (oi := ⟨_, _, _, _, _, _⟩) (v := ?_) rfl (by kernel_rfl) (by kernel_rfl) (by kernel_rfl) (fun _ _ _ h => h) (Or.inl ⟨by rfl, ?_⟩) (by assumption) ?_
      rotate_left
      · intro w hSw; (try dsimp only at hSw); go_simp; (try (with_reducible rfl))
      try simp only [Act.put, List.setIfInBounds_toArray, List.set_cons_zero, List.set_cons_succ]
      refine wpAnyH_take (i := 3) (oi := ⟨_, _, _, _, _, _⟩) (v := ?_) rfl (by kernel_rfl) (by kernel_rfl) (by kernel_rfl) (fun _ _ _ h => h) (Or.inl ⟨by rfl, ?_⟩) (by assumption) ?_
      rotate_left
      · intro w hSw; (try dsimp only at hSw); go_simp; (try (with_reducible rfl))
      try simp only [Act.put, List.setIfInBounds_toArray, List.set_cons_zero, List.set_cons_succ]
      refine wpAnyH_take (i := 4) (oi := ⟨_, _, _, _, _, _⟩) (v := ?_) rfl (by kernel_rfl) (by kernel_rfl) (by kernel_rfl) (fun _ _ _ h => h) (Or.inl ⟨by rfl, ?_⟩) (by assumption) ?_
      rotate_left
      · intro w hSw; (try dsimp only at hSw); go_simp; (try (with_reducible rfl))
      try simp only [Act.put, List.setIfInBounds_toArray, List.set_cons_zero, List.set_cons_succ]
      refine wpAnyH_take (i := 5) (oi := ⟨_, _, _, _, _, _⟩) (v := ?_) rfl (by kernel_rfl) (by kernel_rfl) (by kernel_rfl) (fun _ _ _ h => h) (Or.inl ⟨by rfl, ?_⟩) (by assumption) ?_
      rotate_left
      · intro w hSw; (try dsimp only at hSw); go_simp; (try (with_reducible rfl))
      try simp only [Act.put, List.setIfInBounds_toArray, List.set_cons_zero, List.set_cons_succ]
      refine wpAnyH_take (i := 6) (oi := ⟨_, _, _, _, _, _⟩) (v := ?_) rfl (by kernel_rfl) (by kernel_rfl) (by kernel_rfl) (fun _ _ _ h => h) (Or.inl ⟨by rfl, ?_⟩) (by assumption) ?_
      rotate_left
      · intro w hSw; (try dsimp only at hSw); go_simp; (try (with_reducible rfl))
      try simp only [Act.put, List.setIfInBounds_toArray, List.set_cons_zero, List.set_cons_succ]
      refine wpAnyH_take (i := 7) (oi := ⟨_, _, _, _, _, _⟩) (v := ?_) rfl (by kernel_rfl) (by kernel_rfl) (by kernel_rfl) (fun _ _ _ h => h) (Or.inl ⟨by rfl, ?_⟩) (by assumption) ?_
      rotate_left
      · intro w hSw; (try dsimp only at hSw); go_simp; (try (with_reducible rfl))
      try simp only [Act.put, List.setIfInBounds_toArray, List.set_cons_zero, List.set_cons_succ]
      refine wpAnyH_take (i := 9) (oi := ⟨_, _, _, _, _, _⟩) (v := ?_) rfl (by kernel_rfl) (by kernel_rfl) (by kernel_rfl) (fun _ _ _ h => h) (Or.inl ⟨by rfl, ?_⟩) (by assumption) ?_
      rotate_left
      · intro w hSw; (try dsimp only at hSw); go_simp; (try (with_reducible rfl))
      try simp only [Act.put, List.setIfInBounds_toArray, List.set_cons_zero, List.set_cons_succ]
      refine wpAnyH_take (i := 10) (oi := ⟨_, _, _, _, _, _⟩) (v := ?_) rfl (by kernel_rfl) (by kernel_rfl) (by kernel_rfl) (fun _ _ _ h => h) (Or.inl ⟨by rfl, ?_⟩) (by assumption) ?_
      rotate_left
      · intro w hSw; (try dsimp only at hSw); go_simp; (try (with_reducible rfl))
      try simp only [Act.put, List.setIfInBounds_toArray, List.set_cons_zero, List.set_cons_succ]
      refine wpAnyH_take (i := 11) (oi := ⟨_, _, _, _, _, _⟩) (v := ?_) rfl (by kernel_rfl) (by kernel_rfl) (by kernel_rfl) (fun _ _ _ h => h) (Or.inl ⟨by rfl, ?_⟩) (by assumption) ?_
      rotate_left
      · intro w hSw; (try dsimp only at hSw); go_simp; (try (with_reducible rfl))
      try simp only [Act.put, List.setIfInBounds_toArray, List.set_cons_zero, List.set_cons_succ]
      refine wpAnyH_take (i := 12) (oi := ⟨_, _, _, _, _, _⟩) (v := ?_) rfl (by kernel_rfl) (by kernel_rfl) (by kernel_rfl) (fun _ _ _ h => h) (Or.inl ⟨by rfl, ?_⟩) (by assumption) ?_
      rotate_left
      · intro w hSw; (try dsimp only at hSw); go_simp; (try (with_reducible rfl))
      try simp only [Act.put, List.setIfInBounds_toArray, List.set_cons_zero, List.set_cons_succ]
      refine wpAnyH_take (i := 13) (oi := ⟨_, _, _, _, _, _⟩) (v := ?_) rfl (by kernel_rfl) (by kernel_rfl) (by kernel_rfl) (fun _ _ _ h => h) (Or.inl ⟨by rfl, ?_⟩) (by assumption) ?_
      rotate_left
      · intro w hSw; (try dsimp only at hSw); go_simp; (try (with_reducible rfl))
      try simp only [Act.put, List.setIfInBounds_toArray, List.set_cons_zero, List.set_cons_succ]
      refine wpAnyH_take (i := 14) (oi := ⟨_, _, _, _, _, _⟩) (v := ?_) rfl (by kernel_rfl) (by kernel_rfl) (by kernel_rfl) (fun _ _ _ h => h) (Or.inl ⟨by rfl, ?_⟩) (by assumption) ?_
      rotate_left
      · intro w hSw; (try dsimp only at hSw); go_simp; (try (with_reducible rfl))
      try simp only [Act.put, List.setIfInBounds_toArray, List.set_cons_zero, List.set_cons_succ]
      refine wpAnyH_take (i := 17) (oi := ⟨_, _, _, _, _, _⟩) (v := ?_) rfl (by kernel_rfl) (by kernel_rfl) (by kernel_rfl) (fun _ _ _ h => h) (Or.inl ⟨by rfl, ?_⟩) (by assumption) ?_
      rotate_left
      · intro w hSw; (try dsimp only at hSw); go_simp; (try (with_reducible rfl))
      try simp only [Act.put, List.setIfInBounds_toArray, List.set_cons_zero, List.set_cons_succ]
      refine wpAnyH_take (i := 18) (oi := ⟨_, _, _, _, _, _⟩) (v := ?_) rfl (by kernel_rfl) (by kernel_rfl) (by kernel_rfl) (fun _ _ _ h => h) (Or.inl ⟨by rfl, ?_⟩) (by assumption) ?_
      rotate_left
      · intro w hSw; (try dsimp only at hSw); go_simp; (try (with_reducible rfl))
      try simp only [Act.put, List.setIfInBounds_toArray, List.set_cons_zero, List.set_cons_succ]
      refine wpAnyH_take (i := 19) (oi := ⟨_, _, _, _, _, _⟩) (v := ?_) rfl (by kernel_rfl) (by kernel_rfl) (by kernel_rfl) (fun _ _ _ h => h) (Or.inl ⟨by rfl, ?_⟩) (by assumption) ?_
      rotate_left
      · intro w hSw; (try dsimp only at hSw); go_simp; (try (with_reducible rfl))
      try simp only [Act.put, List.setIfInBounds_toArray, List.set_cons_zero, List.set_cons_succ]
      refine wpAnyH_ready (rs := [8]) (by kernel_rfl) (by simp) ?_
      refine AllReadyH.cons (o := ⟨_, _, _, _, _, _⟩) rfl (fun K hK => ?_) AllReadyH.nil
      go_simp
      refine (label_any _ _ _ _).mono ?_
      rintro e w2 ⟨rfl, hb2⟩
      have S2 := six_below S0 hb2
      replace bel := below2 bel hb2
      clear S0 hb2
      refine hK.out _ _ S2 (fun hHeld => ?_)
      clear hK K
      try simp only [Act.put, List.setIfInBounds_toArray, List.set_cons_zero, List.set_cons_succ]
      refine wpAnyH_ready (rs := [15]) (by kernel_rfl) (by simp) ?_
      refine AllReadyH.cons (o := ⟨_, _, _, _, _, _⟩) rfl (fun K hK => ?_) AllReadyH.nil
      go_simp
      refine (label_any _ _ _ _).mono ?_
      rintro e w3 ⟨rfl, hb3⟩
      have S3 := six_below S2 hb3
      replace bel := below2 bel hb3
      clear S2 hb3
      refine hK.out _ _ S3 (fun hHeld => ?_)
      clear hK K
      try simp only [Act.put, List.setIfInBounds_toArray, List.set_cons_zero, List.set_cons_succ]
      refine wpAnyH_take (i := 16) (oi := ⟨_, _, _, _, _, _⟩) (v := ?_) rfl (by kernel_rfl) (by kernel_rfl) (by kernel_rfl) (fun _ _ _ h => h) (Or.inl ⟨by rfl, ?_⟩) (by assumption) ?_
      rotate_left
      · intro w hSw; (try dsimp only at hSw); go_simp; (try (with_reducible rfl))
      try simp only [Act.put, List.setIfInBounds_toArray, List.set_cons_zero, List.set_cons_succ]
      refine wpAnyH_take (i := 20) (oi := ⟨_, _, _, _, _, _⟩) (v := ?_) rfl (by kernel_rfl) (by kernel_rfl) (by kernel_rfl) (fun _ _ _ h => h) (Or.inl ⟨by rfl, ?_⟩) (by assumption) ?_
      rotate_left
      · intro w hSw; (try dsimp only at hSw); go_simp; (try (with_reducible rfl))
      try simp only [Act.put, List.setIfInBounds_toArray, List.set_cons_zero, List.set_cons_succ]
      refine wpAnyH_take (i := 21) (oi := ⟨_, _, _, _, _, _⟩) (v := ?_) rfl (by kernel_rfl) (by kernel_rfl) (by kernel_rfl) (fun _ _ _ h => h) (Or.inl ⟨by rfl, ?_⟩) (by assumption) ?_
      rotate_left
      · intro w hSw; (try dsimp only at hSw); go_simp; (try (with_reducible rfl))
      try simp only [Act.put, List.setIfInBounds_toArray, List.set_cons_zero, List.set_cons_succ]
      refine wpAnyH_take (i := 22) (oi := ⟨_, _, _, _, _, _⟩) (v := ?_) rfl (by kernel_rfl) (by kernel_rfl) (by kernel_rfl) (fun _ _ _ h => h) (Or.inl ⟨by rfl, ?_⟩) (by assumption) ?_
      rotate_left
      · intro w hSw; (try dsimp only at hSw); go_simp; (try (with_reducible rfl))
      try simp only [Act.put, List.setIfInBounds_toArray, List.set_cons_zero, List.set_cons_succ]
      refine wpAnyH_done (by kernel_rfl) ?_ _
      go_wp2
      go_ret
      exact ⟨ret_bool (lab_fin HL.out), bel⟩
end Go.Proofs.Ytodgcajehadaaaa
