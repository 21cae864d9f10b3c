/- The texts Et, Gd, Gc, in one. -/
import Derived.Test.YtgafjbmpaeejbaaDoorQ2
import Derived.Deep.RegionHeld3
namespace Go.Proofs.YtgafjbmpaeejbaaDoor
open Go.RowKit

/-- A slice that holds bytes. -/
def BySl (W : World) (v : Value) (l : List UInt8) : Prop := ∃ B d, v = .slice B l.length d ∧ Rd W B (by8 l)
theorem rnum_own {w : World} {A : Option Addr} {n c : Nat} {l : List UInt8} (x : Int) (hl : l.length = n) (hr : Rd w A (by8 l)) (hn : n ≤ 1000000000) :
    Calls Tryd.prog 41 #[.slice A n c, .int .i64 x] w fun e w' => ∃ A' c', e = .returned (.slice A' (n + 4) c') ∧ Rd w' A' (by8 (l ++ numB x)) ∧ Below w.heap.size w w' :=
  (rnum_any A n c l x w hl hr (by omega)).mono fun e w' ⟨A', c', h1, h2, h3⟩ => ⟨A', c', h1, Rd.of_own h2, h3⟩

set_option maxHeartbeats 8000000 in
set_option maxRecDepth 20000 in
theorem rbytes12_any {w : World} {A : Option Addr} {c : Nat} {m : Man} (h : Mt w A c m) (hn : m.pieces.length ≤ 1000) (hk : ∀ p ∈ m.pieces, p.path.size ≤ maxLen ∧ p.chunks.length ≤ 1000) :
    Calls Tryd.prog 21 #[manV m A c] w fun e w' => e = .returned (.string (toS (manB m))) ∧ Below w.heap.size w w' := by
  have HB := hid (head_ints m)
  obtain ⟨a1, a2, a3, a4, a5, a6, a7, ps⟩ := m
  have hps := h.ps
  clear h
  dsimp only at hps hn hk HB
  unfold manV
  dsimp only
  have hal : ∀ (W : World) (o : Obj), Below W.heap.size W (W.alloc o) := fun W o => (Below.refl _ _).alloc (Nat.le_refl _) o
  have HK := hid hk
  clear hk
  generalize manB (⟨a1, a2, a3, a4, a5, a6, a7, ps⟩ : Man) = Z at *
  have b0 := hal w (.cells #[.int .i64 a1, .int .i64 a2, .int .i64 a3, .int .i64 a4, .int .i64 a5, .int .i64 a6, .int .i64 a7, .slice A ps.length c] 24)
  have pk := Blk.new w [.int .i64 a1, .int .i64 a2, .int .i64 a3, .int .i64 a4, .int .i64 a5, .int .i64 a6, .int .i64 a7, .slice A ps.length c] 24
  go_enter Tryd.func21, Tryd.ntmps21
  go_wp2_with fail
  have lgm := pk.lt
  generalize w.alloc (.cells #[.int .i64 a1, .int .i64 a2, .int .i64 a3, .int .i64 a4, .int .i64 a5, .int .i64 a6, .int .i64 a7, .slice A ps.length c] 24) = w0 at *
  have HS : Hid (∀ W, Below w0.heap.size w0 W → (fun W => W.cell? ⟨w.heap.size, 0, none⟩ = some (.int .i64 a1) ∧ W.cell? ⟨w.heap.size, 1, none⟩ = some (.int .i64 a2) ∧ W.cell? ⟨w.heap.size, 2, none⟩ = some (.int .i64 a3) ∧ W.cell? ⟨w.heap.size, 3, none⟩ = some (.int .i64 a4) ∧ W.cell? ⟨w.heap.size, 4, none⟩ = some (.int .i64 a5) ∧ W.cell? ⟨w.heap.size, 5, none⟩ = some (.int .i64 a6) ∧ W.cell? ⟨w.heap.size, 6, none⟩ = some (.int .i64 a7) ∧ W.cell? ⟨w.heap.size, 7, none⟩ = some (.slice A ps.length c)) W) := hid fun W hb => by
    have k1 := pk.below hb
    exact ⟨k1.cell 0, k1.cell 1, k1.cell 2, k1.cell 3, k1.cell 4, k1.cell 5, k1.cell 6, k1.cell 7⟩
  clear pk
  have bd : Below w0.heap.size w0 w0.drew := (Below.refl _ _).drew
  have hS0 := HS.out _ bd
  refine wp_region_held_drew (S := fun W => W.cell? ⟨w.heap.size, 0, none⟩ = some (.int .i64 a1) ∧ W.cell? ⟨w.heap.size, 1, none⟩ = some (.int .i64 a2) ∧ W.cell? ⟨w.heap.size, 2, none⟩ = some (.int .i64 a3) ∧ W.cell? ⟨w.heap.size, 3, none⟩ = some (.int .i64 a4) ∧ W.cell? ⟨w.heap.size, 4, none⟩ = some (.int .i64 a5) ∧ W.cell? ⟨w.heap.size, 5, none⟩ = some (.int .i64 a6) ∧ W.cell? ⟨w.heap.size, 6, none⟩ = some (.int .i64 a7) ∧ W.cell? ⟨w.heap.size, 7, none⟩ = some (.slice A ps.length c)) (by kernel_rfl) hS0 (fun hHeld => ?_)
  refine wpAnyH_take (i := 0) (oi := ⟨_, _, _, _, _, _⟩) (v := ?_) rfl (by kernel_rfl) (by kernel_rfl) (by kernel_rfl) (fun _ _ _ h => h) (Or.inl ⟨by rfl, ?_⟩) (by assumption) ?_
  rotate_left
  · intro w hSw; (try dsimp only at hSw); go_simp; (try (with_reducible rfl))
  try simp only [Act.put, List.setIfInBounds_toArray, List.set_cons_zero, List.set_cons_succ]
  refine wpAnyH_take (i := 1) (oi := ⟨_, _, _, _, _, _⟩) (v := ?_) rfl (by kernel_rfl) (by kernel_rfl) (by kernel_rfl) (fun _ _ _ h => h) (Or.inl ⟨by rfl, ?_⟩) (by assumption) ?_
  rotate_left
  · intro w hSw; (try dsimp only at hSw); go_simp; (try (with_reducible rfl))
  try simp only [Act.put, List.setIfInBounds_toArray, List.set_cons_zero, List.set_cons_succ]
  refine wpAnyH_take (i := 3) (oi := ⟨_, _, _, _, _, _⟩) (v := ?_) rfl (by kernel_rfl) (by kernel_rfl) (by kernel_rfl) (fun _ _ _ h => h) (Or.inl ⟨by rfl, ?_⟩) (by assumption) ?_
  rotate_left
  · intro w hSw; (try dsimp only at hSw); go_simp; (try (with_reducible rfl))
  try simp only [Act.put, List.setIfInBounds_toArray, List.set_cons_zero, List.set_cons_succ]
  refine wpAnyH_take (i := 4) (oi := ⟨_, _, _, _, _, _⟩) (v := ?_) rfl (by kernel_rfl) (by kernel_rfl) (by kernel_rfl) (fun _ _ _ h => h) (Or.inl ⟨by rfl, ?_⟩) (by assumption) ?_
  rotate_left
  · intro w hSw; (try dsimp only at hSw); go_simp; (try (with_reducible rfl))
  try simp only [Act.put, List.setIfInBounds_toArray, List.set_cons_zero, List.set_cons_succ]
  refine wpAnyH_take (i := 6) (oi := ⟨_, _, _, _, _, _⟩) (v := ?_) rfl (by kernel_rfl) (by kernel_rfl) (by kernel_rfl) (fun _ _ _ h => h) (Or.inl ⟨by rfl, ?_⟩) (by assumption) ?_
  rotate_left
  · intro w hSw; (try dsimp only at hSw); go_simp; (try (with_reducible rfl))
  try simp only [Act.put, List.setIfInBounds_toArray, List.set_cons_zero, List.set_cons_succ]
  refine wpAnyH_take (i := 7) (oi := ⟨_, _, _, _, _, _⟩) (v := ?_) rfl (by kernel_rfl) (by kernel_rfl) (by kernel_rfl) (fun _ _ _ h => h) (Or.inl ⟨by rfl, ?_⟩) (by assumption) ?_
  rotate_left
  · intro w hSw; (try dsimp only at hSw); go_simp; (try (with_reducible rfl))
  try simp only [Act.put, List.setIfInBounds_toArray, List.set_cons_zero, List.set_cons_succ]
  refine wpAnyH_take (i := 9) (oi := ⟨_, _, _, _, _, _⟩) (v := ?_) rfl (by kernel_rfl) (by kernel_rfl) (by kernel_rfl) (fun _ _ _ h => h) (Or.inl ⟨by rfl, ?_⟩) (by assumption) ?_
  rotate_left
  · intro w hSw; (try dsimp only at hSw); go_simp; (try (with_reducible rfl))
  try simp only [Act.put, List.setIfInBounds_toArray, List.set_cons_zero, List.set_cons_succ]
  refine wpAnyH_take (i := 10) (oi := ⟨_, _, _, _, _, _⟩) (v := ?_) rfl (by kernel_rfl) (by kernel_rfl) (by kernel_rfl) (fun _ _ _ h => h) (Or.inl ⟨by rfl, ?_⟩) (by assumption) ?_
  rotate_left
  · intro w hSw; (try dsimp only at hSw); go_simp; (try (with_reducible rfl))
  try simp only [Act.put, List.setIfInBounds_toArray, List.set_cons_zero, List.set_cons_succ]
  refine wpAnyH_ready (rs := [2]) (by kernel_rfl) (by simp) ?_
  refine AllReadyH.cons (o := ⟨_, _, _, _, _, _⟩) rfl (fun K hK => ?_) AllReadyH.nil
  go_simp
  refine (rnum_own (n := 0) (c := 0) (l := []) a1 rfl (.inl rfl) (by omega)).mono ?_
  rintro e w1 ⟨A1, c1, rfl, r1, b1⟩
  have d1 := below2 bd b1
  have hS1 := HS.out _ d1
  refine hK.out _ _ hS1 (fun hHeld => ?_)
  clear hK K
  try simp only [Act.put, List.setIfInBounds_toArray, List.set_cons_zero, List.set_cons_succ]
  refine wpAnyH_ready (rs := [5]) (by kernel_rfl) (by simp) ?_
  refine AllReadyH.cons (o := ⟨_, _, _, _, _, _⟩) rfl (fun K hK => ?_) AllReadyH.nil
  go_simp
  refine (rnum_own (n := 0 + 4) (c := c1) (l := ([] ++ numB a1)) a2 (by simp [numB]) r1 (by omega)).mono ?_
  rintro e w2 ⟨A2, c2, rfl, r2, b2⟩
  have d2 := below2 d1 b2
  have hS2 := HS.out _ d2
  refine hK.out _ _ hS2 (fun hHeld => ?_)
  clear hK K
  try simp only [Act.put, List.setIfInBounds_toArray, List.set_cons_zero, List.set_cons_succ]
  refine wpAnyH_ready (rs := [8]) (by kernel_rfl) (by simp) ?_
  refine AllReadyH.cons (o := ⟨_, _, _, _, _, _⟩) rfl (fun K hK => ?_) AllReadyH.nil
  go_simp
  refine (rnum_own (n := 0 + 4 + 4) (c := c2) (l := (([] ++ numB a1) ++ numB a2)) a3 (by simp [numB]) r2 (by omega)).mono ?_
  rintro e w3 ⟨A3, c3, rfl, r3, b3⟩
  have d3 := below2 d2 b3
  have hS3 := HS.out _ d3
  refine hK.out _ _ hS3 (fun hHeld => ?_)
  clear hK K
  try simp only [Act.put, List.setIfInBounds_toArray, List.set_cons_zero, List.set_cons_succ]
  refine wpAnyH_ready (rs := [11]) (by kernel_rfl) (by simp) ?_
  refine AllReadyH.cons (o := ⟨_, _, _, _, _, _⟩) rfl (fun K hK => ?_) AllReadyH.nil
  go_simp
  refine (rnum_own (n := 0 + 4 + 4 + 4) (c := c3) (l := ((([] ++ numB a1) ++ numB a2) ++ numB a3)) a4 (by simp [numB]) r3 (by omega)).mono ?_
  rintro e w4 ⟨A4, c4, rfl, r4, b4⟩
  have d4 := below2 d3 b4
  have hS4 := HS.out _ d4
  refine hK.out _ _ hS4 (fun hHeld => ?_)
  clear hK K
  try simp only [Act.put, List.setIfInBounds_toArray, List.set_cons_zero, List.set_cons_succ]
  refine wpAnyH_take (i := 12) (oi := ⟨_, _, _, _, _, _⟩) (v := ?_) rfl (by kernel_rfl) (by kernel_rfl) (by kernel_rfl) (fun _ _ _ h => h) (Or.inl ⟨by rfl, ?_⟩) (by assumption) ?_
  rotate_left
  · intro w hSw; (try dsimp only at hSw); go_simp; (try (with_reducible rfl))
  try simp only [Act.put, List.setIfInBounds_toArray, List.set_cons_zero, List.set_cons_succ]
  refine wpAnyH_done (by kernel_rfl) ?_ _
  clear hHeld
  have r4' : Rd w4 A4 (by8 (intsB [a1, a2, a3, a4])) := by
    have e : intsB [a1, a2, a3, a4] = ((([] ++ numB a1) ++ numB a2) ++ numB a3) ++ numB a4 := by simp [intsB]
    rw [e]
    exact r4
  clear hS0 hS1 hS2 hS3 hS4 r1 r2 r3 r4 b1 b2 b3 b4 d1 d2 d3
  go_wp2_with fail
  have bd4 : Below w0.heap.size w0 w4.drew := d4.drew
  have hS4 := HS.out _ bd4
  have r4d : Rd w4.drew A4 (by8 (intsB [a1, a2, a3, a4])) := r4'
  have hl4 : (intsB [a1, a2, a3, a4]).length = 0 + 4 + 4 + 4 + 4 := by rw [intsB_length]; rfl
  refine wp_region_held_drew (S := fun W => W.cell? ⟨w.heap.size, 0, none⟩ = some (.int .i64 a1) ∧ W.cell? ⟨w.heap.size, 1, none⟩ = some (.int .i64 a2) ∧ W.cell? ⟨w.heap.size, 2, none⟩ = some (.int .i64 a3) ∧ W.cell? ⟨w.heap.size, 3, none⟩ = some (.int .i64 a4) ∧ W.cell? ⟨w.heap.size, 4, none⟩ = some (.int .i64 a5) ∧ W.cell? ⟨w.heap.size, 5, none⟩ = some (.int .i64 a6) ∧ W.cell? ⟨w.heap.size, 6, none⟩ = some (.int .i64 a7) ∧ W.cell? ⟨w.heap.size, 7, none⟩ = some (.slice A ps.length c)) (by kernel_rfl) hS4 (fun hHeld => ?_)
  refine wpAnyH_take (i := 0) (oi := ⟨_, _, _, _, _, _⟩) (v := ?_) rfl (by kernel_rfl) (by kernel_rfl) (by kernel_rfl) (fun _ _ _ h => h) (Or.inl ⟨by rfl, ?_⟩) (by assumption) ?_
  rotate_left
  · intro w hSw; (try dsimp only at hSw); go_simp; (try (with_reducible rfl))
  try simp only [Act.put, List.setIfInBounds_toArray, List.set_cons_zero, List.set_cons_succ]
  refine wpAnyH_take (i := 1) (oi := ⟨_, _, _, _, _, _⟩) (v := ?_) rfl (by kernel_rfl) (by kernel_rfl) (by kernel_rfl) (fun _ _ _ h => h) (Or.inl ⟨by rfl, ?_⟩) (by assumption) ?_
  rotate_left
  · intro w hSw; (try dsimp only at hSw); go_simp; (try (with_reducible rfl))
  try simp only [Act.put, List.setIfInBounds_toArray, List.set_cons_zero, List.set_cons_succ]
  refine wpAnyH_take (i := 2) (oi := ⟨_, _, _, _, _, _⟩) (v := ?_) rfl (by kernel_rfl) (by kernel_rfl) (by kernel_rfl) (fun _ _ _ h => h) (Or.inl ⟨by rfl, ?_⟩) (by assumption) ?_
  rotate_left
  · intro w hSw; (try dsimp only at hSw); go_simp; (try (with_reducible rfl))
  try simp only [Act.put, List.setIfInBounds_toArray, List.set_cons_zero, List.set_cons_succ]
  refine wpAnyH_take (i := 4) (oi := ⟨_, _, _, _, _, _⟩) (v := ?_) rfl (by kernel_rfl) (by kernel_rfl) (by kernel_rfl) (fun _ _ _ h => h) (Or.inl ⟨by rfl, ?_⟩) (by assumption) ?_
  rotate_left
  · intro w hSw; (try dsimp only at hSw); go_simp; (try (with_reducible rfl))
  try simp only [Act.put, List.setIfInBounds_toArray, List.set_cons_zero, List.set_cons_succ]
  refine wpAnyH_take (i := 5) (oi := ⟨_, _, _, _, _, _⟩) (v := ?_) rfl (by kernel_rfl) (by kernel_rfl) (by kernel_rfl) (fun _ _ _ h => h) (Or.inl ⟨by rfl, ?_⟩) (by assumption) ?_
  rotate_left
  · intro w hSw; (try dsimp only at hSw); go_simp; (try (with_reducible rfl))
  try simp only [Act.put, List.setIfInBounds_toArray, List.set_cons_zero, List.set_cons_succ]
  refine wpAnyH_take (i := 7) (oi := ⟨_, _, _, _, _, _⟩) (v := ?_) rfl (by kernel_rfl) (by kernel_rfl) (by kernel_rfl) (fun _ _ _ h => h) (Or.inl ⟨by rfl, ?_⟩) (by assumption) ?_
  rotate_left
  · intro w hSw; (try dsimp only at hSw); go_simp; (try (with_reducible rfl))
  try simp only [Act.put, List.setIfInBounds_toArray, List.set_cons_zero, List.set_cons_succ]
  refine wpAnyH_take (i := 8) (oi := ⟨_, _, _, _, _, _⟩) (v := ?_) rfl (by kernel_rfl) (by kernel_rfl) (by kernel_rfl) (fun _ _ _ h => h) (Or.inl ⟨by rfl, ?_⟩) (by assumption) ?_
  rotate_left
  · intro w hSw; (try dsimp only at hSw); go_simp; (try (with_reducible rfl))
  try simp only [Act.put, List.setIfInBounds_toArray, List.set_cons_zero, List.set_cons_succ]
  refine wpAnyH_take (i := 10) (oi := ⟨_, _, _, _, _, _⟩) (v := ?_) rfl (by kernel_rfl) (by kernel_rfl) (by kernel_rfl) (fun _ _ _ h => h) (Or.inl ⟨by rfl, ?_⟩) (by assumption) ?_
  rotate_left
  · intro w hSw; (try dsimp only at hSw); go_simp; (try (with_reducible rfl))
  try simp only [Act.put, List.setIfInBounds_toArray, List.set_cons_zero, List.set_cons_succ]
  refine wpAnyH_take (i := 11) (oi := ⟨_, _, _, _, _, _⟩) (v := ?_) rfl (by kernel_rfl) (by kernel_rfl) (by kernel_rfl) (fun _ _ _ h => h) (Or.inl ⟨by rfl, ?_⟩) (by assumption) ?_
  rotate_left
  · intro w hSw; (try dsimp only at hSw); go_simp; (try (with_reducible rfl))
  try simp only [Act.put, List.setIfInBounds_toArray, List.set_cons_zero, List.set_cons_succ]
  refine wpAnyH_take (i := 12) (oi := ⟨_, _, _, _, _, _⟩) (v := ?_) rfl (by kernel_rfl) (by kernel_rfl) (by kernel_rfl) (fun _ _ _ h => h) (Or.inl ⟨by rfl, ?_⟩) (by assumption) ?_
  rotate_left
  · intro w hSw; (try dsimp only at hSw); go_simp; (try (with_reducible rfl))
  try simp only [Act.put, List.setIfInBounds_toArray, List.set_cons_zero, List.set_cons_succ]
  refine wpAnyH_ready (rs := [3]) (by kernel_rfl) (by simp) ?_
  refine AllReadyH.cons (o := ⟨_, _, _, _, _, _⟩) rfl (fun K hK => ?_) AllReadyH.nil
  go_simp
  refine (rnum_own (n := 0 + 4 + 4 + 4 + 4) (c := c4) (l := (intsB [a1, a2, a3, a4])) a5 hl4 r4d (by omega)).mono ?_
  rintro e w5 ⟨A5, c5, rfl, r5, b5⟩
  have d5 := below2 bd4 b5
  have hS5 := HS.out _ d5
  refine hK.out _ _ hS5 (fun hHeld => ?_)
  clear hK K
  try simp only [Act.put, List.setIfInBounds_toArray, List.set_cons_zero, List.set_cons_succ]
  refine wpAnyH_ready (rs := [6]) (by kernel_rfl) (by simp) ?_
  refine AllReadyH.cons (o := ⟨_, _, _, _, _, _⟩) rfl (fun K hK => ?_) AllReadyH.nil
  go_simp
  refine (rnum_own (n := 0 + 4 + 4 + 4 + 4 + 4) (c := c5) (l := ((intsB [a1, a2, a3, a4]) ++ numB a5)) a6 (by simp [hl4, numB]) r5 (by omega)).mono ?_
  rintro e w6 ⟨A6, c6, rfl, r6, b6⟩
  have d6 := below2 d5 b6
  have hS6 := HS.out _ d6
  refine hK.out _ _ hS6 (fun hHeld => ?_)
  clear hK K
  try simp only [Act.put, List.setIfInBounds_toArray, List.set_cons_zero, List.set_cons_succ]
  refine wpAnyH_ready (rs := [9]) (by kernel_rfl) (by simp) ?_
  refine AllReadyH.cons (o := ⟨_, _, _, _, _, _⟩) rfl (fun K hK => ?_) AllReadyH.nil
  go_simp
  refine (rnum_own (n := 0 + 4 + 4 + 4 + 4 + 4 + 4) (c := c6) (l := (((intsB [a1, a2, a3, a4]) ++ numB a5) ++ numB a6)) a7 (by simp [hl4, numB]) r6 (by omega)).mono ?_
  rintro e w7 ⟨A7, c7, rfl, r7, b7⟩
  have d7 := below2 d6 b7
  have hS7 := HS.out _ d7
  refine hK.out _ _ hS7 (fun hHeld => ?_)
  clear hK K
  try simp only [Act.put, List.setIfInBounds_toArray, List.set_cons_zero, List.set_cons_succ]
  refine wpAnyH_ready (rs := [13]) (by kernel_rfl) (by simp) ?_
  refine AllReadyH.cons (o := ⟨_, _, _, _, _, _⟩) rfl (fun K hK => ?_) AllReadyH.nil
  go_simp
  refine (rnum_own (n := 0 + 4 + 4 + 4 + 4 + 4 + 4 + 4) (c := c7) (l := ((((intsB [a1, a2, a3, a4]) ++ numB a5) ++ numB a6) ++ numB a7)) (ps.length : Int) (by simp [hl4, numB]) r7 (by omega)).mono ?_
  rintro e w8 ⟨A8, c8, rfl, r8, b8⟩
  have d8 := below2 d7 b8
  have hS8 := HS.out _ d8
  refine hK.out _ _ hS8 (fun hHeld => ?_)
  clear hK K
  try simp only [Act.put, List.setIfInBounds_toArray, List.set_cons_zero, List.set_cons_succ]
  refine wpAnyH_take (i := 14) (oi := ⟨_, _, _, _, _, _⟩) (v := ?_) rfl (by kernel_rfl) (by kernel_rfl) (by kernel_rfl) (fun _ _ _ h => h) (Or.inl ⟨by rfl, ?_⟩) (by assumption) ?_
  rotate_left
  · intro w hSw; (try dsimp only at hSw); go_simp; (try (with_reducible rfl))
  try simp only [Act.put, List.setIfInBounds_toArray, List.set_cons_zero, List.set_cons_succ]
  refine wpAnyH_done (by kernel_rfl) ?_ _
  clear hHeld
  have hhd : (((intsB [a1, a2, a3, a4] ++ numB a5) ++ numB a6) ++ numB a7) ++ numB (ps.length : Int) = intsB [a1, a2, a3, a4, a5, a6, a7] ++ intsB [(ps.length : Int)] := by simp [intsB]
  rw [hhd] at r8
  have hhl : (intsB [a1, a2, a3, a4, a5, a6, a7] ++ intsB [(ps.length : Int)]).length = 32 := by rw [List.length_append, intsB_length, intsB_length]; rfl
  generalize intsB [a1, a2, a3, a4, a5, a6, a7] ++ intsB [(ps.length : Int)] = hd at *
  clear hhd hl4 hS4 hS5 hS6 hS7 hS8 r4d r4' r5 r6 r7 b5 b6 b7 b8 bd4 d4 d5 d6 d7 bd
  have HPS := hid (hps.below b0)
  have HHL := hid hhl
  clear hhl
  go_wp2_with fail
  go_loopw [3, 4] (fun v i wr => ∃ j : Nat, j ≤ ps.length ∧ i = .int .i64 j ∧ BySl wr v (hd ++ pcesB (ps.take j)) ∧ Below w0.heap.size w0 wr) (fun _ i _ => ps.length - (intOf i).toNat)
  case atStart => exact ⟨0, by omega, rfl, ⟨A8, c8, by simp [pcesB, HHL.out], by simpa [pcesB] using r8⟩, d8⟩
  case round =>
    clear r8 d8
    obtain ⟨j, hj, rfl, ⟨B, d, rfl, rB⟩, b⟩ := hrel
    have k7 := (HS.out _ b).2.2.2.2.2.2.2
    by_cases hjn : j < ps.length
    · have hz : (0 : Int) ≤ j := by omega
      have hlt : (j : Int) < ps.length := by omega
      obtain ⟨g, og, C, cc, rfl, x0, x1, x2, x3, x4, x5, x6, rx, hcx, hcx2, lg⟩ := HPS.out.pc hjn
      have hll := pcesB_le (ps.take j) fun q hq => (HK.out q (List.mem_of_mem_take hq)).2
      rw [List.length_take] at hll
      have hx1 := HK.out _ (List.getElem_mem hjn)
      have HM : Hid ((((((((hd ++ pcesB (ps.take j)) ++ strB ps[j].path) ++ numB (bitI ps[j].has)) ++ numB ps[j].size) ++ numB ps[j].digest) ++ numB ps[j].l) ++ numB ps[j].r) ++ numB (ps[j].chunks.length : Int) ++ intsB ps[j].chunks = hd ++ pcesB (ps.take (j + 1))) := by
        show _ = _
        rw [List.take_add_one, List.getElem?_eq_getElem hjn, show (ps.take j ++ (some ps[j]).toList) = ps.take j ++ [ps[j]] from rfl, pcesB_snoc, pceB]
        simp only [List.append_assoc]
      have hbl : (hd ++ pcesB (ps.take j)).length ≤ 20500000 := by rw [List.length_append, HHL.out]; omega
      have HJ := hid hjn
      generalize hd ++ pcesB (ps.take j) = pre at *
      obtain ⟨post, hpost⟩ : ∃ post, post = hd ++ pcesB (ps.take (j + 1)) := ⟨_, rfl⟩
      rw [← hpost] at HM
      have HPOST := hid hpost
      clear hpost
      generalize ps[j] = x at *
      obtain ⟨xp, xh, xs, xc, xd, xl, xr⟩ := x
      dsimp only at x0 x1 x2 x3 x4 x5 x6 rx hcx HM hx1
      have x0 := (b.cell (p := ⟨g, og + j * 7, none⟩) lg).trans x0
      have x1 := (b.cell (p := ⟨g, og + j * 7 + 1, none⟩) lg).trans x1
      have x2 := (b.cell (p := ⟨g, og + j * 7 + 2, none⟩) lg).trans x2
      have x3 := (b.cell (p := ⟨g, og + j * 7 + 3, none⟩) lg).trans x3
      have x4 := (b.cell (p := ⟨g, og + j * 7 + 4, none⟩) lg).trans x4
      have x5 := (b.cell (p := ⟨g, og + j * 7 + 5, none⟩) lg).trans x5
      have x6 := (b.cell (p := ⟨g, og + j * 7 + 6, none⟩) lg).trans x6
      cases xh
      · have bx := hal wr (.cells #[.string xp, .bool false, .int .i64 xs, .slice C xc.length cc, .int .i64 xd, .int .i64 xl, .int .i64 xr] 35)
        have px := Blk.new wr [.string xp, .bool false, .int .i64 xs, .slice C xc.length cc, .int .i64 xd, .int .i64 xl, .int .i64 xr] 35
        have rBx := rB.below bx
        have lgp := px.lt
        have rxx := rx.below (b.trans (bx.mono b.size))
        have bb := b.trans (bx.mono b.size)
        clear rB rx b
        go_wp2_with fail
        clear x0 x1 x2 x3 x4 x5 x6 k7
        generalize wr.alloc (.cells #[.string xp, .bool false, .int .i64 xs, .slice C xc.length cc, .int .i64 xd, .int .i64 xl, .int .i64 xr] 35) = wa at *
        generalize wr.heap.size = gp at *
        have HP : Hid (∀ W, Below wa.heap.size wa W → (fun W => W.cell? ⟨gp, 0, none⟩ = some (.string xp) ∧ W.cell? ⟨gp, 2, none⟩ = some (.int .i64 xs) ∧ W.cell? ⟨gp, 3, none⟩ = some (.slice C xc.length cc) ∧ W.cell? ⟨gp, 4, none⟩ = some (.int .i64 xd) ∧ W.cell? ⟨gp, 5, none⟩ = some (.int .i64 xl) ∧ W.cell? ⟨gp, 6, none⟩ = some (.int .i64 xr)) W) := hid fun W hb => by
          have k1 := px.below hb
          exact ⟨k1.cell 0, k1.cell 2, k1.cell 3, k1.cell 4, k1.cell 5, k1.cell 6⟩
        clear px
        have be : Below wa.heap.size wa wa.drew := (Below.refl _ _).drew
        have hP0 := HP.out _ be
        have rBd : Rd wa.drew B (by8 pre) := rBx
        have hsl := hid (strB_length xp)
        have hcl := hid hx1.2
        refine wp_region_held_drew (S := fun W => W.cell? ⟨gp, 0, none⟩ = some (.string xp) ∧ W.cell? ⟨gp, 2, none⟩ = some (.int .i64 xs) ∧ W.cell? ⟨gp, 3, none⟩ = some (.slice C xc.length cc) ∧ W.cell? ⟨gp, 4, none⟩ = some (.int .i64 xd) ∧ W.cell? ⟨gp, 5, none⟩ = some (.int .i64 xl) ∧ W.cell? ⟨gp, 6, none⟩ = some (.int .i64 xr)) (by kernel_rfl) hP0 (fun hHeld => ?_)
        refine wpAnyH_take (i := 0) (oi := ⟨_, _, _, _, _, _⟩) (v := ?_) rfl (by kernel_rfl) (by kernel_rfl) (by kernel_rfl) (fun _ _ _ h => h) (Or.inl ⟨by rfl, ?_⟩) (by assumption) ?_
        rotate_left
        · intro w hSw; (try dsimp only at hSw); go_simp; (try (with_reducible rfl))
        try simp only [Act.put, List.setIfInBounds_toArray, List.set_cons_zero, List.set_cons_succ]
        refine wpAnyH_take (i := 1) (oi := ⟨_, _, _, _, _, _⟩) (v := ?_) rfl (by kernel_rfl) (by kernel_rfl) (by kernel_rfl) (fun _ _ _ h => h) (Or.inl ⟨by rfl, ?_⟩) (by assumption) ?_
        rotate_left
        · intro w hSw; (try dsimp only at hSw); go_simp; (try (with_reducible rfl))
        try simp only [Act.put, List.setIfInBounds_toArray, List.set_cons_zero, List.set_cons_succ]
        refine wpAnyH_take (i := 2) (oi := ⟨_, _, _, _, _, _⟩) (v := ?_) rfl (by kernel_rfl) (by kernel_rfl) (by kernel_rfl) (fun _ _ _ h => h) (Or.inl ⟨by rfl, ?_⟩) (by assumption) ?_
        rotate_left
        · intro w hSw; (try dsimp only at hSw); go_simp; (try (with_reducible rfl))
        try simp only [Act.put, List.setIfInBounds_toArray, List.set_cons_zero, List.set_cons_succ]
        refine wpAnyH_take (i := 4) (oi := ⟨_, _, _, _, _, _⟩) (v := ?_) rfl (by kernel_rfl) (by kernel_rfl) (by kernel_rfl) (fun _ _ _ h => h) (Or.inl ⟨by rfl, ?_⟩) (by assumption) ?_
        rotate_left
        · intro w hSw; (try dsimp only at hSw); go_simp; (try (with_reducible rfl))
        try simp only [Act.put, List.setIfInBounds_toArray, List.set_cons_zero, List.set_cons_succ]
        refine wpAnyH_take (i := 6) (oi := ⟨_, _, _, _, _, _⟩) (v := ?_) rfl (by kernel_rfl) (by kernel_rfl) (by kernel_rfl) (fun _ _ _ h => h) (Or.inl ⟨by rfl, ?_⟩) (by assumption) ?_
        rotate_left
        · intro w hSw; (try dsimp only at hSw); go_simp; (try (with_reducible rfl))
        try simp only [Act.put, List.setIfInBounds_toArray, List.set_cons_zero, List.set_cons_succ]
        refine wpAnyH_take (i := 7) (oi := ⟨_, _, _, _, _, _⟩) (v := ?_) rfl (by kernel_rfl) (by kernel_rfl) (by kernel_rfl) (fun _ _ _ h => h) (Or.inl ⟨by rfl, ?_⟩) (by assumption) ?_
        rotate_left
        · intro w hSw; (try dsimp only at hSw); go_simp; (try (with_reducible rfl))
        try simp only [Act.put, List.setIfInBounds_toArray, List.set_cons_zero, List.set_cons_succ]
        refine wpAnyH_take (i := 9) (oi := ⟨_, _, _, _, _, _⟩) (v := ?_) rfl (by kernel_rfl) (by kernel_rfl) (by kernel_rfl) (fun _ _ _ h => h) (Or.inl ⟨by rfl, ?_⟩) (by assumption) ?_
        rotate_left
        · intro w hSw; (try dsimp only at hSw); go_simp; (try (with_reducible rfl))
        try simp only [Act.put, List.setIfInBounds_toArray, List.set_cons_zero, List.set_cons_succ]
        refine wpAnyH_take (i := 10) (oi := ⟨_, _, _, _, _, _⟩) (v := ?_) rfl (by kernel_rfl) (by kernel_rfl) (by kernel_rfl) (fun _ _ _ h => h) (Or.inl ⟨by rfl, ?_⟩) (by assumption) ?_
        rotate_left
        · intro w hSw; (try dsimp only at hSw); go_simp; (try (with_reducible rfl))
        try simp only [Act.put, List.setIfInBounds_toArray, List.set_cons_zero, List.set_cons_succ]
        refine wpAnyH_ready (rs := [3]) (by kernel_rfl) (by simp) ?_
        refine AllReadyH.cons (o := ⟨_, _, _, _, _, _⟩) rfl (fun K hK => ?_) AllReadyH.nil
        go_simp
        refine (refString B pre.length d pre xp wa.drew rfl rBd (by omega) hx1.1).mono ?_
        rintro e y1 ⟨A1, c1, rfl, o1, b1⟩
        have q1 := Rd.of_own o1
        have d1 := below2 be b1
        have hP1 := HP.out _ d1
        refine hK.out _ _ hP1 (fun hHeld => ?_)
        clear hK K
        try simp only [Act.put, List.setIfInBounds_toArray, List.set_cons_zero, List.set_cons_succ]
        refine wpAnyH_ready (rs := [5]) (by kernel_rfl) (by simp) ?_
        refine AllReadyH.cons (o := ⟨_, _, _, _, _, _⟩) rfl (fun K hK => ?_) AllReadyH.nil
        go_simp
        refine (rnum_own (n := pre.length + (strB xp).length) (c := c1) (l := (pre ++ strB xp)) 0 (by simp only [List.length_append]) q1 (by have := hsl.out; omega)).mono ?_
        rintro e y2 ⟨A2, c2, rfl, q2, b2⟩
        have d2 := below2 d1 b2
        have hP2 := HP.out _ d2
        refine hK.out _ _ hP2 (fun hHeld => ?_)
        clear hK K
        try simp only [Act.put, List.setIfInBounds_toArray, List.set_cons_zero, List.set_cons_succ]
        refine wpAnyH_ready (rs := [8]) (by kernel_rfl) (by simp) ?_
        refine AllReadyH.cons (o := ⟨_, _, _, _, _, _⟩) rfl (fun K hK => ?_) AllReadyH.nil
        go_simp
        refine (rnum_own (n := pre.length + (strB xp).length + 4) (c := c2) (l := ((pre ++ strB xp) ++ numB 0)) xs (by simp only [List.length_append, numB_length]) q2 (by have := hsl.out; omega)).mono ?_
        rintro e y3 ⟨A3, c3, rfl, q3, b3⟩
        have d3 := below2 d2 b3
        have hP3 := HP.out _ d3
        refine hK.out _ _ hP3 (fun hHeld => ?_)
        clear hK K
        try simp only [Act.put, List.setIfInBounds_toArray, List.set_cons_zero, List.set_cons_succ]
        refine wpAnyH_ready (rs := [11]) (by kernel_rfl) (by simp) ?_
        refine AllReadyH.cons (o := ⟨_, _, _, _, _, _⟩) rfl (fun K hK => ?_) AllReadyH.nil
        go_simp
        refine (rnum_own (n := pre.length + (strB xp).length + 4 + 4) (c := c3) (l := (((pre ++ strB xp) ++ numB 0) ++ numB xs)) xd (by simp only [List.length_append, numB_length]) q3 (by have := hsl.out; omega)).mono ?_
        rintro e y4 ⟨A4, c4, rfl, q4, b4⟩
        have d4 := below2 d3 b4
        have hP4 := HP.out _ d4
        refine hK.out _ _ hP4 (fun hHeld => ?_)
        clear hK K
        try simp only [Act.put, List.setIfInBounds_toArray, List.set_cons_zero, List.set_cons_succ]
        refine wpAnyH_take (i := 12) (oi := ⟨_, _, _, _, _, _⟩) (v := ?_) rfl (by kernel_rfl) (by kernel_rfl) (by kernel_rfl) (fun _ _ _ h => h) (Or.inl ⟨by rfl, ?_⟩) (by assumption) ?_
        rotate_left
        · intro w hSw; (try dsimp only at hSw); go_simp; (try (with_reducible rfl))
        try simp only [Act.put, List.setIfInBounds_toArray, List.set_cons_zero, List.set_cons_succ]
        refine wpAnyH_done (by kernel_rfl) ?_ _
        clear hHeld
        go_wp2_with fail
        have be4 : Below wa.heap.size wa y4.drew := d4.drew
        have q4d : Rd y4.drew A4 (by8 ((((pre ++ strB xp) ++ numB 0) ++ numB xs) ++ numB xd)) := q4
        clear hP0 hP1 hP2 hP3 hP4
        refine wp_region_held_drew (S := fun W => W.cell? ⟨gp, 0, none⟩ = some (.string xp) ∧ W.cell? ⟨gp, 2, none⟩ = some (.int .i64 xs) ∧ W.cell? ⟨gp, 3, none⟩ = some (.slice C xc.length cc) ∧ W.cell? ⟨gp, 4, none⟩ = some (.int .i64 xd) ∧ W.cell? ⟨gp, 5, none⟩ = some (.int .i64 xl) ∧ W.cell? ⟨gp, 6, none⟩ = some (.int .i64 xr)) (by kernel_rfl) (HP.out _ be4) (fun hHeld => ?_)
        refine wpAnyH_take (i := 0) (oi := ⟨_, _, _, _, _, _⟩) (v := ?_) rfl (by kernel_rfl) (by kernel_rfl) (by kernel_rfl) (fun _ _ _ h => h) (Or.inl ⟨by rfl, ?_⟩) (by assumption) ?_
        rotate_left
        · intro w hSw; (try dsimp only at hSw); go_simp; (try (with_reducible rfl))
        try simp only [Act.put, List.setIfInBounds_toArray, List.set_cons_zero, List.set_cons_succ]
        refine wpAnyH_take (i := 1) (oi := ⟨_, _, _, _, _, _⟩) (v := ?_) rfl (by kernel_rfl) (by kernel_rfl) (by kernel_rfl) (fun _ _ _ h => h) (Or.inl ⟨by rfl, ?_⟩) (by assumption) ?_
        rotate_left
        · intro w hSw; (try dsimp only at hSw); go_simp; (try (with_reducible rfl))
        try simp only [Act.put, List.setIfInBounds_toArray, List.set_cons_zero, List.set_cons_succ]
        refine wpAnyH_take (i := 2) (oi := ⟨_, _, _, _, _, _⟩) (v := ?_) rfl (by kernel_rfl) (by kernel_rfl) (by kernel_rfl) (fun _ _ _ h => h) (Or.inl ⟨by rfl, ?_⟩) (by assumption) ?_
        rotate_left
        · intro w hSw; (try dsimp only at hSw); go_simp; (try (with_reducible rfl))
        try simp only [Act.put, List.setIfInBounds_toArray, List.set_cons_zero, List.set_cons_succ]
        refine wpAnyH_take (i := 3) (oi := ⟨_, _, _, _, _, _⟩) (v := ?_) rfl (by kernel_rfl) (by kernel_rfl) (by kernel_rfl) (fun _ _ _ h => h) (Or.inl ⟨by rfl, ?_⟩) (by assumption) ?_
        rotate_left
        · intro w hSw; (try dsimp only at hSw); go_simp; (try (with_reducible rfl))
        try simp only [Act.put, List.setIfInBounds_toArray, List.set_cons_zero, List.set_cons_succ]
        refine wpAnyH_take (i := 5) (oi := ⟨_, _, _, _, _, _⟩) (v := ?_) rfl (by kernel_rfl) (by kernel_rfl) (by kernel_rfl) (fun _ _ _ h => h) (Or.inl ⟨by rfl, ?_⟩) (by assumption) ?_
        rotate_left
        · intro w hSw; (try dsimp only at hSw); go_simp; (try (with_reducible rfl))
        try simp only [Act.put, List.setIfInBounds_toArray, List.set_cons_zero, List.set_cons_succ]
        refine wpAnyH_take (i := 6) (oi := ⟨_, _, _, _, _, _⟩) (v := ?_) rfl (by kernel_rfl) (by kernel_rfl) (by kernel_rfl) (fun _ _ _ h => h) (Or.inl ⟨by rfl, ?_⟩) (by assumption) ?_
        rotate_left
        · intro w hSw; (try dsimp only at hSw); go_simp; (try (with_reducible rfl))
        try simp only [Act.put, List.setIfInBounds_toArray, List.set_cons_zero, List.set_cons_succ]
        refine wpAnyH_take (i := 7) (oi := ⟨_, _, _, _, _, _⟩) (v := ?_) rfl (by kernel_rfl) (by kernel_rfl) (by kernel_rfl) (fun _ _ _ h => h) (Or.inl ⟨by rfl, ?_⟩) (by assumption) ?_
        rotate_left
        · intro w hSw; (try dsimp only at hSw); go_simp; (try (with_reducible rfl))
        try simp only [Act.put, List.setIfInBounds_toArray, List.set_cons_zero, List.set_cons_succ]
        refine wpAnyH_take (i := 9) (oi := ⟨_, _, _, _, _, _⟩) (v := ?_) rfl (by kernel_rfl) (by kernel_rfl) (by kernel_rfl) (fun _ _ _ h => h) (Or.inl ⟨by rfl, ?_⟩) (by assumption) ?_
        rotate_left
        · intro w hSw; (try dsimp only at hSw); go_simp; (try (with_reducible rfl))
        try simp only [Act.put, List.setIfInBounds_toArray, List.set_cons_zero, List.set_cons_succ]
        refine wpAnyH_take (i := 10) (oi := ⟨_, _, _, _, _, _⟩) (v := ?_) rfl (by kernel_rfl) (by kernel_rfl) (by kernel_rfl) (fun _ _ _ h => h) (Or.inl ⟨by rfl, ?_⟩) (by assumption) ?_
        rotate_left
        · intro w hSw; (try dsimp only at hSw); go_simp; (try (with_reducible rfl))
        try simp only [Act.put, List.setIfInBounds_toArray, List.set_cons_zero, List.set_cons_succ]
        refine wpAnyH_take (i := 11) (oi := ⟨_, _, _, _, _, _⟩) (v := ?_) rfl (by kernel_rfl) (by kernel_rfl) (by kernel_rfl) (fun _ _ _ h => h) (Or.inl ⟨by rfl, ?_⟩) (by assumption) ?_
        rotate_left
        · intro w hSw; (try dsimp only at hSw); go_simp; (try (with_reducible rfl))
        try simp only [Act.put, List.setIfInBounds_toArray, List.set_cons_zero, List.set_cons_succ]
        refine wpAnyH_ready (rs := [4]) (by kernel_rfl) (by simp) ?_
        refine AllReadyH.cons (o := ⟨_, _, _, _, _, _⟩) rfl (fun K hK => ?_) AllReadyH.nil
        go_simp
        refine (rnum_own (n := pre.length + (strB xp).length + 4 + 4 + 4) (c := c4) (l := ((((pre ++ strB xp) ++ numB 0) ++ numB xs) ++ numB xd)) xl (by simp only [List.length_append, numB_length]) q4d (by have := hsl.out; omega)).mono ?_
        rintro e y5 ⟨A5, c5, rfl, q5, b5⟩
        have d5 := below2 be4 b5
        have hP5 := HP.out _ d5
        refine hK.out _ _ hP5 (fun hHeld => ?_)
        clear hK K
        try simp only [Act.put, List.setIfInBounds_toArray, List.set_cons_zero, List.set_cons_succ]
        refine wpAnyH_ready (rs := [8]) (by kernel_rfl) (by simp) ?_
        refine AllReadyH.cons (o := ⟨_, _, _, _, _, _⟩) rfl (fun K hK => ?_) AllReadyH.nil
        go_simp
        refine (rnum_own (n := pre.length + (strB xp).length + 4 + 4 + 4 + 4) (c := c5) (l := (((((pre ++ strB xp) ++ numB 0) ++ numB xs) ++ numB xd) ++ numB xl)) xr (by simp only [List.length_append, numB_length]) q5 (by have := hsl.out; omega)).mono ?_
        rintro e y6 ⟨A6, c6, rfl, q6, b6⟩
        have d6 := below2 d5 b6
        have hP6 := HP.out _ d6
        refine hK.out _ _ hP6 (fun hHeld => ?_)
        clear hK K
        try simp only [Act.put, List.setIfInBounds_toArray, List.set_cons_zero, List.set_cons_succ]
        refine wpAnyH_ready (rs := [12]) (by kernel_rfl) (by simp) ?_
        refine AllReadyH.cons (o := ⟨_, _, _, _, _, _⟩) rfl (fun K hK => ?_) AllReadyH.nil
        go_simp
        refine (rnum_own (n := pre.length + (strB xp).length + 4 + 4 + 4 + 4 + 4) (c := c6) (l := ((((((pre ++ strB xp) ++ numB 0) ++ numB xs) ++ numB xd) ++ numB xl) ++ numB xr)) (xc.length : Int) (by simp only [List.length_append, numB_length]) q6 (by have := hsl.out; omega)).mono ?_
        rintro e y7 ⟨A7, c7, rfl, q7, b7⟩
        have d7 := below2 d6 b7
        have hP7 := HP.out _ d7
        refine hK.out _ _ hP7 (fun hHeld => ?_)
        clear hK K
        try simp only [Act.put, List.setIfInBounds_toArray, List.set_cons_zero, List.set_cons_succ]
        refine wpAnyH_take (i := 13) (oi := ⟨_, _, _, _, _, _⟩) (v := ?_) rfl (by kernel_rfl) (by kernel_rfl) (by kernel_rfl) (fun _ _ _ h => h) (Or.inl ⟨by rfl, ?_⟩) (by assumption) ?_
        rotate_left
        · intro w hSw; (try dsimp only at hSw); go_simp; (try (with_reducible rfl))
        try simp only [Act.put, List.setIfInBounds_toArray, List.set_cons_zero, List.set_cons_succ]
        refine wpAnyH_done (by kernel_rfl) ?_ _
        clear hHeld
        have hpl : (((((((pre ++ strB xp) ++ numB 0) ++ numB xs) ++ numB xd) ++ numB xl) ++ numB xr) ++ numB (xc.length : Int)).length = pre.length + (strB xp).length + 4 + 4 + 4 + 4 + 4 + 4 := by simp only [List.length_append, numB_length]
        have hpl2 : (((((((pre ++ strB xp) ++ numB 0) ++ numB xs) ++ numB xd) ++ numB xl) ++ numB xr) ++ numB (xc.length : Int)).length ≤ 20600000 := by rw [hpl]; have := hsl.out; omega
        have HM2 : Hid ((((((((pre ++ strB xp) ++ numB 0) ++ numB xs) ++ numB xd) ++ numB xl) ++ numB xr) ++ numB (xc.length : Int)) ++ intsB xc = post) := by show _ = _; exact HM.out
        generalize hq : (((((((pre ++ strB xp) ++ numB 0) ++ numB xs) ++ numB xd) ++ numB xl) ++ numB xr) ++ numB (xc.length : Int)) = pr at *
        have HPL := hid hpl
        clear hq hpl
        clear HM hP5 hP6 hP7 q1 q2 q3 q4 q4d q5 q6 b1 b2 b3 b4 b5 b6 b7 be be4 o1 d1 d2 d3 d4 d5 d6 rBx rBd hx1 hbl hsl
        rw [← HPL.out]
        go_wp2_with fail
        go_loopw [3, 7] (fun v i W => ∃ t : Nat, t ≤ xc.length ∧ i = .int .i64 t ∧ BySl W v (pr ++ intsB (xc.take t)) ∧ Below wa.heap.size wa W) (fun _ i _ => xc.length - (intOf i).toNat)
        case atStart => exact ⟨0, by omega, rfl, ⟨A7, c7, by simp [intsB], by simpa [intsB] using q7⟩, d7⟩
        case round =>
          rename World => W
          clear q7 d7
          obtain ⟨t, ht, rfl, ⟨D, dd, rfl, rD⟩, bW⟩ := hrel
          have hclb := hcl.out
          have p3 := (HP.out _ bW).2.2.1
          by_cases htn : t < xc.length
          · have hz : (0 : Int) ≤ t := by omega
            have hlt : (t : Int) < xc.length := by omega
            obtain ⟨gi, oi, rfl, z0, -⟩ := int_at (rxx.below bW) htn
            have HC : Hid ((pr ++ intsB (xc.take t)) ++ numB xc[t] = pr ++ intsB (xc.take (t + 1))) := by
              show _ = _
              rw [List.take_add_one, List.getElem?_eq_getElem htn, List.append_assoc, ← intsB_snoc]
              rfl
            have hl2 : (pr ++ intsB (xc.take t)).length ≤ 30000000 := by rw [List.length_append, intsB_length, List.length_take]; have := hcl.out; omega
            have cN := rnum_own (c := dd) xc[t] rfl rD (by omega)
            have HL4 : Hid ((pr ++ intsB (xc.take t)).length + 4 = (pr ++ intsB (xc.take (t + 1))).length) := by have h9 := congrArg List.length HC.out; rw [List.length_append, numB_length] at h9; exact h9
            rw [HC.out] at cN
            have HT := hid htn
            generalize (pr ++ intsB (xc.take t)).length = l0 at *
            generalize xc[t] = y at *
            clear rD
            go_wp2_with fail
            refine cN.mono ?_
            rintro e W2 ⟨A9, c9, rfl, q9, b9⟩
            have bz := below2 bW b9
            clear cN
            go_wp2
            go_roundw
            case rel => exact ⟨t + 1, HT.out, by go_num, ⟨A9, c9, by rw [← HL4.out], q9⟩, bz⟩
            case measure => have := HT.out; simp [intOf]; omega
          · have hnl : ¬ (t : Int) < xc.length := by omega
            have HFIN : Hid (pr ++ intsB (xc.take t) = post) := by show _ = _; rw [List.take_of_length_le (by omega)]; exact HM2.out
            rw [HFIN.out] at rD ⊢
            have bz := bb.trans (bW.mono bb.size)
            have HSL := hid (⟨D, dd, rfl, rD⟩ : BySl W (.slice D post.length dd) post)
            have HSL : Hid (BySl W (.slice D post.length dd) (hd ++ pcesB (ps.take (j + 1)))) := by rw [← HPOST.out]; exact HSL
            clear rxx
            go_wp2
            go_roundw
            case rel => first | exact ⟨j + 1, HJ.out, by go_num, HSL.out, bz⟩ | exact ⟨j + 1, HJ.out, by go_num, HSL.out⟩
            case measure => have := HJ.out; simp [intOf]; omega
      · have bx := hal wr (.cells #[.string xp, .bool true, .int .i64 xs, .slice C xc.length cc, .int .i64 xd, .int .i64 xl, .int .i64 xr] 35)
        have px := Blk.new wr [.string xp, .bool true, .int .i64 xs, .slice C xc.length cc, .int .i64 xd, .int .i64 xl, .int .i64 xr] 35
        have rBx := rB.below bx
        have lgp := px.lt
        have rxx := rx.below (b.trans (bx.mono b.size))
        have bb := b.trans (bx.mono b.size)
        clear rB rx b
        go_wp2_with fail
        clear x0 x1 x2 x3 x4 x5 x6 k7
        generalize wr.alloc (.cells #[.string xp, .bool true, .int .i64 xs, .slice C xc.length cc, .int .i64 xd, .int .i64 xl, .int .i64 xr] 35) = wa at *
        generalize wr.heap.size = gp at *
        have HP : Hid (∀ W, Below wa.heap.size wa W → (fun W => W.cell? ⟨gp, 0, none⟩ = some (.string xp) ∧ W.cell? ⟨gp, 2, none⟩ = some (.int .i64 xs) ∧ W.cell? ⟨gp, 3, none⟩ = some (.slice C xc.length cc) ∧ W.cell? ⟨gp, 4, none⟩ = some (.int .i64 xd) ∧ W.cell? ⟨gp, 5, none⟩ = some (.int .i64 xl) ∧ W.cell? ⟨gp, 6, none⟩ = some (.int .i64 xr)) W) := hid fun W hb => by
          have k1 := px.below hb
          exact ⟨k1.cell 0, k1.cell 2, k1.cell 3, k1.cell 4, k1.cell 5, k1.cell 6⟩
        clear px
        have be : Below wa.heap.size wa wa.drew := (Below.refl _ _).drew
        have hP0 := HP.out _ be
        have rBd : Rd wa.drew B (by8 pre) := rBx
        have hsl := hid (strB_length xp)
        have hcl := hid hx1.2
        refine wp_region_held_drew (S := fun W => W.cell? ⟨gp, 0, none⟩ = some (.string xp) ∧ W.cell? ⟨gp, 2, none⟩ = some (.int .i64 xs) ∧ W.cell? ⟨gp, 3, none⟩ = some (.slice C xc.length cc) ∧ W.cell? ⟨gp, 4, none⟩ = some (.int .i64 xd) ∧ W.cell? ⟨gp, 5, none⟩ = some (.int .i64 xl) ∧ W.cell? ⟨gp, 6, none⟩ = some (.int .i64 xr)) (by kernel_rfl) hP0 (fun hHeld => ?_)
        refine wpAnyH_take (i := 0) (oi := ⟨_, _, _, _, _, _⟩) (v := ?_) rfl (by kernel_rfl) (by kernel_rfl) (by kernel_rfl) (fun _ _ _ h => h) (Or.inl ⟨by rfl, ?_⟩) (by assumption) ?_
        rotate_left
        · intro w hSw; (try dsimp only at hSw); go_simp; (try (with_reducible rfl))
        try simp only [Act.put, List.setIfInBounds_toArray, List.set_cons_zero, List.set_cons_succ]
        refine wpAnyH_take (i := 1) (oi := ⟨_, _, _, _, _, _⟩) (v := ?_) rfl (by kernel_rfl) (by kernel_rfl) (by kernel_rfl) (fun _ _ _ h => h) (Or.inl ⟨by rfl, ?_⟩) (by assumption) ?_
        rotate_left
        · intro w hSw; (try dsimp only at hSw); go_simp; (try (with_reducible rfl))
        try simp only [Act.put, List.setIfInBounds_toArray, List.set_cons_zero, List.set_cons_succ]
        refine wpAnyH_take (i := 2) (oi := ⟨_, _, _, _, _, _⟩) (v := ?_) rfl (by kernel_rfl) (by kernel_rfl) (by kernel_rfl) (fun _ _ _ h => h) (Or.inl ⟨by rfl, ?_⟩) (by assumption) ?_
        rotate_left
        · intro w hSw; (try dsimp only at hSw); go_simp; (try (with_reducible rfl))
        try simp only [Act.put, List.setIfInBounds_toArray, List.set_cons_zero, List.set_cons_succ]
        refine wpAnyH_take (i := 4) (oi := ⟨_, _, _, _, _, _⟩) (v := ?_) rfl (by kernel_rfl) (by kernel_rfl) (by kernel_rfl) (fun _ _ _ h => h) (Or.inl ⟨by rfl, ?_⟩) (by assumption) ?_
        rotate_left
        · intro w hSw; (try dsimp only at hSw); go_simp; (try (with_reducible rfl))
        try simp only [Act.put, List.setIfInBounds_toArray, List.set_cons_zero, List.set_cons_succ]
        refine wpAnyH_take (i := 6) (oi := ⟨_, _, _, _, _, _⟩) (v := ?_) rfl (by kernel_rfl) (by kernel_rfl) (by kernel_rfl) (fun _ _ _ h => h) (Or.inl ⟨by rfl, ?_⟩) (by assumption) ?_
        rotate_left
        · intro w hSw; (try dsimp only at hSw); go_simp; (try (with_reducible rfl))
        try simp only [Act.put, List.setIfInBounds_toArray, List.set_cons_zero, List.set_cons_succ]
        refine wpAnyH_take (i := 7) (oi := ⟨_, _, _, _, _, _⟩) (v := ?_) rfl (by kernel_rfl) (by kernel_rfl) (by kernel_rfl) (fun _ _ _ h => h) (Or.inl ⟨by rfl, ?_⟩) (by assumption) ?_
        rotate_left
        · intro w hSw; (try dsimp only at hSw); go_simp; (try (with_reducible rfl))
        try simp only [Act.put, List.setIfInBounds_toArray, List.set_cons_zero, List.set_cons_succ]
        refine wpAnyH_take (i := 9) (oi := ⟨_, _, _, _, _, _⟩) (v := ?_) rfl (by kernel_rfl) (by kernel_rfl) (by kernel_rfl) (fun _ _ _ h => h) (Or.inl ⟨by rfl, ?_⟩) (by assumption) ?_
        rotate_left
        · intro w hSw; (try dsimp only at hSw); go_simp; (try (with_reducible rfl))
        try simp only [Act.put, List.setIfInBounds_toArray, List.set_cons_zero, List.set_cons_succ]
        refine wpAnyH_take (i := 10) (oi := ⟨_, _, _, _, _, _⟩) (v := ?_) rfl (by kernel_rfl) (by kernel_rfl) (by kernel_rfl) (fun _ _ _ h => h) (Or.inl ⟨by rfl, ?_⟩) (by assumption) ?_
        rotate_left
        · intro w hSw; (try dsimp only at hSw); go_simp; (try (with_reducible rfl))
        try simp only [Act.put, List.setIfInBounds_toArray, List.set_cons_zero, List.set_cons_succ]
        refine wpAnyH_ready (rs := [3]) (by kernel_rfl) (by simp) ?_
        refine AllReadyH.cons (o := ⟨_, _, _, _, _, _⟩) rfl (fun K hK => ?_) AllReadyH.nil
        go_simp
        refine (refString B pre.length d pre xp wa.drew rfl rBd (by omega) hx1.1).mono ?_
        rintro e y1 ⟨A1, c1, rfl, o1, b1⟩
        have q1 := Rd.of_own o1
        have d1 := below2 be b1
        have hP1 := HP.out _ d1
        refine hK.out _ _ hP1 (fun hHeld => ?_)
        clear hK K
        try simp only [Act.put, List.setIfInBounds_toArray, List.set_cons_zero, List.set_cons_succ]
        refine wpAnyH_ready (rs := [5]) (by kernel_rfl) (by simp) ?_
        refine AllReadyH.cons (o := ⟨_, _, _, _, _, _⟩) rfl (fun K hK => ?_) AllReadyH.nil
        go_simp
        refine (rnum_own (n := pre.length + (strB xp).length) (c := c1) (l := (pre ++ strB xp)) 1 (by simp only [List.length_append]) q1 (by have := hsl.out; omega)).mono ?_
        rintro e y2 ⟨A2, c2, rfl, q2, b2⟩
        have d2 := below2 d1 b2
        have hP2 := HP.out _ d2
        refine hK.out _ _ hP2 (fun hHeld => ?_)
        clear hK K
        try simp only [Act.put, List.setIfInBounds_toArray, List.set_cons_zero, List.set_cons_succ]
        refine wpAnyH_ready (rs := [8]) (by kernel_rfl) (by simp) ?_
        refine AllReadyH.cons (o := ⟨_, _, _, _, _, _⟩) rfl (fun K hK => ?_) AllReadyH.nil
        go_simp
        refine (rnum_own (n := pre.length + (strB xp).length + 4) (c := c2) (l := ((pre ++ strB xp) ++ numB 1)) xs (by simp only [List.length_append, numB_length]) q2 (by have := hsl.out; omega)).mono ?_
        rintro e y3 ⟨A3, c3, rfl, q3, b3⟩
        have d3 := below2 d2 b3
        have hP3 := HP.out _ d3
        refine hK.out _ _ hP3 (fun hHeld => ?_)
        clear hK K
        try simp only [Act.put, List.setIfInBounds_toArray, List.set_cons_zero, List.set_cons_succ]
        refine wpAnyH_ready (rs := [11]) (by kernel_rfl) (by simp) ?_
        refine AllReadyH.cons (o := ⟨_, _, _, _, _, _⟩) rfl (fun K hK => ?_) AllReadyH.nil
        go_simp
        refine (rnum_own (n := pre.length + (strB xp).length + 4 + 4) (c := c3) (l := (((pre ++ strB xp) ++ numB 1) ++ numB xs)) xd (by simp only [List.length_append, numB_length]) q3 (by have := hsl.out; omega)).mono ?_
        rintro e y4 ⟨A4, c4, rfl, q4, b4⟩
        have d4 := below2 d3 b4
        have hP4 := HP.out _ d4
        refine hK.out _ _ hP4 (fun hHeld => ?_)
        clear hK K
        try simp only [Act.put, List.setIfInBounds_toArray, List.set_cons_zero, List.set_cons_succ]
        refine wpAnyH_take (i := 12) (oi := ⟨_, _, _, _, _, _⟩) (v := ?_) rfl (by kernel_rfl) (by kernel_rfl) (by kernel_rfl) (fun _ _ _ h => h) (Or.inl ⟨by rfl, ?_⟩) (by assumption) ?_
        rotate_left
        · intro w hSw; (try dsimp only at hSw); go_simp; (try (with_reducible rfl))
        try simp only [Act.put, List.setIfInBounds_toArray, List.set_cons_zero, List.set_cons_succ]
        refine wpAnyH_done (by kernel_rfl) ?_ _
        clear hHeld
        go_wp2_with fail
        have be4 : Below wa.heap.size wa y4.drew := d4.drew
        have q4d : Rd y4.drew A4 (by8 ((((pre ++ strB xp) ++ numB 1) ++ numB xs) ++ numB xd)) := q4
        clear hP0 hP1 hP2 hP3 hP4
        refine wp_region_held_drew (S := fun W => W.cell? ⟨gp, 0, none⟩ = some (.string xp) ∧ W.cell? ⟨gp, 2, none⟩ = some (.int .i64 xs) ∧ W.cell? ⟨gp, 3, none⟩ = some (.slice C xc.length cc) ∧ W.cell? ⟨gp, 4, none⟩ = some (.int .i64 xd) ∧ W.cell? ⟨gp, 5, none⟩ = some (.int .i64 xl) ∧ W.cell? ⟨gp, 6, none⟩ = some (.int .i64 xr)) (by kernel_rfl) (HP.out _ be4) (fun hHeld => ?_)
        refine wpAnyH_take (i := 0) (oi := ⟨_, _, _, _, _, _⟩) (v := ?_) rfl (by kernel_rfl) (by kernel_rfl) (by kernel_rfl) (fun _ _ _ h => h) (Or.inl ⟨by rfl, ?_⟩) (by assumption) ?_
        rotate_left
        · intro w hSw; (try dsimp only at hSw); go_simp; (try (with_reducible rfl))
        try simp only [Act.put, List.setIfInBounds_toArray, List.set_cons_zero, List.set_cons_succ]
        refine wpAnyH_take (i := 1) (oi := ⟨_, _, _, _, _, _⟩) (v := ?_) rfl (by kernel_rfl) (by kernel_rfl) (by kernel_rfl) (fun _ _ _ h => h) (Or.inl ⟨by rfl, ?_⟩) (by assumption) ?_
        rotate_left
        · intro w hSw; (try dsimp only at hSw); go_simp; (try (with_reducible rfl))
        try simp only [Act.put, List.setIfInBounds_toArray, List.set_cons_zero, List.set_cons_succ]
        refine wpAnyH_take (i := 2) (oi := ⟨_, _, _, _, _, _⟩) (v := ?_) rfl (by kernel_rfl) (by kernel_rfl) (by kernel_rfl) (fun _ _ _ h => h) (Or.inl ⟨by rfl, ?_⟩) (by assumption) ?_
        rotate_left
        · intro w hSw; (try dsimp only at hSw); go_simp; (try (with_reducible rfl))
        try simp only [Act.put, List.setIfInBounds_toArray, List.set_cons_zero, List.set_cons_succ]
        refine wpAnyH_take (i := 3) (oi := ⟨_, _, _, _, _, _⟩) (v := ?_) rfl (by kernel_rfl) (by kernel_rfl) (by kernel_rfl) (fun _ _ _ h => h) (Or.inl ⟨by rfl, ?_⟩) (by assumption) ?_
        rotate_left
        · intro w hSw; (try dsimp only at hSw); go_simp; (try (with_reducible rfl))
        try simp only [Act.put, List.setIfInBounds_toArray, List.set_cons_zero, List.set_cons_succ]
        refine wpAnyH_take (i := 5) (oi := ⟨_, _, _, _, _, _⟩) (v := ?_) rfl (by kernel_rfl) (by kernel_rfl) (by kernel_rfl) (fun _ _ _ h => h) (Or.inl ⟨by rfl, ?_⟩) (by assumption) ?_
        rotate_left
        · intro w hSw; (try dsimp only at hSw); go_simp; (try (with_reducible rfl))
        try simp only [Act.put, List.setIfInBounds_toArray, List.set_cons_zero, List.set_cons_succ]
        refine wpAnyH_take (i := 6) (oi := ⟨_, _, _, _, _, _⟩) (v := ?_) rfl (by kernel_rfl) (by kernel_rfl) (by kernel_rfl) (fun _ _ _ h => h) (Or.inl ⟨by rfl, ?_⟩) (by assumption) ?_
        rotate_left
        · intro w hSw; (try dsimp only at hSw); go_simp; (try (with_reducible rfl))
        try simp only [Act.put, List.setIfInBounds_toArray, List.set_cons_zero, List.set_cons_succ]
        refine wpAnyH_take (i := 7) (oi := ⟨_, _, _, _, _, _⟩) (v := ?_) rfl (by kernel_rfl) (by kernel_rfl) (by kernel_rfl) (fun _ _ _ h => h) (Or.inl ⟨by rfl, ?_⟩) (by assumption) ?_
        rotate_left
        · intro w hSw; (try dsimp only at hSw); go_simp; (try (with_reducible rfl))
        try simp only [Act.put, List.setIfInBounds_toArray, List.set_cons_zero, List.set_cons_succ]
        refine wpAnyH_take (i := 9) (oi := ⟨_, _, _, _, _, _⟩) (v := ?_) rfl (by kernel_rfl) (by kernel_rfl) (by kernel_rfl) (fun _ _ _ h => h) (Or.inl ⟨by rfl, ?_⟩) (by assumption) ?_
        rotate_left
        · intro w hSw; (try dsimp only at hSw); go_simp; (try (with_reducible rfl))
        try simp only [Act.put, List.setIfInBounds_toArray, List.set_cons_zero, List.set_cons_succ]
        refine wpAnyH_take (i := 10) (oi := ⟨_, _, _, _, _, _⟩) (v := ?_) rfl (by kernel_rfl) (by kernel_rfl) (by kernel_rfl) (fun _ _ _ h => h) (Or.inl ⟨by rfl, ?_⟩) (by assumption) ?_
        rotate_left
        · intro w hSw; (try dsimp only at hSw); go_simp; (try (with_reducible rfl))
        try simp only [Act.put, List.setIfInBounds_toArray, List.set_cons_zero, List.set_cons_succ]
        refine wpAnyH_take (i := 11) (oi := ⟨_, _, _, _, _, _⟩) (v := ?_) rfl (by kernel_rfl) (by kernel_rfl) (by kernel_rfl) (fun _ _ _ h => h) (Or.inl ⟨by rfl, ?_⟩) (by assumption) ?_
        rotate_left
        · intro w hSw; (try dsimp only at hSw); go_simp; (try (with_reducible rfl))
        try simp only [Act.put, List.setIfInBounds_toArray, List.set_cons_zero, List.set_cons_succ]
        refine wpAnyH_ready (rs := [4]) (by kernel_rfl) (by simp) ?_
        refine AllReadyH.cons (o := ⟨_, _, _, _, _, _⟩) rfl (fun K hK => ?_) AllReadyH.nil
        go_simp
        refine (rnum_own (n := pre.length + (strB xp).length + 4 + 4 + 4) (c := c4) (l := ((((pre ++ strB xp) ++ numB 1) ++ numB xs) ++ numB xd)) xl (by simp only [List.length_append, numB_length]) q4d (by have := hsl.out; omega)).mono ?_
        rintro e y5 ⟨A5, c5, rfl, q5, b5⟩
        have d5 := below2 be4 b5
        have hP5 := HP.out _ d5
        refine hK.out _ _ hP5 (fun hHeld => ?_)
        clear hK K
        try simp only [Act.put, List.setIfInBounds_toArray, List.set_cons_zero, List.set_cons_succ]
        refine wpAnyH_ready (rs := [8]) (by kernel_rfl) (by simp) ?_
        refine AllReadyH.cons (o := ⟨_, _, _, _, _, _⟩) rfl (fun K hK => ?_) AllReadyH.nil
        go_simp
        refine (rnum_own (n := pre.length + (strB xp).length + 4 + 4 + 4 + 4) (c := c5) (l := (((((pre ++ strB xp) ++ numB 1) ++ numB xs) ++ numB xd) ++ numB xl)) xr (by simp only [List.length_append, numB_length]) q5 (by have := hsl.out; omega)).mono ?_
        rintro e y6 ⟨A6, c6, rfl, q6, b6⟩
        have d6 := below2 d5 b6
        have hP6 := HP.out _ d6
        refine hK.out _ _ hP6 (fun hHeld => ?_)
        clear hK K
        try simp only [Act.put, List.setIfInBounds_toArray, List.set_cons_zero, List.set_cons_succ]
        refine wpAnyH_ready (rs := [12]) (by kernel_rfl) (by simp) ?_
        refine AllReadyH.cons (o := ⟨_, _, _, _, _, _⟩) rfl (fun K hK => ?_) AllReadyH.nil
        go_simp
        refine (rnum_own (n := pre.length + (strB xp).length + 4 + 4 + 4 + 4 + 4) (c := c6) (l := ((((((pre ++ strB xp) ++ numB 1) ++ numB xs) ++ numB xd) ++ numB xl) ++ numB xr)) (xc.length : Int) (by simp only [List.length_append, numB_length]) q6 (by have := hsl.out; omega)).mono ?_
        rintro e y7 ⟨A7, c7, rfl, q7, b7⟩
        have d7 := below2 d6 b7
        have hP7 := HP.out _ d7
        refine hK.out _ _ hP7 (fun hHeld => ?_)
        clear hK K
        try simp only [Act.put, List.setIfInBounds_toArray, List.set_cons_zero, List.set_cons_succ]
        refine wpAnyH_take (i := 13) (oi := ⟨_, _, _, _, _, _⟩) (v := ?_) rfl (by kernel_rfl) (by kernel_rfl) (by kernel_rfl) (fun _ _ _ h => h) (Or.inl ⟨by rfl, ?_⟩) (by assumption) ?_
        rotate_left
        · intro w hSw; (try dsimp only at hSw); go_simp; (try (with_reducible rfl))
        try simp only [Act.put, List.setIfInBounds_toArray, List.set_cons_zero, List.set_cons_succ]
        refine wpAnyH_done (by kernel_rfl) ?_ _
        clear hHeld
        have hpl : (((((((pre ++ strB xp) ++ numB 1) ++ numB xs) ++ numB xd) ++ numB xl) ++ numB xr) ++ numB (xc.length : Int)).length = pre.length + (strB xp).length + 4 + 4 + 4 + 4 + 4 + 4 := by simp only [List.length_append, numB_length]
        have hpl2 : (((((((pre ++ strB xp) ++ numB 1) ++ numB xs) ++ numB xd) ++ numB xl) ++ numB xr) ++ numB (xc.length : Int)).length ≤ 20600000 := by rw [hpl]; have := hsl.out; omega
        have HM2 : Hid ((((((((pre ++ strB xp) ++ numB 1) ++ numB xs) ++ numB xd) ++ numB xl) ++ numB xr) ++ numB (xc.length : Int)) ++ intsB xc = post) := by show _ = _; exact HM.out
        generalize hq : (((((((pre ++ strB xp) ++ numB 1) ++ numB xs) ++ numB xd) ++ numB xl) ++ numB xr) ++ numB (xc.length : Int)) = pr at *
        have HPL := hid hpl
        clear hq hpl
        clear HM hP5 hP6 hP7 q1 q2 q3 q4 q4d q5 q6 b1 b2 b3 b4 b5 b6 b7 be be4 o1 d1 d2 d3 d4 d5 d6 rBx rBd hx1 hbl hsl
        rw [← HPL.out]
        go_wp2_with fail
        go_loopw [3, 7] (fun v i W => ∃ t : Nat, t ≤ xc.length ∧ i = .int .i64 t ∧ BySl W v (pr ++ intsB (xc.take t)) ∧ Below wa.heap.size wa W) (fun _ i _ => xc.length - (intOf i).toNat)
        case atStart => exact ⟨0, by omega, rfl, ⟨A7, c7, by simp [intsB], by simpa [intsB] using q7⟩, d7⟩
        case round =>
          rename World => W
          clear q7 d7
          obtain ⟨t, ht, rfl, ⟨D, dd, rfl, rD⟩, bW⟩ := hrel
          have hclb := hcl.out
          have p3 := (HP.out _ bW).2.2.1
          by_cases htn : t < xc.length
          · have hz : (0 : Int) ≤ t := by omega
            have hlt : (t : Int) < xc.length := by omega
            obtain ⟨gi, oi, rfl, z0, -⟩ := int_at (rxx.below bW) htn
            have HC : Hid ((pr ++ intsB (xc.take t)) ++ numB xc[t] = pr ++ intsB (xc.take (t + 1))) := by
              show _ = _
              rw [List.take_add_one, List.getElem?_eq_getElem htn, List.append_assoc, ← intsB_snoc]
              rfl
            have hl2 : (pr ++ intsB (xc.take t)).length ≤ 30000000 := by rw [List.length_append, intsB_length, List.length_take]; have := hcl.out; omega
            have cN := rnum_own (c := dd) xc[t] rfl rD (by omega)
            have HL4 : Hid ((pr ++ intsB (xc.take t)).length + 4 = (pr ++ intsB (xc.take (t + 1))).length) := by have h9 := congrArg List.length HC.out; rw [List.length_append, numB_length] at h9; exact h9
            rw [HC.out] at cN
            have HT := hid htn
            generalize (pr ++ intsB (xc.take t)).length = l0 at *
            generalize xc[t] = y at *
            clear rD
            go_wp2_with fail
            refine cN.mono ?_
            rintro e W2 ⟨A9, c9, rfl, q9, b9⟩
            have bz := below2 bW b9
            clear cN
            go_wp2
            go_roundw
            case rel => exact ⟨t + 1, HT.out, by go_num, ⟨A9, c9, by rw [← HL4.out], q9⟩, bz⟩
            case measure => have := HT.out; simp [intOf]; omega
          · have hnl : ¬ (t : Int) < xc.length := by omega
            have HFIN : Hid (pr ++ intsB (xc.take t) = post) := by show _ = _; rw [List.take_of_length_le (by omega)]; exact HM2.out
            rw [HFIN.out] at rD ⊢
            have bz := bb.trans (bW.mono bb.size)
            have HSL := hid (⟨D, dd, rfl, rD⟩ : BySl W (.slice D post.length dd) post)
            have HSL : Hid (BySl W (.slice D post.length dd) (hd ++ pcesB (ps.take (j + 1)))) := by rw [← HPOST.out]; exact HSL
            clear rxx
            go_wp2
            go_roundw
            case rel => first | exact ⟨j + 1, HJ.out, by go_num, HSL.out, bz⟩ | exact ⟨j + 1, HJ.out, by go_num, HSL.out⟩
            case measure => have := HJ.out; simp [intOf]; omega
    · have hnl : ¬ (j : Int) < ps.length := by omega
      rw [List.take_of_length_le (by omega), ← HB.out] at rB ⊢
      have hcv := conv_rd (P := Tryd.prog) wr 57 9 5 Tryd.underlying57 Tryd.underlying5 Tryd.underlying9 B Z.length d Z rfl rB
      have bz := below2 b0 b
      go_wp2
      go_ret
      exact ⟨rfl, bz⟩
end Go.Proofs.YtgafjbmpaeejbaaDoor
namespace Go.Proofs.YtgafjbmpaeejbaaDoor
open Go.RowKit

def cntPs (ps : List Pce) : Nat := (ps.map fun p => cnt p.size.toNat).sum
theorem cntPs_more (ps : List Pce) (j : Nat) (h : j < ps.length) : cntPs (ps.take (j + 1)) = cntPs (ps.take j) + cnt ps[j].size.toNat := by
  unfold cntPs
  rw [List.take_add_one, List.getElem?_eq_getElem h, List.map_append, List.sum_append]
  simp
theorem cntPs_le : ∀ (ps : List Pce), (∀ p ∈ ps, RightPc p) → cntPs ps ≤ 10 * ps.length
  | [], _ => by simp [cntPs]
  | p :: ps, h => by
    have h1 := (h p List.mem_cons_self).s1
    have h2 := cntPs_le ps fun q hq => h q (List.mem_cons_of_mem _ hq)
    have : cnt p.size.toNat ≤ 10 := by unfold cnt; omega
    unfold cntPs at h2 ⊢
    rw [List.map_cons, List.sum_cons, List.length_cons]
    omega
theorem ck_set : ∀ (xs : List Pw) (j : Nat) (h : j < xs.length) (cs : List Int) (C : Option Addr) (n c : Nat), cs.length = n → (pwV xs).set (j * 7 + 3) (.slice C n c) = pwV (xs.set j ⟨{ xs[j].p with chunks := cs }, C, c⟩)
  | x :: xs, 0, _, cs, C, n, c, e => by subst e; rfl
  | x :: xs, j + 1, h, cs, C, n, c, e => by
    have ih := ck_set xs j (by simpa using h) cs C n c e
    rw [List.set_cons_succ, pwV_cons, pwV_cons, show (j + 1) * 7 + 3 = (j * 7 + 3) + 1 + 1 + 1 + 1 + 1 + 1 + 1 by omega]
    simp only [pcV, List.cons_append, List.nil_append, List.set_cons_succ, List.getElem_cons_succ, ih]
theorem apart_at {xs : List Pw} (h : Apart xs) {i j : Nat} (hi : i < xs.length) (hj : j < xs.length) (hne : i ≠ j) : ∀ b, ckB xs[i] = some b → ckB xs[j] ≠ some b := by
  rcases Nat.lt_or_ge i j with h1 | h1
  · exact List.pairwise_iff_getElem.1 h i j hi hj h1
  · intro b hb hc
    exact List.pairwise_iff_getElem.1 h j i hj hi (by omega) b hc hb
theorem pces_set (xs : List Pw) (j : Nat) (h : j < xs.length) (cs : List Int) (C : Option Addr) (c : Nat) : pcesOf (xs.set j ⟨{ xs[j].p with chunks := cs }, C, c⟩) = (pcesOf xs).set j { xs[j].p with chunks := cs } := by
  simp [pcesOf, List.map_set]
/-- A manifest one of whose pieces has other chunks. -/
theorem mt_set {w : World} {g : Nat} {xs : List Pw} {ps : List Pce} (hx : pcesOf xs = ps) {j : Nat} (hj : j < ps.length) (hjx : j < xs.length) {cs : List Int} {C : Option Addr} {c : Nat} (hB : Blk w g (pwV (xs.set j ⟨{ xs[j].p with chunks := cs }, C, c⟩)) 35)
    (h1 : CkAt w ⟨{ xs[j].p with chunks := cs }, C, c⟩) (h2 : ∀ i (hi : i < xs.length), i ≠ j → CkAt w xs[i]) (hn : ps.length ≤ 1000) (a1 a2 a3 a4 a5 a6 a7 : Int) : Mt w (some ⟨g, 0, none⟩) ps.length ⟨a1, a2, a3, a4, a5, a6, a7, ps.set j { ps[j] with chunks := cs }⟩ := by
  subst hx
  have e : (pcesOf xs)[j] = xs[j].p := by simp [pcesOf]
  refine ⟨?_, by simp, by unfold maxLen; omega⟩
  dsimp only
  rw [e, ← pces_set xs j hjx cs C c]
  refine pcs_of (Blk.rd hB) fun x hx => ?_
  obtain ⟨i, hi, rfl⟩ := List.mem_iff_getElem.1 hx
  rw [List.length_set] at hi
  by_cases hij : i = j
  · subst hij; rw [List.getElem_set_self]; exact h1
  · rw [List.getElem_set_ne (Ne.symm hij)]; exact h2 i hi hij
theorem rd_short {w : World} {A : Option Addr} {l : List Int} (h : Rd w A (intV l)) (q : Nat) : Rd w A (intV (l.take q)) := by
  rcases h with h | ⟨ad, rfl, hc⟩
  · have : l = [] := by
      cases l with
      | nil => rfl
      | cons a l => simp [intV] at h
    subst this
    exact .inl (by simp [intV])
  · refine .inr ⟨ad, rfl, fun j u hu => hc j u ?_⟩
    rw [intV, List.map_take, ← intV, List.getElem?_take] at hu
    split at hu
    · exact hu
    · cases hu
/-- Copy answered, at one of its pieces. -/
theorem copy_at {w : World} {g : Nat} {xs : List Pw} (hB : Blk w g (pwV xs) 35) {k : Nat} (hk : k < xs.length) : w.cell? ⟨g, k * 7 + 3, none⟩ = some (.slice xs[k].C xs[k].p.chunks.length xs[k].c) := by
  rw [hB.cell, pwV_at xs k hk 3 (by omega)]
  rfl
end Go.Proofs.YtgafjbmpaeejbaaDoor
namespace Go.Proofs.YtgafjbmpaeejbaaDoor
open Go.RowKit

theorem own_put {w : World} {base : Nat} {e : TypeId} {A : Option Addr} {n c k : Nat} {xs : List Value} (h : w.ownsRow base e 1 (.slice A n c) n xs) (hk : k < n) (u : Value) :
    ∃ g, A = some ⟨g, 0, none⟩ ∧ base ≤ g ∧ (∃ v, w.cell? ⟨g, k, none⟩ = some v) ∧ w.frozen? ⟨g, k, none⟩ = false ∧ (w.setCell ⟨g, k, none⟩ u).ownsRow base e 1 (.slice A n c) n (xs.set k u) := by
  rcases h.2 with ⟨hv, hn⟩ | ⟨g, cap, cur, hv, hb, hg, h1, h2, h3, h4⟩
  · omega
  · injection hv with hA hn hc
    subst hA hc
    have hlen : k < cur.size := by omega
    have hg' : (w.setCell ⟨g, k, none⟩ u).heap[g]? = some (.cells (cur.setIfInBounds k u) e (0, 0)) := by simp [World.setCell, Array.getElem?_modify, hg]
    refine ⟨g, rfl, hb, ⟨cur[k], ?_⟩, ?_, by rw [List.length_set]; exact h.1, .inr ⟨g, c, cur.setIfInBounds k u, rfl, hb, hg', h1, h2, by simp [h3], ?_⟩⟩
    · rw [cell_of_row w g k cur e (0, 0) hg, Array.getElem?_eq_getElem hlen]
    · simp [World.frozen?, hg]
    · rw [Array.toList_setIfInBounds, List.take_set, h4]
theorem pth_set : ∀ (xs : List Pw) (j : Nat) (h : j < xs.length) (s : ByteArray), (pwV xs).set (j * 7) (.string s) = pwV (xs.set j ⟨{ xs[j].p with path := s }, xs[j].C, xs[j].c⟩)
  | x :: xs, 0, _, s => rfl
  | x :: xs, j + 1, h, s => by
    have ih := pth_set xs j (by simpa using h) s
    rw [List.set_cons_succ, pwV_cons, pwV_cons, show (j + 1) * 7 = (j * 7) + 1 + 1 + 1 + 1 + 1 + 1 + 1 by omega]
    simp only [pcV, List.cons_append, List.nil_append, List.set_cons_succ, List.getElem_cons_succ, ih]
theorem apart_set {ys : List Pw} (h : Apart ys) {j : Nat} (hj : j < ys.length) (y : Pw) (hy : ckB y = ckB ys[j]) : Apart (ys.set j y) := by
  have f : ∀ i (hi : i < (ys.set j y).length), ckB (ys.set j y)[i] = ckB (ys[i]'(by simpa using hi)) := fun i hi => by
    by_cases hij : i = j
    · subst hij; rw [List.getElem_set_self]; exact hy
    · rw [List.getElem_set_ne (Ne.symm hij)]
  refine List.pairwise_iff_getElem.2 fun a b ha hb hab => ?_
  rw [f a ha, f b hb]
  exact List.pairwise_iff_getElem.1 h a b _ _ hab
/-- The copy, spoilt as may be. -/
def SpSt (base : Nat) (w : World) (g n : Nat) (ys : List Pw) : Prop :=
  ys.length = n ∧ Blk w g (pwV ys) 35 ∧ (∀ x ∈ ys, OwnC base w x) ∧ Apart ys
theorem SpSt.path {base : Nat} {w : World} {g n : Nat} {ys : List Pw} (h : SpSt base w g n ys) {j : Nat} (hj : j < ys.length) (s : ByteArray) :
    SpSt base (w.setCell ⟨g, j * 7, none⟩ (.string s)) g n (ys.set j ⟨{ ys[j].p with path := s }, ys[j].C, ys[j].c⟩) := by
  obtain ⟨h1, h2, h3, h4⟩ := h
  have gs : w.grownBy (w.setCell ⟨g, j * 7, none⟩ (.string s)) (some g) := grown_set _ _
  refine ⟨by rw [List.length_set]; exact h1, ?_, fun x hx => ?_, apart_set h4 hj _ rfl⟩
  · have := h2.set_ (j * 7) (.string s)
    rwa [pth_set ys j hj s] at this
  · rcases List.mem_or_eq_of_mem_set hx with hx | rfl
    · exact row_turn (h3 x hx) gs h2 (by decide)
    · have := row_turn (h3 _ (List.getElem_mem hj)) gs h2 (by decide)
      exact this
theorem SpSt.chunk {base : Nat} {w : World} {g n : Nat} {ys : List Pw} (h : SpSt base w g n ys) {j : Nat} (hj : j < ys.length) {k : Nat} (hk : k < ys[j].p.chunks.length) (z : Int) :
    ∃ b, ys[j].C = some ⟨b, 0, none⟩ ∧ base ≤ b ∧ (∃ v, w.cell? ⟨b, k, none⟩ = some v) ∧ w.frozen? ⟨b, k, none⟩ = false ∧ (∀ (q : Nat) (cs : List Value) (t : TypeId), Blk w q cs t → t ≠ 3 → q ≠ b) ∧
      SpSt base (w.setCell ⟨b, k, none⟩ (.int .i64 z)) g n (ys.set j ⟨{ ys[j].p with chunks := ys[j].p.chunks.set k z }, ys[j].C, ys[j].c⟩) := by
  obtain ⟨h1, h2, h3, h4⟩ := h
  have ho := h3 _ (List.getElem_mem hj)
  obtain ⟨b, hC, hb, hv, hf, hp⟩ := own_put ho hk (.int .i64 z)
  have gs : w.grownBy (w.setCell ⟨b, k, none⟩ (.int .i64 z)) (some b) := grown_set _ _
  have hcb : ckB ys[j] = some b := by unfold ckB; rw [hC]; rfl
  have hne : ∀ (q : Nat) (cs : List Value) (t : TypeId), Blk w q cs t → t ≠ 3 → q ≠ b := by
    rintro q cs t hB ht rfl
    rcases ho.2 with ⟨hv', -⟩ | ⟨g', cap, cur, hv', -, hg', -⟩
    · rw [hC] at hv'; cases hv'
    · rw [hC] at hv'
      injection hv' with e1 _ _
      injection e1 with e1
      injection e1 with e1
      subst e1
      unfold Blk at hB
      rw [hB] at hg'
      injection hg' with hg'
      injection hg' with _ hk' _
      exact ht hk'
  refine ⟨b, hC, hb, hv, hf, hne, by rw [List.length_set]; exact h1, ?_, fun x hx => ?_, apart_set h4 hj _ ?_⟩
  · have h5 := h2.other (hne g _ _ h2 (by decide)) k (.int .i64 z)
    have h6 := ck_set ys j hj (ys[j].p.chunks.set k z) ys[j].C ys[j].p.chunks.length ys[j].c (by simp)
    have h7 : (pwV ys).set (j * 7 + 3) (.slice ys[j].C ys[j].p.chunks.length ys[j].c) = pwV ys := by
      have h8 := pwV_at ys j hj 3 (by omega)
      have h9 : (pwV ys)[j * 7 + 3]? = some (.slice ys[j].C ys[j].p.chunks.length ys[j].c) := by rw [h8]; rfl
      obtain ⟨h10, h11⟩ := List.getElem?_eq_some_iff.1 h9
      rw [← h11, List.set_getElem_self]
    rw [← h6, h7]
    exact h5
  · obtain ⟨i, hi, rfl⟩ := List.mem_iff_getElem.1 hx
    rw [List.length_set] at hi
    by_cases hij : i = j
    · subst hij
      rw [List.getElem_set_self]
      unfold OwnC
      dsimp only
      rw [List.length_set, intV, List.map_set]
      exact hp
    · rw [List.getElem_set_ne (Ne.symm hij)]
      have h9 := h3 _ (List.getElem_mem hi)
      exact h9.kept gs (by
        cases hr : (Value.slice ys[i].C ys[i].p.chunks.length ys[i].c).ownBlock with
        | none => exact .inl rfl
        | some b9 => exact .inr fun e => apart_at h4 hj hi (Ne.symm hij) b9 (hcb.trans e.symm) hr)
  · unfold ckB
    simp
/-- What holds in the outer loop. -/
def SpW (w : World) (base : Nat) (W : World) (g n zc : Nat) (cb ma : List Value) : Prop :=
  ∃ ys, SpSt base W g n ys ∧ Blk W zc cb 24 ∧ Blk W w.heap.size ma 24 ∧ Below w.heap.size w W
/-- What holds in the inner loop. -/
def SpI (w : World) (base : Nat) (W : World) (g n zc : Nat) (cb ma : List Value) (j L : Nat) : Prop :=
  ∃ (ys : List Pw) (h : j < ys.length), ys[j].p.chunks.length = L ∧ SpSt base W g n ys ∧ Blk W zc cb 24 ∧ Blk W w.heap.size ma 24 ∧ Below w.heap.size w W
theorem SpSt.apart {base : Nat} {w : World} {g n : Nat} {ys : List Pw} (h : SpSt base w g n ys) {q : Nat} {cs : List Value} (hB : Blk w q cs 24) : q ≠ g := by
  rintro rfl
  have h1 := h.2.1
  unfold Blk at h1 hB
  rw [h1] at hB
  injection hB with hB
  injection hB with _ h2 _
  exact absurd h2 (by decide)
theorem SpW.path {w : World} {base : Nat} {W : World} {g n zc : Nat} {cb ma : List Value} (h : SpW w base W g n zc cb ma) (hg : w.heap.size ≤ g) {j : Nat} (hj : j < n) (s : ByteArray) :
    (∃ v, W.cell? ⟨g, j * 7, none⟩ = some v) ∧ W.frozen? ⟨g, j * 7, none⟩ = false ∧ ∃ L, SpI w base (W.setCell ⟨g, j * 7, none⟩ (.string s)) g n zc cb ma j L := by
  obtain ⟨ys, hs, hc, hm, hb⟩ := h
  have hjy : j < ys.length := by have := hs.1; omega
  have h8 := pwV_at ys j hjy 0 (by omega)
  refine ⟨⟨.string ys[j].p.path, by rw [hs.2.1.cell]; exact h8⟩, hs.2.1.frozen _, ys[j].p.chunks.length, _, (by rw [List.length_set]; exact hjy), ?_, hs.path hjy s, hc.other (hs.apart hc) _ _, hm.other (hs.apart hm) _ _, hb.setCell (p := ⟨g, j * 7, none⟩) hg _⟩
  rw [List.getElem_set_self]
theorem SpI.cells {w : World} {base : Nat} {W : World} {g n zc : Nat} {cb ma : List Value} {j L : Nat} (h : SpI w base W g n zc cb ma j L) :
    Blk W zc cb 24 ∧ ∃ C c, W.cell? ⟨g, j * 7 + 3, none⟩ = some (.slice C L c) := by
  obtain ⟨ys, hj, rfl, hs, hc, hm, hb⟩ := h
  exact ⟨hc, ys[j].C, ys[j].c, copy_at hs.2.1 hj⟩
theorem SpI.chunk {w : World} {base : Nat} {W : World} {g n zc : Nat} {cb ma : List Value} {j L : Nat} (h : SpI w base W g n zc cb ma j L) (hbase : w.heap.size ≤ base) {t : Nat} (ht : t < L) (z : Int) :
    ∃ b c, W.cell? ⟨g, j * 7 + 3, none⟩ = some (.slice (some ⟨b, 0, none⟩) L c) ∧ (∃ v, W.cell? ⟨b, t, none⟩ = some v) ∧ W.frozen? ⟨b, t, none⟩ = false ∧ SpI w base (W.setCell ⟨b, t, none⟩ (.int .i64 z)) g n zc cb ma j L := by
  obtain ⟨ys, hj, rfl, hs, hc, hm, hb⟩ := h
  obtain ⟨b, hC, hbb, hv, hf, hne, hs'⟩ := hs.chunk hj ht z
  have h3 := copy_at hs.2.1 hj
  rw [hC] at h3
  refine ⟨b, ys[j].c, h3, hv, hf, _, (by rw [List.length_set]; exact hj), ?_, hs', hc.other (hne _ _ _ hc (by decide)) _ _, hm.other (hne _ _ _ hm (by decide)) _ _, hb.setCell (p := ⟨b, t, none⟩) (Nat.le_trans hbase hbb) _⟩
  rw [List.getElem_set_self]
  simp
theorem SpI.len {w : World} {base : Nat} {W : World} {g n zc : Nat} {cb ma : List Value} {j L : Nat} (h : SpI w base W g n zc cb ma j L) : L ≤ 9223372036854775807 := by
  obtain ⟨ys, hj, rfl, hs, -⟩ := h
  obtain ⟨-, h1, h2⟩ := (hs.2.2.1 _ (List.getElem_mem hj)).ck
  unfold maxLen at h2
  omega
theorem SpI.out {w : World} {base : Nat} {W : World} {g n zc : Nat} {cb ma : List Value} {j L : Nat} (h : SpI w base W g n zc cb ma j L) : SpW w base W g n zc cb ma := by
  obtain ⟨ys, hj, -, hs, hc, hm, hb⟩ := h
  exact ⟨ys, hs, hc, hm, hb⟩
theorem mt_copy {w : World} {base g : Nat} {xs : List Pw} {ps : List Pce} (hx : pcesOf xs = ps) (hB : Blk w g (pwV xs) 35) (oc : ∀ x ∈ xs, OwnC base w x) (hn : ps.length ≤ 1000) (a1 a2 a3 a4 a5 a6 a7 : Int) : Mt w (some ⟨g, 0, none⟩) ps.length ⟨a1, a2, a3, a4, a5, a6, a7, ps⟩ := by
  subst hx
  exact ⟨pcs_of (Blk.rd hB) fun x hx => (oc x hx).ck, Nat.le_refl _, by unfold maxLen; omega⟩
end Go.Proofs.YtgafjbmpaeejbaaDoor
