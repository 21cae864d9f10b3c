/- ClockTurned: the walk. -/
import Derived.Test.YtggaaigeaogghaaCd
namespace Go.Proofs.Ytggaaigeaogghaa
open Go.RowKit

/-- A pair lies there. -/
def PairAt (w : World) (g : Nat) (l r : Int) : Prop := w.cell? ⟨g, 0, none⟩ = some (.int .i64 l) ∧ w.cell? ⟨g, 1, none⟩ = some (.int .i64 r)
theorem PairAt.below {w w' : World} {g : Nat} {l r : Int} (h : PairAt w g l r) (hb : Below w.heap.size w w') : PairAt w' g l r :=
  ⟨(hb.cell (World.block_lt_of_cell? w _ h.1)).trans h.1, (hb.cell (World.block_lt_of_cell? w _ h.2)).trans h.2⟩
theorem PairAt.lt {w : World} {g : Nat} {l r : Int} (h : PairAt w g l r) : g < w.heap.size := World.block_lt_of_cell? w _ h.1
theorem PairAt.new (w : World) (l r : Int) (t : TypeId) : PairAt (w.alloc (.cells #[.int .i64 l, .int .i64 r] t)) w.heap.size l r :=
  ⟨new_cells w t [.int .i64 l, .int .i64 r] 0 _ rfl, new_cells w t [.int .i64 l, .int .i64 r] 1 _ rfl⟩
theorem PairAt.alloc {w : World} {g : Nat} {l r : Int} (h : PairAt w g l r) (o : Obj) : PairAt (w.alloc o) g l r := h.below ((Below.refl _ _).alloc (Nat.le_refl _) o)

theorem below_al {w w' : World} (o : Obj) (h : Below (w.alloc o).heap.size (w.alloc o) w') : Below w.heap.size w w' := below2 ((Below.refl _ _).alloc (Nat.le_refl _) o) h

theorem ordI_turned (a b c d : Nat) : ordI a b c d = ordI b a d c := by unfold ordI; omega

set_option maxHeartbeats 2000000 in
theorem clockTurned_walk (l r l2 r2 : Int) (w : World) :
    Calls Try.prog 8 #[.agg #[.int .i64 l, .int .i64 r], .agg #[.int .i64 l2, .int .i64 r2]] w fun e w' => e = .returned (.bool true) ∧ Below w.heap.size w w' := by
  have k1 := cl_le l
  have k2 := cl_le r
  have k3 := cl_le l2
  have k4 := cl_le r2
  go_enter Try.func8, Try.ntmps8
  go_wp2_with fail
  refine (small_any _).mono ?_
  rintro e w1 ⟨rfl, hb1⟩
  have pp : PairAt w1 (w.heap.size) (l) (r) := by have h := ((PairAt.new w l r 23).alloc (.cells #[.int .i64 l2, .int .i64 r2] 23)).below hb1; (try simp only [World.size_alloc] at h); exact h
  have pq : PairAt w1 (w.heap.size + 1) (l2) (r2) := by have h := (PairAt.new (w.alloc (.cells #[.int .i64 l, .int .i64 r] 23)) l2 r2 23).below hb1; (try simp only [World.size_alloc] at h); exact h
  have b1 : Below w.heap.size w w1 := (below_al _ (below_al _ hb1))
  clear hb1
  have ⟨cpl, cpr⟩ := pp
  go_wp2_with fail
  refine (of_any _ _ _).mono ?_
  rintro e w2 ⟨rfl, hb2⟩
  replace pp := pp.below hb2
  replace pq := pq.below hb2
  have b2 := below2 b1 hb2
  clear b1
  clear hb2
  clear cpl cpr
  have ⟨cql, cqr⟩ := pq
  go_wp2_with fail
  refine (of_any _ _ _).mono ?_
  rintro e w3 ⟨rfl, hb3⟩
  replace pp := pp.below hb3
  replace pq := pq.below hb3
  have b3 := below2 b2 hb3
  clear b2
  clear hb3
  clear cql cqr
  have ⟨cpl, cpr⟩ := pp
  go_wp2_with fail
  refine (of_any _ _ _).mono ?_
  rintro e w4 ⟨rfl, hb4⟩
  replace pp := pp.below hb4
  replace pq := pq.below hb4
  have b4 := below2 b3 hb4
  clear b3
  clear hb4
  clear cpl cpr
  have ⟨cql, cqr⟩ := pq
  go_wp2_with fail
  refine (of_any _ _ _).mono ?_
  rintro e w5 ⟨rfl, hb5⟩
  replace pp := pp.below hb5
  replace pq := pq.below hb5
  have b5 := below2 b4 hb5
  clear b4
  clear hb5
  clear cql cqr
  clear pp pq
  go_wp2_with fail
  refine (join_any k1 k2 k3 k4 _).mono ?_
  rintro e w6 ⟨rfl, hb6⟩
  have b6 := below2 b5 hb6
  clear b5
  clear hb6
  go_wp2_with fail
  refine (pair_clk (Nat.max_le.2 ⟨k1, k3⟩) (Nat.max_le.2 ⟨k2, k4⟩) _).mono ?_
  rintro e w7 ⟨rfl, hb7⟩
  have b7 := below2 b6 hb7
  clear b6
  clear hb7
  go_wp2_with fail
  refine (join_any k2 k1 k4 k3 _).mono ?_
  rintro e w8 ⟨rfl, hb8⟩
  have pj : PairAt w8 (w7.heap.size) ((max (cl l) (cl l2) : Nat)) ((max (cl r) (cl r2) : Nat)) := by have h := (PairAt.new w7 (max (cl l) (cl l2) : Nat) (max (cl r) (cl r2) : Nat) 23).below hb8; (try simp only [World.size_alloc] at h); exact h
  have b8 := below2 b7 (below_al _ hb8)
  clear b7
  clear hb8
  go_wp2_with fail
  refine (pair_clk (Nat.max_le.2 ⟨k2, k4⟩) (Nat.max_le.2 ⟨k1, k3⟩) _).mono ?_
  rintro e w9 ⟨rfl, hb9⟩
  replace pj := pj.below hb9
  have b9 := below2 b8 hb9
  clear b8
  clear hb9
  go_wp2_with fail
  refine (order_any k1 k2 k3 k4 _).mono ?_
  rintro e w10 ⟨rfl, hb10⟩
  replace pj := (pj.alloc (.cells #[.int .i64 (max (cl r) (cl r2) : Nat), .int .i64 (max (cl l) (cl l2) : Nat)] 23)).below hb10
  have pk : PairAt w10 (w9.heap.size) ((max (cl r) (cl r2) : Nat)) ((max (cl l) (cl l2) : Nat)) := by have h := (PairAt.new w9 (max (cl r) (cl r2) : Nat) (max (cl l) (cl l2) : Nat) 23).below hb10; (try simp only [World.size_alloc] at h); exact h
  have b10 := below2 b9 (below_al _ hb10)
  clear b9
  clear hb10
  go_wp2_with fail
  refine (order_any k2 k1 k4 k3 _).mono ?_
  rintro e w11 ⟨rfl, hb11⟩
  replace pj := pj.below hb11
  replace pk := pk.below hb11
  have b11 := below2 b10 hb11
  clear b10
  clear hb11
  rw [← ordI_turned (cl l)]
  have ⟨cjl, cjr⟩ := pj
  have ⟨ckl, ckr⟩ := pk
  go_wp2_with fail
  refine (mine_any k1 k2 0 _).mono ?_
  rintro e w12 ⟨rfl, hb12⟩
  replace pj := pj.below hb12
  replace pk := pk.below hb12
  have b12 := below2 b11 hb12
  clear b11
  clear hb12
  go_wp2_with fail
  refine (mine_any k2 k1 1 _).mono ?_
  rintro e w13 ⟨rfl, hb13⟩
  replace pj := pj.below hb13
  replace pk := pk.below hb13
  have b13 := below2 b12 hb13
  clear b12
  clear hb13
  rw [show mineI (cl l) (cl r) 0 = (cl l : Nat) from rfl, show mineI (cl r) (cl l) 1 = (cl l : Nat) from rfl]
  go_wp2
  go_ret
  exact ⟨rfl, b13⟩
end Go.Proofs.Ytggaaigeaogghaa
