/- The document's own answers for clock: Right, Mine, Tick, Join, Order. -/
import Derived.Test.YtnkkjedckehoaaaDoorCk
namespace Go.Proofs.YtnkkjedckehoaaaDoor
open Go.RowKit

theorem and_bit (n : Int) : bits BinOp.and IntKind.i64 n 1 = n % 2 := by
  show IntKind.i64.wrap ((BitVec.ofInt 64 n &&& BitVec.ofInt 64 1).toNat : Int) = _
  rw [BitVec.toNat_and, show (BitVec.ofInt 64 1).toNat = 1 by decide, Nat.and_one_is_mod, BitVec.toNat_ofInt, IntKind.wrap_i64]
  have e : ((2 ^ 64 : Nat) : Int) = 18446744073709551616 := by decide
  rw [e]
  omega
theorem and_odd (n : Int) : (bits BinOp.and IntKind.i64 n 1 == 1) = odd n := by
  rw [and_bit]
  unfold odd
  rw [Bool.eq_iff_iff]
  simp only [beq_iff_eq, bne_iff_ne]
  omega

set_option maxHeartbeats 1000000 in
theorem rright_any (l r : Int) (w : World) :
    Calls Tryd.prog 45 #[.agg #[.int .i64 l, .int .i64 r]] w fun e w' => e = .returned (.bool (rt l r)) ∧ Below w.heap.size w w' := by
  go_enter Tryd.func45, Tryd.ntmps45
  go_wp2
  all_goals
    go_ret
    refine ⟨?_, ?_⟩
    · refine congrArg (fun b => Ending.returned (.bool b)) ?_
      unfold rt
      rw [Bool.eq_iff_iff]
      simp
      omega
    · go_grown

set_option maxHeartbeats 1000000 in
set_option maxRecDepth 10000 in
theorem rtick_even (l r author : Int) (w : World) (ho : odd author = false) :
    Calls Tryd.prog 40 #[.agg #[.int .i64 l, .int .i64 r], .int .i64 author] w fun e w' => e = .returned (.agg #[.int .i64 (up (cl l) : Nat), .int .i64 (cl r : Nat)]) ∧ Below w.heap.size w w' := by
  have k1 := cl_le l
  have hu := hid (cl_up k1)
  rw [← and_odd] at ho
  go_enter Tryd.func40, Tryd.ntmps40
  go_wp2_with fail
  refine (rfit_any _ _ _).mono ?_
  rintro e w1 ⟨rfl, hb1⟩
  have p1 : Blk w1 w.heap.size [.int .i64 l, .int .i64 r] 35 := ((Blk.new w [.int .i64 l, .int .i64 r] 35).below ((Below.refl _ _).alloc (Nat.le_refl _) (.cells #[.int .i64 0, .int .i64 0] 35))).below hb1
  have q1 := (Blk.new (w.alloc (.cells #[.int .i64 l, .int .i64 r] 35)) [.int .i64 0, .int .i64 0] 35).below hb1
  simp only [World.size_alloc] at q1
  have b1 : Below w.heap.size w w1 := below_al _ (below_al _ hb1)
  have d1 := p1.cell 0
  have d2 := p1.cell 1
  have z1 := p1.frozen 0
  have z2 := p1.frozen 1
  have d3 := q1.cell 0
  have d4 := q1.cell 1
  have z3 := q1.frozen 0
  have z4 := q1.frozen 1
  simp only [List.getElem?_cons_zero, List.getElem?_cons_succ] at d1 d2 d3 d4
  clear hb1
  go_wp2_with fail
  refine (rclamp_any _ _).mono ?_
  rintro e wu ⟨rfl, rfl⟩
  rw [hu.out]
  go_wp2
  refine bodyPost_ret (v := .agg #[.int .i64 (up (cl l) : Nat), .int .i64 (cl r : Nat)]) (by simp [results, Tryd.results40, go_sem, d3, d4]) rfl ⟨rfl, ?_⟩
  go_grown

set_option maxHeartbeats 1000000 in
set_option maxRecDepth 10000 in
theorem rtick_odd (l r author : Int) (w : World) (ho : odd author = true) :
    Calls Tryd.prog 40 #[.agg #[.int .i64 l, .int .i64 r], .int .i64 author] w fun e w' => e = .returned (.agg #[.int .i64 (cl l : Nat), .int .i64 (up (cl r) : Nat)]) ∧ Below w.heap.size w w' := by
  have k1 := cl_le r
  have hu := hid (cl_up k1)
  rw [← and_odd] at ho
  go_enter Tryd.func40, Tryd.ntmps40
  go_wp2_with fail
  refine (rfit_any _ _ _).mono ?_
  rintro e w1 ⟨rfl, hb1⟩
  have p1 : Blk w1 w.heap.size [.int .i64 l, .int .i64 r] 35 := ((Blk.new w [.int .i64 l, .int .i64 r] 35).below ((Below.refl _ _).alloc (Nat.le_refl _) (.cells #[.int .i64 0, .int .i64 0] 35))).below hb1
  have q1 := (Blk.new (w.alloc (.cells #[.int .i64 l, .int .i64 r] 35)) [.int .i64 0, .int .i64 0] 35).below hb1
  simp only [World.size_alloc] at q1
  have b1 : Below w.heap.size w w1 := below_al _ (below_al _ hb1)
  have d1 := p1.cell 0
  have d2 := p1.cell 1
  have z1 := p1.frozen 0
  have z2 := p1.frozen 1
  have d3 := q1.cell 0
  have d4 := q1.cell 1
  have z3 := q1.frozen 0
  have z4 := q1.frozen 1
  simp only [List.getElem?_cons_zero, List.getElem?_cons_succ] at d1 d2 d3 d4
  clear hb1
  go_wp2_with fail
  refine (rclamp_any _ _).mono ?_
  rintro e wu ⟨rfl, hwu⟩
  rw [hu.out]
  have p2 : Blk wu w.heap.size [.int .i64 (cl l : Nat), .int .i64 (cl r : Nat)] 35 := by rw [hwu]; exact (p1.set_ 0 _).set_ 1 _
  have q2 : Blk wu (w.heap.size + 1) [.int .i64 0, .int .i64 0] 35 := by rw [hwu]; exact (q1.other (by omega) 0 _).other (by omega) 1 _
  have b2 : Below w.heap.size w wu := by rw [hwu]; go_grown
  clear hwu d1 d2 d3 d4 z1 z2 z3 z4 p1 q1 b1
  have d1 := p2.cell 0
  have d2 := p2.cell 1
  have z2 := p2.frozen 1
  have d3 := q2.cell 0
  have d4 := q2.cell 1
  have z3 := q2.frozen 0
  have z4 := q2.frozen 1
  simp only [List.getElem?_cons_zero, List.getElem?_cons_succ] at d1 d2 d3 d4
  go_wp2
  refine bodyPost_ret (v := .agg #[.int .i64 (cl l : Nat), .int .i64 (up (cl r) : Nat)]) (by simp [results, Tryd.results40, go_sem, d3, d4]) rfl ⟨rfl, ?_⟩
  go_grown
end Go.Proofs.YtnkkjedckehoaaaDoor
