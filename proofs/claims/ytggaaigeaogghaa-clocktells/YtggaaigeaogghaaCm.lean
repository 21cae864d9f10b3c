/- The document's own answers for clock: Join, Order. -/
import Derived.Test.YtggaaigeaogghaaCl
namespace Go.Proofs.Ytggaaigeaogghaa
open Go.RowKit

theorem agg_int {a b : Int} {x y : Nat} (h : a = x) (k : b = y) : Value.agg #[.int .i64 a, .int .i64 b] = .agg #[.int .i64 x, .int .i64 y] := by rw [h, k]

set_option maxHeartbeats 2000000 in
set_option maxRecDepth 10000 in
theorem rjoin_any (l r l2 r2 : Int) (w : World) :
    Calls Try.prog 13 #[.agg #[.int .i64 l, .int .i64 r], .agg #[.int .i64 l2, .int .i64 r2]] w fun e w' =>
      e = .returned (.agg #[.int .i64 (max (cl l) (cl l2) : Nat), .int .i64 (max (cl r) (cl r2) : Nat)]) ∧ Below w.heap.size w w' := by
  go_enter Try.func13, Try.ntmps13
  go_wp2_with fail
  refine (rfit_any _ _ _).mono ?_
  rintro e w1 ⟨rfl, hb1⟩
  have p1 : Blk w1 w.heap.size [.int .i64 l, .int .i64 r] 23 := (((Blk.new w [.int .i64 l, .int .i64 r] 23).below ((Below.refl _ _).alloc (Nat.le_refl _) (.cells #[.int .i64 l2, .int .i64 r2] 23))).below ((Below.refl _ _).alloc (Nat.le_refl _) (.cells #[.int .i64 0, .int .i64 0] 23))).below hb1
  have q1 := ((Blk.new (w.alloc (.cells #[.int .i64 l, .int .i64 r] 23)) [.int .i64 l2, .int .i64 r2] 23).below ((Below.refl _ _).alloc (Nat.le_refl _) (.cells #[.int .i64 0, .int .i64 0] 23))).below hb1
  have s1 := (Blk.new ((w.alloc (.cells #[.int .i64 l, .int .i64 r] 23)).alloc (.cells #[.int .i64 l2, .int .i64 r2] 23)) [.int .i64 0, .int .i64 0] 23).below hb1
  simp only [World.size_alloc] at q1 s1
  have b1 : Below w.heap.size w w1 := (below_al _ (below_al _ (below_al _ hb1)))
  clear hb1
  have dp0 := p1.cell 0
  have dp1 := p1.cell 1
  simp only [List.getElem?_cons_zero, List.getElem?_cons_succ] at dp0 dp1
  have zp0 := p1.frozen 0
  have zp1 := p1.frozen 1
  have dq0 := q1.cell 0
  have dq1 := q1.cell 1
  simp only [List.getElem?_cons_zero, List.getElem?_cons_succ] at dq0 dq1
  go_wp2_with fail
  refine (rfit_any _ _ _).mono ?_
  rintro e w2 ⟨rfl, hb2⟩
  have p2 : Blk w2 w.heap.size [.int .i64 (cl l : Nat), .int .i64 (cl r : Nat)] 23 := ((p1.set_ 0 _).set_ 1 _).below hb2
  have q2 := ((q1.other (show w.heap.size + 1 ≠ w.heap.size by omega) 0 _).other (show w.heap.size + 1 ≠ w.heap.size by omega) 1 _).below hb2
  have s2 := ((s1.other (show w.heap.size + 1 + 1 ≠ w.heap.size by omega) 0 _).other (show w.heap.size + 1 + 1 ≠ w.heap.size by omega) 1 _).below hb2
  have b2 : Below w.heap.size w w2 := below2 (b := (w1.setCell ⟨w.heap.size, 0, none⟩ (.int .i64 (cl l : Nat))).setCell ⟨w.heap.size, 1, none⟩ (.int .i64 (cl r : Nat))) (by go_grown) hb2
  clear hb2 dp0 dp1 dq0 dq1 zp0 zp1 p1 q1 b1 s1
  have dp0 := p2.cell 0
  have dp1 := p2.cell 1
  simp only [List.getElem?_cons_zero, List.getElem?_cons_succ] at dp0 dp1
  have dq0 := q2.cell 0
  have dq1 := q2.cell 1
  simp only [List.getElem?_cons_zero, List.getElem?_cons_succ] at dq0 dq1
  have zq0 := q2.frozen 0
  have zq1 := q2.frozen 1
  have ds0 := s2.cell 0
  have ds1 := s2.cell 1
  simp only [List.getElem?_cons_zero, List.getElem?_cons_succ] at ds0 ds1
  have zs0 := s2.frozen 0
  have zs1 := s2.frozen 1
  go_wp2
  all_goals
    refine bodyPost_ret (by simp [results, Try.results13, go_sem, ds0, ds1]; exact ⟨rfl, rfl⟩) rfl ⟨congrArg Ending.returned (agg_int ?_ ?_), ?_⟩
    · omega
    · omega
    · go_grown

set_option maxHeartbeats 2000000 in
set_option maxRecDepth 10000 in
theorem rorder_any (l r l2 r2 : Int) (w : World) :
    Calls Try.prog 21 #[.agg #[.int .i64 l, .int .i64 r], .agg #[.int .i64 l2, .int .i64 r2]] w fun e w' =>
      e = .returned (.int .i64 (ordI (cl l) (cl r) (cl l2) (cl r2))) ∧ Below w.heap.size w w' := by
  go_enter Try.func21, Try.ntmps21
  go_wp2_with fail
  refine (rfit_any _ _ _).mono ?_
  rintro e w1 ⟨rfl, hb1⟩
  have p1 : Blk w1 w.heap.size [.int .i64 l, .int .i64 r] 23 := ((Blk.new w [.int .i64 l, .int .i64 r] 23).below ((Below.refl _ _).alloc (Nat.le_refl _) (.cells #[.int .i64 l2, .int .i64 r2] 23))).below hb1
  have q1 := (Blk.new (w.alloc (.cells #[.int .i64 l, .int .i64 r] 23)) [.int .i64 l2, .int .i64 r2] 23).below hb1
  simp only [World.size_alloc] at q1
  have b1 : Below w.heap.size w w1 := (below_al _ (below_al _ hb1))
  clear hb1
  have dp0 := p1.cell 0
  have dp1 := p1.cell 1
  simp only [List.getElem?_cons_zero, List.getElem?_cons_succ] at dp0 dp1
  have zp0 := p1.frozen 0
  have zp1 := p1.frozen 1
  have dq0 := q1.cell 0
  have dq1 := q1.cell 1
  simp only [List.getElem?_cons_zero, List.getElem?_cons_succ] at dq0 dq1
  go_wp2_with fail
  refine (rfit_any _ _ _).mono ?_
  rintro e w2 ⟨rfl, hb2⟩
  have p2 : Blk w2 w.heap.size [.int .i64 (cl l : Nat), .int .i64 (cl r : Nat)] 23 := ((p1.set_ 0 _).set_ 1 _).below hb2
  have q2 := ((q1.other (show w.heap.size + 1 ≠ w.heap.size by omega) 0 _).other (show w.heap.size + 1 ≠ w.heap.size by omega) 1 _).below hb2
  have b2 : Below w.heap.size w w2 := below2 (b := (w1.setCell ⟨w.heap.size, 0, none⟩ (.int .i64 (cl l : Nat))).setCell ⟨w.heap.size, 1, none⟩ (.int .i64 (cl r : Nat))) (by go_grown) hb2
  clear hb2 dp0 dp1 dq0 dq1 zp0 zp1 p1 q1 b1
  have dp0 := p2.cell 0
  have dp1 := p2.cell 1
  simp only [List.getElem?_cons_zero, List.getElem?_cons_succ] at dp0 dp1
  have dq0 := q2.cell 0
  have dq1 := q2.cell 1
  simp only [List.getElem?_cons_zero, List.getElem?_cons_succ] at dq0 dq1
  have zq0 := q2.frozen 0
  have zq1 := q2.frozen 1
  go_wp2
  all_goals
    go_ret
    refine ⟨ret_int ?_, ?_⟩
    · unfold ordI
      omega
    · go_grown
end Go.Proofs.Ytggaaigeaogghaa
