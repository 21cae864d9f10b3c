/- The text Ga. -/
import Derived.Test.YtgafjbmpaeejbaaDoorQ2
namespace Go.Proofs.YtgafjbmpaeejbaaDoor
open Go.RowKit

set_option maxHeartbeats 4000000 in
set_option maxRecDepth 20000 in
theorem recordReads_walk (s : ByteArray) (w : World) (_ : s.size ≤ 140737488351232) :
    Calls Tryd.prog 4 #[.string s] w fun e w' => e = .returned (.bool true) ∧ Below w.heap.size w w' := by
  have hal : ∀ (W : World) (o : Obj), Below W.heap.size W (W.alloc o) := fun W o => (Below.refl _ _).alloc (Nat.le_refl _) o
  go_enter Tryd.func4, Tryd.ntmps4
  have cc := small12_any (w)
  go_wp2_with fail
  refine cc.mono ?_
  clear cc
  rintro e w1 ⟨rfl, bx⟩
  simp only
  have b1 := bx
  clear bx
  by_cases hmo : (6000 : Int) < s.size
  · go_wp2
    go_ret
    exact ⟨rfl, b1⟩
  have HT : Hid (s.size ≤ 1000000000) := by show _ ≤ _; omega
  have HC : Hid (∀ W : World, Calls Tryd.prog 23 #[.string s] W (ReadPost W (readN L0 s.data.toList) (readA L0 s.data.toList))) := hid fun W => by
    have h := rread12_any s W HT.out
    rw [(rread12_same s).1, (rread12_same s).2] at h
    exact h
  have cc := read12_any s (w1) HT.out
  go_wp2_with fail
  refine cc.mono ?_
  clear cc
  rintro e w2 ⟨A2, c2, rfl, mx, bx⟩
  simp only
  have b2 := below2 b1 bx
  clear bx b1
  generalize readA L0 s.data.toList = ra at *
  generalize readN L0 s.data.toList = rn at *
  rw [show manV ra A2 c2 = .agg #[.int .i64 (ra).author, .int .i64 (ra).version, .int .i64 (ra).prev, .int .i64 (ra).epoch, .int .i64 (ra).next, .int .i64 (ra).seen, .int .i64 (ra).head, .slice A2 (ra).pieces.length c2] from rfl]
  have bx := hal w2 (.cells #[.int .i64 (ra).author, .int .i64 (ra).version, .int .i64 (ra).prev, .int .i64 (ra).epoch, .int .i64 (ra).next, .int .i64 (ra).seen, .int .i64 (ra).head, .slice A2 (ra).pieces.length c2] 24)
  have px := Blk.new w2 [.int .i64 (ra).author, .int .i64 (ra).version, .int .i64 (ra).prev, .int .i64 (ra).epoch, .int .i64 (ra).next, .int .i64 (ra).seen, .int .i64 (ra).head, .slice A2 (ra).pieces.length c2] 24
  replace mx := mx.below bx
  have cc := HC.out (w2.alloc (.cells #[.int .i64 (ra).author, .int .i64 (ra).version, .int .i64 (ra).prev, .int .i64 (ra).epoch, .int .i64 (ra).next, .int .i64 (ra).seen, .int .i64 (ra).head, .slice A2 (ra).pieces.length c2] 24))
  go_wp2_with fail
  refine cc.mono ?_
  clear cc
  have b3 := below2 b2 bx
  clear bx b2
  generalize hgs3 : w2.heap.size = z3 at *
  generalize w2.alloc (.cells #[.int .i64 (ra).author, .int .i64 (ra).version, .int .i64 (ra).prev, .int .i64 (ra).epoch, .int .i64 (ra).next, .int .i64 (ra).seen, .int .i64 (ra).head, .slice A2 (ra).pieces.length c2] 24) = w3 at *
  clear hgs3
  rintro e w4 ⟨A4, c4, rfl, my, bx⟩
  simp only
  replace mx := mx.below bx
  replace px := px.below bx
  have b4 := below2 b3 bx
  clear bx b3
  rw [show manV ra A4 c4 = .agg #[.int .i64 (ra).author, .int .i64 (ra).version, .int .i64 (ra).prev, .int .i64 (ra).epoch, .int .i64 (ra).next, .int .i64 (ra).seen, .int .i64 (ra).head, .slice A4 (ra).pieces.length c4] from rfl]
  have bx := hal w4 (.cells #[.int .i64 (ra).author, .int .i64 (ra).version, .int .i64 (ra).prev, .int .i64 (ra).epoch, .int .i64 (ra).next, .int .i64 (ra).seen, .int .i64 (ra).head, .slice A4 (ra).pieces.length c4] 24)
  have py := Blk.new w4 [.int .i64 (ra).author, .int .i64 (ra).version, .int .i64 (ra).prev, .int .i64 (ra).epoch, .int .i64 (ra).next, .int .i64 (ra).seen, .int .i64 (ra).head, .slice A4 (ra).pieces.length c4] 24
  replace mx := mx.below bx
  replace px := px.below bx
  replace my := my.below bx
  have hrr : (rn == rn) = true := by simp
  have q0 := px.cell 0
  have q1 := px.cell 1
  have q2 := px.cell 2
  have q3 := px.cell 3
  have q4 := px.cell 4
  have q5 := px.cell 5
  have q6 := px.cell 6
  have q7 := px.cell 7
  simp only [List.getElem?_cons_zero, List.getElem?_cons_succ] at q0 q1 q2 q3 q4 q5 q6 q7
  have r0 := py.cell 0
  have r1 := py.cell 1
  have r2 := py.cell 2
  have r3 := py.cell 3
  have r4 := py.cell 4
  have r5 := py.cell 5
  have r6 := py.cell 6
  have r7 := py.cell 7
  simp only [List.getElem?_cons_zero, List.getElem?_cons_succ] at r0 r1 r2 r3 r4 r5 r6 r7
  have cc := rsame_any mx my
  rw [decide_eq_true rfl] at cc
  go_wp2_with fail
  refine cc.mono ?_
  clear cc q0 q1 q2 q3 q4 q5 q6 q7 r0 r1 r2 r3 r4 r5 r6 r7
  have b5 := below2 b4 bx
  clear bx b4
  generalize hgs5 : w4.heap.size = z5 at *
  generalize w4.alloc (.cells #[.int .i64 (ra).author, .int .i64 (ra).version, .int .i64 (ra).prev, .int .i64 (ra).epoch, .int .i64 (ra).next, .int .i64 (ra).seen, .int .i64 (ra).head, .slice A4 (ra).pieces.length c4] 24) = w5 at *
  clear hgs5
  rintro e w6 ⟨rfl, bx⟩
  simp only
  replace mx := mx.below bx
  replace px := px.below bx
  replace my := my.below bx
  replace py := py.below bx
  have b6 := below2 b5 bx
  clear bx b5
  go_wp2
  go_ret
  exact ⟨rfl, b6⟩
end Go.Proofs.YtgafjbmpaeejbaaDoor
