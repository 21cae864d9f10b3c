/- Package scan: Scan. -/
import Derived.Test.YtnkkjedckehoaaaDoorSh
namespace Go.Proofs.YtnkkjedckehoaaaDoor
open Go.RowKit Go.Shelf

attribute [local go_sem] Oper.semAt_some

/-- What Scan answers. -/
def ScanPost (w : World) (es : List Ent) (fs : List Fil) (a : Int) (e : Ending) (w' : World) : Prop :=
  ∃ A' c' B' d', e = .returned (.tuple #[.slice A' (scanA es fs a).length c', .slice B' (scanC es fs a).length d', .int .i64 (scanN es fs a : Nat)]) ∧
    w'.ownsRow w.heap.size 37 5 (.slice A' (scanA es fs a).length c') (scanA es fs a).length (entV (scanA es fs a)) ∧
    w'.ownsRow w.heap.size 9 1 (.slice B' (scanC es fs a).length d') (scanC es fs a).length (strV (scanC es fs a)) ∧ Below w.heap.size w w'
theorem scan_err {w w' : World} {es : List Ent} {fs : List Fil} {a : Int} (k : Nat) (hk : scanN es fs a = k) (h0 : k ≠ 0) (hb : Below w.heap.size w w') : ScanPost w es fs a (.returned (.tuple #[.slice none 0 0, .slice none 0 0, .int .i64 (k : Nat)])) w' := by
  have e1 : scanA es fs a = [] := by unfold scanA; rw [hk, if_neg h0]
  have e2 : scanC es fs a = [] := by unfold scanC; rw [hk, if_neg h0]
  refine ⟨none, 0, none, 0, ?_, ?_, ?_, hb⟩
  · rw [e1, e2, hk]; rfl
  · rw [e1]; exact World.ownsRow_nil _ _ _ _
  · rw [e2]; exact World.ownsRow_nil _ _ _ _

set_option maxRecDepth 100000 in
set_option maxHeartbeats 4000000 in
theorem scan_bad {w : World} {A B : Option Addr} {n c m d : Nat} {es : List Ent} {fs : List Fil} (h : Et w A n c es) (k : Ft w B m d fs) (a : Int) (hbad : (archR es && treeR fs) = false) :
    Calls Tryd.prog 12 #[.slice A n c, .slice B m d, .int .i64 a] w (ScanPost w es fs a) := by
  have HN := hid (scanN_arg (a := a) hbad)
  have b0 : Below w.heap.size w ((((w.alloc (.cells #[.int .i64 a] 3)).alloc (.cells #[.slice none 0 0] 22)).alloc (.cells #[.slice none 0 0] 27)).alloc (.cells #[.int .i64 0] 28)) := ((((Below.refl _ _).alloc (Nat.le_refl _) _).alloc (by simp) _).alloc (by simp; omega) _).alloc (by simp; omega) _
  have p6 := ((Boxed.new (w.alloc (.cells #[.int .i64 a] 3)) 22 (.slice none 0 0)).alloc (.cells #[.slice none 0 0] 27)).alloc (.cells #[.int .i64 0] 28)
  have p7 := (Boxed.new ((w.alloc (.cells #[.int .i64 a] 3)).alloc (.cells #[.slice none 0 0] 22)) 27 (.slice none 0 0)).alloc (.cells #[.int .i64 0] 28)
  have p8 := Boxed.new (((w.alloc (.cells #[.int .i64 a] 3)).alloc (.cells #[.slice none 0 0] 22)).alloc (.cells #[.slice none 0 0] 27)) 28 (.int .i64 0)
  simp only [World.size_alloc] at p6 p7 p8
  have h1 := h.below b0
  have k1 := k.below b0
  clear h k
  go_enter Tryd.func12, Tryd.ntmps12
  go_upto_region 1 with (fail)
  generalize (((w.alloc (.cells #[.int .i64 a] 3)).alloc (.cells #[.slice none 0 0] 22)).alloc (.cells #[.slice none 0 0] 27)).alloc (.cells #[.int .i64 0] 28) = W0 at *
  have c0 := archR_any h1
  cases hR : archR es with
  | false =>
    rw [hR] at c0
    clear hR hbad
    go_wp2_with fail
    refine c0.mono ?_
    rintro e w1 ⟨rfl, hb1⟩
    have b1 := below2 b0 hb1
    have q6 := boxed_below p6 hb1
    have q7 := boxed_below p7 hb1
    have q8 := boxed_below p8 hb1
    clear c0 hb1 b0 p6 p7 p8
    have d6 := q6.cell
    have d7 := q7.cell
    have d8 := q8.cell
    have z6 := q6.frozen
    have z7 := q7.frozen
    have z8 := q8.frozen
    obtain ⟨e6, e7, e8⟩ := res3 q6 q7 q8 (.slice none 0 0) (.slice none 0 0) (.int .i64 1)
    have e6 := e6.cell
    have e7 := e7.cell
    have e8 := e8.cell
    have bz : Below w.heap.size w (((w1.setCell ⟨w.heap.size + 1, 0, none⟩ (.slice none 0 0)).setCell ⟨w.heap.size + 1 + 1, 0, none⟩ (.slice none 0 0)).setCell ⟨w.heap.size + 1 + 1 + 1, 0, none⟩ (.int .i64 1)) := ((b1.setCell (p := ⟨w.heap.size + 1, 0, none⟩) (by show _ ≤ w.heap.size + 1; omega) _).setCell (p := ⟨w.heap.size + 1 + 1, 0, none⟩) (by show _ ≤ w.heap.size + 1 + 1; omega) _).setCell (p := ⟨w.heap.size + 1 + 1 + 1, 0, none⟩) (by show _ ≤ w.heap.size + 1 + 1 + 1; omega) _
    go_wp2
    refine bodyPost_ret (v := .tuple #[.slice none 0 0, .slice none 0 0, .int .i64 1]) (by simp [results, Tryd.results12, go_sem, e6, e7, e8]) rfl (scan_err 1 HN.out (by decide) bz)
  | true =>
    rw [hR] at c0
    have hT : treeR fs = false := by rw [hR, Bool.true_and] at hbad; exact hbad
    clear hR hbad
    go_wp2_with fail
    refine c0.mono ?_
    rintro e w0 ⟨rfl, hb0⟩
    have c1 := tree_any (k1.below hb0)
    rw [hT] at c1
    clear c0 hT
    go_wp2_with fail
    refine c1.mono ?_
    rintro e w1 ⟨rfl, hb2⟩
    have hb1 := below2 hb0 hb2
    have b1 := below2 b0 hb1
    have q6 := boxed_below p6 hb1
    have q7 := boxed_below p7 hb1
    have q8 := boxed_below p8 hb1
    clear c1 hb1 b0 p6 p7 p8 hb0 hb2
    have d6 := q6.cell
    have d7 := q7.cell
    have d8 := q8.cell
    have z6 := q6.frozen
    have z7 := q7.frozen
    have z8 := q8.frozen
    obtain ⟨e6, e7, e8⟩ := res3 q6 q7 q8 (.slice none 0 0) (.slice none 0 0) (.int .i64 1)
    have e6 := e6.cell
    have e7 := e7.cell
    have e8 := e8.cell
    have bz : Below w.heap.size w (((w1.setCell ⟨w.heap.size + 1, 0, none⟩ (.slice none 0 0)).setCell ⟨w.heap.size + 1 + 1, 0, none⟩ (.slice none 0 0)).setCell ⟨w.heap.size + 1 + 1 + 1, 0, none⟩ (.int .i64 1)) := ((b1.setCell (p := ⟨w.heap.size + 1, 0, none⟩) (by show _ ≤ w.heap.size + 1; omega) _).setCell (p := ⟨w.heap.size + 1 + 1, 0, none⟩) (by show _ ≤ w.heap.size + 1 + 1; omega) _).setCell (p := ⟨w.heap.size + 1 + 1 + 1, 0, none⟩) (by show _ ≤ w.heap.size + 1 + 1 + 1; omega) _
    go_wp2
    refine bodyPost_ret (v := .tuple #[.slice none 0 0, .slice none 0 0, .int .i64 1]) (by simp [results, Tryd.results12, go_sem, e6, e7, e8]) rfl (scan_err 1 HN.out (by decide) bz)
end Go.Proofs.YtnkkjedckehoaaaDoor
