/- The texts Sh, Si, Sj, Tk, in one. -/
import Derived.Test.YtlmccjdpmhancaaGreatDoorP2
namespace Go.Proofs.YtlmccjdpmhancaaGreatDoor
open Go.RowKit Go.Shelf

/-- append of one element, whose value is put into a box. -/
theorem app_gen {W : World} {n₀ B : Nat} {v : Value} {k : Nat} {xs : List Value} {T E : TypeId} {z : Value} {size bytes : Nat} (hT : Tryz.prog.underlying T = some (.slice E)) (hinf : (Tryz.prog.info? E).map (fun i => (i.zero, i.size, i.bytes)) = some (some z, size, bytes)) (hz : z.cells.size = size) (h0 : 0 < size) (hTE : T ≠ E)
    (hv : Boxed W B T v) (hrow : W.ownsRow n₀ E size v k xs) (hn : n₀ ≤ W.heap.size) (hB : n₀ ≤ B) (hk : (k + 1) * bytes ≤ 140737488355328) (hk2 : k + 1 ≤ maxLen) (cs : List Value) (hcs : cs.length = 1 * size) (hc1 : ∀ u ∈ cs, u.oneCell' = true) :
    ∃ A' c' w1, Hid ((Builtin.append_ #[T, T] T #[v, .slice (some ⟨W.heap.size, 0, none⟩) 1 1]).run Tryz.prog (W.alloc (.cells cs.toArray E)) = .ok (.slice A' (k + 1) c') w1) ∧
      w1.cell? ⟨B, 0, none⟩ = some v ∧ w1.frozen? ⟨B, 0, none⟩ = false ∧ Boxed (w1.setCell ⟨B, 0, none⟩ (.slice A' (k + 1) c')) B T (.slice A' (k + 1) c') ∧
      (w1.setCell ⟨B, 0, none⟩ (.slice A' (k + 1) c')).ownsRow n₀ E size (.slice A' (k + 1) c') (k + 1) (xs ++ cs) ∧ KeepsOthers W (w1.setCell ⟨B, 0, none⟩ (.slice A' (k + 1) c')) ∧ Below n₀ W (w1.setCell ⟨B, 0, none⟩ (.slice A' (k + 1) c')) ∧ (W.alloc (.cells cs.toArray E)).grownBy w1 v.ownBlock := by
  obtain ⟨i, hi, hz0, hz1, hz2⟩ := info_parts hinf
  obtain ⟨v', w1, h2, h3, h4, -⟩ := run_append_own (P := Tryz.prog) (W.alloc (.cells cs.toArray E)) n₀ T T E i z size bytes hT hi hz0 hz1 hz2 hz h0 v k xs (hrow.alloc _) ⟨W.heap.size, 0, none⟩ 1 1 cs hcs
    (new_cells W E cs) hc1 hk2 hk (by simp; omega)
  obtain ⟨g', cap', rfl⟩ := ownsRow_succ h3
  obtain ⟨a1, a2, a3, a4, a5⟩ := hv.appended hTE hrow hn hB h3 h4
  exact ⟨_, _, w1, h2, a1.cell, a1.frozen, a2, a3, a4, a5, h4⟩

/-- A tick, as the code tells it. -/
def tkc (l r a : Int) : Nat × Nat := if odd a then (cl l, up (cl r)) else (up (cl l), cl r)
theorem tkc_le (l r a : Int) : (tkc l r a).1 ≤ 1073741824 ∧ (tkc l r a).2 ≤ 1073741824 := by
  unfold tkc
  split
  · exact ⟨cl_le l, up_le _⟩
  · exact ⟨up_le _, cl_le r⟩
theorem tickL_eq (l r a : Int) : tickL l r a = (((tkc l r a).1 : Int), ((tkc l r a).2 : Int)) := by unfold tickL tkc; split <;> rfl
theorem tick_any (l r a : Int) (w : World) :
    Calls Tryz.prog 52 #[.complex .f64 (fl (cl l)) (fl (cl r)), .int .i64 a] w fun e w' => e = .returned (.complex .f64 (fl (tkc l r a).1) (fl (tkc l r a).2)) ∧ Below w.heap.size w w' := by
  unfold tkc
  cases ho : odd a with
  | true => exact tick_odd (cl_le l) (cl_le r) a ho w
  | false => exact tick_even (cl_le l) (cl_le r) a ho w

theorem boxed_kept {W W' : World} {row : Option Nat} {B : Nat} {t : TypeId} {v : Value} (h : Boxed W B t v) (hg : W.grownBy W' row) (hr : ∀ r, row = some r → ∃ o : Obj, W.heap[r]? = some o ∧ o.isCells = false) : Boxed W' B t v :=
  blk_kept (cs := [v]) h hg hr

/-- What Scan holds between two rounds: the author, the three results, what was scanned, what changed. -/
structure ScS (w : World) (a : Int) (q : Nat) (out : List Ent) (ch : List ByteArray) (W : World) : Prop where
  sc : ∃ v, Boxed W q 22 v ∧ W.ownsRow w.heap.size 34 5 v out.length (entV out) ∧ True
  chg : ∃ u, Boxed W (q + 1) 25 u ∧ W.ownsRow w.heap.size 9 1 u ch.length (strV ch) ∧ True
  au : Boxed W w.heap.size 3 (.int .i64 a)
  r6 : Boxed W (w.heap.size + 1) 22 (.slice none 0 0)
  r7 : Boxed W (w.heap.size + 1 + 1) 25 (.slice none 0 0)
  r8 : Boxed W (w.heap.size + 1 + 1 + 1) 26 (.int .i64 0)
  low : Below w.heap.size w W
theorem ScS.grown {w : World} {a : Int} {q : Nat} {out : List Ent} {ch : List ByteArray} {W W' : World} {row : Option Nat} (h : ScS w a q out ch W) (hg : W.grownBy W' row) (hr : ∀ r, row = some r → w.heap.size ≤ r ∧ ∃ o : Obj, W.heap[r]? = some o ∧ o.isCells = false) : ScS w a q out ch W' := by
  have hr' : ∀ r, row = some r → ∃ o : Obj, W.heap[r]? = some o ∧ o.isCells = false := fun r e => (hr r e).2
  exact ⟨holdsRow_own (β := Unit) _ _ _ _ 5 (fun _ => out.length) (fun _ => entV out) (fun _ _ => True) () W W' row h.sc hg hr', holdsRow_own (β := Unit) _ _ _ _ 1 (fun _ => ch.length) (fun _ => strV ch) (fun _ _ => True) () W W' row h.chg hg hr',
    boxed_kept h.au hg hr', boxed_kept h.r6 hg hr', boxed_kept h.r7 hg hr', boxed_kept h.r8 hg hr', ownFrom_below (β := Unit) (Nat.le_refl _) (Nat.le_refl _) () W W' row h.low hg hr⟩
theorem ScS.below {w : World} {a : Int} {q : Nat} {out : List Ent} {ch : List ByteArray} {W W' : World} (h : ScS w a q out ch W) (hb : Below W.heap.size W W') : ScS w a q out ch W' := h.grown (row := none) (grown_below hb) (by simp)
/-- A store into a block that is none of these. -/
theorem ScS.store {w : World} {a : Int} {q : Nat} {out : List Ent} {ch : List ByteArray} {W : World} (h : ScS w a q out ch W) {B : Nat} (hB : q + 1 < B) (hq : w.heap.size + 3 < q) {v : Value} (hv : Boxed W q 22 v) (hne : some B ≠ v.ownBlock) {cs : List Value} (hb : Blk W B cs 34) (i : Nat) (x : Value) : ScS w a q out ch (W.setCell ⟨B, i, none⟩ x) := by
  have hg := grown_set (w := W) (g := B) i x
  obtain ⟨v', hv', hrow, -⟩ := h.sc
  obtain ⟨u, hu, hrow2, -⟩ := h.chg
  obtain rfl : v = v' := by have := hv'.cell; rw [hv.cell] at this; injection this
  have hne2 : some B ≠ u.ownBlock := by
    intro e
    rcases hrow2.2 with ⟨rfl, -⟩ | ⟨g, cap, cur, rfl, -, hh, -⟩
    · cases e
    · injection e with e
      obtain rfl : B = g := e
      unfold Blk at hb
      rw [hb] at hh
      injection hh with hh
      injection hh with _ hh
      exact absurd hh (by decide)
  have k : ∀ {t : TypeId} {y : Value} {C : Nat}, C ≠ B → Boxed W C t y → Boxed (W.setCell ⟨B, i, none⟩ x) C t y := fun hC hb => hb.kept hg (fun e => hC (by injection e))
  exact ⟨⟨v, k (by omega) hv, hrow.kept hg (.inr (Ne.symm hne)), trivial⟩, ⟨u, k (by omega) hu, hrow2.kept hg (.inr (Ne.symm hne2)), trivial⟩, k (by omega) h.au, k (by omega) h.r6, k (by omega) h.r7, k (by omega) h.r8,
    h.low.setCell (p := ⟨B, i, none⟩) (by show w.heap.size ≤ B; omega) x⟩
theorem own_slice {W : World} {base : Nat} {e : TypeId} {sz : Nat} {v : Value} {k : Nat} {xs : List Value} (h : W.ownsRow base e sz v k xs) : ∃ A c, v = .slice A k c := by
  rcases h.2 with ⟨rfl, rfl⟩ | ⟨g, cap, cur, rfl, -⟩
  · exact ⟨none, 0, rfl⟩
  · exact ⟨_, cap, rfl⟩
/-- Rows of unlike elements lie apart. -/
theorem rows_apart {W : World} {b1 b2 : Nat} {e1 e2 : TypeId} {s1 s2 : Nat} {v1 v2 : Value} {k1 k2 : Nat} {xs1 xs2 : List Value} (h : W.ownsRow b1 e1 s1 v1 k1 xs1) (k : W.ownsRow b2 e2 s2 v2 k2 xs2) (hne : e1 ≠ e2) : v1.ownBlock = none ∨ v1.ownBlock ≠ v2.ownBlock := by
  rcases h.2 with ⟨rfl, -⟩ | ⟨g, cap, cur, rfl, -, hh, -⟩
  · exact .inl rfl
  · right
    intro e
    rcases k.2 with ⟨rfl, -⟩ | ⟨g', cap', cur', rfl, -, hh', -⟩
    · cases e
    · injection e with e
      obtain rfl : g = g' := e
      rw [hh] at hh'
      injection hh' with hh'
      injection hh' with _ hh'
      exact hne hh'
theorem boxed_one {W : World} {B : Nat} {t : TypeId} {v v' : Value} (h : Boxed W B t v) (k : Boxed W B t v') : v = v' := by have := k.cell; rw [h.cell] at this; injection this
theorem blk_row {W : World} {base : Nat} {e : TypeId} {sz : Nat} {v : Value} {k : Nat} {xs cs : List Value} {B : Nat} {t : TypeId} (h : W.ownsRow base e sz v k xs) (hB : Blk W B cs t) (hne : t ≠ e) : some B ≠ v.ownBlock := by
  intro e'
  rcases h.2 with ⟨rfl, -⟩ | ⟨g, cap, cur, rfl, -, hh, -⟩
  · cases e'
  · injection e' with e'
    obtain rfl : B = g := e'
    unfold Blk at hB
    rw [hB] at hh
    injection hh with hh
    injection hh with _ hh
    exact hne hh
/-- One more was scanned. -/
theorem ScS.app {w : World} {a : Int} {q : Nat} {out : List Ent} {ch : List ByteArray} {W : World} (h : ScS w a q out ch W) (hq : w.heap.size + 3 < q) (hk : out.length ≤ 1000000) {v : Value} (hv : Boxed W q 22 v) (z : Ent) :
    ∃ A' c' w3, Hid ((Builtin.append_ #[22, 22] 22 #[v, .slice (some ⟨W.heap.size, 0, none⟩) 1 1]).run Tryz.prog (W.alloc (.cells #[.string z.path, .bool z.has, .string z.data, .int .i64 z.l, .int .i64 z.r] 34)) = .ok (.slice A' (out.length + 1) c') w3) ∧
      w3.cell? ⟨q, 0, none⟩ = some v ∧ w3.frozen? ⟨q, 0, none⟩ = false ∧ ScS w a q (out ++ [z]) ch (w3.setCell ⟨q, 0, none⟩ (.slice A' (out.length + 1) c')) ∧ KeepsOthers W (w3.setCell ⟨q, 0, none⟩ (.slice A' (out.length + 1) c')) ∧ Below w.heap.size W (w3.setCell ⟨q, 0, none⟩ (.slice A' (out.length + 1) c')) ∧
      (∀ B cs t, Blk W B cs t → some B ≠ v.ownBlock → Blk w3 B cs t) := by
  obtain ⟨v', hv', hrow, -⟩ := h.sc
  obtain rfl := boxed_one hv hv'
  obtain ⟨u, hu, hrow2, -⟩ := h.chg
  obtain ⟨A', c', w3, hrun, c1, c2, c3, c4, c5, c6, hg⟩ := app_gen (n₀ := w.heap.size) Tryz.underlying22 Tryz.infoE rfl (by decide) (by decide) hv hrow h.low.size (by omega) (by omega) (by unfold maxLen; omega) (eV z) rfl (by intro u hu; exact entV_one [z] u (by simpa [entV] using hu))
  have kb : ∀ B cs t, Blk W B cs t → some B ≠ v.ownBlock → Blk w3 B cs t := fun B cs t hb hne => (hg.block B (by have := hb.lt; simp; omega) hne).trans (Blk.below hb ((Below.refl _ _).alloc (Nat.le_refl _) _))
  have kx : ∀ {t : TypeId} {y : Value} {C : Nat}, t ≠ 34 → C ≠ q → Boxed W C t y → Boxed (w3.setCell ⟨q, 0, none⟩ (.slice A' (out.length + 1) c')) C t y := fun ht hC hb =>
    Boxed.kept (show Boxed w3 _ _ _ from kb _ [_] _ hb (hb.not_row ht hrow)) (grownBy_setCell' _ _ _) (fun e => hC (by injection e))
  refine ⟨A', c', w3, hrun, c1, c2, ⟨⟨_, c3, ?_, trivial⟩, ⟨u, kx (by decide) (by omega) hu, ?_, trivial⟩, kx (by decide) (by omega) h.au, kx (by decide) (by omega) h.r6, kx (by decide) (by omega) h.r7, kx (by decide) (by omega) h.r8, h.low.trans c6⟩, c5, c6, kb⟩
  · simpa [entV] using c4
  · have r1 := (hrow2.alloc (.cells (eV z).toArray 34)).kept hg ((rows_apart hrow2 hrow (by decide)).imp id id)
    exact r1.kept (grownBy_setCell' _ _ _) (.inr (Ne.symm (Boxed.not_row (show Boxed w3 q 22 v from kb q [v] _ hv (hv.not_row (by decide) hrow)) (by decide) r1)))
/-- One more changed. -/
theorem ScS.appS {w : World} {a : Int} {q : Nat} {out : List Ent} {ch : List ByteArray} {W : World} (h : ScS w a q out ch W) (hq : w.heap.size + 3 < q) (hk : ch.length ≤ 1000000) {u : Value} (hu : Boxed W (q + 1) 25 u) (z : ByteArray) :
    ∃ A' c' w3, Hid ((Builtin.append_ #[25, 25] 25 #[u, .slice (some ⟨W.heap.size, 0, none⟩) 1 1]).run Tryz.prog (W.alloc (.cells #[.string z] 9)) = .ok (.slice A' (ch.length + 1) c') w3) ∧
      w3.cell? ⟨q + 1, 0, none⟩ = some u ∧ w3.frozen? ⟨q + 1, 0, none⟩ = false ∧ ScS w a q out (ch ++ [z]) (w3.setCell ⟨q + 1, 0, none⟩ (.slice A' (ch.length + 1) c')) ∧ KeepsOthers W (w3.setCell ⟨q + 1, 0, none⟩ (.slice A' (ch.length + 1) c')) ∧ Below w.heap.size W (w3.setCell ⟨q + 1, 0, none⟩ (.slice A' (ch.length + 1) c')) ∧
      (∀ B cs t, t ≠ 9 → Blk W B cs t → Blk w3 B cs t) := by
  obtain ⟨u', hu', hrow, -⟩ := h.chg
  obtain rfl := boxed_one hu hu'
  obtain ⟨v, hv, hrow2, -⟩ := h.sc
  obtain ⟨A', c', w3, hrun, c1, c2, c3, c4, c5, c6, hg⟩ := app_gen (n₀ := w.heap.size) Tryz.underlying25 Tryz.infoS rfl (by decide) (by decide) hu hrow h.low.size (by omega) (by omega) (by unfold maxLen; omega) [.string z] rfl (by simp [Value.oneCell'])
  have kb : ∀ B cs t, t ≠ 9 → Blk W B cs t → Blk w3 B cs t := fun B cs t ht hb => (hg.block B (by have := hb.lt; simp; omega) (blk_row hrow hb ht)).trans (Blk.below hb ((Below.refl _ _).alloc (Nat.le_refl _) _))
  have kx : ∀ {t : TypeId} {y : Value} {C : Nat}, t ≠ 9 → C ≠ q + 1 → Boxed W C t y → Boxed (w3.setCell ⟨q + 1, 0, none⟩ (.slice A' (ch.length + 1) c')) C t y := fun ht hC hb =>
    Boxed.kept (show Boxed w3 _ _ _ from kb _ [_] _ ht hb) (grownBy_setCell' _ _ _) (fun e => hC (by injection e))
  refine ⟨A', c', w3, hrun, c1, c2, ⟨⟨v, kx (by decide) (by omega) hv, ?_, trivial⟩, ⟨_, c3, ?_, trivial⟩, kx (by decide) (by omega) h.au, kx (by decide) (by omega) h.r6, kx (by decide) (by omega) h.r7, kx (by decide) (by omega) h.r8, h.low.trans c6⟩, c5, c6, kb⟩
  · have r1 := (hrow2.alloc (.cells [Value.string z].toArray 9)).kept hg ((rows_apart hrow2 hrow (by decide)).imp id id)
    exact r1.kept (grownBy_setCell' _ _ _) (.inr (Ne.symm (Boxed.not_row (show Boxed w3 (q + 1) 25 u from kb (q + 1) [u] _ (by decide) hu) (by decide) r1)))
  · simpa [strV] using c4
/-- Three results in their cells. -/
theorem res3 {W : World} {b : Nat} {t6 t7 t8 : TypeId} {a6 a7 a8 : Value} (q6 : Boxed W (b + 1) t6 a6) (q7 : Boxed W (b + 1 + 1) t7 a7) (q8 : Boxed W (b + 1 + 1 + 1) t8 a8) (x y z : Value) :
    Boxed (((W.setCell ⟨b + 1, 0, none⟩ x).setCell ⟨b + 1 + 1, 0, none⟩ y).setCell ⟨b + 1 + 1 + 1, 0, none⟩ z) (b + 1) t6 x ∧ Boxed (((W.setCell ⟨b + 1, 0, none⟩ x).setCell ⟨b + 1 + 1, 0, none⟩ y).setCell ⟨b + 1 + 1 + 1, 0, none⟩ z) (b + 1 + 1) t7 y ∧ Boxed (((W.setCell ⟨b + 1, 0, none⟩ x).setCell ⟨b + 1 + 1, 0, none⟩ y).setCell ⟨b + 1 + 1 + 1, 0, none⟩ z) (b + 1 + 1 + 1) t8 z := by
  have k : ∀ {W : World} {B C : Nat} {t : TypeId} {v u : Value}, C ≠ B → Boxed W C t v → Boxed (W.setCell ⟨B, 0, none⟩ u) C t v := fun hC hb => hb.kept (grownBy_setCell' _ _ _) (fun e => hC (by injection e))
  exact ⟨k (by omega) (k (by omega) (q6.set x)), k (by omega) ((k (by omega) q7).set y), (k (by omega) (k (by omega) q8)).set z⟩
theorem res3_row {W : World} {b : Nat} {t6 t7 t8 : TypeId} {a6 a7 a8 : Value} (q6 : Boxed W (b + 1) t6 a6) (q7 : Boxed W (b + 1 + 1) t7 a7) (q8 : Boxed W (b + 1 + 1 + 1) t8 a8) (x y z : Value) {base : Nat} {e : TypeId} {sz k : Nat} {v : Value} {xs : List Value} (h : W.ownsRow base e sz v k xs) (h6 : t6 ≠ e) (h7 : t7 ≠ e) (h8 : t8 ≠ e) :
    (((W.setCell ⟨b + 1, 0, none⟩ x).setCell ⟨b + 1 + 1, 0, none⟩ y).setCell ⟨b + 1 + 1 + 1, 0, none⟩ z).ownsRow base e sz v k xs := by
  have kk : ∀ {W : World} {B C : Nat} {t : TypeId} {v u : Value}, C ≠ B → Boxed W C t v → Boxed (W.setCell ⟨B, 0, none⟩ u) C t v := fun hC hb => hb.kept (grownBy_setCell' _ _ _) (fun e => hC (by injection e))
  have r1 := h.kept (grownBy_setCell' W (b + 1) x) (.inr (Ne.symm (q6.not_row h6 h)))
  have r2 := r1.kept (grownBy_setCell' _ (b + 1 + 1) y) (.inr (Ne.symm (Boxed.not_row (kk (by omega) q7) h7 r1)))
  exact r2.kept (grownBy_setCell' _ (b + 1 + 1 + 1) z) (.inr (Ne.symm (Boxed.not_row (kk (by omega) (kk (by omega) q8)) h8 r2)))
end Go.Proofs.YtlmccjdpmhancaaGreatDoor
namespace Go.Proofs.YtlmccjdpmhancaaGreatDoor
open Go.RowKit Go.Shelf

attribute [local go_sem] Oper.semAt_some

/-- What Scan answers. -/
def ScanPost (w : World) (es : List Ent) (fs : List Fil) (a : Int) (e : Ending) (w' : World) : Prop :=
  ∃ A' c' B' d', e = .returned (.tuple #[.slice A' (scanA es fs a).length c', .slice B' (scanC es fs a).length d', .int .i64 (scanN es fs a : Nat)]) ∧
    w'.ownsRow w.heap.size 34 5 (.slice A' (scanA es fs a).length c') (scanA es fs a).length (entV (scanA es fs a)) ∧
    w'.ownsRow w.heap.size 9 1 (.slice B' (scanC es fs a).length d') (scanC es fs a).length (strV (scanC es fs a)) ∧ Below w.heap.size w w'
theorem scan_err {w w' : World} {es : List Ent} {fs : List Fil} {a : Int} (k : Nat) (hk : scanN es fs a = k) (h0 : k ≠ 0) (hb : Below w.heap.size w w') : ScanPost w es fs a (.returned (.tuple #[.slice none 0 0, .slice none 0 0, .int .i64 (k : Nat)])) w' := by
  have e1 : scanA es fs a = [] := by unfold scanA; rw [hk, if_neg h0]
  have e2 : scanC es fs a = [] := by unfold scanC; rw [hk, if_neg h0]
  refine ⟨none, 0, none, 0, ?_, ?_, ?_, hb⟩
  · rw [e1, e2, hk]; rfl
  · rw [e1]; exact World.ownsRow_nil _ _ _ _
  · rw [e2]; exact World.ownsRow_nil _ _ _ _

set_option maxRecDepth 100000 in
set_option maxHeartbeats 4000000 in
theorem scan_bad {w : World} {A B : Option Addr} {n c m d : Nat} {es : List Ent} {fs : List Fil} (h : Et w A n c es) (k : Ft w B m d fs) (a : Int) (hbad : (archR es && treeR fs) = false) :
    Calls Tryz.prog 23 #[.slice A n c, .slice B m d, .int .i64 a] w (ScanPost w es fs a) := by
  have HN := hid (scanN_arg (a := a) hbad)
  have b0 : Below w.heap.size w ((((w.alloc (.cells #[.int .i64 a] 3)).alloc (.cells #[.slice none 0 0] 22)).alloc (.cells #[.slice none 0 0] 25)).alloc (.cells #[.int .i64 0] 26)) := ((((Below.refl _ _).alloc (Nat.le_refl _) _).alloc (by simp) _).alloc (by simp; omega) _).alloc (by simp; omega) _
  have p6 := ((Boxed.new (w.alloc (.cells #[.int .i64 a] 3)) 22 (.slice none 0 0)).alloc (.cells #[.slice none 0 0] 25)).alloc (.cells #[.int .i64 0] 26)
  have p7 := (Boxed.new ((w.alloc (.cells #[.int .i64 a] 3)).alloc (.cells #[.slice none 0 0] 22)) 25 (.slice none 0 0)).alloc (.cells #[.int .i64 0] 26)
  have p8 := Boxed.new (((w.alloc (.cells #[.int .i64 a] 3)).alloc (.cells #[.slice none 0 0] 22)).alloc (.cells #[.slice none 0 0] 25)) 26 (.int .i64 0)
  simp only [World.size_alloc] at p6 p7 p8
  have h1 := h.below b0
  have k1 := k.below b0
  clear h k
  go_enter Tryz.func23, Tryz.ntmps23
  go_upto_region 1 with (fail)
  generalize (((w.alloc (.cells #[.int .i64 a] 3)).alloc (.cells #[.slice none 0 0] 22)).alloc (.cells #[.slice none 0 0] 25)).alloc (.cells #[.int .i64 0] 26) = W0 at *
  have c0 := archR_any h1
  cases hR : archR es with
  | false =>
    rw [hR] at c0
    clear hR hbad
    go_wp2_with fail
    refine c0.mono ?_
    rintro e w1 ⟨rfl, hb1⟩
    have b1 := below2 b0 hb1
    have q6 := boxed_below p6 hb1
    have q7 := boxed_below p7 hb1
    have q8 := boxed_below p8 hb1
    clear c0 hb1 b0 p6 p7 p8
    have d6 := q6.cell
    have d7 := q7.cell
    have d8 := q8.cell
    have z6 := q6.frozen
    have z7 := q7.frozen
    have z8 := q8.frozen
    obtain ⟨e6, e7, e8⟩ := res3 q6 q7 q8 (.slice none 0 0) (.slice none 0 0) (.int .i64 1)
    have e6 := e6.cell
    have e7 := e7.cell
    have e8 := e8.cell
    have bz : Below w.heap.size w (((w1.setCell ⟨w.heap.size + 1, 0, none⟩ (.slice none 0 0)).setCell ⟨w.heap.size + 1 + 1, 0, none⟩ (.slice none 0 0)).setCell ⟨w.heap.size + 1 + 1 + 1, 0, none⟩ (.int .i64 1)) := ((b1.setCell (p := ⟨w.heap.size + 1, 0, none⟩) (by show _ ≤ w.heap.size + 1; omega) _).setCell (p := ⟨w.heap.size + 1 + 1, 0, none⟩) (by show _ ≤ w.heap.size + 1 + 1; omega) _).setCell (p := ⟨w.heap.size + 1 + 1 + 1, 0, none⟩) (by show _ ≤ w.heap.size + 1 + 1 + 1; omega) _
    go_wp2
    refine bodyPost_ret (v := .tuple #[.slice none 0 0, .slice none 0 0, .int .i64 1]) (by simp [results, Tryz.results23, go_sem, e6, e7, e8]) rfl (scan_err 1 HN.out (by decide) bz)
  | true =>
    rw [hR] at c0
    have hT : treeR fs = false := by rw [hR, Bool.true_and] at hbad; exact hbad
    clear hR hbad
    go_wp2_with fail
    refine c0.mono ?_
    rintro e w0 ⟨rfl, hb0⟩
    have c1 := tree_any (k1.below hb0)
    rw [hT] at c1
    clear c0 hT
    go_wp2_with fail
    refine c1.mono ?_
    rintro e w1 ⟨rfl, hb2⟩
    have hb1 := below2 hb0 hb2
    have b1 := below2 b0 hb1
    have q6 := boxed_below p6 hb1
    have q7 := boxed_below p7 hb1
    have q8 := boxed_below p8 hb1
    clear c1 hb1 b0 p6 p7 p8 hb0 hb2
    have d6 := q6.cell
    have d7 := q7.cell
    have d8 := q8.cell
    have z6 := q6.frozen
    have z7 := q7.frozen
    have z8 := q8.frozen
    obtain ⟨e6, e7, e8⟩ := res3 q6 q7 q8 (.slice none 0 0) (.slice none 0 0) (.int .i64 1)
    have e6 := e6.cell
    have e7 := e7.cell
    have e8 := e8.cell
    have bz : Below w.heap.size w (((w1.setCell ⟨w.heap.size + 1, 0, none⟩ (.slice none 0 0)).setCell ⟨w.heap.size + 1 + 1, 0, none⟩ (.slice none 0 0)).setCell ⟨w.heap.size + 1 + 1 + 1, 0, none⟩ (.int .i64 1)) := ((b1.setCell (p := ⟨w.heap.size + 1, 0, none⟩) (by show _ ≤ w.heap.size + 1; omega) _).setCell (p := ⟨w.heap.size + 1 + 1, 0, none⟩) (by show _ ≤ w.heap.size + 1 + 1; omega) _).setCell (p := ⟨w.heap.size + 1 + 1 + 1, 0, none⟩) (by show _ ≤ w.heap.size + 1 + 1 + 1; omega) _
    go_wp2
    refine bodyPost_ret (v := .tuple #[.slice none 0 0, .slice none 0 0, .int .i64 1]) (by simp [results, Tryz.results23, go_sem, e6, e7, e8]) rfl (scan_err 1 HN.out (by decide) bz)
end Go.Proofs.YtlmccjdpmhancaaGreatDoor
namespace Go.Proofs.YtlmccjdpmhancaaGreatDoor
open Go.RowKit Go.Shelf

attribute [local go_sem] Oper.semAt_some

theorem outP_more (a : Int) (ps : List (Ent × Ent)) (p : Ent × Ent) : outP a (ps ++ [p]) = outP a ps ++ [newE a p] := by simp [outP]
theorem chgP_more (ps : List (Ent × Ent)) (p : Ent × Ent) : chgP (ps ++ [p]) = chgP ps ++ (if p.2 = p.1 then [] else [p.2.path]) := by
  unfold chgP
  rw [List.filter_append, List.map_append, List.filter_cons, List.filter_nil]
  by_cases h : p.2 = p.1 <;> simp [h]
theorem chgP_len (ps : List (Ent × Ent)) : (chgP ps).length ≤ ps.length := by rw [chgP, List.length_map]; exact List.length_filter_le _ _
theorem okP_more (a : Int) (ps : List (Ent × Ent)) (p : Ent × Ent) (h : okP a ps = true) (hl : ps.length < 32) (hs : stuck a p = false) : okP a (ps ++ [p]) = true := by
  unfold okP at *
  rw [Bool.and_eq_true, decide_eq_true_eq] at *
  refine ⟨by simp; omega, ?_⟩
  rw [List.all_append, h.2]
  simp [hs]
theorem okP_len {a : Int} {ps : List (Ent × Ent)} (h : okP a ps = true) : ps.length ≤ 32 := by
  unfold okP at h
  rw [Bool.and_eq_true, decide_eq_true_eq] at h
  exact h.1
theorem okP_long {a : Int} {ps : List (Ent × Ent)} (h : 32 < ps.length) : okP a ps = false := not_true fun e => by have := okP_len e; omega
theorem okP_stuck {a : Int} {ps : List (Ent × Ent)} {p : Ent × Ent} (hp : p ∈ ps) (h : stuck a p = true) : okP a ps = false := not_true fun e => by
  unfold okP at e
  rw [Bool.and_eq_true, List.all_eq_true] at e
  have := e.2 p hp
  rw [h] at this
  cases this
theorem okP_pre {a : Int} {ps qs : List (Ent × Ent)} (h : ps <+: qs) (hb : okP a ps = false) : okP a qs = false := not_true fun e => by
  obtain ⟨r, rfl⟩ := h
  unfold okP at e hb
  rw [List.all_append, List.length_append, Bool.and_eq_true, Bool.and_eq_true, decide_eq_true_eq] at e
  rw [e.2.1, decide_eq_true (by omega)] at hb
  cases hb
theorem stuck_eq {a : Int} {p : Ent × Ent} {t1 t2 : Nat} (ht : tkc p.1.l p.1.r a = (t1, t2)) (hne : ¬ p.2 = p.1) : stuck a p = (decide ((t1 : Int) = p.1.l) && decide ((t2 : Int) = p.1.r)) := by
  unfold stuck
  rw [tickL_eq, ht, decide_eq_false hne]
  by_cases h1 : (t1 : Int) = p.1.l <;> by_cases h2 : (t2 : Int) = p.1.r <;> simp [h1, h2]
theorem newE_ne {a : Int} {p : Ent × Ent} {t1 t2 : Nat} (ht : tkc p.1.l p.1.r a = (t1, t2)) (hne : ¬ p.2 = p.1) : newE a p = ⟨p.2.path, p.2.has, p.2.data, (t1 : Int), (t2 : Int)⟩ := by unfold newE; rw [if_neg hne, tickL_eq, ht]
theorem newE_eq {a : Int} {p : Ent × Ent} (h : p.2 = p.1) : newE a p = p.2 := by unfold newE; rw [if_pos h]

set_option maxRecDepth 100000 in
set_option maxHeartbeats 8000000 in
theorem scan_good {w : World} {A B : Option Addr} {n c m d : Nat} {es : List Ent} {fs : List Fil} (h : Et w A n c es) (k : Ft w B m d fs) (a : Int) (hgood : (archR es && treeR fs) = true) :
    Calls Tryz.prog 23 #[.slice A n c, .slice B m d, .int .i64 a] w (ScanPost w es fs a) := by
  have HN := hid (scanN_two (a := a) hgood)
  rw [Bool.and_eq_true] at hgood
  have b0 : Below w.heap.size w ((((w.alloc (.cells #[.int .i64 a] 3)).alloc (.cells #[.slice none 0 0] 22)).alloc (.cells #[.slice none 0 0] 25)).alloc (.cells #[.int .i64 0] 26)) := ((((Below.refl _ _).alloc (Nat.le_refl _) _).alloc (by simp) _).alloc (by simp; omega) _).alloc (by simp; omega) _
  have p5 := (((Boxed.new w 3 (.int .i64 a)).alloc (.cells #[.slice none 0 0] 22)).alloc (.cells #[.slice none 0 0] 25)).alloc (.cells #[.int .i64 0] 26)
  have p6 := ((Boxed.new (w.alloc (.cells #[.int .i64 a] 3)) 22 (.slice none 0 0)).alloc (.cells #[.slice none 0 0] 25)).alloc (.cells #[.int .i64 0] 26)
  have p7 := (Boxed.new ((w.alloc (.cells #[.int .i64 a] 3)).alloc (.cells #[.slice none 0 0] 22)) 25 (.slice none 0 0)).alloc (.cells #[.int .i64 0] 26)
  have p8 := Boxed.new (((w.alloc (.cells #[.int .i64 a] 3)).alloc (.cells #[.slice none 0 0] 22)).alloc (.cells #[.slice none 0 0] 25)) 26 (.int .i64 0)
  simp only [World.size_alloc] at p6 p7 p8
  have h1 := h.below b0
  have k1 := k.below b0
  have c0 := archR_any h1
  rw [hgood.1] at c0
  have c1 : ∀ W, Below _ _ W → _ := fun W hW => tree_any (k1.below hW)
  rw [hgood.2] at c1
  have hr := h.rd
  have hl := h.len
  have hn := h.big
  have hcap := h.cap
  have hr2 := k.rd
  have hl2 := k.len
  have hcap2 := k.cap
  have HS := hid (both_sz (fs := fs) (es := es) h.sz k.sz)
  clear h k h1 k1 hgood
  refine (callsIn_wide (n := 3)).1 ?_
  refine callsIn_of_wp_marks Tryz.func23 rfl trivial ?_ rfl
  simp only [Tryz.ntmps23, List.size_toArray, List.length_cons, List.length_nil, Nat.reduceAdd, Nat.reduceSub, Array.replicate_succ, Array.replicate_zero, List.push_toArray, List.append_toArray, List.nil_append, List.cons_append]
  gi_wp2_with (first
    | (refine ⟨trivial, ?_⟩; gi_at_call 24; refine (callsIn_wide.2 c0).mono ?_; rintro e w1 ⟨rfl, hb1⟩)
    | (refine ⟨trivial, ?_⟩; gi_at_call 42; refine (callsIn_wide.2 (c1 _ hb1)).mono ?_; rintro e w2 ⟨rfl, hb2⟩)
    | (refine ⟨trivial, ?_⟩; gi_at_call 56; refine (callsIn_wide.2 (both_any A B n c m d _)).mono ?_; rintro e w3 ⟨rfl, rfl⟩))
  have q5 := (((((boxed_below (boxed_below p5 hb1) hb2).alloc (.cells #[.slice none 0 0] 22)).alloc (.cells #[.slice none 0 0] 25)).alloc (.cells #[.slice A n c] 22)).alloc (.cells #[.slice B m d] 36))
  have q6 := (((((boxed_below (boxed_below p6 hb1) hb2).alloc (.cells #[.slice none 0 0] 22)).alloc (.cells #[.slice none 0 0] 25)).alloc (.cells #[.slice A n c] 22)).alloc (.cells #[.slice B m d] 36))
  have q7 := (((((boxed_below (boxed_below p7 hb1) hb2).alloc (.cells #[.slice none 0 0] 22)).alloc (.cells #[.slice none 0 0] 25)).alloc (.cells #[.slice A n c] 22)).alloc (.cells #[.slice B m d] 36))
  have q8 := (((((boxed_below (boxed_below p8 hb1) hb2).alloc (.cells #[.slice none 0 0] 22)).alloc (.cells #[.slice none 0 0] 25)).alloc (.cells #[.slice A n c] 22)).alloc (.cells #[.slice B m d] 36))
  have hq3 := (boxed_below (boxed_below p8 hb1) hb2).lt
  have hlow := below2 (below2 b0 hb1) hb2
  have q9 := ((Boxed.new w2 22 (.slice none 0 0)).alloc (.cells #[.slice none 0 0] 25)).alloc (.cells #[.slice A n c] 22) |>.alloc (.cells #[.slice B m d] 36)
  have q10 := ((Boxed.new (w2.alloc (.cells #[.slice none 0 0] 22)) 25 (.slice none 0 0)).alloc (.cells #[.slice A n c] 22)).alloc (.cells #[.slice B m d] 36)
  have qL := (Boxed.new ((w2.alloc (.cells #[.slice none 0 0] 22)).alloc (.cells #[.slice none 0 0] 25)) 22 (.slice A n c)).alloc (.cells #[.slice B m d] 36)
  have qT := Boxed.new (((w2.alloc (.cells #[.slice none 0 0] 22)).alloc (.cells #[.slice none 0 0] 25)).alloc (.cells #[.slice A n c] 22)) 36 (.slice B m d)
  simp only [World.size_alloc] at q10 qL qT
  have hL0 : Below w.heap.size w ((((w2.alloc (.cells #[.slice none 0 0] 22)).alloc (.cells #[.slice none 0 0] 25)).alloc (.cells #[.slice A n c] 22)).alloc (.cells #[.slice B m d] 36)) := (((hlow.alloc hlow.size _).alloc (by have := hlow.size; simp; omega) _).alloc (by have := hlow.size; simp; omega) _).alloc (by have := hlow.size; simp; omega) _
  have hs0 : ((((w2.alloc (.cells #[.slice none 0 0] 22)).alloc (.cells #[.slice none 0 0] 25)).alloc (.cells #[.slice A n c] 22)).alloc (.cells #[.slice B m d] 36)).heap.size = w2.heap.size + 4 := by simp
  obtain ⟨W0, hW0⟩ : ∃ W0, (((w2.alloc (.cells #[.slice none 0 0] 22)).alloc (.cells #[.slice none 0 0] 25)).alloc (.cells #[.slice A n c] 22)).alloc (.cells #[.slice B m d] 36) = W0 := ⟨_, rfl⟩
  rw [hW0] at q5 q6 q7 q8 q9 q10 qL qT hL0 hs0 ⊢
  have hq : w.heap.size + 3 < w2.heap.size := by omega
  clear hW0 hq3 hlow hb1 hb2 p5 p6 p7 p8 b0 c0 c1
  generalize w2.heap.size = q at *
  have st0 : ScS w a q (outP a []) (chgP []) W0 := ⟨⟨_, q9, World.ownsRow_nil _ _ _ _, trivial⟩, ⟨_, q10, World.ownsRow_nil _ _ _ _, trivial⟩, q5, q6, q7, q8, hL0⟩
  clear q5 q6 q7 q8 q9 q10
  refine wpIn_rangeFunc_ownH rfl (by omega) (gf := 92) (lb := #[.pointer (some ⟨q + 1 + 1, 0, none⟩), .pointer (some ⟨q + 1 + 1 + 1, 0, none⟩)]) rfl trivial (enters_of Tryz.func92 (by kernel_rfl) rfl)
    (both_stops _ (by omega) (q + 1 + 1) (q + 1 + 1 + 1) w W0 A B n c m d es fs hl hr hcap hl2 hr2 hcap2 HS.out qL.lt qL.cell qT.lt qT.cell hL0) belowK_t (belowK_b (by omega)) (Below.refl _ _) (fun _ => rfl)
    (fun (pre : List S2) W => ScS w a q (outP a (pre.map (·.1))) (chgP (pre.map (·.1))) W ∧ Hid (okP a (pre.map (·.1)) = true))
    (fun cd (pre : List S2) W => cd = .ret ∧ Hid (okP a (pre.map (·.1)) = false) ∧ Boxed W (w.heap.size + 1) 22 (.slice none 0 0) ∧ Boxed W (w.heap.size + 1 + 1) 25 (.slice none 0 0) ∧ Boxed W (w.heap.size + 1 + 1 + 1) 26 (.int .i64 2) ∧ Below w.heap.size w W)
    (fun _ _ _ row hs hg hr => ⟨hs.1.grown hg (fun r e => ⟨by have := (hr r e).1; omega, (hr r e).2⟩), hs.2⟩)
    (fun cd s X Y row hs hg hr => ⟨hs.1, hs.2.1, boxed_kept hs.2.2.1 hg (fun r e => (hr r e).2), boxed_kept hs.2.2.2.1 hg (fun r e => (hr r e).2), boxed_kept hs.2.2.2.2.1 hg (fun r e => (hr r e).2), ownFrom_below (β := Unit) (Nat.le_refl _) (by omega) () X Y row hs.2.2.2.2.2 hg hr⟩)
    ⟨st0, by simp [Hid, okP]⟩
    (fun x a' W => ∃ Bw Bi v', q + 1 < Bw ∧ q + 1 < Bi ∧ Bw ≠ Bi ∧ Blk W Bw [.string x.1.1.path, .bool x.1.1.has, .string x.1.1.data, .int .i64 x.1.1.l, .int .i64 x.1.1.r] 34 ∧ Blk W Bi [.string x.1.2.path, .bool x.1.2.has, .string x.1.2.data, .int .i64 x.1.2.l, .int .i64 x.1.2.r] 34 ∧ Boxed W q 22 v' ∧ some Bi ≠ v'.ownBlock ∧
      a' = { tmps := #[.slice A n c, .slice B m d, .int .i64 a, undef, undef, .pointer (some ⟨w.heap.size, 0, none⟩), .pointer (some ⟨w.heap.size + 1, 0, none⟩), .pointer (some ⟨w.heap.size + 1 + 1, 0, none⟩), .pointer (some ⟨w.heap.size + 1 + 1 + 1, 0, none⟩), .pointer (some ⟨q, 0, none⟩), .pointer (some ⟨q + 1, 0, none⟩), .pointer (some ⟨Bw, 0, none⟩), .pointer (some ⟨Bi, 0, none⟩), .slice A n c, .bool true, .bool false, .bool false, .slice B m d, .bool true, .bool false, .bool false, .slice A n c, .slice B m d, .func (.func 92) #[] #[.pointer (some ⟨q + 1 + 1, 0, none⟩), .pointer (some ⟨q + 1 + 1 + 1, 0, none⟩)], eA x.1.1, eA x.1.2, undef, undef, undef, undef, undef, undef, undef, undef, undef, undef, undef, undef, undef, undef, undef, undef, undef, undef, undef, undef, undef, undef, undef, undef, undef, undef, undef, undef, undef, undef, undef], defers := [] })
    (fun x a' _ X Y row hs hg hr => by obtain ⟨Bw, Bi, v', h1, h2, h3, h4, h5, h6, h7⟩ := hs; exact ⟨Bw, Bi, v', h1, h2, h3, blk_kept h4 hg (fun r e => (hr r e).2), blk_kept h5 hg (fun r e => (hr r e).2), boxed_kept h6 hg (fun r e => (hr r e).2), h7⟩)
    ?assign ?body ?done ?stop
  case assign =>
    rintro l pre x W K ⟨hS, HO⟩ hK
    obtain ⟨v, hv, hrow, -⟩ := hS.sc
    obtain ⟨u, hu, -⟩ := hS.chg
    have hb1 : Below W.heap.size W ((W.alloc (.cells #[.string x.1.1.path, .bool x.1.1.has, .string x.1.1.data, .int .i64 x.1.1.l, .int .i64 x.1.1.r] 34)).alloc (.cells #[.string x.1.2.path, .bool x.1.2.has, .string x.1.2.data, .int .i64 x.1.2.l, .int .i64 x.1.2.r] 34)) := ((Below.refl _ _).alloc (Nat.le_refl _) _).alloc (by simp) _
    have bI := Blk.new (W.alloc (.cells #[.string x.1.1.path, .bool x.1.1.has, .string x.1.1.data, .int .i64 x.1.1.l, .int .i64 x.1.1.r] 34)) [.string x.1.2.path, .bool x.1.2.has, .string x.1.2.data, .int .i64 x.1.2.l, .int .i64 x.1.2.r] 34
    rw [World.size_alloc] at bI
    gi_wp2
    exact hK _ _ ((keeps_below hb1).from _) (hb1.mono hS.low.size) ⟨hS.below hb1, HO⟩ ⟨W.heap.size, W.heap.size + 1, v, hu.lt, by have := hu.lt; omega, by omega, (Blk.new W _ _).below ((Below.refl _ _).alloc (Nat.le_refl _) _), bI, boxed_below hv hb1, fun e => by have := (hrow.lt _ e.symm).2; omega, rfl⟩
  case body =>
    rintro l pre ⟨⟨was, is⟩, hx⟩ a' W hl ⟨r, hr⟩ ⟨hS, HO⟩ ⟨Bw, Bi, v', hBw, hBi, hBB, bW, bI, hv', hne, rfl⟩ hlt
    simp only at bW bI hx
    obtain ⟨v, hv, hrow, -⟩ := hS.sc
    obtain rfl := boxed_one hv hv'
    obtain ⟨Av, cv, rfl⟩ := own_slice hrow
    have HOUT := hid (outP_more a (pre.map (·.1)) (was, is))
    have HCH := hid (chgP_more (pre.map (·.1)) (was, is))
    have HOK := hid (okP_more a (pre.map (·.1)) (was, is) HO.out)
    have HK : Hid ((outP a (pre.map (·.1))).length = pre.length) := by simp [Hid, outP]
    have HMAP : Hid ((pre ++ [(⟨(was, is), hx⟩ : S2)]).map (·.1) = pre.map (·.1) ++ [(was, is)]) := by simp [Hid]
    have HLEN : Hid (pre.length ≤ 32) := by have := okP_len HO.out; rw [List.length_map] at this; exact this
    have HCL : Hid ((chgP (pre.map (·.1))).length ≤ pre.length) := by have := chgP_len (pre.map (·.1)); rw [List.length_map] at this; exact this
    have HST : Hid (stuck a (was, is) = true → okP a (pre.map (·.1) ++ [(was, is)]) = false) := fun h => okP_stuck (by simp) h
    have HLONG : Hid (pre.length = 32 → okP a (pre.map (·.1) ++ [(was, is)]) = false) := fun h => okP_long (by simp; omega)
    clear HO
    generalize outP a (pre.map (·.1)) = out at *
    generalize chgP (pre.map (·.1)) = ch at *
    have d9 := hv.cell
    have d6 := hS.r6.cell
    have d7 := hS.r7.cell
    have d8 := hS.r8.cell
    have z6 := hS.r6.frozen
    have z7 := hS.r7.frozen
    have z8 := hS.r8.frozen
    by_cases h32 : out.length = 32
    · obtain ⟨e6, e7, e8⟩ := res3 hS.r6 hS.r7 hS.r8 (.slice none 0 0) (.slice none 0 0) (.int .i64 2)
      have bz := ((hS.low.setCell (p := ⟨w.heap.size + 1, 0, none⟩) (by show _ ≤ w.heap.size + 1; omega) (.slice none 0 0)).setCell (p := ⟨w.heap.size + 1 + 1, 0, none⟩) (by show _ ≤ w.heap.size + 1 + 1; omega) (.slice none 0 0)).setCell (p := ⟨w.heap.size + 1 + 1 + 1, 0, none⟩) (by show _ ≤ w.heap.size + 1 + 1 + 1; omega) (.int .i64 2)
      have HBAD : Hid (okP a ((pre ++ [(⟨(was, is), hx⟩ : S2)]).map (·.1)) = false) := by show _ = _; rw [HMAP.out]; exact HLONG.out (by rw [← HK.out]; exact h32)
      rw [h32] at d9
      clear hS hrow hv hv'
      gi_wp2
      exact ⟨(((KeepsOthers.setCell _ _ _).trans (KeepsOthers.setCell _ _ _)).trans (KeepsOthers.setCell _ _ _)).from _, rfl, HBAD, e6, e7, e8, bz⟩
    · have h32' : ¬ (out.length : Int) = 32 := by omega
      have HLT : Hid (pre.length < 32) := by have h1 := HLEN.out; have h2 := HK.out; show _ < _; omega
      have w0 := bW.cell 0
      have w1 := bW.cell 1
      have w2 := bW.cell 2
      have w3 := bW.cell 3
      have w4 := bW.cell 4
      have i0 := bI.cell 0
      have i1 := bI.cell 1
      have i2 := bI.cell 2
      have i3 := bI.cell 3
      have i4 := bI.cell 4
      simp only [List.getElem?_cons_zero, List.getElem?_cons_succ] at w0 w1 w2 w3 w4 i0 i1 i2 i3 i4
      have hnq := neqE is was
      by_cases heq : is = was
      · rw [decide_eq_true heq] at hnq
        have HOK2 : Hid (okP a ((pre ++ [(⟨(was, is), hx⟩ : S2)]).map (·.1)) = true) := by
          show _ = _
          rw [HMAP.out]
          exact HOK.out (by rw [List.length_map]; exact HLT.out) (by unfold stuck; rw [decide_eq_true heq]; rfl)
        have HOUT2 : Hid (outP a ((pre ++ [(⟨(was, is), hx⟩ : S2)]).map (·.1)) = out ++ [is]) := by show _ = _; rw [HMAP.out, HOUT.out, newE_eq heq]
        have HCH2 : Hid (chgP ((pre ++ [(⟨(was, is), hx⟩ : S2)]).map (·.1)) = ch) := by show _ = _; rw [HMAP.out, HCH.out, if_pos heq, List.append_nil]
        have hz : SzE is := hx
        clear heq HOK HOUT HCH HST HLONG d6 d7 d8 z6 z7 z8 hrow
        gi_wp2
        clear w0 w1 w2 w3 w4 i0 i1 i2 i3 i4 bW
        obtain ⟨z, rfl⟩ : ∃ z, z = is := ⟨_, rfl⟩
        have kp0 := KeepsOthers.refl W
        have bl0 := Below.refl w.heap.size W
        have j0 := bI.cell 0
        have j1 := bI.cell 1
        have j2 := bI.cell 2
        have j3 := bI.cell 3
        have j4 := bI.cell 4
        simp only [List.getElem?_cons_zero, List.getElem?_cons_succ] at j0 j1 j2 j3 j4
        have d9 := hv.cell
        refine in_round (S := fun w' => w'.cell? ⟨Bi, 0, none⟩ = some (.string z.path) ∧ w'.cell? ⟨Bi, 1, none⟩ = some (.bool z.has) ∧ w'.cell? ⟨Bi, 2, none⟩ = some (.string z.data) ∧ w'.cell? ⟨Bi, 3, none⟩ = some (.int .i64 z.l) ∧ w'.cell? ⟨Bi, 4, none⟩ = some (.int .i64 z.r)) (by kernel_rfl) (by kernel_rfl) (by rintro ⟨_, _, h⟩; exact h) ⟨j0, j1, j2, j3, j4⟩ (fun hHeld => ?_)
        refine wpAnyH_take (i := 1) (oi := ⟨_, _, _, _, _, _⟩) (v := ?_) rfl (by kernel_rfl) (by kernel_rfl) (by kernel_rfl) (fun _ _ _ h => h) (Or.inl ⟨by rfl, ?_⟩) (by assumption) ?_
        rotate_left
        · intro w hSw; (try dsimp only at hSw); go_simp; (try (with_reducible rfl))
        try simp only [Act.put, List.setIfInBounds_toArray, List.set_cons_zero, List.set_cons_succ]
        refine wpAnyH_ready (rs := [0, 2]) (by kernel_rfl) (by simp) ?_
        refine AllReadyH.cons (o := ⟨_, _, _, _, _, _⟩) rfl (fun K hK => ?_) (AllReadyH.cons (o := ⟨_, _, _, _, _, _⟩) rfl (fun K hK => ?_) (AllReadyH.nil))
        · go_simp
          refine hK.out _ _ ⟨j0, j1, j2, j3, j4⟩ (fun hHeld => ?_)
          clear hK K
          try simp only [Act.put, List.setIfInBounds_toArray, List.set_cons_zero, List.set_cons_succ]
          refine wpAnyH_ready (rs := [2]) (by kernel_rfl) (by simp) ?_
          refine AllReadyH.cons (o := ⟨_, _, _, _, _, _⟩) rfl (fun K hK => ?_) (AllReadyH.nil)
          go_simp
          refine (eanew_any z _ (by have := hz.1; omega) (by have := hz.2; omega)).mono ?_
          rintro e W1 ⟨rfl, hb2⟩
          have b2 := below_undrew hb2
          have S2' := hS.below b2
          have hv2 := boxed_below hv b2
          have bI2 := bI.below b2
          have q2 := hv2.cell
          have m0 := bI2.cell 0
          have m1 := bI2.cell 1
          have m2 := bI2.cell 2
          have m3 := bI2.cell 3
          have m4 := bI2.cell 4
          simp only [List.getElem?_cons_zero, List.getElem?_cons_succ] at m0 m1 m2 m3 m4
          refine hK.out _ _ ⟨m0, m1, m2, m3, m4⟩ (fun hHeld => ?_)
          clear hK K
          try simp only [Act.put, List.setIfInBounds_toArray, List.set_cons_zero, List.set_cons_succ]
          refine wpAnyH_ready (rs := [3]) (by kernel_rfl) (by simp) ?_
          refine AllReadyH.cons (o := ⟨_, _, _, _, _, _⟩) rfl (fun K hK => ?_) (AllReadyH.nil)
          go_simp
          obtain ⟨A', c', w3, HRUN, c1, c2, c3, c5, c6, kb⟩ := S2'.app hq (by have h1 := HLEN.out; have h2 := HK.out; omega) hv2 z
          have hv3 := hv2.alloc (.cells #[.string z.path, .bool z.has, .string z.data, .int .i64 z.l, .int .i64 z.r] 34)
          have bI3 := bI2.below ((Below.refl _ _).alloc (Nat.le_refl _) (.cells #[.string z.path, .bool z.has, .string z.data, .int .i64 z.l, .int .i64 z.r] 34))
          have q3 := hv3.cell
          have o0 := bI3.cell 0
          have o1 := bI3.cell 1
          have o2 := bI3.cell 2
          have o3 := bI3.cell 3
          have o4 := bI3.cell 4
          simp only [List.getElem?_cons_zero, List.getElem?_cons_succ] at o0 o1 o2 o3 o4
          refine hK.out _ _ ⟨o0, o1, o2, o3, o4⟩ (fun hHeld => ?_)
          clear hK K
          try simp only [Act.put, List.setIfInBounds_toArray, List.set_cons_zero, List.set_cons_succ]
          have bI5 := kb Bi _ _ bI2 hne
          have bI6 := bI5.other (show Bi ≠ q by omega) 0 (.slice A' (out.length + 1) c')
          have y0 := bI5.cell 0
          have y1 := bI5.cell 1
          have y2 := bI5.cell 2
          have y3 := bI5.cell 3
          have y4 := bI5.cell 4
          simp only [List.getElem?_cons_zero, List.getElem?_cons_succ] at y0 y1 y2 y3 y4
          have x0 := bI6.cell 0
          have x1 := bI6.cell 1
          have x2 := bI6.cell 2
          have x3 := bI6.cell 3
          have x4 := bI6.cell 4
          simp only [List.getElem?_cons_zero, List.getElem?_cons_succ] at x0 x1 x2 x3 x4
          refine wpAnyH_ready (rs := [4]) (by kernel_rfl) (by simp) ?_
          refine AllReadyH.cons (o := ⟨_, _, _, _, _, _⟩) rfl (fun K hK => ?_) (AllReadyH.nil)
          refine stepApp2 (by rfl) (.tmp 50) (.tmp 53) 22 rfl _ _ _ rfl rfl HRUN.out ?_
          refine hK.out _ _ ⟨y0, y1, y2, y3, y4⟩ (fun hHeld => ?_)
          clear hK K
          try simp only [Act.put, List.setIfInBounds_toArray, List.set_cons_zero, List.set_cons_succ]
          refine wpAnyH_ready (rs := [5]) (by kernel_rfl) (by simp) ?_
          refine AllReadyH.cons (o := ⟨_, _, _, _, _, _⟩) rfl (fun K hK => ?_) (AllReadyH.nil)
          go_simp
          refine hK.out _ _ ⟨x0, x1, x2, x3, x4⟩ (fun hHeld => ?_)
          clear hK K
          try simp only [Act.put, List.setIfInBounds_toArray, List.set_cons_zero, List.set_cons_succ]
          refine wpAnyH_done (by kernel_rfl) ?_ _
          have kp := kp0.trans ((keeps_below b2).trans c5)
          have bl := bl0.trans ((b2.mono hS.low.size).trans c6)
          exact ⟨kp.from _, bl, by rw [HOUT2.out, HCH2.out]; exact c3, HOK2⟩
        · go_simp
          refine (eanew_any z _ (by have := hz.1; omega) (by have := hz.2; omega)).mono ?_
          rintro e W1 ⟨rfl, hb2⟩
          have b2 := below_undrew hb2
          have S2' := hS.below b2
          have hv2 := boxed_below hv b2
          have bI2 := bI.below b2
          have q2 := hv2.cell
          have m0 := bI2.cell 0
          have m1 := bI2.cell 1
          have m2 := bI2.cell 2
          have m3 := bI2.cell 3
          have m4 := bI2.cell 4
          simp only [List.getElem?_cons_zero, List.getElem?_cons_succ] at m0 m1 m2 m3 m4
          refine hK.out _ _ ⟨m0, m1, m2, m3, m4⟩ (fun hHeld => ?_)
          clear hK K
          try simp only [Act.put, List.setIfInBounds_toArray, List.set_cons_zero, List.set_cons_succ]
          refine wpAnyH_ready (rs := [0, 3]) (by kernel_rfl) (by simp) ?_
          refine AllReadyH.cons (o := ⟨_, _, _, _, _, _⟩) rfl (fun K hK => ?_) (AllReadyH.cons (o := ⟨_, _, _, _, _, _⟩) rfl (fun K hK => ?_) (AllReadyH.nil))
          · go_simp
            refine hK.out _ _ ⟨m0, m1, m2, m3, m4⟩ (fun hHeld => ?_)
            clear hK K
            try simp only [Act.put, List.setIfInBounds_toArray, List.set_cons_zero, List.set_cons_succ]
            refine wpAnyH_ready (rs := [3]) (by kernel_rfl) (by simp) ?_
            refine AllReadyH.cons (o := ⟨_, _, _, _, _, _⟩) rfl (fun K hK => ?_) (AllReadyH.nil)
            go_simp
            obtain ⟨A', c', w3, HRUN, c1, c2, c3, c5, c6, kb⟩ := S2'.app hq (by have h1 := HLEN.out; have h2 := HK.out; omega) hv2 z
            have hv3 := hv2.alloc (.cells #[.string z.path, .bool z.has, .string z.data, .int .i64 z.l, .int .i64 z.r] 34)
            have bI3 := bI2.below ((Below.refl _ _).alloc (Nat.le_refl _) (.cells #[.string z.path, .bool z.has, .string z.data, .int .i64 z.l, .int .i64 z.r] 34))
            have q3 := hv3.cell
            have o0 := bI3.cell 0
            have o1 := bI3.cell 1
            have o2 := bI3.cell 2
            have o3 := bI3.cell 3
            have o4 := bI3.cell 4
            simp only [List.getElem?_cons_zero, List.getElem?_cons_succ] at o0 o1 o2 o3 o4
            refine hK.out _ _ ⟨o0, o1, o2, o3, o4⟩ (fun hHeld => ?_)
            clear hK K
            try simp only [Act.put, List.setIfInBounds_toArray, List.set_cons_zero, List.set_cons_succ]
            have bI5 := kb Bi _ _ bI2 hne
            have bI6 := bI5.other (show Bi ≠ q by omega) 0 (.slice A' (out.length + 1) c')
            have y0 := bI5.cell 0
            have y1 := bI5.cell 1
            have y2 := bI5.cell 2
            have y3 := bI5.cell 3
            have y4 := bI5.cell 4
            simp only [List.getElem?_cons_zero, List.getElem?_cons_succ] at y0 y1 y2 y3 y4
            have x0 := bI6.cell 0
            have x1 := bI6.cell 1
            have x2 := bI6.cell 2
            have x3 := bI6.cell 3
            have x4 := bI6.cell 4
            simp only [List.getElem?_cons_zero, List.getElem?_cons_succ] at x0 x1 x2 x3 x4
            refine wpAnyH_ready (rs := [4]) (by kernel_rfl) (by simp) ?_
            refine AllReadyH.cons (o := ⟨_, _, _, _, _, _⟩) rfl (fun K hK => ?_) (AllReadyH.nil)
            refine stepApp2 (by rfl) (.tmp 50) (.tmp 53) 22 rfl _ _ _ rfl rfl HRUN.out ?_
            refine hK.out _ _ ⟨y0, y1, y2, y3, y4⟩ (fun hHeld => ?_)
            clear hK K
            try simp only [Act.put, List.setIfInBounds_toArray, List.set_cons_zero, List.set_cons_succ]
            refine wpAnyH_ready (rs := [5]) (by kernel_rfl) (by simp) ?_
            refine AllReadyH.cons (o := ⟨_, _, _, _, _, _⟩) rfl (fun K hK => ?_) (AllReadyH.nil)
            go_simp
            refine hK.out _ _ ⟨x0, x1, x2, x3, x4⟩ (fun hHeld => ?_)
            clear hK K
            try simp only [Act.put, List.setIfInBounds_toArray, List.set_cons_zero, List.set_cons_succ]
            refine wpAnyH_done (by kernel_rfl) ?_ _
            have kp := kp0.trans ((keeps_below b2).trans c5)
            have bl := bl0.trans ((b2.mono hS.low.size).trans c6)
            exact ⟨kp.from _, bl, by rw [HOUT2.out, HCH2.out]; exact c3, HOK2⟩
          · go_simp
            obtain ⟨A', c', w3, HRUN, c1, c2, c3, c5, c6, kb⟩ := S2'.app hq (by have h1 := HLEN.out; have h2 := HK.out; omega) hv2 z
            have hv3 := hv2.alloc (.cells #[.string z.path, .bool z.has, .string z.data, .int .i64 z.l, .int .i64 z.r] 34)
            have bI3 := bI2.below ((Below.refl _ _).alloc (Nat.le_refl _) (.cells #[.string z.path, .bool z.has, .string z.data, .int .i64 z.l, .int .i64 z.r] 34))
            have q3 := hv3.cell
            have o0 := bI3.cell 0
            have o1 := bI3.cell 1
            have o2 := bI3.cell 2
            have o3 := bI3.cell 3
            have o4 := bI3.cell 4
            simp only [List.getElem?_cons_zero, List.getElem?_cons_succ] at o0 o1 o2 o3 o4
            refine hK.out _ _ ⟨o0, o1, o2, o3, o4⟩ (fun hHeld => ?_)
            clear hK K
            try simp only [Act.put, List.setIfInBounds_toArray, List.set_cons_zero, List.set_cons_succ]
            refine wpAnyH_ready (rs := [0]) (by kernel_rfl) (by simp) ?_
            refine AllReadyH.cons (o := ⟨_, _, _, _, _, _⟩) rfl (fun K hK => ?_) (AllReadyH.nil)
            go_simp
            refine hK.out _ _ ⟨o0, o1, o2, o3, o4⟩ (fun hHeld => ?_)
            clear hK K
            try simp only [Act.put, List.setIfInBounds_toArray, List.set_cons_zero, List.set_cons_succ]
            have bI5 := kb Bi _ _ bI2 hne
            have bI6 := bI5.other (show Bi ≠ q by omega) 0 (.slice A' (out.length + 1) c')
            have y0 := bI5.cell 0
            have y1 := bI5.cell 1
            have y2 := bI5.cell 2
            have y3 := bI5.cell 3
            have y4 := bI5.cell 4
            simp only [List.getElem?_cons_zero, List.getElem?_cons_succ] at y0 y1 y2 y3 y4
            have x0 := bI6.cell 0
            have x1 := bI6.cell 1
            have x2 := bI6.cell 2
            have x3 := bI6.cell 3
            have x4 := bI6.cell 4
            simp only [List.getElem?_cons_zero, List.getElem?_cons_succ] at x0 x1 x2 x3 x4
            refine wpAnyH_ready (rs := [4]) (by kernel_rfl) (by simp) ?_
            refine AllReadyH.cons (o := ⟨_, _, _, _, _, _⟩) rfl (fun K hK => ?_) (AllReadyH.nil)
            refine stepApp2 (by rfl) (.tmp 50) (.tmp 53) 22 rfl _ _ _ rfl rfl HRUN.out ?_
            refine hK.out _ _ ⟨y0, y1, y2, y3, y4⟩ (fun hHeld => ?_)
            clear hK K
            try simp only [Act.put, List.setIfInBounds_toArray, List.set_cons_zero, List.set_cons_succ]
            refine wpAnyH_ready (rs := [5]) (by kernel_rfl) (by simp) ?_
            refine AllReadyH.cons (o := ⟨_, _, _, _, _, _⟩) rfl (fun K hK => ?_) (AllReadyH.nil)
            go_simp
            refine hK.out _ _ ⟨x0, x1, x2, x3, x4⟩ (fun hHeld => ?_)
            clear hK K
            try simp only [Act.put, List.setIfInBounds_toArray, List.set_cons_zero, List.set_cons_succ]
            refine wpAnyH_done (by kernel_rfl) ?_ _
            have kp := kp0.trans ((keeps_below b2).trans c5)
            have bl := bl0.trans ((b2.mono hS.low.size).trans c6)
            exact ⟨kp.from _, bl, by rw [HOUT2.out, HCH2.out]; exact c3, HOK2⟩
      · rw [decide_eq_false heq] at hnq
        obtain ⟨t1, t2, ht⟩ : ∃ t1 t2, tkc was.l was.r a = (t1, t2) := ⟨_, _, rfl⟩
        have HSTK := hid (stuck_eq (p := (was, is)) ht heq)
        have HNEW := hid (newE_ne (p := (was, is)) ht heq)
        have ct := tick_any was.l was.r a
        have hle := tkc_le was.l was.r a
        rw [ht] at ct hle
        have cp : ∀ w, _ := fun w => pair_clk hle.1 hle.2 w
        have HNE := hid heq
        have y5 := hS.au.cell
        clear heq ht hrow
        gi_wp2
        refine in_round (S := fun w' => w'.cell? ⟨Bw, 3, none⟩ = some (.int .i64 was.l) ∧ w'.cell? ⟨Bw, 4, none⟩ = some (.int .i64 was.r) ∧ w'.cell? ⟨w.heap.size, 0, none⟩ = some (.int .i64 a)) (by kernel_rfl) (by kernel_rfl) (by rintro ⟨_, _, h⟩; exact h) ⟨w3, w4, y5⟩ (fun hHeld => ?_)
        refine wpAnyH_take (i := 0) (oi := ⟨_, _, _, _, _, _⟩) (v := ?_) rfl (by kernel_rfl) (by kernel_rfl) (by kernel_rfl) (fun _ _ _ h => h) (Or.inl ⟨by rfl, ?_⟩) (by assumption) ?_
        rotate_left
        · intro w hSw; (try dsimp only at hSw); go_simp; (try (with_reducible rfl))
        try simp only [Act.put, List.setIfInBounds_toArray, List.set_cons_zero, List.set_cons_succ]
        refine wpAnyH_take (i := 1) (oi := ⟨_, _, _, _, _, _⟩) (v := ?_) rfl (by kernel_rfl) (by kernel_rfl) (by kernel_rfl) (fun _ _ _ h => h) (Or.inl ⟨by rfl, ?_⟩) (by assumption) ?_
        rotate_left
        · intro w hSw; (try dsimp only at hSw); go_simp; (try (with_reducible rfl))
        try simp only [Act.put, List.setIfInBounds_toArray, List.set_cons_zero, List.set_cons_succ]
        refine wpAnyH_take (i := 3) (oi := ⟨_, _, _, _, _, _⟩) (v := ?_) rfl (by kernel_rfl) (by kernel_rfl) (by kernel_rfl) (fun _ _ _ h => h) (Or.inl ⟨by rfl, ?_⟩) (by assumption) ?_
        rotate_left
        · intro w hSw; (try dsimp only at hSw); go_simp; (try (with_reducible rfl))
        try simp only [Act.put, List.setIfInBounds_toArray, List.set_cons_zero, List.set_cons_succ]
        refine wpAnyH_ready (rs := [2]) (by kernel_rfl) (by simp) ?_
        refine AllReadyH.cons (o := ⟨_, _, _, _, _, _⟩) rfl (fun K hK => ?_) (AllReadyH.nil)
        go_simp
        refine (of_any was.l was.r _).mono ?_
        rintro e Wa ⟨rfl, hba⟩
        have b1 := below_undrew hba
        have S1' := hS.below b1
        have bW1 := bW.below b1
        have bI1 := bI.below b1
        have hv1 := boxed_below hv b1
        have g1 := S1'.au.cell
        have a1_3 := bW1.cell 3
        have a1_4 := bW1.cell 4
        simp only [List.getElem?_cons_zero, List.getElem?_cons_succ] at a1_3 a1_4
        refine hK.out _ _ ⟨a1_3, a1_4, g1⟩ (fun hHeld => ?_)
        clear hK K
        try simp only [Act.put, List.setIfInBounds_toArray, List.set_cons_zero, List.set_cons_succ]
        refine wpAnyH_ready (rs := [4]) (by kernel_rfl) (by simp) ?_
        refine AllReadyH.cons (o := ⟨_, _, _, _, _, _⟩) rfl (fun K hK => ?_) (AllReadyH.nil)
        go_simp
        refine (ct _).mono ?_
        rintro e Wb ⟨rfl, hbb⟩
        have b2 := below2 b1 hbb
        have S2' := S1'.below hbb
        have bW2 := bW1.below hbb
        have bI2 := bI1.below hbb
        have hv2 := boxed_below hv1 hbb
        have g2 := S2'.au.cell
        have a2_3 := bW2.cell 3
        have a2_4 := bW2.cell 4
        simp only [List.getElem?_cons_zero, List.getElem?_cons_succ] at a2_3 a2_4
        refine hK.out _ _ ⟨a2_3, a2_4, g2⟩ (fun hHeld => ?_)
        clear hK K
        try simp only [Act.put, List.setIfInBounds_toArray, List.set_cons_zero, List.set_cons_succ]
        refine wpAnyH_ready (rs := [5]) (by kernel_rfl) (by simp) ?_
        refine AllReadyH.cons (o := ⟨_, _, _, _, _, _⟩) rfl (fun K hK => ?_) (AllReadyH.nil)
        go_simp
        refine (cp _).mono ?_
        rintro e Wc ⟨rfl, hbc⟩
        have b3 := below2 b2 hbc
        have S3' := S2'.below hbc
        have bW3 := bW2.below hbc
        have bI3 := bI2.below hbc
        have hv3 := boxed_below hv2 hbc
        have g3 := S3'.au.cell
        have a3_3 := bW3.cell 3
        have a3_4 := bW3.cell 4
        simp only [List.getElem?_cons_zero, List.getElem?_cons_succ] at a3_3 a3_4
        refine hK.out _ _ ⟨a3_3, a3_4, g3⟩ (fun hHeld => ?_)
        clear hK K
        try simp only [Act.put, List.setIfInBounds_toArray, List.set_cons_zero, List.set_cons_succ]
        refine wpAnyH_take (i := 6) (oi := ⟨_, _, _, _, _, _⟩) (v := ?_) rfl (by kernel_rfl) (by kernel_rfl) (by kernel_rfl) (fun _ _ _ h => h) (Or.inl ⟨by rfl, ?_⟩) (by assumption) ?_
        rotate_left
        · intro w hSw; (try dsimp only at hSw); go_simp; (try (with_reducible rfl))
        try simp only [Act.put, List.setIfInBounds_toArray, List.set_cons_zero, List.set_cons_succ]
        have p3 := bI3.cell 3
        have p4 := bI3.cell 4
        simp only [List.getElem?_cons_zero, List.getElem?_cons_succ] at p3 p4
        have n3 := bI3.frozen 3
        have n4 := bI3.frozen 4
        have S4' := S3'.store hBi hq hv3 hne bI3 3 (.int .i64 (t1 : Int))
        have bI4 := bI3.set_ 3 (.int .i64 (t1 : Int))
        have hv4 : Boxed (Wc.setCell ⟨Bi, 3, none⟩ (.int .i64 (t1 : Int))) q 22 (.slice Av out.length cv) := hv3.kept (grown_set 3 _) (fun e => by injection e; omega)
        have S5' := S4'.store hBi hq hv4 hne bI4 4 (.int .i64 (t2 : Int))
        have bI5 := bI4.set_ 4 (.int .i64 (t2 : Int))
        have hv5 : Boxed ((Wc.setCell ⟨Bi, 3, none⟩ (.int .i64 (t1 : Int))).setCell ⟨Bi, 4, none⟩ (.int .i64 (t2 : Int))) q 22 (.slice Av out.length cv) := hv4.kept (grown_set 4 _) (fun e => by injection e; omega)
        have bW5 := (bW3.other hBB 3 (.int .i64 (t1 : Int))).other hBB 4 (.int .i64 (t2 : Int))
        have kp5 := ((keeps_below b3).trans (KeepsOthers.setCell Wc ⟨Bi, 3, none⟩ (.int .i64 (t1 : Int)))).trans (KeepsOthers.setCell _ ⟨Bi, 4, none⟩ (.int .i64 (t2 : Int)))
        have bl5 := ((b3.mono hS.low.size).setCell (p := ⟨Bi, 3, none⟩) (by show w.heap.size ≤ Bi; omega) (.int .i64 (t1 : Int))).setCell (p := ⟨Bi, 4, none⟩) (by show w.heap.size ≤ Bi; omega) (.int .i64 (t2 : Int))
        simp only [List.set_cons_zero, List.set_cons_succ] at bI5
        have s3 := bW5.cell 3
        have s4 := bW5.cell 4
        simp only [List.getElem?_cons_zero, List.getElem?_cons_succ] at s3 s4
        have s5 := S5'.au.cell
        refine wpAnyH_ready (rs := [7]) (by kernel_rfl) (by simp) ?_
        refine AllReadyH.cons (o := ⟨_, _, _, _, _, _⟩) rfl (fun K hK => ?_) (AllReadyH.nil)
        go_simp
        generalize (Wc.setCell ⟨Bi, 3, none⟩ (.int .i64 (t1 : Int))).setCell ⟨Bi, 4, none⟩ (.int .i64 (t2 : Int)) = Wd at *
        refine hK.out _ _ ⟨s3, s4, s5⟩ (fun hHeld => ?_)
        clear hK K
        try simp only [Act.put, List.setIfInBounds_toArray, List.set_cons_zero, List.set_cons_succ]
        refine wpAnyH_done (by kernel_rfl) ?_ _
        clear hHeld S1' S2' S3' S4' bW1 bW2 bW3 bI1 bI2 bI3 bI4 hv1 hv2 hv3 hv4 g1 g2 g3 a1_3 a1_4 a2_3 a2_4 a3_3 a3_4 p3 p4 n3 n4 hba hbb hbc b1 b2 b3 ct cp w0 w1 w2 w3 w4 i0 i1 i2 i3 i4 d6 d7 d8 d9 z6 z7 z8 hS bW bI hv hv' y5
        have u3 := bW5.cell 3
        have u4 := bW5.cell 4
        simp only [List.getElem?_cons_zero, List.getElem?_cons_succ] at u3 u4
        have x3 := bI5.cell 3
        have x4 := bI5.cell 4
        simp only [List.getElem?_cons_zero, List.getElem?_cons_succ] at x3 x4
        have hep := eqP (t1 : Int) (t2 : Int) was.l was.r
        by_cases hst : (t1 : Int) = was.l ∧ (t2 : Int) = was.r
        · rw [decide_eq_true hst.1, decide_eq_true hst.2] at hep HSTK
          clear hst
          have d6 := S5'.r6.cell
          have d7 := S5'.r7.cell
          have d8 := S5'.r8.cell
          have z6 := S5'.r6.frozen
          have z7 := S5'.r7.frozen
          have z8 := S5'.r8.frozen
          obtain ⟨e6, e7, e8⟩ := res3 S5'.r6 S5'.r7 S5'.r8 (.slice none 0 0) (.slice none 0 0) (.int .i64 2)
          have bz := ((S5'.low.setCell (p := ⟨w.heap.size + 1, 0, none⟩) (by show _ ≤ w.heap.size + 1; omega) (.slice none 0 0)).setCell (p := ⟨w.heap.size + 1 + 1, 0, none⟩) (by show _ ≤ w.heap.size + 1 + 1; omega) (.slice none 0 0)).setCell (p := ⟨w.heap.size + 1 + 1 + 1, 0, none⟩) (by show _ ≤ w.heap.size + 1 + 1 + 1; omega) (.int .i64 2)
          have HBAD : Hid (okP a ((pre ++ [(⟨(was, is), hx⟩ : S2)]).map (·.1)) = false) := by show _ = _; rw [HMAP.out]; exact HST.out HSTK.out
          have kp6 := ((kp5.trans (KeepsOthers.setCell Wd ⟨w.heap.size + 1, 0, none⟩ (.slice none 0 0))).trans (KeepsOthers.setCell _ ⟨w.heap.size + 1 + 1, 0, none⟩ (.slice none 0 0))).trans (KeepsOthers.setCell _ ⟨w.heap.size + 1 + 1 + 1, 0, none⟩ (.int .i64 2))
          clear S5'
          gi_wp2
          exact ⟨kp6.from _, rfl, HBAD, e6, e7, e8, bz⟩
        · have hstb : (decide ((t1 : Int) = was.l) && decide ((t2 : Int) = was.r)) = false := by by_cases h1 : (t1 : Int) = was.l <;> by_cases h2 : (t2 : Int) = was.r <;> simp [h1, h2] <;> exact hst ⟨h1, h2⟩
          rw [hstb] at hep HSTK
          clear hst hstb
          have HOK2 : Hid (okP a ((pre ++ [(⟨(was, is), hx⟩ : S2)]).map (·.1)) = true) := by show _ = _; rw [HMAP.out]; exact HOK.out (by rw [List.length_map]; exact HLT.out) HSTK.out
          obtain ⟨z, HZ⟩ : ∃ z, Hid (newE a (was, is) = z) := ⟨_, rfl⟩
          have HZ2 := hid (HNEW.out.symm.trans HZ.out)
          have hz : SzE z := by rw [← HZ2.out]; exact hx
          have HOUT2 : Hid (outP a ((pre ++ [(⟨(was, is), hx⟩ : S2)]).map (·.1)) = out ++ [z]) := by show _ = _; rw [HMAP.out, HOUT.out, HZ.out]
          have HCH2 : Hid (chgP ((pre ++ [(⟨(was, is), hx⟩ : S2)]).map (·.1)) = ch ++ [z.path]) := by show _ = _; rw [HMAP.out, HCH.out, if_neg HNE.out, ← HZ2.out]
          have bZ : Blk Wd Bi [.string z.path, .bool z.has, .string z.data, .int .i64 z.l, .int .i64 z.r] 34 := by rw [← HZ2.out]; exact bI5
          gi_wp2
          clear bI5 bW5 x3 x4 u3 u4 HOK HOUT HCH HST HLONG HNEW HSTK HZ HNE hep hnq hle s3 s4 s5
          obtain ⟨u, hu, hrowu, -⟩ := S5'.chg
          have d10 := hu.cell
          have j0 := bZ.cell 0
          simp only [List.getElem?_cons_zero] at j0
          refine in_round (S := fun w' => w'.cell? ⟨Bi, 0, none⟩ = some (.string z.path)) (by kernel_rfl) (by kernel_rfl) (by rintro ⟨_, _, h⟩; exact h) j0 (fun hHeld => ?_)
          refine wpAnyH_take (i := 1) (oi := ⟨_, _, _, _, _, _⟩) (v := ?_) rfl (by kernel_rfl) (by kernel_rfl) (by kernel_rfl) (fun _ _ _ h => h) (Or.inl ⟨by rfl, ?_⟩) (by assumption) ?_
          rotate_left
          · intro w hSw; (try dsimp only at hSw); go_simp; (try (with_reducible rfl))
          try simp only [Act.put, List.setIfInBounds_toArray, List.set_cons_zero, List.set_cons_succ]
          refine wpAnyH_take (i := 2) (oi := ⟨_, _, _, _, _, _⟩) (v := ?_) rfl (by kernel_rfl) (by kernel_rfl) (by kernel_rfl) (fun _ _ _ h => h) (Or.inl ⟨by rfl, ?_⟩) (by assumption) ?_
          rotate_left
          · intro w hSw; (try dsimp only at hSw); go_simp; (try (with_reducible rfl))
          try simp only [Act.put, List.setIfInBounds_toArray, List.set_cons_zero, List.set_cons_succ]
          refine wpAnyH_ready (rs := [0, 3]) (by kernel_rfl) (by simp) ?_
          refine AllReadyH.cons (o := ⟨_, _, _, _, _, _⟩) rfl (fun K hK => ?_) (AllReadyH.cons (o := ⟨_, _, _, _, _, _⟩) rfl (fun K hK => ?_) (AllReadyH.nil))
          · go_simp
            refine hK.out _ _ j0 (fun hHeld => ?_)
            clear hK K
            try simp only [Act.put, List.setIfInBounds_toArray, List.set_cons_zero, List.set_cons_succ]
            refine wpAnyH_ready (rs := [3]) (by kernel_rfl) (by simp) ?_
            refine AllReadyH.cons (o := ⟨_, _, _, _, _, _⟩) rfl (fun K hK => ?_) (AllReadyH.nil)
            go_simp
            refine (clone_any z.path _ (by have := hz.1; omega)).mono ?_
            rintro e Wx ⟨rfl, hb2⟩
            have bx := below_undrew hb2
            have Sx := S5'.below bx
            have hux := boxed_below hu bx
            have bZx := bZ.below bx
            have hvx := boxed_below hv5 bx
            have qx := hux.cell
            have m0 := bZx.cell 0
            simp only [List.getElem?_cons_zero] at m0
            refine hK.out _ _ m0 (fun hHeld => ?_)
            clear hK K
            try simp only [Act.put, List.setIfInBounds_toArray, List.set_cons_zero, List.set_cons_succ]
            refine wpAnyH_ready (rs := [4]) (by kernel_rfl) (by simp) ?_
            refine AllReadyH.cons (o := ⟨_, _, _, _, _, _⟩) rfl (fun K hK => ?_) (AllReadyH.nil)
            go_simp
            obtain ⟨A', c', w3, HRUN, c1, c2, c3, c5, c6, kb⟩ := Sx.appS hq (by have h1 := HLEN.out; have h2 := HCL.out; omega) hux z.path
            have huy := hux.alloc (.cells #[.string z.path] 9)
            have bZy := bZx.below ((Below.refl _ _).alloc (Nat.le_refl _) (.cells #[.string z.path] 9))
            have qy := huy.cell
            have o0 := bZy.cell 0
            simp only [List.getElem?_cons_zero] at o0
            refine hK.out _ _ o0 (fun hHeld => ?_)
            clear hK K
            try simp only [Act.put, List.setIfInBounds_toArray, List.set_cons_zero, List.set_cons_succ]
            have bZ5 := kb Bi _ _ (by decide) bZx
            have bZ6 := bZ5.other (show Bi ≠ q + 1 by omega) 0 (.slice A' (ch.length + 1) c')
            have hv6 : Boxed (w3.setCell ⟨q + 1, 0, none⟩ (.slice A' (ch.length + 1) c')) q 22 (.slice Av out.length cv) := Boxed.kept (show Boxed w3 q 22 _ from kb q [_] _ (by decide) hvx) (grownBy_setCell' _ _ _) (fun e => by injection e; omega)
            have y0 := bZ5.cell 0
            simp only [List.getElem?_cons_zero] at y0
            have x0 := bZ6.cell 0
            simp only [List.getElem?_cons_zero] at x0
            refine wpAnyH_ready (rs := [5]) (by kernel_rfl) (by simp) ?_
            refine AllReadyH.cons (o := ⟨_, _, _, _, _, _⟩) rfl (fun K hK => ?_) (AllReadyH.nil)
            refine stepApp2 (by rfl) (.tmp 44) (.tmp 48) 25 rfl _ _ _ rfl rfl HRUN.out ?_
            refine hK.out _ _ y0 (fun hHeld => ?_)
            clear hK K
            try simp only [Act.put, List.setIfInBounds_toArray, List.set_cons_zero, List.set_cons_succ]
            refine wpAnyH_ready (rs := [6]) (by kernel_rfl) (by simp) ?_
            refine AllReadyH.cons (o := ⟨_, _, _, _, _, _⟩) rfl (fun K hK => ?_) (AllReadyH.nil)
            go_simp
            generalize w3.setCell ⟨q + 1, 0, none⟩ (.slice A' (ch.length + 1) c') = We at *
            refine hK.out _ _ x0 (fun hHeld => ?_)
            clear hK K
            try simp only [Act.put, List.setIfInBounds_toArray, List.set_cons_zero, List.set_cons_succ]
            refine wpAnyH_done (by kernel_rfl) ?_ _
            have kp7 := kp5.trans ((keeps_below bx).trans c5)
            have bl7 := bl5.trans ((bx.mono S5'.low.size).trans c6)
            clear hHeld S5' Sx hu hux huy hrowu d10 qx qy bZ bZx bZy bZ5 hv5 hvx kb HRUN c1 c2 c5 c6 bx hb2 kp5 bl5 y0 x0 m0 o0 j0
            gi_wp2
            have j0 := bZ6.cell 0
            have j1 := bZ6.cell 1
            have j2 := bZ6.cell 2
            have j3 := bZ6.cell 3
            have j4 := bZ6.cell 4
            simp only [List.getElem?_cons_zero, List.getElem?_cons_succ] at j0 j1 j2 j3 j4
            have d9 := hv6.cell
            refine in_round (S := fun w' => w'.cell? ⟨Bi, 0, none⟩ = some (.string z.path) ∧ w'.cell? ⟨Bi, 1, none⟩ = some (.bool z.has) ∧ w'.cell? ⟨Bi, 2, none⟩ = some (.string z.data) ∧ w'.cell? ⟨Bi, 3, none⟩ = some (.int .i64 z.l) ∧ w'.cell? ⟨Bi, 4, none⟩ = some (.int .i64 z.r)) (by kernel_rfl) (by kernel_rfl) (by rintro ⟨_, _, h⟩; exact h) ⟨j0, j1, j2, j3, j4⟩ (fun hHeld => ?_)
            refine wpAnyH_take (i := 1) (oi := ⟨_, _, _, _, _, _⟩) (v := ?_) rfl (by kernel_rfl) (by kernel_rfl) (by kernel_rfl) (fun _ _ _ h => h) (Or.inl ⟨by rfl, ?_⟩) (by assumption) ?_
            rotate_left
            · intro w hSw; (try dsimp only at hSw); go_simp; (try (with_reducible rfl))
            try simp only [Act.put, List.setIfInBounds_toArray, List.set_cons_zero, List.set_cons_succ]
            refine wpAnyH_ready (rs := [0, 2]) (by kernel_rfl) (by simp) ?_
            refine AllReadyH.cons (o := ⟨_, _, _, _, _, _⟩) rfl (fun K hK => ?_) (AllReadyH.cons (o := ⟨_, _, _, _, _, _⟩) rfl (fun K hK => ?_) (AllReadyH.nil))
            · go_simp
              refine hK.out _ _ ⟨j0, j1, j2, j3, j4⟩ (fun hHeld => ?_)
              clear hK K
              try simp only [Act.put, List.setIfInBounds_toArray, List.set_cons_zero, List.set_cons_succ]
              refine wpAnyH_ready (rs := [2]) (by kernel_rfl) (by simp) ?_
              refine AllReadyH.cons (o := ⟨_, _, _, _, _, _⟩) rfl (fun K hK => ?_) (AllReadyH.nil)
              go_simp
              refine (eanew_any z _ (by have := hz.1; omega) (by have := hz.2; omega)).mono ?_
              rintro e W1 ⟨rfl, hb2⟩
              have b2 := below_undrew hb2
              have S2' := c3.below b2
              have hv2 := boxed_below hv6 b2
              have bI2 := bZ6.below b2
              have q2 := hv2.cell
              have m0 := bI2.cell 0
              have m1 := bI2.cell 1
              have m2 := bI2.cell 2
              have m3 := bI2.cell 3
              have m4 := bI2.cell 4
              simp only [List.getElem?_cons_zero, List.getElem?_cons_succ] at m0 m1 m2 m3 m4
              refine hK.out _ _ ⟨m0, m1, m2, m3, m4⟩ (fun hHeld => ?_)
              clear hK K
              try simp only [Act.put, List.setIfInBounds_toArray, List.set_cons_zero, List.set_cons_succ]
              refine wpAnyH_ready (rs := [3]) (by kernel_rfl) (by simp) ?_
              refine AllReadyH.cons (o := ⟨_, _, _, _, _, _⟩) rfl (fun K hK => ?_) (AllReadyH.nil)
              go_simp
              obtain ⟨A2, c2', w4, HRUN2, c1, c2, c4, c5, c6, kb⟩ := S2'.app hq (by have h1 := HLEN.out; have h2 := HK.out; omega) hv2 z
              have hv3 := hv2.alloc (.cells #[.string z.path, .bool z.has, .string z.data, .int .i64 z.l, .int .i64 z.r] 34)
              have bI3 := bI2.below ((Below.refl _ _).alloc (Nat.le_refl _) (.cells #[.string z.path, .bool z.has, .string z.data, .int .i64 z.l, .int .i64 z.r] 34))
              have q3 := hv3.cell
              have o0 := bI3.cell 0
              have o1 := bI3.cell 1
              have o2 := bI3.cell 2
              have o3 := bI3.cell 3
              have o4 := bI3.cell 4
              simp only [List.getElem?_cons_zero, List.getElem?_cons_succ] at o0 o1 o2 o3 o4
              refine hK.out _ _ ⟨o0, o1, o2, o3, o4⟩ (fun hHeld => ?_)
              clear hK K
              try simp only [Act.put, List.setIfInBounds_toArray, List.set_cons_zero, List.set_cons_succ]
              have bI5 := kb Bi _ _ bI2 hne
              have bI6 := bI5.other (show Bi ≠ q by omega) 0 (.slice A2 (out.length + 1) c2')
              have y0 := bI5.cell 0
              have y1 := bI5.cell 1
              have y2 := bI5.cell 2
              have y3 := bI5.cell 3
              have y4 := bI5.cell 4
              simp only [List.getElem?_cons_zero, List.getElem?_cons_succ] at y0 y1 y2 y3 y4
              have x0 := bI6.cell 0
              have x1 := bI6.cell 1
              have x2 := bI6.cell 2
              have x3 := bI6.cell 3
              have x4 := bI6.cell 4
              simp only [List.getElem?_cons_zero, List.getElem?_cons_succ] at x0 x1 x2 x3 x4
              refine wpAnyH_ready (rs := [4]) (by kernel_rfl) (by simp) ?_
              refine AllReadyH.cons (o := ⟨_, _, _, _, _, _⟩) rfl (fun K hK => ?_) (AllReadyH.nil)
              refine stepApp2 (by rfl) (.tmp 50) (.tmp 53) 22 rfl _ _ _ rfl rfl HRUN2.out ?_
              refine hK.out _ _ ⟨y0, y1, y2, y3, y4⟩ (fun hHeld => ?_)
              clear hK K
              try simp only [Act.put, List.setIfInBounds_toArray, List.set_cons_zero, List.set_cons_succ]
              refine wpAnyH_ready (rs := [5]) (by kernel_rfl) (by simp) ?_
              refine AllReadyH.cons (o := ⟨_, _, _, _, _, _⟩) rfl (fun K hK => ?_) (AllReadyH.nil)
              go_simp
              refine hK.out _ _ ⟨x0, x1, x2, x3, x4⟩ (fun hHeld => ?_)
              clear hK K
              try simp only [Act.put, List.setIfInBounds_toArray, List.set_cons_zero, List.set_cons_succ]
              refine wpAnyH_done (by kernel_rfl) ?_ _
              have kp := kp7.trans ((keeps_below b2).trans c5)
              have bl := bl7.trans ((b2.mono c3.low.size).trans c6)
              exact ⟨kp.from _, bl, by rw [HOUT2.out, HCH2.out]; exact c4, HOK2⟩
            · go_simp
              refine (eanew_any z _ (by have := hz.1; omega) (by have := hz.2; omega)).mono ?_
              rintro e W1 ⟨rfl, hb2⟩
              have b2 := below_undrew hb2
              have S2' := c3.below b2
              have hv2 := boxed_below hv6 b2
              have bI2 := bZ6.below b2
              have q2 := hv2.cell
              have m0 := bI2.cell 0
              have m1 := bI2.cell 1
              have m2 := bI2.cell 2
              have m3 := bI2.cell 3
              have m4 := bI2.cell 4
              simp only [List.getElem?_cons_zero, List.getElem?_cons_succ] at m0 m1 m2 m3 m4
              refine hK.out _ _ ⟨m0, m1, m2, m3, m4⟩ (fun hHeld => ?_)
              clear hK K
              try simp only [Act.put, List.setIfInBounds_toArray, List.set_cons_zero, List.set_cons_succ]
              refine wpAnyH_ready (rs := [0, 3]) (by kernel_rfl) (by simp) ?_
              refine AllReadyH.cons (o := ⟨_, _, _, _, _, _⟩) rfl (fun K hK => ?_) (AllReadyH.cons (o := ⟨_, _, _, _, _, _⟩) rfl (fun K hK => ?_) (AllReadyH.nil))
              · go_simp
                refine hK.out _ _ ⟨m0, m1, m2, m3, m4⟩ (fun hHeld => ?_)
                clear hK K
                try simp only [Act.put, List.setIfInBounds_toArray, List.set_cons_zero, List.set_cons_succ]
                refine wpAnyH_ready (rs := [3]) (by kernel_rfl) (by simp) ?_
                refine AllReadyH.cons (o := ⟨_, _, _, _, _, _⟩) rfl (fun K hK => ?_) (AllReadyH.nil)
                go_simp
                obtain ⟨A2, c2', w4, HRUN2, c1, c2, c4, c5, c6, kb⟩ := S2'.app hq (by have h1 := HLEN.out; have h2 := HK.out; omega) hv2 z
                have hv3 := hv2.alloc (.cells #[.string z.path, .bool z.has, .string z.data, .int .i64 z.l, .int .i64 z.r] 34)
                have bI3 := bI2.below ((Below.refl _ _).alloc (Nat.le_refl _) (.cells #[.string z.path, .bool z.has, .string z.data, .int .i64 z.l, .int .i64 z.r] 34))
                have q3 := hv3.cell
                have o0 := bI3.cell 0
                have o1 := bI3.cell 1
                have o2 := bI3.cell 2
                have o3 := bI3.cell 3
                have o4 := bI3.cell 4
                simp only [List.getElem?_cons_zero, List.getElem?_cons_succ] at o0 o1 o2 o3 o4
                refine hK.out _ _ ⟨o0, o1, o2, o3, o4⟩ (fun hHeld => ?_)
                clear hK K
                try simp only [Act.put, List.setIfInBounds_toArray, List.set_cons_zero, List.set_cons_succ]
                have bI5 := kb Bi _ _ bI2 hne
                have bI6 := bI5.other (show Bi ≠ q by omega) 0 (.slice A2 (out.length + 1) c2')
                have y0 := bI5.cell 0
                have y1 := bI5.cell 1
                have y2 := bI5.cell 2
                have y3 := bI5.cell 3
                have y4 := bI5.cell 4
                simp only [List.getElem?_cons_zero, List.getElem?_cons_succ] at y0 y1 y2 y3 y4
                have x0 := bI6.cell 0
                have x1 := bI6.cell 1
                have x2 := bI6.cell 2
                have x3 := bI6.cell 3
                have x4 := bI6.cell 4
                simp only [List.getElem?_cons_zero, List.getElem?_cons_succ] at x0 x1 x2 x3 x4
                refine wpAnyH_ready (rs := [4]) (by kernel_rfl) (by simp) ?_
                refine AllReadyH.cons (o := ⟨_, _, _, _, _, _⟩) rfl (fun K hK => ?_) (AllReadyH.nil)
                refine stepApp2 (by rfl) (.tmp 50) (.tmp 53) 22 rfl _ _ _ rfl rfl HRUN2.out ?_
                refine hK.out _ _ ⟨y0, y1, y2, y3, y4⟩ (fun hHeld => ?_)
                clear hK K
                try simp only [Act.put, List.setIfInBounds_toArray, List.set_cons_zero, List.set_cons_succ]
                refine wpAnyH_ready (rs := [5]) (by kernel_rfl) (by simp) ?_
                refine AllReadyH.cons (o := ⟨_, _, _, _, _, _⟩) rfl (fun K hK => ?_) (AllReadyH.nil)
                go_simp
                refine hK.out _ _ ⟨x0, x1, x2, x3, x4⟩ (fun hHeld => ?_)
                clear hK K
                try simp only [Act.put, List.setIfInBounds_toArray, List.set_cons_zero, List.set_cons_succ]
                refine wpAnyH_done (by kernel_rfl) ?_ _
                have kp := kp7.trans ((keeps_below b2).trans c5)
                have bl := bl7.trans ((b2.mono c3.low.size).trans c6)
                exact ⟨kp.from _, bl, by rw [HOUT2.out, HCH2.out]; exact c4, HOK2⟩
              · go_simp
                obtain ⟨A2, c2', w4, HRUN2, c1, c2, c4, c5, c6, kb⟩ := S2'.app hq (by have h1 := HLEN.out; have h2 := HK.out; omega) hv2 z
                have hv3 := hv2.alloc (.cells #[.string z.path, .bool z.has, .string z.data, .int .i64 z.l, .int .i64 z.r] 34)
                have bI3 := bI2.below ((Below.refl _ _).alloc (Nat.le_refl _) (.cells #[.string z.path, .bool z.has, .string z.data, .int .i64 z.l, .int .i64 z.r] 34))
                have q3 := hv3.cell
                have o0 := bI3.cell 0
                have o1 := bI3.cell 1
                have o2 := bI3.cell 2
                have o3 := bI3.cell 3
                have o4 := bI3.cell 4
                simp only [List.getElem?_cons_zero, List.getElem?_cons_succ] at o0 o1 o2 o3 o4
                refine hK.out _ _ ⟨o0, o1, o2, o3, o4⟩ (fun hHeld => ?_)
                clear hK K
                try simp only [Act.put, List.setIfInBounds_toArray, List.set_cons_zero, List.set_cons_succ]
                refine wpAnyH_ready (rs := [0]) (by kernel_rfl) (by simp) ?_
                refine AllReadyH.cons (o := ⟨_, _, _, _, _, _⟩) rfl (fun K hK => ?_) (AllReadyH.nil)
                go_simp
                refine hK.out _ _ ⟨o0, o1, o2, o3, o4⟩ (fun hHeld => ?_)
                clear hK K
                try simp only [Act.put, List.setIfInBounds_toArray, List.set_cons_zero, List.set_cons_succ]
                have bI5 := kb Bi _ _ bI2 hne
                have bI6 := bI5.other (show Bi ≠ q by omega) 0 (.slice A2 (out.length + 1) c2')
                have y0 := bI5.cell 0
                have y1 := bI5.cell 1
                have y2 := bI5.cell 2
                have y3 := bI5.cell 3
                have y4 := bI5.cell 4
                simp only [List.getElem?_cons_zero, List.getElem?_cons_succ] at y0 y1 y2 y3 y4
                have x0 := bI6.cell 0
                have x1 := bI6.cell 1
                have x2 := bI6.cell 2
                have x3 := bI6.cell 3
                have x4 := bI6.cell 4
                simp only [List.getElem?_cons_zero, List.getElem?_cons_succ] at x0 x1 x2 x3 x4
                refine wpAnyH_ready (rs := [4]) (by kernel_rfl) (by simp) ?_
                refine AllReadyH.cons (o := ⟨_, _, _, _, _, _⟩) rfl (fun K hK => ?_) (AllReadyH.nil)
                refine stepApp2 (by rfl) (.tmp 50) (.tmp 53) 22 rfl _ _ _ rfl rfl HRUN2.out ?_
                refine hK.out _ _ ⟨y0, y1, y2, y3, y4⟩ (fun hHeld => ?_)
                clear hK K
                try simp only [Act.put, List.setIfInBounds_toArray, List.set_cons_zero, List.set_cons_succ]
                refine wpAnyH_ready (rs := [5]) (by kernel_rfl) (by simp) ?_
                refine AllReadyH.cons (o := ⟨_, _, _, _, _, _⟩) rfl (fun K hK => ?_) (AllReadyH.nil)
                go_simp
                refine hK.out _ _ ⟨x0, x1, x2, x3, x4⟩ (fun hHeld => ?_)
                clear hK K
                try simp only [Act.put, List.setIfInBounds_toArray, List.set_cons_zero, List.set_cons_succ]
                refine wpAnyH_done (by kernel_rfl) ?_ _
                have kp := kp7.trans ((keeps_below b2).trans c5)
                have bl := bl7.trans ((b2.mono c3.low.size).trans c6)
                exact ⟨kp.from _, bl, by rw [HOUT2.out, HCH2.out]; exact c4, HOK2⟩
          · go_simp
            refine (clone_any z.path _ (by have := hz.1; omega)).mono ?_
            rintro e Wx ⟨rfl, hb2⟩
            have bx := below_undrew hb2
            have Sx := S5'.below bx
            have hux := boxed_below hu bx
            have bZx := bZ.below bx
            have hvx := boxed_below hv5 bx
            have qx := hux.cell
            have m0 := bZx.cell 0
            simp only [List.getElem?_cons_zero] at m0
            refine hK.out _ _ m0 (fun hHeld => ?_)
            clear hK K
            try simp only [Act.put, List.setIfInBounds_toArray, List.set_cons_zero, List.set_cons_succ]
            refine wpAnyH_ready (rs := [0, 4]) (by kernel_rfl) (by simp) ?_
            refine AllReadyH.cons (o := ⟨_, _, _, _, _, _⟩) rfl (fun K hK => ?_) (AllReadyH.cons (o := ⟨_, _, _, _, _, _⟩) rfl (fun K hK => ?_) (AllReadyH.nil))
            · go_simp
              refine hK.out _ _ m0 (fun hHeld => ?_)
              clear hK K
              try simp only [Act.put, List.setIfInBounds_toArray, List.set_cons_zero, List.set_cons_succ]
              refine wpAnyH_ready (rs := [4]) (by kernel_rfl) (by simp) ?_
              refine AllReadyH.cons (o := ⟨_, _, _, _, _, _⟩) rfl (fun K hK => ?_) (AllReadyH.nil)
              go_simp
              obtain ⟨A', c', w3, HRUN, c1, c2, c3, c5, c6, kb⟩ := Sx.appS hq (by have h1 := HLEN.out; have h2 := HCL.out; omega) hux z.path
              have huy := hux.alloc (.cells #[.string z.path] 9)
              have bZy := bZx.below ((Below.refl _ _).alloc (Nat.le_refl _) (.cells #[.string z.path] 9))
              have qy := huy.cell
              have o0 := bZy.cell 0
              simp only [List.getElem?_cons_zero] at o0
              refine hK.out _ _ o0 (fun hHeld => ?_)
              clear hK K
              try simp only [Act.put, List.setIfInBounds_toArray, List.set_cons_zero, List.set_cons_succ]
              have bZ5 := kb Bi _ _ (by decide) bZx
              have bZ6 := bZ5.other (show Bi ≠ q + 1 by omega) 0 (.slice A' (ch.length + 1) c')
              have hv6 : Boxed (w3.setCell ⟨q + 1, 0, none⟩ (.slice A' (ch.length + 1) c')) q 22 (.slice Av out.length cv) := Boxed.kept (show Boxed w3 q 22 _ from kb q [_] _ (by decide) hvx) (grownBy_setCell' _ _ _) (fun e => by injection e; omega)
              have y0 := bZ5.cell 0
              simp only [List.getElem?_cons_zero] at y0
              have x0 := bZ6.cell 0
              simp only [List.getElem?_cons_zero] at x0
              refine wpAnyH_ready (rs := [5]) (by kernel_rfl) (by simp) ?_
              refine AllReadyH.cons (o := ⟨_, _, _, _, _, _⟩) rfl (fun K hK => ?_) (AllReadyH.nil)
              refine stepApp2 (by rfl) (.tmp 44) (.tmp 48) 25 rfl _ _ _ rfl rfl HRUN.out ?_
              refine hK.out _ _ y0 (fun hHeld => ?_)
              clear hK K
              try simp only [Act.put, List.setIfInBounds_toArray, List.set_cons_zero, List.set_cons_succ]
              refine wpAnyH_ready (rs := [6]) (by kernel_rfl) (by simp) ?_
              refine AllReadyH.cons (o := ⟨_, _, _, _, _, _⟩) rfl (fun K hK => ?_) (AllReadyH.nil)
              go_simp
              generalize w3.setCell ⟨q + 1, 0, none⟩ (.slice A' (ch.length + 1) c') = We at *
              refine hK.out _ _ x0 (fun hHeld => ?_)
              clear hK K
              try simp only [Act.put, List.setIfInBounds_toArray, List.set_cons_zero, List.set_cons_succ]
              refine wpAnyH_done (by kernel_rfl) ?_ _
              have kp7 := kp5.trans ((keeps_below bx).trans c5)
              have bl7 := bl5.trans ((bx.mono S5'.low.size).trans c6)
              clear hHeld S5' Sx hu hux huy hrowu d10 qx qy bZ bZx bZy bZ5 hv5 hvx kb HRUN c1 c2 c5 c6 bx hb2 kp5 bl5 y0 x0 m0 o0 j0
              gi_wp2
              have j0 := bZ6.cell 0
              have j1 := bZ6.cell 1
              have j2 := bZ6.cell 2
              have j3 := bZ6.cell 3
              have j4 := bZ6.cell 4
              simp only [List.getElem?_cons_zero, List.getElem?_cons_succ] at j0 j1 j2 j3 j4
              have d9 := hv6.cell
              refine in_round (S := fun w' => w'.cell? ⟨Bi, 0, none⟩ = some (.string z.path) ∧ w'.cell? ⟨Bi, 1, none⟩ = some (.bool z.has) ∧ w'.cell? ⟨Bi, 2, none⟩ = some (.string z.data) ∧ w'.cell? ⟨Bi, 3, none⟩ = some (.int .i64 z.l) ∧ w'.cell? ⟨Bi, 4, none⟩ = some (.int .i64 z.r)) (by kernel_rfl) (by kernel_rfl) (by rintro ⟨_, _, h⟩; exact h) ⟨j0, j1, j2, j3, j4⟩ (fun hHeld => ?_)
              refine wpAnyH_take (i := 1) (oi := ⟨_, _, _, _, _, _⟩) (v := ?_) rfl (by kernel_rfl) (by kernel_rfl) (by kernel_rfl) (fun _ _ _ h => h) (Or.inl ⟨by rfl, ?_⟩) (by assumption) ?_
              rotate_left
              · intro w hSw; (try dsimp only at hSw); go_simp; (try (with_reducible rfl))
              try simp only [Act.put, List.setIfInBounds_toArray, List.set_cons_zero, List.set_cons_succ]
              refine wpAnyH_ready (rs := [0, 2]) (by kernel_rfl) (by simp) ?_
              refine AllReadyH.cons (o := ⟨_, _, _, _, _, _⟩) rfl (fun K hK => ?_) (AllReadyH.cons (o := ⟨_, _, _, _, _, _⟩) rfl (fun K hK => ?_) (AllReadyH.nil))
              · go_simp
                refine hK.out _ _ ⟨j0, j1, j2, j3, j4⟩ (fun hHeld => ?_)
                clear hK K
                try simp only [Act.put, List.setIfInBounds_toArray, List.set_cons_zero, List.set_cons_succ]
                refine wpAnyH_ready (rs := [2]) (by kernel_rfl) (by simp) ?_
                refine AllReadyH.cons (o := ⟨_, _, _, _, _, _⟩) rfl (fun K hK => ?_) (AllReadyH.nil)
                go_simp
                refine (eanew_any z _ (by have := hz.1; omega) (by have := hz.2; omega)).mono ?_
                rintro e W1 ⟨rfl, hb2⟩
                have b2 := below_undrew hb2
                have S2' := c3.below b2
                have hv2 := boxed_below hv6 b2
                have bI2 := bZ6.below b2
                have q2 := hv2.cell
                have m0 := bI2.cell 0
                have m1 := bI2.cell 1
                have m2 := bI2.cell 2
                have m3 := bI2.cell 3
                have m4 := bI2.cell 4
                simp only [List.getElem?_cons_zero, List.getElem?_cons_succ] at m0 m1 m2 m3 m4
                refine hK.out _ _ ⟨m0, m1, m2, m3, m4⟩ (fun hHeld => ?_)
                clear hK K
                try simp only [Act.put, List.setIfInBounds_toArray, List.set_cons_zero, List.set_cons_succ]
                refine wpAnyH_ready (rs := [3]) (by kernel_rfl) (by simp) ?_
                refine AllReadyH.cons (o := ⟨_, _, _, _, _, _⟩) rfl (fun K hK => ?_) (AllReadyH.nil)
                go_simp
                obtain ⟨A2, c2', w4, HRUN2, c1, c2, c4, c5, c6, kb⟩ := S2'.app hq (by have h1 := HLEN.out; have h2 := HK.out; omega) hv2 z
                have hv3 := hv2.alloc (.cells #[.string z.path, .bool z.has, .string z.data, .int .i64 z.l, .int .i64 z.r] 34)
                have bI3 := bI2.below ((Below.refl _ _).alloc (Nat.le_refl _) (.cells #[.string z.path, .bool z.has, .string z.data, .int .i64 z.l, .int .i64 z.r] 34))
                have q3 := hv3.cell
                have o0 := bI3.cell 0
                have o1 := bI3.cell 1
                have o2 := bI3.cell 2
                have o3 := bI3.cell 3
                have o4 := bI3.cell 4
                simp only [List.getElem?_cons_zero, List.getElem?_cons_succ] at o0 o1 o2 o3 o4
                refine hK.out _ _ ⟨o0, o1, o2, o3, o4⟩ (fun hHeld => ?_)
                clear hK K
                try simp only [Act.put, List.setIfInBounds_toArray, List.set_cons_zero, List.set_cons_succ]
                have bI5 := kb Bi _ _ bI2 hne
                have bI6 := bI5.other (show Bi ≠ q by omega) 0 (.slice A2 (out.length + 1) c2')
                have y0 := bI5.cell 0
                have y1 := bI5.cell 1
                have y2 := bI5.cell 2
                have y3 := bI5.cell 3
                have y4 := bI5.cell 4
                simp only [List.getElem?_cons_zero, List.getElem?_cons_succ] at y0 y1 y2 y3 y4
                have x0 := bI6.cell 0
                have x1 := bI6.cell 1
                have x2 := bI6.cell 2
                have x3 := bI6.cell 3
                have x4 := bI6.cell 4
                simp only [List.getElem?_cons_zero, List.getElem?_cons_succ] at x0 x1 x2 x3 x4
                refine wpAnyH_ready (rs := [4]) (by kernel_rfl) (by simp) ?_
                refine AllReadyH.cons (o := ⟨_, _, _, _, _, _⟩) rfl (fun K hK => ?_) (AllReadyH.nil)
                refine stepApp2 (by rfl) (.tmp 50) (.tmp 53) 22 rfl _ _ _ rfl rfl HRUN2.out ?_
                refine hK.out _ _ ⟨y0, y1, y2, y3, y4⟩ (fun hHeld => ?_)
                clear hK K
                try simp only [Act.put, List.setIfInBounds_toArray, List.set_cons_zero, List.set_cons_succ]
                refine wpAnyH_ready (rs := [5]) (by kernel_rfl) (by simp) ?_
                refine AllReadyH.cons (o := ⟨_, _, _, _, _, _⟩) rfl (fun K hK => ?_) (AllReadyH.nil)
                go_simp
                refine hK.out _ _ ⟨x0, x1, x2, x3, x4⟩ (fun hHeld => ?_)
                clear hK K
                try simp only [Act.put, List.setIfInBounds_toArray, List.set_cons_zero, List.set_cons_succ]
                refine wpAnyH_done (by kernel_rfl) ?_ _
                have kp := kp7.trans ((keeps_below b2).trans c5)
                have bl := bl7.trans ((b2.mono c3.low.size).trans c6)
                exact ⟨kp.from _, bl, by rw [HOUT2.out, HCH2.out]; exact c4, HOK2⟩
              · go_simp
                refine (eanew_any z _ (by have := hz.1; omega) (by have := hz.2; omega)).mono ?_
                rintro e W1 ⟨rfl, hb2⟩
                have b2 := below_undrew hb2
                have S2' := c3.below b2
                have hv2 := boxed_below hv6 b2
                have bI2 := bZ6.below b2
                have q2 := hv2.cell
                have m0 := bI2.cell 0
                have m1 := bI2.cell 1
                have m2 := bI2.cell 2
                have m3 := bI2.cell 3
                have m4 := bI2.cell 4
                simp only [List.getElem?_cons_zero, List.getElem?_cons_succ] at m0 m1 m2 m3 m4
                refine hK.out _ _ ⟨m0, m1, m2, m3, m4⟩ (fun hHeld => ?_)
                clear hK K
                try simp only [Act.put, List.setIfInBounds_toArray, List.set_cons_zero, List.set_cons_succ]
                refine wpAnyH_ready (rs := [0, 3]) (by kernel_rfl) (by simp) ?_
                refine AllReadyH.cons (o := ⟨_, _, _, _, _, _⟩) rfl (fun K hK => ?_) (AllReadyH.cons (o := ⟨_, _, _, _, _, _⟩) rfl (fun K hK => ?_) (AllReadyH.nil))
                · go_simp
                  refine hK.out _ _ ⟨m0, m1, m2, m3, m4⟩ (fun hHeld => ?_)
                  clear hK K
                  try simp only [Act.put, List.setIfInBounds_toArray, List.set_cons_zero, List.set_cons_succ]
                  refine wpAnyH_ready (rs := [3]) (by kernel_rfl) (by simp) ?_
                  refine AllReadyH.cons (o := ⟨_, _, _, _, _, _⟩) rfl (fun K hK => ?_) (AllReadyH.nil)
                  go_simp
                  obtain ⟨A2, c2', w4, HRUN2, c1, c2, c4, c5, c6, kb⟩ := S2'.app hq (by have h1 := HLEN.out; have h2 := HK.out; omega) hv2 z
                  have hv3 := hv2.alloc (.cells #[.string z.path, .bool z.has, .string z.data, .int .i64 z.l, .int .i64 z.r] 34)
                  have bI3 := bI2.below ((Below.refl _ _).alloc (Nat.le_refl _) (.cells #[.string z.path, .bool z.has, .string z.data, .int .i64 z.l, .int .i64 z.r] 34))
                  have q3 := hv3.cell
                  have o0 := bI3.cell 0
                  have o1 := bI3.cell 1
                  have o2 := bI3.cell 2
                  have o3 := bI3.cell 3
                  have o4 := bI3.cell 4
                  simp only [List.getElem?_cons_zero, List.getElem?_cons_succ] at o0 o1 o2 o3 o4
                  refine hK.out _ _ ⟨o0, o1, o2, o3, o4⟩ (fun hHeld => ?_)
                  clear hK K
                  try simp only [Act.put, List.setIfInBounds_toArray, List.set_cons_zero, List.set_cons_succ]
                  have bI5 := kb Bi _ _ bI2 hne
                  have bI6 := bI5.other (show Bi ≠ q by omega) 0 (.slice A2 (out.length + 1) c2')
                  have y0 := bI5.cell 0
                  have y1 := bI5.cell 1
                  have y2 := bI5.cell 2
                  have y3 := bI5.cell 3
                  have y4 := bI5.cell 4
                  simp only [List.getElem?_cons_zero, List.getElem?_cons_succ] at y0 y1 y2 y3 y4
                  have x0 := bI6.cell 0
                  have x1 := bI6.cell 1
                  have x2 := bI6.cell 2
                  have x3 := bI6.cell 3
                  have x4 := bI6.cell 4
                  simp only [List.getElem?_cons_zero, List.getElem?_cons_succ] at x0 x1 x2 x3 x4
                  refine wpAnyH_ready (rs := [4]) (by kernel_rfl) (by simp) ?_
                  refine AllReadyH.cons (o := ⟨_, _, _, _, _, _⟩) rfl (fun K hK => ?_) (AllReadyH.nil)
                  refine stepApp2 (by rfl) (.tmp 50) (.tmp 53) 22 rfl _ _ _ rfl rfl HRUN2.out ?_
                  refine hK.out _ _ ⟨y0, y1, y2, y3, y4⟩ (fun hHeld => ?_)
                  clear hK K
                  try simp only [Act.put, List.setIfInBounds_toArray, List.set_cons_zero, List.set_cons_succ]
                  refine wpAnyH_ready (rs := [5]) (by kernel_rfl) (by simp) ?_
                  refine AllReadyH.cons (o := ⟨_, _, _, _, _, _⟩) rfl (fun K hK => ?_) (AllReadyH.nil)
                  go_simp
                  refine hK.out _ _ ⟨x0, x1, x2, x3, x4⟩ (fun hHeld => ?_)
                  clear hK K
                  try simp only [Act.put, List.setIfInBounds_toArray, List.set_cons_zero, List.set_cons_succ]
                  refine wpAnyH_done (by kernel_rfl) ?_ _
                  have kp := kp7.trans ((keeps_below b2).trans c5)
                  have bl := bl7.trans ((b2.mono c3.low.size).trans c6)
                  exact ⟨kp.from _, bl, by rw [HOUT2.out, HCH2.out]; exact c4, HOK2⟩
                · go_simp
                  obtain ⟨A2, c2', w4, HRUN2, c1, c2, c4, c5, c6, kb⟩ := S2'.app hq (by have h1 := HLEN.out; have h2 := HK.out; omega) hv2 z
                  have hv3 := hv2.alloc (.cells #[.string z.path, .bool z.has, .string z.data, .int .i64 z.l, .int .i64 z.r] 34)
                  have bI3 := bI2.below ((Below.refl _ _).alloc (Nat.le_refl _) (.cells #[.string z.path, .bool z.has, .string z.data, .int .i64 z.l, .int .i64 z.r] 34))
                  have q3 := hv3.cell
                  have o0 := bI3.cell 0
                  have o1 := bI3.cell 1
                  have o2 := bI3.cell 2
                  have o3 := bI3.cell 3
                  have o4 := bI3.cell 4
                  simp only [List.getElem?_cons_zero, List.getElem?_cons_succ] at o0 o1 o2 o3 o4
                  refine hK.out _ _ ⟨o0, o1, o2, o3, o4⟩ (fun hHeld => ?_)
                  clear hK K
                  try simp only [Act.put, List.setIfInBounds_toArray, List.set_cons_zero, List.set_cons_succ]
                  refine wpAnyH_ready (rs := [0]) (by kernel_rfl) (by simp) ?_
                  refine AllReadyH.cons (o := ⟨_, _, _, _, _, _⟩) rfl (fun K hK => ?_) (AllReadyH.nil)
                  go_simp
                  refine hK.out _ _ ⟨o0, o1, o2, o3, o4⟩ (fun hHeld => ?_)
                  clear hK K
                  try simp only [Act.put, List.setIfInBounds_toArray, List.set_cons_zero, List.set_cons_succ]
                  have bI5 := kb Bi _ _ bI2 hne
                  have bI6 := bI5.other (show Bi ≠ q by omega) 0 (.slice A2 (out.length + 1) c2')
                  have y0 := bI5.cell 0
                  have y1 := bI5.cell 1
                  have y2 := bI5.cell 2
                  have y3 := bI5.cell 3
                  have y4 := bI5.cell 4
                  simp only [List.getElem?_cons_zero, List.getElem?_cons_succ] at y0 y1 y2 y3 y4
                  have x0 := bI6.cell 0
                  have x1 := bI6.cell 1
                  have x2 := bI6.cell 2
                  have x3 := bI6.cell 3
                  have x4 := bI6.cell 4
                  simp only [List.getElem?_cons_zero, List.getElem?_cons_succ] at x0 x1 x2 x3 x4
                  refine wpAnyH_ready (rs := [4]) (by kernel_rfl) (by simp) ?_
                  refine AllReadyH.cons (o := ⟨_, _, _, _, _, _⟩) rfl (fun K hK => ?_) (AllReadyH.nil)
                  refine stepApp2 (by rfl) (.tmp 50) (.tmp 53) 22 rfl _ _ _ rfl rfl HRUN2.out ?_
                  refine hK.out _ _ ⟨y0, y1, y2, y3, y4⟩ (fun hHeld => ?_)
                  clear hK K
                  try simp only [Act.put, List.setIfInBounds_toArray, List.set_cons_zero, List.set_cons_succ]
                  refine wpAnyH_ready (rs := [5]) (by kernel_rfl) (by simp) ?_
                  refine AllReadyH.cons (o := ⟨_, _, _, _, _, _⟩) rfl (fun K hK => ?_) (AllReadyH.nil)
                  go_simp
                  refine hK.out _ _ ⟨x0, x1, x2, x3, x4⟩ (fun hHeld => ?_)
                  clear hK K
                  try simp only [Act.put, List.setIfInBounds_toArray, List.set_cons_zero, List.set_cons_succ]
                  refine wpAnyH_done (by kernel_rfl) ?_ _
                  have kp := kp7.trans ((keeps_below b2).trans c5)
                  have bl := bl7.trans ((b2.mono c3.low.size).trans c6)
                  exact ⟨kp.from _, bl, by rw [HOUT2.out, HCH2.out]; exact c4, HOK2⟩
            · go_simp
              obtain ⟨A', c', w3, HRUN, c1, c2, c3, c5, c6, kb⟩ := Sx.appS hq (by have h1 := HLEN.out; have h2 := HCL.out; omega) hux z.path
              have huy := hux.alloc (.cells #[.string z.path] 9)
              have bZy := bZx.below ((Below.refl _ _).alloc (Nat.le_refl _) (.cells #[.string z.path] 9))
              have qy := huy.cell
              have o0 := bZy.cell 0
              simp only [List.getElem?_cons_zero] at o0
              refine hK.out _ _ o0 (fun hHeld => ?_)
              clear hK K
              try simp only [Act.put, List.setIfInBounds_toArray, List.set_cons_zero, List.set_cons_succ]
              refine wpAnyH_ready (rs := [0]) (by kernel_rfl) (by simp) ?_
              refine AllReadyH.cons (o := ⟨_, _, _, _, _, _⟩) rfl (fun K hK => ?_) (AllReadyH.nil)
              go_simp
              refine hK.out _ _ o0 (fun hHeld => ?_)
              clear hK K
              try simp only [Act.put, List.setIfInBounds_toArray, List.set_cons_zero, List.set_cons_succ]
              have bZ5 := kb Bi _ _ (by decide) bZx
              have bZ6 := bZ5.other (show Bi ≠ q + 1 by omega) 0 (.slice A' (ch.length + 1) c')
              have hv6 : Boxed (w3.setCell ⟨q + 1, 0, none⟩ (.slice A' (ch.length + 1) c')) q 22 (.slice Av out.length cv) := Boxed.kept (show Boxed w3 q 22 _ from kb q [_] _ (by decide) hvx) (grownBy_setCell' _ _ _) (fun e => by injection e; omega)
              have y0 := bZ5.cell 0
              simp only [List.getElem?_cons_zero] at y0
              have x0 := bZ6.cell 0
              simp only [List.getElem?_cons_zero] at x0
              refine wpAnyH_ready (rs := [5]) (by kernel_rfl) (by simp) ?_
              refine AllReadyH.cons (o := ⟨_, _, _, _, _, _⟩) rfl (fun K hK => ?_) (AllReadyH.nil)
              refine stepApp2 (by rfl) (.tmp 44) (.tmp 48) 25 rfl _ _ _ rfl rfl HRUN.out ?_
              refine hK.out _ _ y0 (fun hHeld => ?_)
              clear hK K
              try simp only [Act.put, List.setIfInBounds_toArray, List.set_cons_zero, List.set_cons_succ]
              refine wpAnyH_ready (rs := [6]) (by kernel_rfl) (by simp) ?_
              refine AllReadyH.cons (o := ⟨_, _, _, _, _, _⟩) rfl (fun K hK => ?_) (AllReadyH.nil)
              go_simp
              generalize w3.setCell ⟨q + 1, 0, none⟩ (.slice A' (ch.length + 1) c') = We at *
              refine hK.out _ _ x0 (fun hHeld => ?_)
              clear hK K
              try simp only [Act.put, List.setIfInBounds_toArray, List.set_cons_zero, List.set_cons_succ]
              refine wpAnyH_done (by kernel_rfl) ?_ _
              have kp7 := kp5.trans ((keeps_below bx).trans c5)
              have bl7 := bl5.trans ((bx.mono S5'.low.size).trans c6)
              clear hHeld S5' Sx hu hux huy hrowu d10 qx qy bZ bZx bZy bZ5 hv5 hvx kb HRUN c1 c2 c5 c6 bx hb2 kp5 bl5 y0 x0 m0 o0 j0
              gi_wp2
              have j0 := bZ6.cell 0
              have j1 := bZ6.cell 1
              have j2 := bZ6.cell 2
              have j3 := bZ6.cell 3
              have j4 := bZ6.cell 4
              simp only [List.getElem?_cons_zero, List.getElem?_cons_succ] at j0 j1 j2 j3 j4
              have d9 := hv6.cell
              refine in_round (S := fun w' => w'.cell? ⟨Bi, 0, none⟩ = some (.string z.path) ∧ w'.cell? ⟨Bi, 1, none⟩ = some (.bool z.has) ∧ w'.cell? ⟨Bi, 2, none⟩ = some (.string z.data) ∧ w'.cell? ⟨Bi, 3, none⟩ = some (.int .i64 z.l) ∧ w'.cell? ⟨Bi, 4, none⟩ = some (.int .i64 z.r)) (by kernel_rfl) (by kernel_rfl) (by rintro ⟨_, _, h⟩; exact h) ⟨j0, j1, j2, j3, j4⟩ (fun hHeld => ?_)
              refine wpAnyH_take (i := 1) (oi := ⟨_, _, _, _, _, _⟩) (v := ?_) rfl (by kernel_rfl) (by kernel_rfl) (by kernel_rfl) (fun _ _ _ h => h) (Or.inl ⟨by rfl, ?_⟩) (by assumption) ?_
              rotate_left
              · intro w hSw; (try dsimp only at hSw); go_simp; (try (with_reducible rfl))
              try simp only [Act.put, List.setIfInBounds_toArray, List.set_cons_zero, List.set_cons_succ]
              refine wpAnyH_ready (rs := [0, 2]) (by kernel_rfl) (by simp) ?_
              refine AllReadyH.cons (o := ⟨_, _, _, _, _, _⟩) rfl (fun K hK => ?_) (AllReadyH.cons (o := ⟨_, _, _, _, _, _⟩) rfl (fun K hK => ?_) (AllReadyH.nil))
              · go_simp
                refine hK.out _ _ ⟨j0, j1, j2, j3, j4⟩ (fun hHeld => ?_)
                clear hK K
                try simp only [Act.put, List.setIfInBounds_toArray, List.set_cons_zero, List.set_cons_succ]
                refine wpAnyH_ready (rs := [2]) (by kernel_rfl) (by simp) ?_
                refine AllReadyH.cons (o := ⟨_, _, _, _, _, _⟩) rfl (fun K hK => ?_) (AllReadyH.nil)
                go_simp
                refine (eanew_any z _ (by have := hz.1; omega) (by have := hz.2; omega)).mono ?_
                rintro e W1 ⟨rfl, hb2⟩
                have b2 := below_undrew hb2
                have S2' := c3.below b2
                have hv2 := boxed_below hv6 b2
                have bI2 := bZ6.below b2
                have q2 := hv2.cell
                have m0 := bI2.cell 0
                have m1 := bI2.cell 1
                have m2 := bI2.cell 2
                have m3 := bI2.cell 3
                have m4 := bI2.cell 4
                simp only [List.getElem?_cons_zero, List.getElem?_cons_succ] at m0 m1 m2 m3 m4
                refine hK.out _ _ ⟨m0, m1, m2, m3, m4⟩ (fun hHeld => ?_)
                clear hK K
                try simp only [Act.put, List.setIfInBounds_toArray, List.set_cons_zero, List.set_cons_succ]
                refine wpAnyH_ready (rs := [3]) (by kernel_rfl) (by simp) ?_
                refine AllReadyH.cons (o := ⟨_, _, _, _, _, _⟩) rfl (fun K hK => ?_) (AllReadyH.nil)
                go_simp
                obtain ⟨A2, c2', w4, HRUN2, c1, c2, c4, c5, c6, kb⟩ := S2'.app hq (by have h1 := HLEN.out; have h2 := HK.out; omega) hv2 z
                have hv3 := hv2.alloc (.cells #[.string z.path, .bool z.has, .string z.data, .int .i64 z.l, .int .i64 z.r] 34)
                have bI3 := bI2.below ((Below.refl _ _).alloc (Nat.le_refl _) (.cells #[.string z.path, .bool z.has, .string z.data, .int .i64 z.l, .int .i64 z.r] 34))
                have q3 := hv3.cell
                have o0 := bI3.cell 0
                have o1 := bI3.cell 1
                have o2 := bI3.cell 2
                have o3 := bI3.cell 3
                have o4 := bI3.cell 4
                simp only [List.getElem?_cons_zero, List.getElem?_cons_succ] at o0 o1 o2 o3 o4
                refine hK.out _ _ ⟨o0, o1, o2, o3, o4⟩ (fun hHeld => ?_)
                clear hK K
                try simp only [Act.put, List.setIfInBounds_toArray, List.set_cons_zero, List.set_cons_succ]
                have bI5 := kb Bi _ _ bI2 hne
                have bI6 := bI5.other (show Bi ≠ q by omega) 0 (.slice A2 (out.length + 1) c2')
                have y0 := bI5.cell 0
                have y1 := bI5.cell 1
                have y2 := bI5.cell 2
                have y3 := bI5.cell 3
                have y4 := bI5.cell 4
                simp only [List.getElem?_cons_zero, List.getElem?_cons_succ] at y0 y1 y2 y3 y4
                have x0 := bI6.cell 0
                have x1 := bI6.cell 1
                have x2 := bI6.cell 2
                have x3 := bI6.cell 3
                have x4 := bI6.cell 4
                simp only [List.getElem?_cons_zero, List.getElem?_cons_succ] at x0 x1 x2 x3 x4
                refine wpAnyH_ready (rs := [4]) (by kernel_rfl) (by simp) ?_
                refine AllReadyH.cons (o := ⟨_, _, _, _, _, _⟩) rfl (fun K hK => ?_) (AllReadyH.nil)
                refine stepApp2 (by rfl) (.tmp 50) (.tmp 53) 22 rfl _ _ _ rfl rfl HRUN2.out ?_
                refine hK.out _ _ ⟨y0, y1, y2, y3, y4⟩ (fun hHeld => ?_)
                clear hK K
                try simp only [Act.put, List.setIfInBounds_toArray, List.set_cons_zero, List.set_cons_succ]
                refine wpAnyH_ready (rs := [5]) (by kernel_rfl) (by simp) ?_
                refine AllReadyH.cons (o := ⟨_, _, _, _, _, _⟩) rfl (fun K hK => ?_) (AllReadyH.nil)
                go_simp
                refine hK.out _ _ ⟨x0, x1, x2, x3, x4⟩ (fun hHeld => ?_)
                clear hK K
                try simp only [Act.put, List.setIfInBounds_toArray, List.set_cons_zero, List.set_cons_succ]
                refine wpAnyH_done (by kernel_rfl) ?_ _
                have kp := kp7.trans ((keeps_below b2).trans c5)
                have bl := bl7.trans ((b2.mono c3.low.size).trans c6)
                exact ⟨kp.from _, bl, by rw [HOUT2.out, HCH2.out]; exact c4, HOK2⟩
              · go_simp
                refine (eanew_any z _ (by have := hz.1; omega) (by have := hz.2; omega)).mono ?_
                rintro e W1 ⟨rfl, hb2⟩
                have b2 := below_undrew hb2
                have S2' := c3.below b2
                have hv2 := boxed_below hv6 b2
                have bI2 := bZ6.below b2
                have q2 := hv2.cell
                have m0 := bI2.cell 0
                have m1 := bI2.cell 1
                have m2 := bI2.cell 2
                have m3 := bI2.cell 3
                have m4 := bI2.cell 4
                simp only [List.getElem?_cons_zero, List.getElem?_cons_succ] at m0 m1 m2 m3 m4
                refine hK.out _ _ ⟨m0, m1, m2, m3, m4⟩ (fun hHeld => ?_)
                clear hK K
                try simp only [Act.put, List.setIfInBounds_toArray, List.set_cons_zero, List.set_cons_succ]
                refine wpAnyH_ready (rs := [0, 3]) (by kernel_rfl) (by simp) ?_
                refine AllReadyH.cons (o := ⟨_, _, _, _, _, _⟩) rfl (fun K hK => ?_) (AllReadyH.cons (o := ⟨_, _, _, _, _, _⟩) rfl (fun K hK => ?_) (AllReadyH.nil))
                · go_simp
                  refine hK.out _ _ ⟨m0, m1, m2, m3, m4⟩ (fun hHeld => ?_)
                  clear hK K
                  try simp only [Act.put, List.setIfInBounds_toArray, List.set_cons_zero, List.set_cons_succ]
                  refine wpAnyH_ready (rs := [3]) (by kernel_rfl) (by simp) ?_
                  refine AllReadyH.cons (o := ⟨_, _, _, _, _, _⟩) rfl (fun K hK => ?_) (AllReadyH.nil)
                  go_simp
                  obtain ⟨A2, c2', w4, HRUN2, c1, c2, c4, c5, c6, kb⟩ := S2'.app hq (by have h1 := HLEN.out; have h2 := HK.out; omega) hv2 z
                  have hv3 := hv2.alloc (.cells #[.string z.path, .bool z.has, .string z.data, .int .i64 z.l, .int .i64 z.r] 34)
                  have bI3 := bI2.below ((Below.refl _ _).alloc (Nat.le_refl _) (.cells #[.string z.path, .bool z.has, .string z.data, .int .i64 z.l, .int .i64 z.r] 34))
                  have q3 := hv3.cell
                  have o0 := bI3.cell 0
                  have o1 := bI3.cell 1
                  have o2 := bI3.cell 2
                  have o3 := bI3.cell 3
                  have o4 := bI3.cell 4
                  simp only [List.getElem?_cons_zero, List.getElem?_cons_succ] at o0 o1 o2 o3 o4
                  refine hK.out _ _ ⟨o0, o1, o2, o3, o4⟩ (fun hHeld => ?_)
                  clear hK K
                  try simp only [Act.put, List.setIfInBounds_toArray, List.set_cons_zero, List.set_cons_succ]
                  have bI5 := kb Bi _ _ bI2 hne
                  have bI6 := bI5.other (show Bi ≠ q by omega) 0 (.slice A2 (out.length + 1) c2')
                  have y0 := bI5.cell 0
                  have y1 := bI5.cell 1
                  have y2 := bI5.cell 2
                  have y3 := bI5.cell 3
                  have y4 := bI5.cell 4
                  simp only [List.getElem?_cons_zero, List.getElem?_cons_succ] at y0 y1 y2 y3 y4
                  have x0 := bI6.cell 0
                  have x1 := bI6.cell 1
                  have x2 := bI6.cell 2
                  have x3 := bI6.cell 3
                  have x4 := bI6.cell 4
                  simp only [List.getElem?_cons_zero, List.getElem?_cons_succ] at x0 x1 x2 x3 x4
                  refine wpAnyH_ready (rs := [4]) (by kernel_rfl) (by simp) ?_
                  refine AllReadyH.cons (o := ⟨_, _, _, _, _, _⟩) rfl (fun K hK => ?_) (AllReadyH.nil)
                  refine stepApp2 (by rfl) (.tmp 50) (.tmp 53) 22 rfl _ _ _ rfl rfl HRUN2.out ?_
                  refine hK.out _ _ ⟨y0, y1, y2, y3, y4⟩ (fun hHeld => ?_)
                  clear hK K
                  try simp only [Act.put, List.setIfInBounds_toArray, List.set_cons_zero, List.set_cons_succ]
                  refine wpAnyH_ready (rs := [5]) (by kernel_rfl) (by simp) ?_
                  refine AllReadyH.cons (o := ⟨_, _, _, _, _, _⟩) rfl (fun K hK => ?_) (AllReadyH.nil)
                  go_simp
                  refine hK.out _ _ ⟨x0, x1, x2, x3, x4⟩ (fun hHeld => ?_)
                  clear hK K
                  try simp only [Act.put, List.setIfInBounds_toArray, List.set_cons_zero, List.set_cons_succ]
                  refine wpAnyH_done (by kernel_rfl) ?_ _
                  have kp := kp7.trans ((keeps_below b2).trans c5)
                  have bl := bl7.trans ((b2.mono c3.low.size).trans c6)
                  exact ⟨kp.from _, bl, by rw [HOUT2.out, HCH2.out]; exact c4, HOK2⟩
                · go_simp
                  obtain ⟨A2, c2', w4, HRUN2, c1, c2, c4, c5, c6, kb⟩ := S2'.app hq (by have h1 := HLEN.out; have h2 := HK.out; omega) hv2 z
                  have hv3 := hv2.alloc (.cells #[.string z.path, .bool z.has, .string z.data, .int .i64 z.l, .int .i64 z.r] 34)
                  have bI3 := bI2.below ((Below.refl _ _).alloc (Nat.le_refl _) (.cells #[.string z.path, .bool z.has, .string z.data, .int .i64 z.l, .int .i64 z.r] 34))
                  have q3 := hv3.cell
                  have o0 := bI3.cell 0
                  have o1 := bI3.cell 1
                  have o2 := bI3.cell 2
                  have o3 := bI3.cell 3
                  have o4 := bI3.cell 4
                  simp only [List.getElem?_cons_zero, List.getElem?_cons_succ] at o0 o1 o2 o3 o4
                  refine hK.out _ _ ⟨o0, o1, o2, o3, o4⟩ (fun hHeld => ?_)
                  clear hK K
                  try simp only [Act.put, List.setIfInBounds_toArray, List.set_cons_zero, List.set_cons_succ]
                  refine wpAnyH_ready (rs := [0]) (by kernel_rfl) (by simp) ?_
                  refine AllReadyH.cons (o := ⟨_, _, _, _, _, _⟩) rfl (fun K hK => ?_) (AllReadyH.nil)
                  go_simp
                  refine hK.out _ _ ⟨o0, o1, o2, o3, o4⟩ (fun hHeld => ?_)
                  clear hK K
                  try simp only [Act.put, List.setIfInBounds_toArray, List.set_cons_zero, List.set_cons_succ]
                  have bI5 := kb Bi _ _ bI2 hne
                  have bI6 := bI5.other (show Bi ≠ q by omega) 0 (.slice A2 (out.length + 1) c2')
                  have y0 := bI5.cell 0
                  have y1 := bI5.cell 1
                  have y2 := bI5.cell 2
                  have y3 := bI5.cell 3
                  have y4 := bI5.cell 4
                  simp only [List.getElem?_cons_zero, List.getElem?_cons_succ] at y0 y1 y2 y3 y4
                  have x0 := bI6.cell 0
                  have x1 := bI6.cell 1
                  have x2 := bI6.cell 2
                  have x3 := bI6.cell 3
                  have x4 := bI6.cell 4
                  simp only [List.getElem?_cons_zero, List.getElem?_cons_succ] at x0 x1 x2 x3 x4
                  refine wpAnyH_ready (rs := [4]) (by kernel_rfl) (by simp) ?_
                  refine AllReadyH.cons (o := ⟨_, _, _, _, _, _⟩) rfl (fun K hK => ?_) (AllReadyH.nil)
                  refine stepApp2 (by rfl) (.tmp 50) (.tmp 53) 22 rfl _ _ _ rfl rfl HRUN2.out ?_
                  refine hK.out _ _ ⟨y0, y1, y2, y3, y4⟩ (fun hHeld => ?_)
                  clear hK K
                  try simp only [Act.put, List.setIfInBounds_toArray, List.set_cons_zero, List.set_cons_succ]
                  refine wpAnyH_ready (rs := [5]) (by kernel_rfl) (by simp) ?_
                  refine AllReadyH.cons (o := ⟨_, _, _, _, _, _⟩) rfl (fun K hK => ?_) (AllReadyH.nil)
                  go_simp
                  refine hK.out _ _ ⟨x0, x1, x2, x3, x4⟩ (fun hHeld => ?_)
                  clear hK K
                  try simp only [Act.put, List.setIfInBounds_toArray, List.set_cons_zero, List.set_cons_succ]
                  refine wpAnyH_done (by kernel_rfl) ?_ _
                  have kp := kp7.trans ((keeps_below b2).trans c5)
                  have bl := bl7.trans ((b2.mono c3.low.size).trans c6)
                  exact ⟨kp.from _, bl, by rw [HOUT2.out, HCH2.out]; exact c4, HOK2⟩
  case done =>
    rintro D ys W hD rfl ⟨hS, HO⟩ hK
    rw [bothT_val] at hS HO
    have HN0 : Hid (scanN es fs a = 0) := by show _ = _; rw [HN.out, HO.out]; rfl
    have HA : Hid (scanA es fs a = outP a (bothL es fs)) := by show _ = _; rw [scanA, if_pos HN0.out]
    have HC : Hid (scanC es fs a = chgP (bothL es fs)) := by show _ = _; rw [scanC, if_pos HN0.out]
    generalize outP a (bothL es fs) = out at *
    generalize chgP (bothL es fs) = ch at *
    clear HO st0
    gi_wp2
    refine wpIn_wide.2 ?_
    have hd : Below W.heap.size W W.drew := ⟨rfl, rfl, rfl, Nat.le_refl _, fun _ _ => rfl⟩
    have hS' := hS.below hd
    have hK' : W.drew.heap[D]? = some (.deferred (some [])) := hK
    obtain ⟨v, hv, hrow, -⟩ := hS'.sc
    obtain ⟨u, hu, hrow2, -⟩ := hS'.chg
    obtain ⟨Av, cv, rfl⟩ := own_slice hrow
    obtain ⟨Au, cu, rfl⟩ := own_slice hrow2
    have d9 := hv.cell
    have d10 := hu.cell
    refine wp_region_held_drew (S := fun _ => True) (by kernel_rfl) trivial (fun hHeld => ?_)
    clear hS
    generalize W.drew = W at *
    have d6 := hS'.r6.cell
    have d7 := hS'.r7.cell
    have d8 := hS'.r8.cell
    have z6 := hS'.r6.frozen
    have z7 := hS'.r7.frozen
    have z8 := hS'.r8.frozen
    obtain ⟨e6, e7, e8⟩ := res3 hS'.r6 hS'.r7 hS'.r8 (.slice Av out.length cv) (.slice Au ch.length cu) (.int .i64 0)
    have r1 := res3_row hS'.r6 hS'.r7 hS'.r8 (.slice Av out.length cv) (.slice Au ch.length cu) (.int .i64 0) hrow (by decide) (by decide) (by decide)
    have r2 := res3_row hS'.r6 hS'.r7 hS'.r8 (.slice Av out.length cv) (.slice Au ch.length cu) (.int .i64 0) hrow2 (by decide) (by decide) (by decide)
    have bz := ((hS'.low.setCell (p := ⟨w.heap.size + 1, 0, none⟩) (by show _ ≤ w.heap.size + 1; omega) (.slice Av out.length cv)).setCell (p := ⟨w.heap.size + 1 + 1, 0, none⟩) (by show _ ≤ w.heap.size + 1 + 1; omega) (.slice Au ch.length cu)).setCell (p := ⟨w.heap.size + 1 + 1 + 1, 0, none⟩) (by show _ ≤ w.heap.size + 1 + 1 + 1; omega) (.int .i64 0)
    have kz := (((KeepsOthers.setCell W ⟨w.heap.size + 1, 0, none⟩ (.slice Av out.length cv)).trans (KeepsOthers.setCell _ ⟨w.heap.size + 1 + 1, 0, none⟩ (.slice Au ch.length cu))).trans (KeepsOthers.setCell _ ⟨w.heap.size + 1 + 1 + 1, 0, none⟩ (.int .i64 0))).same D _ hK' rfl
    generalize HZ : ((W.setCell ⟨w.heap.size + 1, 0, none⟩ (.slice Av out.length cv)).setCell ⟨w.heap.size + 1 + 1, 0, none⟩ (.slice Au ch.length cu)).setCell ⟨w.heap.size + 1 + 1 + 1, 0, none⟩ (.int .i64 0) = Z at e6 e7 e8 r1 r2 bz kz
    have f6 := cell_kept e6.cell (grownBy_putObj' Z D (.deferred none)) (fun r e => by cases e; exact ⟨_, kz, rfl⟩)
    have f7 := cell_kept e7.cell (grownBy_putObj' Z D (.deferred none)) (fun r e => by cases e; exact ⟨_, kz, rfl⟩)
    have f8 := cell_kept e8.cell (grownBy_putObj' Z D (.deferred none)) (fun r e => by cases e; exact ⟨_, kz, rfl⟩)
    have s1 := ownsRow_putObj r1 (.deferred none) kz rfl
    have s2 := ownsRow_putObj r2 (.deferred none) kz rfl
    have bq := bz.trans (belowK_b (w := w) (Nat.le_refl _) Z D _ (.deferred none) (by omega) kz rfl rfl)
    clear e6 e7 e8 r1 r2 bz hrow hrow2 hS' hK hK'
    refine wpAnyH_ready (rs := [0, 1]) (by kernel_rfl) (by simp) ?_
    refine AllReadyH.cons (o := ⟨_, _, _, _, _, _⟩) rfl (fun K hK => ?_) (AllReadyH.cons (o := ⟨_, _, _, _, _, _⟩) rfl (fun K hK => ?_) (AllReadyH.nil))
    · go_simp
      refine hK.out _ _ trivial (fun hHeld => ?_)
      clear hK K
      try simp only [Act.put, List.setIfInBounds_toArray, List.set_cons_zero, List.set_cons_succ]
      refine wpAnyH_ready (rs := [1, 2]) (by kernel_rfl) (by simp) ?_
      refine AllReadyH.cons (o := ⟨_, _, _, _, _, _⟩) rfl (fun K hK => ?_) (AllReadyH.cons (o := ⟨_, _, _, _, _, _⟩) rfl (fun K hK => ?_) (AllReadyH.nil))
      · go_simp
        refine hK.out _ _ trivial (fun hHeld => ?_)
        clear hK K
        try simp only [Act.put, List.setIfInBounds_toArray, List.set_cons_zero, List.set_cons_succ]
        refine wpAnyH_ready (rs := [2]) (by kernel_rfl) (by simp) ?_
        refine AllReadyH.cons (o := ⟨_, _, _, _, _, _⟩) rfl (fun K hK => ?_) (AllReadyH.nil)
        go_simp
        refine hK.out _ _ trivial (fun hHeld => ?_)
        clear hK K
        try simp only [Act.put, List.setIfInBounds_toArray, List.set_cons_zero, List.set_cons_succ]
        refine wpAnyH_ready (rs := [3]) (by kernel_rfl) (by simp) ?_
        refine AllReadyH.cons (o := ⟨_, _, _, _, _, _⟩) rfl (fun K hK => ?_) (AllReadyH.nil)
        go_simp
        refine hK.out _ _ trivial (fun hHeld => ?_)
        clear hK K
        try simp only [Act.put, List.setIfInBounds_toArray, List.set_cons_zero, List.set_cons_succ]
        refine wpAnyH_ready (rs := [4]) (by kernel_rfl) (by simp) ?_
        refine AllReadyH.cons (o := ⟨_, _, _, _, _, _⟩) rfl (fun K hK => ?_) (AllReadyH.nil)
        go_simp
        refine hK.out _ _ trivial (fun hHeld => ?_)
        clear hK K
        try simp only [Act.put, List.setIfInBounds_toArray, List.set_cons_zero, List.set_cons_succ]
        refine wpAnyH_done (by kernel_rfl) ?_ _
        gi_wp2
        refine ⟨by simp, .inl ⟨_, _, rfl, run_takeDeferred kz, ?_⟩⟩
        refine ⟨.tuple #[.slice Av out.length cv, .slice Au ch.length cu, .int .i64 0], by simp [results, Tryz.results23, go_sem, f6, f7, f8], Av, cv, Au, cu, by rw [HA.out, HC.out, HN0.out]; rfl, ?_, ?_, bq⟩
        · rw [HA.out]; exact s1
        · rw [HC.out]; exact s2
      · go_simp
        refine hK.out _ _ trivial (fun hHeld => ?_)
        clear hK K
        try simp only [Act.put, List.setIfInBounds_toArray, List.set_cons_zero, List.set_cons_succ]
        refine wpAnyH_ready (rs := [1]) (by kernel_rfl) (by simp) ?_
        refine AllReadyH.cons (o := ⟨_, _, _, _, _, _⟩) rfl (fun K hK => ?_) (AllReadyH.nil)
        go_simp
        refine hK.out _ _ trivial (fun hHeld => ?_)
        clear hK K
        try simp only [Act.put, List.setIfInBounds_toArray, List.set_cons_zero, List.set_cons_succ]
        refine wpAnyH_ready (rs := [3]) (by kernel_rfl) (by simp) ?_
        refine AllReadyH.cons (o := ⟨_, _, _, _, _, _⟩) rfl (fun K hK => ?_) (AllReadyH.nil)
        go_simp
        refine hK.out _ _ trivial (fun hHeld => ?_)
        clear hK K
        try simp only [Act.put, List.setIfInBounds_toArray, List.set_cons_zero, List.set_cons_succ]
        refine wpAnyH_ready (rs := [4]) (by kernel_rfl) (by simp) ?_
        refine AllReadyH.cons (o := ⟨_, _, _, _, _, _⟩) rfl (fun K hK => ?_) (AllReadyH.nil)
        go_simp
        refine hK.out _ _ trivial (fun hHeld => ?_)
        clear hK K
        try simp only [Act.put, List.setIfInBounds_toArray, List.set_cons_zero, List.set_cons_succ]
        refine wpAnyH_done (by kernel_rfl) ?_ _
        gi_wp2
        refine ⟨by simp, .inl ⟨_, _, rfl, run_takeDeferred kz, ?_⟩⟩
        refine ⟨.tuple #[.slice Av out.length cv, .slice Au ch.length cu, .int .i64 0], by simp [results, Tryz.results23, go_sem, f6, f7, f8], Av, cv, Au, cu, by rw [HA.out, HC.out, HN0.out]; rfl, ?_, ?_, bq⟩
        · rw [HA.out]; exact s1
        · rw [HC.out]; exact s2
    · go_simp
      refine hK.out _ _ trivial (fun hHeld => ?_)
      clear hK K
      try simp only [Act.put, List.setIfInBounds_toArray, List.set_cons_zero, List.set_cons_succ]
      refine wpAnyH_ready (rs := [0]) (by kernel_rfl) (by simp) ?_
      refine AllReadyH.cons (o := ⟨_, _, _, _, _, _⟩) rfl (fun K hK => ?_) (AllReadyH.nil)
      go_simp
      refine hK.out _ _ trivial (fun hHeld => ?_)
      clear hK K
      try simp only [Act.put, List.setIfInBounds_toArray, List.set_cons_zero, List.set_cons_succ]
      refine wpAnyH_ready (rs := [2]) (by kernel_rfl) (by simp) ?_
      refine AllReadyH.cons (o := ⟨_, _, _, _, _, _⟩) rfl (fun K hK => ?_) (AllReadyH.nil)
      go_simp
      refine hK.out _ _ trivial (fun hHeld => ?_)
      clear hK K
      try simp only [Act.put, List.setIfInBounds_toArray, List.set_cons_zero, List.set_cons_succ]
      refine wpAnyH_ready (rs := [3]) (by kernel_rfl) (by simp) ?_
      refine AllReadyH.cons (o := ⟨_, _, _, _, _, _⟩) rfl (fun K hK => ?_) (AllReadyH.nil)
      go_simp
      refine hK.out _ _ trivial (fun hHeld => ?_)
      clear hK K
      try simp only [Act.put, List.setIfInBounds_toArray, List.set_cons_zero, List.set_cons_succ]
      refine wpAnyH_ready (rs := [4]) (by kernel_rfl) (by simp) ?_
      refine AllReadyH.cons (o := ⟨_, _, _, _, _, _⟩) rfl (fun K hK => ?_) (AllReadyH.nil)
      go_simp
      refine hK.out _ _ trivial (fun hHeld => ?_)
      clear hK K
      try simp only [Act.put, List.setIfInBounds_toArray, List.set_cons_zero, List.set_cons_succ]
      refine wpAnyH_done (by kernel_rfl) ?_ _
      gi_wp2
      refine ⟨by simp, .inl ⟨_, _, rfl, run_takeDeferred kz, ?_⟩⟩
      refine ⟨.tuple #[.slice Av out.length cv, .slice Au ch.length cu, .int .i64 0], by simp [results, Tryz.results23, go_sem, f6, f7, f8], Av, cv, Au, cu, by rw [HA.out, HC.out, HN0.out]; rfl, ?_, ?_, bq⟩
      · rw [HA.out]; exact s1
      · rw [HC.out]; exact s2
  case stop =>
    rintro D cd pre W hD hpre ⟨rfl, HB, e6, e7, e8, hb⟩ hK
    have HBAD : Hid (scanN es fs a = 2) := by
      show _ = _
      rw [HN.out, okP_pre (qs := bothL es fs) (by rw [← bothT_val es fs HS.out]; exact hpre.map _) HB.out]
      rfl
    have f6 := cell_kept e6.cell (grownBy_putObj' W D (.deferred none)) (fun r e => by cases e; exact ⟨_, hK, rfl⟩)
    have f7 := cell_kept e7.cell (grownBy_putObj' W D (.deferred none)) (fun r e => by cases e; exact ⟨_, hK, rfl⟩)
    have f8 := cell_kept e8.cell (grownBy_putObj' W D (.deferred none)) (fun r e => by cases e; exact ⟨_, hK, rfl⟩)
    have hb2 := hb.trans (belowK_b (w := w) (Nat.le_refl _) W D _ (.deferred none) (by omega) hK rfl rfl)
    gi_wp2
    refine ⟨by simp, .inl ⟨_, _, rfl, run_takeDeferred hK, ?_⟩⟩
    exact ⟨.tuple #[.slice none 0 0, .slice none 0 0, .int .i64 2], by simp [results, Tryz.results23, go_sem, f6, f7, f8], scan_err 2 HBAD.out (by decide) hb2⟩
theorem scan_any {w : World} {A B : Option Addr} {n c m d : Nat} {es : List Ent} {fs : List Fil} (h : Et w A n c es) (k : Ft w B m d fs) (a : Int) :
    Calls Tryz.prog 23 #[.slice A n c, .slice B m d, .int .i64 a] w (ScanPost w es fs a) := by
  cases hg : archR es && treeR fs with
  | false => exact scan_bad h k a hg
  | true => exact scan_good h k a hg
end Go.Proofs.YtlmccjdpmhancaaGreatDoor
namespace Go.Proofs.YtlmccjdpmhancaaGreatDoor
open Go.RowKit

def fewF (f : Fil) : Bool := decide (f.1.size ≤ 100) && decide (f.2.size ≤ 1000)
def fewB (fs : List Fil) : Bool := decide (fs.length ≤ 40) && fs.all fewF
theorem few_sz {fs : List Fil} (h : fewB fs = true) : fs.length ≤ 40 ∧ ∀ f ∈ fs, f.1.size ≤ 100 ∧ f.2.size ≤ 1000 := by
  simp only [fewB, fewF, Bool.and_eq_true, decide_eq_true_eq, List.all_eq_true] at h
  exact h
theorem few_no {fs : List Fil} {j : Nat} (hj : j < fs.length) (h : fewF fs[j] = false) : false = fewB fs := by
  cases hf : fewB fs with
  | false => rfl
  | true =>
    rw [fewB, Bool.and_eq_true, List.all_eq_true] at hf
    rw [hf.2 _ (List.getElem_mem hj)] at h
    cases h

set_option maxHeartbeats 1000000 in
theorem few_any (A : Option Addr) (n c : Nat) (fs : List Fil) (w : World) (hl : fs.length = n) (hr : Rd w A (filV fs)) :
    Calls Tryz.prog 17 #[.slice A n c] w fun e w' => e = .returned (.bool (fewB fs)) ∧ w = w' := by
  have HL := hid hl
  clear hl
  by_cases h40 : (40 : Int) < n
  · go_enter Tryz.func17, Tryz.ntmps17
    go_wp2
    go_ret
    refine ⟨ret_bool ?_, rfl⟩
    symm
    refine not_true fun h => ?_
    have := (few_sz h).1
    have := HL.out
    omega
  · go_enter Tryz.func17, Tryz.ntmps17
    go_wp2_with fail
    go_loop [3] (fun i => ∃ j : Nat, j ≤ n ∧ i = .int .i64 j ∧ Hid ((fs.take j).all fewF = true)) (fun i => n - (intOf i).toNat)
    case atStart => exact ⟨0, by omega, rfl, by simp [Hid]⟩
    case round =>
      obtain ⟨j, hj, rfl, HO⟩ := hrel
      by_cases hjn : j < n
      · have hjl : j < fs.length := by rw [HL.out]; exact hjn
        obtain ⟨b, off, rfl, h1, h2, -⟩ := hr.fil hjl
        have HN := hid (@few_no fs j hjl)
        have HK := hid (all_take_more fewF fs j hjl)
        have hz : (0 : Int) ≤ j := by omega
        have hlt : (j : Int) < n := by omega
        generalize fs[j] = f at *
        obtain ⟨x, d⟩ := f
        simp only at h1 h2
        by_cases hx : (100 : Int) < x.size
        · go_wp2
          go_ret
          exact ⟨ret_bool (HN.out (by simp [fewF]; omega)), rfl⟩
        · have hxb : decide ((100 : Int) < x.size) = false := by simp; omega
          by_cases hd : (1000 : Int) < d.size
          · go_wp2
            go_ret
            exact ⟨ret_bool (HN.out (by simp [fewF]; omega)), rfl⟩
          · have hdb : decide ((1000 : Int) < d.size) = false := by simp; omega
            go_wp2
            go_round
            case rel => exact ⟨j + 1, by omega, by go_num, hid (by rw [HK.out, HO.out]; simp [fewF]; omega)⟩
            case measure => simp [intOf]; omega
      · have HE := hid (show j = n by omega)
        have hnlt : ¬ (j : Int) < n := by omega
        go_wp2
        go_ret
        refine ⟨ret_bool ?_, rfl⟩
        have ho := HO.out
        rw [HE.out, ← HL.out, List.take_length] at ho
        rw [fewB, ho, decide_eq_true (by rw [HL.out]; omega)]
        rfl
theorem few_ft {w : World} {A : Option Addr} {n c : Nat} {fs : List Fil} (hf : fewB fs = true) (hl : fs.length = n) (hr : Rd w A (filV fs)) (hc : n ≤ c) (hcm : c ≤ maxLen) : Ft w A n c fs := by
  obtain ⟨h1, h2⟩ := few_sz hf
  exact ⟨hl, hr, hc, by omega, hcm, fun f hm => by have := h2 f hm; omega⟩
theorem toList_ne {a b : ByteArray} (h : a ≠ b) : (a.toList == b.toList) = false := by
  rw [beq_eq_false_iff_ne, Lib.toList_data, Lib.toList_data]
  exact fun e => h (data_inj e)
theorem toList_eq {a b : ByteArray} (h : a = b) : (a.toList == b.toList) = true := by rw [h]; simp
end Go.Proofs.YtlmccjdpmhancaaGreatDoor
