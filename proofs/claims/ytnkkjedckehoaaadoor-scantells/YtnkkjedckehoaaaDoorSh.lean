/- Package scan: what Scan keeps while it goes over both. -/
import Derived.Test.YtnkkjedckehoaaaDoorSg
namespace Go.Proofs.YtnkkjedckehoaaaDoor
open Go.RowKit Go.Shelf

/-- append of one element, whose value is put into a box. -/
theorem app_gen {W : World} {n₀ B : Nat} {v : Value} {k : Nat} {xs : List Value} {T E : TypeId} {z : Value} {size bytes : Nat} (hT : Tryd.prog.underlying T = some (.slice E)) (hinf : (Tryd.prog.info? E).map (fun i => (i.zero, i.size, i.bytes)) = some (some z, size, bytes)) (hz : z.cells.size = size) (h0 : 0 < size) (hTE : T ≠ E)
    (hv : Boxed W B T v) (hrow : W.ownsRow n₀ E size v k xs) (hn : n₀ ≤ W.heap.size) (hB : n₀ ≤ B) (hk : (k + 1) * bytes ≤ 140737488355328) (hk2 : k + 1 ≤ maxLen) (cs : List Value) (hcs : cs.length = 1 * size) (hc1 : ∀ u ∈ cs, u.oneCell' = true) :
    ∃ A' c' w1, Hid ((Builtin.append_ #[T, T] T #[v, .slice (some ⟨W.heap.size, 0, none⟩) 1 1]).run Tryd.prog (W.alloc (.cells cs.toArray E)) = .ok (.slice A' (k + 1) c') w1) ∧
      w1.cell? ⟨B, 0, none⟩ = some v ∧ w1.frozen? ⟨B, 0, none⟩ = false ∧ Boxed (w1.setCell ⟨B, 0, none⟩ (.slice A' (k + 1) c')) B T (.slice A' (k + 1) c') ∧
      (w1.setCell ⟨B, 0, none⟩ (.slice A' (k + 1) c')).ownsRow n₀ E size (.slice A' (k + 1) c') (k + 1) (xs ++ cs) ∧ KeepsOthers W (w1.setCell ⟨B, 0, none⟩ (.slice A' (k + 1) c')) ∧ Below n₀ W (w1.setCell ⟨B, 0, none⟩ (.slice A' (k + 1) c')) ∧ (W.alloc (.cells cs.toArray E)).grownBy w1 v.ownBlock := by
  obtain ⟨i, hi, hz0, hz1, hz2⟩ := info_parts hinf
  obtain ⟨v', w1, h2, h3, h4, -⟩ := run_append_own (P := Tryd.prog) (W.alloc (.cells cs.toArray E)) n₀ T T E i z size bytes hT hi hz0 hz1 hz2 hz h0 v k xs (hrow.alloc _) ⟨W.heap.size, 0, none⟩ 1 1 cs hcs
    (new_cells W E cs) hc1 hk2 hk (by simp; omega)
  obtain ⟨g', cap', rfl⟩ := ownsRow_succ h3
  obtain ⟨a1, a2, a3, a4, a5⟩ := hv.appended hTE hrow hn hB h3 h4
  exact ⟨_, _, w1, h2, a1.cell, a1.frozen, a2, a3, a4, a5, h4⟩

/-- A tick, as the code tells it. -/
def tkc (l r a : Int) : Nat × Nat := if odd a then (cl l, up (cl r)) else (up (cl l), cl r)
theorem tkc_le (l r a : Int) : (tkc l r a).1 ≤ 1073741824 ∧ (tkc l r a).2 ≤ 1073741824 := by
  unfold tkc
  split
  · exact ⟨cl_le l, up_le _⟩
  · exact ⟨up_le _, cl_le r⟩
theorem tickL_eq (l r a : Int) : tickL l r a = (((tkc l r a).1 : Int), ((tkc l r a).2 : Int)) := by unfold tickL tkc; split <;> rfl
theorem tick_any (l r a : Int) (w : World) :
    Calls Tryd.prog 33 #[.complex .f64 (fl (cl l)) (fl (cl r)), .int .i64 a] w fun e w' => e = .returned (.complex .f64 (fl (tkc l r a).1) (fl (tkc l r a).2)) ∧ Below w.heap.size w w' := by
  unfold tkc
  cases ho : odd a with
  | true => exact tick_odd (cl_le l) (cl_le r) a ho w
  | false => exact tick_even (cl_le l) (cl_le r) a ho w

theorem boxed_kept {W W' : World} {row : Option Nat} {B : Nat} {t : TypeId} {v : Value} (h : Boxed W B t v) (hg : W.grownBy W' row) (hr : ∀ r, row = some r → ∃ o : Obj, W.heap[r]? = some o ∧ o.isCells = false) : Boxed W' B t v :=
  blk_kept (cs := [v]) h hg hr

/-- What Scan holds between two rounds: the author, the three results, what was scanned, what changed. -/
structure ScS (w : World) (a : Int) (q : Nat) (out : List Ent) (ch : List ByteArray) (W : World) : Prop where
  sc : ∃ v, Boxed W q 22 v ∧ W.ownsRow w.heap.size 37 5 v out.length (entV out) ∧ True
  chg : ∃ u, Boxed W (q + 1) 27 u ∧ W.ownsRow w.heap.size 9 1 u ch.length (strV ch) ∧ True
  au : Boxed W w.heap.size 3 (.int .i64 a)
  r6 : Boxed W (w.heap.size + 1) 22 (.slice none 0 0)
  r7 : Boxed W (w.heap.size + 1 + 1) 27 (.slice none 0 0)
  r8 : Boxed W (w.heap.size + 1 + 1 + 1) 28 (.int .i64 0)
  low : Below w.heap.size w W
theorem ScS.grown {w : World} {a : Int} {q : Nat} {out : List Ent} {ch : List ByteArray} {W W' : World} {row : Option Nat} (h : ScS w a q out ch W) (hg : W.grownBy W' row) (hr : ∀ r, row = some r → w.heap.size ≤ r ∧ ∃ o : Obj, W.heap[r]? = some o ∧ o.isCells = false) : ScS w a q out ch W' := by
  have hr' : ∀ r, row = some r → ∃ o : Obj, W.heap[r]? = some o ∧ o.isCells = false := fun r e => (hr r e).2
  exact ⟨holdsRow_own (β := Unit) _ _ _ _ 5 (fun _ => out.length) (fun _ => entV out) (fun _ _ => True) () W W' row h.sc hg hr', holdsRow_own (β := Unit) _ _ _ _ 1 (fun _ => ch.length) (fun _ => strV ch) (fun _ _ => True) () W W' row h.chg hg hr',
    boxed_kept h.au hg hr', boxed_kept h.r6 hg hr', boxed_kept h.r7 hg hr', boxed_kept h.r8 hg hr', ownFrom_below (β := Unit) (Nat.le_refl _) (Nat.le_refl _) () W W' row h.low hg hr⟩
theorem ScS.below {w : World} {a : Int} {q : Nat} {out : List Ent} {ch : List ByteArray} {W W' : World} (h : ScS w a q out ch W) (hb : Below W.heap.size W W') : ScS w a q out ch W' := h.grown (row := none) (grown_below hb) (by simp)
/-- A store into a block that is none of these. -/
theorem ScS.store {w : World} {a : Int} {q : Nat} {out : List Ent} {ch : List ByteArray} {W : World} (h : ScS w a q out ch W) {B : Nat} (hB : q + 1 < B) (hq : w.heap.size + 3 < q) {v : Value} (hv : Boxed W q 22 v) (hne : some B ≠ v.ownBlock) {cs : List Value} (hb : Blk W B cs 37) (i : Nat) (x : Value) : ScS w a q out ch (W.setCell ⟨B, i, none⟩ x) := by
  have hg := grown_set (w := W) (g := B) i x
  obtain ⟨v', hv', hrow, -⟩ := h.sc
  obtain ⟨u, hu, hrow2, -⟩ := h.chg
  obtain rfl : v = v' := by have := hv'.cell; rw [hv.cell] at this; injection this
  have hne2 : some B ≠ u.ownBlock := by
    intro e
    rcases hrow2.2 with ⟨rfl, -⟩ | ⟨g, cap, cur, rfl, -, hh, -⟩
    · cases e
    · injection e with e
      obtain rfl : B = g := e
      unfold Blk at hb
      rw [hb] at hh
      injection hh with hh
      injection hh with _ hh
      exact absurd hh (by decide)
  have k : ∀ {t : TypeId} {y : Value} {C : Nat}, C ≠ B → Boxed W C t y → Boxed (W.setCell ⟨B, i, none⟩ x) C t y := fun hC hb => hb.kept hg (fun e => hC (by injection e))
  exact ⟨⟨v, k (by omega) hv, hrow.kept hg (.inr (Ne.symm hne)), trivial⟩, ⟨u, k (by omega) hu, hrow2.kept hg (.inr (Ne.symm hne2)), trivial⟩, k (by omega) h.au, k (by omega) h.r6, k (by omega) h.r7, k (by omega) h.r8,
    h.low.setCell (p := ⟨B, i, none⟩) (by show w.heap.size ≤ B; omega) x⟩
theorem own_slice {W : World} {base : Nat} {e : TypeId} {sz : Nat} {v : Value} {k : Nat} {xs : List Value} (h : W.ownsRow base e sz v k xs) : ∃ A c, v = .slice A k c := by
  rcases h.2 with ⟨rfl, rfl⟩ | ⟨g, cap, cur, rfl, -⟩
  · exact ⟨none, 0, rfl⟩
  · exact ⟨_, cap, rfl⟩
/-- Rows of unlike elements lie apart. -/
theorem rows_apart {W : World} {b1 b2 : Nat} {e1 e2 : TypeId} {s1 s2 : Nat} {v1 v2 : Value} {k1 k2 : Nat} {xs1 xs2 : List Value} (h : W.ownsRow b1 e1 s1 v1 k1 xs1) (k : W.ownsRow b2 e2 s2 v2 k2 xs2) (hne : e1 ≠ e2) : v1.ownBlock = none ∨ v1.ownBlock ≠ v2.ownBlock := by
  rcases h.2 with ⟨rfl, -⟩ | ⟨g, cap, cur, rfl, -, hh, -⟩
  · exact .inl rfl
  · right
    intro e
    rcases k.2 with ⟨rfl, -⟩ | ⟨g', cap', cur', rfl, -, hh', -⟩
    · cases e
    · injection e with e
      obtain rfl : g = g' := e
      rw [hh] at hh'
      injection hh' with hh'
      injection hh' with _ hh'
      exact hne hh'
theorem boxed_one {W : World} {B : Nat} {t : TypeId} {v v' : Value} (h : Boxed W B t v) (k : Boxed W B t v') : v = v' := by have := k.cell; rw [h.cell] at this; injection this
theorem blk_row {W : World} {base : Nat} {e : TypeId} {sz : Nat} {v : Value} {k : Nat} {xs cs : List Value} {B : Nat} {t : TypeId} (h : W.ownsRow base e sz v k xs) (hB : Blk W B cs t) (hne : t ≠ e) : some B ≠ v.ownBlock := by
  intro e'
  rcases h.2 with ⟨rfl, -⟩ | ⟨g, cap, cur, rfl, -, hh, -⟩
  · cases e'
  · injection e' with e'
    obtain rfl : B = g := e'
    unfold Blk at hB
    rw [hB] at hh
    injection hh with hh
    injection hh with _ hh
    exact hne hh
/-- One more was scanned. -/
theorem ScS.app {w : World} {a : Int} {q : Nat} {out : List Ent} {ch : List ByteArray} {W : World} (h : ScS w a q out ch W) (hq : w.heap.size + 3 < q) (hk : out.length ≤ 1000000) {v : Value} (hv : Boxed W q 22 v) (z : Ent) :
    ∃ A' c' w3, Hid ((Builtin.append_ #[22, 22] 22 #[v, .slice (some ⟨W.heap.size, 0, none⟩) 1 1]).run Tryd.prog (W.alloc (.cells #[.string z.path, .bool z.has, .string z.data, .int .i64 z.l, .int .i64 z.r] 37)) = .ok (.slice A' (out.length + 1) c') w3) ∧
      w3.cell? ⟨q, 0, none⟩ = some v ∧ w3.frozen? ⟨q, 0, none⟩ = false ∧ ScS w a q (out ++ [z]) ch (w3.setCell ⟨q, 0, none⟩ (.slice A' (out.length + 1) c')) ∧ KeepsOthers W (w3.setCell ⟨q, 0, none⟩ (.slice A' (out.length + 1) c')) ∧ Below w.heap.size W (w3.setCell ⟨q, 0, none⟩ (.slice A' (out.length + 1) c')) ∧
      (∀ B cs t, Blk W B cs t → some B ≠ v.ownBlock → Blk w3 B cs t) := by
  obtain ⟨v', hv', hrow, -⟩ := h.sc
  obtain rfl := boxed_one hv hv'
  obtain ⟨u, hu, hrow2, -⟩ := h.chg
  obtain ⟨A', c', w3, hrun, c1, c2, c3, c4, c5, c6, hg⟩ := app_gen (n₀ := w.heap.size) Tryd.underlying22 Tryd.infoE rfl (by decide) (by decide) hv hrow h.low.size (by omega) (by omega) (by unfold maxLen; omega) (eV z) rfl (by intro u hu; exact entV_one [z] u (by simpa [entV] using hu))
  have kb : ∀ B cs t, Blk W B cs t → some B ≠ v.ownBlock → Blk w3 B cs t := fun B cs t hb hne => (hg.block B (by have := hb.lt; simp; omega) hne).trans (Blk.below hb ((Below.refl _ _).alloc (Nat.le_refl _) _))
  have kx : ∀ {t : TypeId} {y : Value} {C : Nat}, t ≠ 37 → C ≠ q → Boxed W C t y → Boxed (w3.setCell ⟨q, 0, none⟩ (.slice A' (out.length + 1) c')) C t y := fun ht hC hb =>
    Boxed.kept (show Boxed w3 _ _ _ from kb _ [_] _ hb (hb.not_row ht hrow)) (grownBy_setCell' _ _ _) (fun e => hC (by injection e))
  refine ⟨A', c', w3, hrun, c1, c2, ⟨⟨_, c3, ?_, trivial⟩, ⟨u, kx (by decide) (by omega) hu, ?_, trivial⟩, kx (by decide) (by omega) h.au, kx (by decide) (by omega) h.r6, kx (by decide) (by omega) h.r7, kx (by decide) (by omega) h.r8, h.low.trans c6⟩, c5, c6, kb⟩
  · simpa [entV] using c4
  · have r1 := (hrow2.alloc (.cells (eV z).toArray 37)).kept hg ((rows_apart hrow2 hrow (by decide)).imp id id)
    exact r1.kept (grownBy_setCell' _ _ _) (.inr (Ne.symm (Boxed.not_row (show Boxed w3 q 22 v from kb q [v] _ hv (hv.not_row (by decide) hrow)) (by decide) r1)))
/-- One more changed. -/
theorem ScS.appS {w : World} {a : Int} {q : Nat} {out : List Ent} {ch : List ByteArray} {W : World} (h : ScS w a q out ch W) (hq : w.heap.size + 3 < q) (hk : ch.length ≤ 1000000) {u : Value} (hu : Boxed W (q + 1) 27 u) (z : ByteArray) :
    ∃ A' c' w3, Hid ((Builtin.append_ #[27, 27] 27 #[u, .slice (some ⟨W.heap.size, 0, none⟩) 1 1]).run Tryd.prog (W.alloc (.cells #[.string z] 9)) = .ok (.slice A' (ch.length + 1) c') w3) ∧
      w3.cell? ⟨q + 1, 0, none⟩ = some u ∧ w3.frozen? ⟨q + 1, 0, none⟩ = false ∧ ScS w a q out (ch ++ [z]) (w3.setCell ⟨q + 1, 0, none⟩ (.slice A' (ch.length + 1) c')) ∧ KeepsOthers W (w3.setCell ⟨q + 1, 0, none⟩ (.slice A' (ch.length + 1) c')) ∧ Below w.heap.size W (w3.setCell ⟨q + 1, 0, none⟩ (.slice A' (ch.length + 1) c')) ∧
      (∀ B cs t, t ≠ 9 → Blk W B cs t → Blk w3 B cs t) := by
  obtain ⟨u', hu', hrow, -⟩ := h.chg
  obtain rfl := boxed_one hu hu'
  obtain ⟨v, hv, hrow2, -⟩ := h.sc
  obtain ⟨A', c', w3, hrun, c1, c2, c3, c4, c5, c6, hg⟩ := app_gen (n₀ := w.heap.size) Tryd.underlying27 Tryd.infoS rfl (by decide) (by decide) hu hrow h.low.size (by omega) (by omega) (by unfold maxLen; omega) [.string z] rfl (by simp [Value.oneCell'])
  have kb : ∀ B cs t, t ≠ 9 → Blk W B cs t → Blk w3 B cs t := fun B cs t ht hb => (hg.block B (by have := hb.lt; simp; omega) (blk_row hrow hb ht)).trans (Blk.below hb ((Below.refl _ _).alloc (Nat.le_refl _) _))
  have kx : ∀ {t : TypeId} {y : Value} {C : Nat}, t ≠ 9 → C ≠ q + 1 → Boxed W C t y → Boxed (w3.setCell ⟨q + 1, 0, none⟩ (.slice A' (ch.length + 1) c')) C t y := fun ht hC hb =>
    Boxed.kept (show Boxed w3 _ _ _ from kb _ [_] _ ht hb) (grownBy_setCell' _ _ _) (fun e => hC (by injection e))
  refine ⟨A', c', w3, hrun, c1, c2, ⟨⟨v, kx (by decide) (by omega) hv, ?_, trivial⟩, ⟨_, c3, ?_, trivial⟩, kx (by decide) (by omega) h.au, kx (by decide) (by omega) h.r6, kx (by decide) (by omega) h.r7, kx (by decide) (by omega) h.r8, h.low.trans c6⟩, c5, c6, kb⟩
  · have r1 := (hrow2.alloc (.cells [Value.string z].toArray 9)).kept hg ((rows_apart hrow2 hrow (by decide)).imp id id)
    exact r1.kept (grownBy_setCell' _ _ _) (.inr (Ne.symm (Boxed.not_row (show Boxed w3 (q + 1) 27 u from kb (q + 1) [u] _ (by decide) hu) (by decide) r1)))
  · simpa [strV] using c4
/-- Three results in their cells. -/
theorem res3 {W : World} {b : Nat} {t6 t7 t8 : TypeId} {a6 a7 a8 : Value} (q6 : Boxed W (b + 1) t6 a6) (q7 : Boxed W (b + 1 + 1) t7 a7) (q8 : Boxed W (b + 1 + 1 + 1) t8 a8) (x y z : Value) :
    Boxed (((W.setCell ⟨b + 1, 0, none⟩ x).setCell ⟨b + 1 + 1, 0, none⟩ y).setCell ⟨b + 1 + 1 + 1, 0, none⟩ z) (b + 1) t6 x ∧ Boxed (((W.setCell ⟨b + 1, 0, none⟩ x).setCell ⟨b + 1 + 1, 0, none⟩ y).setCell ⟨b + 1 + 1 + 1, 0, none⟩ z) (b + 1 + 1) t7 y ∧ Boxed (((W.setCell ⟨b + 1, 0, none⟩ x).setCell ⟨b + 1 + 1, 0, none⟩ y).setCell ⟨b + 1 + 1 + 1, 0, none⟩ z) (b + 1 + 1 + 1) t8 z := by
  have k : ∀ {W : World} {B C : Nat} {t : TypeId} {v u : Value}, C ≠ B → Boxed W C t v → Boxed (W.setCell ⟨B, 0, none⟩ u) C t v := fun hC hb => hb.kept (grownBy_setCell' _ _ _) (fun e => hC (by injection e))
  exact ⟨k (by omega) (k (by omega) (q6.set x)), k (by omega) ((k (by omega) q7).set y), (k (by omega) (k (by omega) q8)).set z⟩
theorem res3_row {W : World} {b : Nat} {t6 t7 t8 : TypeId} {a6 a7 a8 : Value} (q6 : Boxed W (b + 1) t6 a6) (q7 : Boxed W (b + 1 + 1) t7 a7) (q8 : Boxed W (b + 1 + 1 + 1) t8 a8) (x y z : Value) {base : Nat} {e : TypeId} {sz k : Nat} {v : Value} {xs : List Value} (h : W.ownsRow base e sz v k xs) (h6 : t6 ≠ e) (h7 : t7 ≠ e) (h8 : t8 ≠ e) :
    (((W.setCell ⟨b + 1, 0, none⟩ x).setCell ⟨b + 1 + 1, 0, none⟩ y).setCell ⟨b + 1 + 1 + 1, 0, none⟩ z).ownsRow base e sz v k xs := by
  have kk : ∀ {W : World} {B C : Nat} {t : TypeId} {v u : Value}, C ≠ B → Boxed W C t v → Boxed (W.setCell ⟨B, 0, none⟩ u) C t v := fun hC hb => hb.kept (grownBy_setCell' _ _ _) (fun e => hC (by injection e))
  have r1 := h.kept (grownBy_setCell' W (b + 1) x) (.inr (Ne.symm (q6.not_row h6 h)))
  have r2 := r1.kept (grownBy_setCell' _ (b + 1 + 1) y) (.inr (Ne.symm (Boxed.not_row (kk (by omega) q7) h7 r1)))
  exact r2.kept (grownBy_setCell' _ (b + 1 + 1 + 1) z) (.inr (Ne.symm (Boxed.not_row (kk (by omega) (kk (by omega) q8)) h8 r2)))
end Go.Proofs.YtnkkjedckehoaaaDoor
