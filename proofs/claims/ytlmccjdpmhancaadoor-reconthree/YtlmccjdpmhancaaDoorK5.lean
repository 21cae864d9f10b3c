/- The texts Ub, Uc, Xa, Cr, Ck, Cl, Xb, App, Shelf2, Jc, Jd, Xc, Je, Ji, Jj, in one. -/
import Derived.Test.YtlmccjdpmhancaaDoorK4
import Derived.Deep.RegionHeld3
import Derived.Lib.AppendZeros
import Derived.Shelf.Sort.Plain
import Derived.Shelf.Slices.CompactS
import Derived.Shelf.Slices.In.SortNone
import Derived.Test.YtlmccjdpmhancaaDoorProg
import Derived.Lib.OwnBridge
import Derived.Sort.OwnSorted
import Derived.Sort.Grow
import Derived.Deep.DeepCutAuto
import Derived.Laws.StructEq
namespace Go.Proofs.YtlmccjdpmhancaaDoor
open Go.RowKit

def ltAt (fs : List Fil) (j : Nat) (hj : j < fs.length) : Prop := ∀ _ : 0 < j, pth fs[j - 1] < pth fs[j]
theorem lt_none {fs : List Fil} {j : Nat} (hj : j < fs.length) : ¬ 0 < j → ltAt fs j hj := fun h0 h => absurd h h0
def okAt (fs : List Fil) (i : Nat) (hi : i < fs.length) : Prop :=
  rightL (pth fs[i]) = true ∧ fs[i].2.size ≤ 600 ∧ (∀ _ : 0 < i, pth fs[i - 1] < pth fs[i]) ∧ ∀ k (hk : k < i), underL (pth fs[i]) (pth (fs[k]'(by omega))) = false
theorem tree_bad {fs : List Fil} (h : treeR fs = true) (i : Nat) (hi : i < fs.length) : okAt fs i hi := by
  have hR := (treeR_iff fs).1 h
  have hs := List.pairwise_iff_getElem.1 hR.srt
  exact ⟨hR.paths _ (List.getElem_mem hi), hR.datas _ (List.getElem_mem hi), fun h0 => hs (i - 1) i (by omega) hi (by omega), fun k hk => hR.apart _ (List.getElem_mem hi) _ (List.getElem_mem _)⟩
theorem tree_good {fs : List Fil} (h16 : fs.length ≤ 16) (h : ∀ i (hi : i < fs.length), okAt fs i hi) : treeR fs = true := by
  have hl : (fs.map pth).length = fs.length := by simp
  have e : ∀ i (hi : i < fs.length), (fs.map pth).getD i [] = pth fs[i] := fun i hi => by simp [List.getD, hi]
  unfold treeR
  rw [Bool.and_eq_true, Bool.and_eq_true, Bool.and_eq_true, decide_eq_true_eq]
  refine ⟨⟨⟨h16, List.all_eq_true.2 fun f hf => ?_⟩, List.all_eq_true.2 fun i hi => ?_⟩, (apart_idx _).2 fun i k hik hk => ?_⟩
  · obtain ⟨i, hi, rfl⟩ := List.mem_iff_getElem.1 hf
    exact decide_eq_true (h i hi).2.1
  · have hi' : i < fs.length := by rw [← hl]; exact List.mem_range.1 hi
    unfold srtAt
    rw [Bool.and_eq_true, Bool.or_eq_true, e i hi']
    refine ⟨(h i hi').1, ?_⟩
    by_cases h0 : i = 0
    · left; simp [h0]
    · right
      rw [e (i - 1) (by omega), less_iff]
      exact (h i hi').2.2.1 (by omega)
  · rw [List.getElem_map, List.getElem_map]
    exact (h k (by rw [← hl]; exact hk)).2.2.2 i hik

end Go.Proofs.YtlmccjdpmhancaaDoor
namespace Go.Proofs.YtlmccjdpmhancaaDoor
open Go.RowKit

/-! ### append onto files of the call's own -/
/-- Files in memory of the call's own, as an append leaves them. -/
def OwnR (base : Nat) (w : World) (A : Option Addr) (n c : Nat) (fs : List Fil) : Prop := fs.length = n ∧ w.ownsRow base 50 2 (.slice A n c) n (filV fs)
theorem OwnR.form {base : Nat} {w : World} {A : Option Addr} {n c : Nat} {fs : List Fil} (h : OwnR base w A n c fs) : n ≤ c ∧ c ≤ 9223372036854775807 ∧ Rd w A (filV fs) := by
  obtain ⟨hl, h⟩ := h
  rcases h.2 with ⟨hv, hn⟩ | ⟨g, cap, cur, hv, _, _, h1, h2, _⟩
  · injection hv with a1 a2 a3
    subst a1 a2 a3
    exact ⟨Nat.le_refl _, by omega, .inl (List.eq_nil_of_length_eq_zero (by rw [filV_length, hl]))⟩
  · injection hv with a1 a2 a3
    subst a1 a3
    exact ⟨h1, h2, .inr ⟨_, rfl, h.cells (g := g) rfl⟩⟩
theorem OwnR.ft {base : Nat} {w : World} {A : Option Addr} {n c : Nat} {fs : List Fil} (h : OwnR base w A n c fs) (hn : n ≤ 140737488355328) (hs : ∀ f ∈ fs, f.1.size < 4294967281 ∧ f.2.size ≤ 140737488355328) : Ft w A n c fs := ⟨h.1, h.form.2.2, h.form.1, hn, h.form.2.1, hs⟩
theorem OwnR.empty (w : World) : OwnR w.heap.size (w.alloc (.cells #[] 50)) (some ⟨w.heap.size, 0, none⟩) 0 0 [] :=
  ⟨rfl, World.ownsRow_made w #[] 0 (Nat.le_refl _) (by unfold maxLen; omega) (by simp)⟩
theorem app_nilF {w : World} (base : Nat) (ty : TypeId) (v : Value) (n : Nat) (xs : List Value) (hown : w.ownsRow base 50 2 v n xs) (c : Nat) : (Builtin.append_ #[38, 38] ty #[v, .slice none 0 c]).run Tryd.prog w = .ok v w := by
  obtain ⟨i, hi, hz0, hz1, hz2⟩ := info_parts Tryd.infoF
  rcases hown.2 with ⟨rfl, rfl⟩ | ⟨g, cap, cur, rfl, _, _, hnc, _⟩
  · simp [Builtin.append_, run_underlying Tryd.underlying38, sizeOf, typeInfo, hi, Builtin.lenOf, Builtin.firstCells]
  · simp [Builtin.append_, run_underlying Tryd.underlying38, sizeOf, typeInfo, hi, Builtin.lenOf, Builtin.firstCells, hnc, storeCells]
/-- append(v, x...), v files of the call's own: its run. -/
theorem run_appF {w : World} {base : Nat} {A : Option Addr} {n c : Nat} {fs : List Fil} (hown : OwnR base w A n c fs) (B : Option Addr) (m d : Nat) (gs : List Fil) (hl : gs.length = m) (hr : Rd w B (filV gs)) (hnm : n + m ≤ 1000000) (hbase : base ≤ w.heap.size) :
    ∃ A' c' w', Hid (∀ ty, (Builtin.append_ #[38, 38] ty #[.slice A n c, .slice B m d]).run Tryd.prog w = .ok (.slice A' (n + m) c') w') ∧ OwnR base w' A' (n + m) c' (fs ++ gs) ∧ w.grownBy w' (Value.slice A n c).ownBlock := by
  obtain ⟨i, hi, hz0, hz1, hz2⟩ := info_parts Tryd.infoF
  have hll : (fs ++ gs).length = n + m := by rw [List.length_append, hown.1, hl]
  have own : ∀ ad, (∀ j u, (filV gs)[j]? = some u → w.cell? (ad.add j) = some u) → ∃ A' c' w', Hid (∀ ty, (Builtin.append_ #[38, 38] ty #[.slice A n c, .slice (some ad) m d]).run Tryd.prog w = .ok (.slice A' (n + m) c') w') ∧ OwnR base w' A' (n + m) c' (fs ++ gs) ∧ w.grownBy w' (Value.slice A n c).ownBlock := by
    intro ad hc
    have key := fun ty => run_append_own (P := Tryd.prog) w base 38 ty 50 i _ 2 32 Tryd.underlying38 hi hz0 hz1 hz2 rfl (by decide) _ n (filV fs) hown.2 ad m d (filV gs) (by rw [filV_length, hl]) hc (filV_one _) (by unfold maxLen; omega) (by omega) hbase
    obtain ⟨v', w', h2, h3, h4, _⟩ := key 0
    have hv : ∃ A' c', v' = .slice A' (n + m) c' := by
      rcases h3.2 with ⟨rfl, e⟩ | ⟨g, cap, cur, rfl, _⟩
      · exact ⟨none, 0, by rw [e]⟩
      · exact ⟨_, cap, rfl⟩
    obtain ⟨A', c', rfl⟩ := hv
    exact ⟨A', c', w', fun ty => h2, ⟨hll, by rw [filV_append]; exact h3⟩, h4⟩
  rcases hr with h0 | ⟨ad, rfl, hc⟩
  · have hg : gs = [] := List.eq_nil_of_length_eq_zero (by have h5 := congrArg List.length h0; rw [filV_length, List.length_nil] at h5; omega)
    subst hg
    obtain rfl : m = 0 := hl.symm
    cases B with
    | none => exact ⟨A, c, w, fun ty => app_nilF base ty _ n _ hown.2 d, by rw [List.append_nil]; exact hown, World.grownBy.refl _ _⟩
    | some ad => exact own ad (by simp [filV])
  · exact own ad hc
theorem OwnR.block {base : Nat} {w : World} {A : Option Addr} {n c : Nat} {fs : List Fil} (h : OwnR base w A n c fs) : ∀ k, (Value.slice A n c).ownBlock = some k → base ≤ k := fun k hk => (h.2.lt k hk).1

/-- Files, and an error's number, were answered: what is read of them. -/
def OutR (w : World) (out : List Fil) (er : Nat) (e : Ending) (w' : World) : Prop :=
  ∃ A n c, e = .returned (.tuple #[.slice A n c, .int .i64 er]) ∧ Ft w' A n c out ∧ Below w.heap.size w w'
theorem outR_err {w w' : World} {out : List Fil} {er e : Nat} (h : er = e) (ho : out = []) (hb : Below w.heap.size w w') : OutR w out er (.returned (.tuple #[.slice none 0 0, .int .i64 (e : Int)])) w' := by
  subst h ho
  exact ⟨none, 0, 0, rfl, ⟨rfl, .inl rfl, Nat.le_refl _, by omega, by omega, by simp⟩, hb⟩

theorem Rd.pre {w : World} {A : Option Addr} {xs : List Value} (h : Rd w A xs) (q : Nat) : Rd w A (xs.take q) := by
  rcases h with rfl | ⟨ad, rfl, hc⟩
  · exact .inl (by simp)
  · refine .inr ⟨ad, rfl, fun j u hu => hc j u ?_⟩
    rw [List.getElem?_take] at hu
    split at hu
    · exact hu
    · cases hu
theorem Rd.post {w : World} {b off : Nat} {xs : List Value} (h : Rd w (some ⟨b, off, none⟩) xs) (q : Nat) : Rd w (some ⟨b, off + q, none⟩) (xs.drop q) := by
  refine .inr ⟨_, rfl, fun j u hu => ?_⟩
  rw [List.getElem?_drop] at hu
  rw [Addr.add_lit, Nat.add_assoc]
  exact h.cells _ _ hu
theorem take_szs {fs : List Fil} {P : Fil → Prop} (h : ∀ f ∈ fs, P f) {gs : List Fil} (hg : ∀ f ∈ gs, f ∈ fs) : ∀ f ∈ gs, P f := fun f hf => h f (hg f hf)

end Go.Proofs.YtlmccjdpmhancaaDoor
namespace Go.Proofs.YtlmccjdpmhancaaDoor
open Go.RowKit

end Go.Proofs.YtlmccjdpmhancaaDoor
namespace Go.Proofs.YtlmccjdpmhancaaDoor
open Go.RowKit

/-- A pair lies there. -/
def PairAt (w : World) (g : Nat) (l r : Int) : Prop := w.cell? ⟨g, 0, none⟩ = some (.int .i64 l) ∧ w.cell? ⟨g, 1, none⟩ = some (.int .i64 r)
theorem PairAt.below {w w' : World} {g : Nat} {l r : Int} (h : PairAt w g l r) (hb : Below w.heap.size w w') : PairAt w' g l r :=
  ⟨(hb.cell (World.block_lt_of_cell? w _ h.1)).trans h.1, (hb.cell (World.block_lt_of_cell? w _ h.2)).trans h.2⟩
theorem PairAt.lt {w : World} {g : Nat} {l r : Int} (h : PairAt w g l r) : g < w.heap.size := World.block_lt_of_cell? w _ h.1
theorem PairAt.new (w : World) (l r : Int) (t : TypeId) : PairAt (w.alloc (.cells #[.int .i64 l, .int .i64 r] t)) w.heap.size l r :=
  ⟨new_cells w t [.int .i64 l, .int .i64 r] 0 _ rfl, new_cells w t [.int .i64 l, .int .i64 r] 1 _ rfl⟩
theorem PairAt.alloc {w : World} {g : Nat} {l r : Int} (h : PairAt w g l r) (o : Obj) : PairAt (w.alloc o) g l r := h.below ((Below.refl _ _).alloc (Nat.le_refl _) o)

theorem below_al {w w' : World} (o : Obj) (h : Below (w.alloc o).heap.size (w.alloc o) w') : Below w.heap.size w w' := below2 ((Below.refl _ _).alloc (Nat.le_refl _) o) h
end Go.Proofs.YtlmccjdpmhancaaDoor
namespace Go.Proofs.YtlmccjdpmhancaaDoor
open Go.RowKit

end Go.Proofs.YtlmccjdpmhancaaDoor
namespace Go.Proofs.YtlmccjdpmhancaaDoor
open Go.RowKit

theorem and_bit (n : Int) : bits BinOp.and IntKind.i64 n 1 = n % 2 := by
  show IntKind.i64.wrap ((BitVec.ofInt 64 n &&& BitVec.ofInt 64 1).toNat : Int) = _
  rw [BitVec.toNat_and, show (BitVec.ofInt 64 1).toNat = 1 by decide, Nat.and_one_is_mod, BitVec.toNat_ofInt, IntKind.wrap_i64]
  have e : ((2 ^ 64 : Nat) : Int) = 18446744073709551616 := by decide
  rw [e]
  omega
theorem and_odd (n : Int) : (bits BinOp.and IntKind.i64 n 1 == 1) = odd n := by
  rw [and_bit]
  unfold odd
  rw [Bool.eq_iff_iff]
  simp only [beq_iff_eq, bne_iff_ne]
  omega

end Go.Proofs.YtlmccjdpmhancaaDoor
namespace Go.Proofs.YtlmccjdpmhancaaDoor
open Go.RowKit

/-- append of one, onto a row of the call's own. -/
theorem app_own2 {W : World} {n₀ : Nat} {v : Value} {k : Nat} {xs : List Value} {T E : TypeId} {z : Value} {size bytes : Nat} (hT : Tryd.prog.underlying T = some (.slice E)) (hinf : (Tryd.prog.info? E).map (fun i => (i.zero, i.size, i.bytes)) = some (some z, size, bytes)) (hz : z.cells.size = size) (h0 : 0 < size)
    (hrow : W.ownsRow n₀ E size v k xs) (hn : n₀ ≤ W.heap.size) (hk : (k + 1) * bytes ≤ 140737488355328) (hk2 : k + 1 ≤ maxLen) (cs : List Value) (hcs : cs.length = 1 * size) (hc1 : ∀ u ∈ cs, u.oneCell' = true) :
    ∃ A' c' w1, Hid ((Builtin.append_ #[T, T] T #[v, .slice (some ⟨W.heap.size, 0, none⟩) 1 1]).run Tryd.prog (W.alloc (.cells cs.toArray E)) = .ok (.slice A' (k + 1) c') w1) ∧ w1.ownsRow n₀ E size (.slice A' (k + 1) c') (k + 1) (xs ++ cs) ∧ (W.alloc (.cells cs.toArray E)).grownBy w1 v.ownBlock ∧ Below n₀ W w1 := by
  obtain ⟨i, hi, hz0, hz1, hz2⟩ := info_parts hinf
  obtain ⟨v', w1, h2, h3, h4, -⟩ := run_append_own (P := Tryd.prog) (W.alloc (.cells cs.toArray E)) n₀ T T E i z size bytes hT hi hz0 hz1 hz2 hz h0 v k xs (hrow.alloc _) ⟨W.heap.size, 0, none⟩ 1 1 cs hcs (new_cells W E cs) hc1 hk2 hk (by simp; omega)
  obtain ⟨g', cap', rfl⟩ := ownsRow_succ h3
  exact ⟨_, _, w1, h2, h3, h4, ((Below.refl n₀ W).alloc hn _).grown h4 (by simp; omega) fun j ej => (hrow.lt j ej).1⟩
theorem filesOf_more (es : List Ent) (j : Nat) (h : j < es.length) : filesOf (es.take (j + 1)) = filesOf (es.take j) ++ (if es[j].has then [(es[j].path, es[j].data)] else []) := by
  rw [List.take_add_one, List.getElem?_eq_getElem h, filesOf_append]
  congr 1
  simp only [Option.toList, filesOf_cons]
  rfl
/-! ### Right -/
def okE (es : List Ent) (i : Nat) (hi : i < es.length) : Prop := rightL (epth es[i]) = true ∧ fineE es[i] = true ∧ ∀ _ : 0 < i, epth es[i - 1] < epth es[i]
theorem arch_bad {es : List Ent} (h : archR es = true) (i : Nat) (hi : i < es.length) : okE es i hi := by
  have hR := (archR_iff es).1 h
  have hs := List.pairwise_iff_getElem.1 hR.srt
  exact ⟨hR.paths _ (List.getElem_mem hi), hR.fine _ (List.getElem_mem hi), fun h0 => hs (i - 1) i (by omega) hi (by omega)⟩
theorem arch_good {es : List Ent} (h32 : es.length ≤ 32) (h : ∀ i (hi : i < es.length), okE es i hi) : archR es = treeR (filesOf es) := by
  have hl : (es.map epth).length = es.length := by simp
  have e : ∀ i (hi : i < es.length), (es.map epth).getD i [] = epth es[i] := fun i hi => by simp [List.getD, hi]
  have h1 : es.all fineE = true := List.all_eq_true.2 fun f hf => by
    obtain ⟨i, hi, rfl⟩ := List.mem_iff_getElem.1 hf
    exact (h i hi).2.1
  have h2 : sortedL (es.map epth) = true := List.all_eq_true.2 fun i hi => by
    have hi' : i < es.length := by rw [← hl]; exact List.mem_range.1 hi
    unfold srtAt
    rw [Bool.and_eq_true, Bool.or_eq_true, e i hi']
    refine ⟨(h i hi').1, ?_⟩
    by_cases h0 : i = 0
    · left; simp [h0]
    · right
      rw [e (i - 1) (by omega), less_iff]
      exact (h i hi').2.2 (by omega)
  unfold archR
  rw [h1, h2, decide_eq_true h32]
  rfl
theorem fine_bool (e : Ent) : fineE e = (rt e.l e.r && !((e.l == 0) && (e.r == 0)) && (e.has || decide (e.data = noS))) := by
  unfold fineE
  rw [show decide (e.l = 0) = (e.l == 0) from rfl, show decide (e.r = 0) = (e.r == 0) from rfl]

end Go.Proofs.YtlmccjdpmhancaaDoor
namespace Go.Proofs.YtlmccjdpmhancaaDoor
open Go.RowKit

/-- append(v, x...), v the call's own, elements of one cell. -/
theorem run_app {P : Program} (w : World) (base : Nat) (t ty e : TypeId) (z : Value) (bytes : Nat) (ht : P.underlying t = some (.slice e)) (hinf : (P.info? e).map (fun i => (i.zero, i.size, i.bytes)) = some (some z, 1, bytes)) (hz : z.cells.size = 1)
    (A : Option Addr) (n c : Nat) (xs : List Value) (hown : w.ownsRow base e 1 (.slice A n c) n xs)
    (B : Option Addr) (m d : Nat) (news : List Value) (hl : news.length = m) (hr : Rd w B news) (h1 : ∀ u ∈ news, u.oneCell' = true)
    (hbytes : (n + m) * bytes ≤ 140737488355328) (hbase : base ≤ w.heap.size) (h63 : n + m ≤ maxLen) :
    ∃ A' c' w', (Builtin.append_ #[t, t] ty #[.slice A n c, .slice B m d]).run P w = .ok (.slice A' (n + m) c') w' ∧ w'.ownsRow base e 1 (.slice A' (n + m) c') (n + m) (xs ++ news) ∧ w.grownBy w' (Value.slice A n c).ownBlock := by
  obtain ⟨i, hi, hz0, hz1, hz2⟩ := info_parts hinf
  have own : ∀ ad, (∀ j u, news[j]? = some u → w.cell? (ad.add j) = some u) → ∃ A' c' w', (Builtin.append_ #[t, t] ty #[.slice A n c, .slice (some ad) m d]).run P w = .ok (.slice A' (n + m) c') w' ∧ w'.ownsRow base e 1 (.slice A' (n + m) c') (n + m) (xs ++ news) ∧ w.grownBy w' (Value.slice A n c).ownBlock := by
    intro ad hc
    obtain ⟨v', w', h2, h3, h4, _⟩ := run_append_own (P := P) w base t ty e i z 1 bytes ht hi hz0 hz1 hz2 hz (by decide) _ n xs hown ad m d news (by omega) hc h1 h63 hbytes hbase
    obtain ⟨_, A', c', rfl, _⟩ := own_form h3
    exact ⟨A', c', w', h2, h3, h4⟩
  rcases hr with rfl | ⟨ad, rfl, hc⟩
  · have hm : m = 0 := by simpa using hl.symm
    subst hm
    cases B with
    | none => exact ⟨A, c, w, run_app_nil (P := P) w base t ty e i ht hi _ n xs hown d, by simpa using hown, World.grownBy.refl _ _⟩
    | some ad => exact own ad (by simp)
  · exact own ad hc

/-- append where the order is open: its run is known. -/
theorem stepApp {P : Program} {w w' : World} {ops : Array Oper} {o : Oper} {a : Act} {K : Act → World → Prop} {Q : Exit → Act → World → Prop} {E : Prop} (hw : Region.wanted o (yielded ops a.tmps) = true) (s x : Operand) (t : TypeId)
    (ho : o.op = .call { callee := .builtin .append, args := #[s, x], argTypes := #[t, t] }) (v1 v2 v : Value) (hs : a.eval s = v1) (hx : a.eval x = v2)
    (hrun : (Builtin.append_ #[t, t] o.type #[v1, v2]).run P w = .ok v w') (h : K (a.put o.dst v) w') : if Region.wanted o (yielded ops a.tmps) = true then Oper.wp P o a w K Q else E := by
  rw [if_pos hw]
  unfold Oper.wp
  simp [execOp, ho, resolve, invoke, builtin, hs, hx, hrun, Result.andThen]
  exact h

/-- append behind a guard that holds: its run is known. -/
theorem wpAppG {P : Program} {w w' : World} {ops : Array Oper} {rest : List Oper} {o : Oper} {a : Act} {Q : Exit → Act → World → Prop} (hw : Region.wanted o (yielded ops a.tmps) = true) (s x : Operand) (t : TypeId)
    (ho : o.op = .call { callee := .builtin .append, args := #[s, x], argTypes := #[t, t] }) (v1 v2 v : Value) (hs : a.eval s = v1) (hx : a.eval x = v2)
    (hrun : (Builtin.append_ #[t, t] o.type #[v1, v2]).run P w = .ok v w') (h : wpList P ops Q rest (a.put o.dst v) w') : wpList P ops Q (o :: rest) a w :=
  wpList_step fun _ hK => stepApp hw s x t ho v1 v2 v hs hx hrun (hK _ _ h)

end Go.Proofs.YtlmccjdpmhancaaDoor
namespace Go.Proofs
open Go.Shelf
def Tryd.lays190_ren : Go.Shelf.Ren := ⟨fun | 190 => 42 | 125 => 64 | 258 => 63 | 128 => 78 | 129 => 79 | 302 => 69 | 303 => 70 | 304 => 71 | 305 => 72 | 306 => 73 | 307 => 74 | 308 => 75 | 309 => 76 | 310 => 77 | 333 => 82 | 329 => 83 | 330 => 84 | 334 => 85 | 335 => 86 | 336 => 87 | 344 => 91 | n => n, fun | 31 => 25 | 9 => 9 | 3 => 3 | 46 => 97 | 0 => 0 | 51 => 111 | 53 => 113 | 4 => 4 | 183 => 104 | 182 => 103 | 131 => 108 | 5 => 5 | 218 => 116 | 222 => 120 | 228 => 124 | 229 => 125 | n => n, fun | n => n⟩
theorem Tryd.lays190 : Go.Proofs.Lays.n190 Tryd.prog Tryd.lays190_ren := {
  mixed := by kernel_rfl
  f125 := Tryd.func64.trans (congrArg some (by kernel_rfl))
  f128 := Tryd.func78.trans (congrArg some (by kernel_rfl))
  f129 := Tryd.func79.trans (congrArg some (by kernel_rfl))
  f190 := Tryd.func42.trans (congrArg some (by kernel_rfl))
  f258 := Tryd.func63.trans (congrArg some (by kernel_rfl))
  f302 := Tryd.func69.trans (congrArg some (by kernel_rfl))
  f303 := Tryd.func70.trans (congrArg some (by kernel_rfl))
  f304 := Tryd.func71.trans (congrArg some (by kernel_rfl))
  f305 := Tryd.func72.trans (congrArg some (by kernel_rfl))
  f306 := Tryd.func73.trans (congrArg some (by kernel_rfl))
  f307 := Tryd.func74.trans (congrArg some (by kernel_rfl))
  f308 := Tryd.func75.trans (congrArg some (by kernel_rfl))
  f309 := Tryd.func76.trans (congrArg some (by kernel_rfl))
  f310 := Tryd.func77.trans (congrArg some (by kernel_rfl))
  f329 := Tryd.func83.trans (congrArg some (by kernel_rfl))
  f330 := Tryd.func84.trans (congrArg some (by kernel_rfl))
  f333 := Tryd.func82.trans (congrArg some (by kernel_rfl))
  f334 := Tryd.func85.trans (congrArg some (by kernel_rfl))
  f335 := Tryd.func86.trans (congrArg some (by kernel_rfl))
  f336 := Tryd.func87.trans (congrArg some (by kernel_rfl))
  f344 := Tryd.func91.trans (congrArg some (by kernel_rfl))
  t0 := Tryd.underlying0
  a0 := Tryd.isAgg0
  z0 := Tryd.sizeOf0
  v0 := Tryd.zeroValue0
  t3 := Tryd.underlying3
  a3 := Tryd.isAgg3
  z3 := Tryd.sizeOf3
  v3 := Tryd.zeroValue3
  t4 := Tryd.underlying4
  a4 := Tryd.isAgg4
  z4 := Tryd.sizeOf4
  v4 := Tryd.zeroValue4
  t5 := Tryd.underlying5
  a5 := Tryd.isAgg5
  z5 := Tryd.sizeOf5
  v5 := Tryd.zeroValue5
  t9 := Tryd.underlying9
  a9 := Tryd.isAgg9
  z9 := Tryd.sizeOf9
  v9 := Tryd.zeroValue9
  t31 := Tryd.underlying25
  a31 := Tryd.isAgg25
  z31 := Tryd.sizeOf25
  v31 := Tryd.zeroValue25
  t46 := Tryd.underlying97
  a46 := Tryd.isAgg97
  z46 := Tryd.sizeOf97
  v46 := Tryd.zeroValue97
  t51 := Tryd.underlying111
  a51 := Tryd.isAgg111
  z51 := Tryd.sizeOf111
  v51 := Tryd.zeroValue111
  t53 := Tryd.underlying113
  a53 := Tryd.isAgg113
  z53 := Tryd.sizeOf113
  v53 := Tryd.zeroValue113
  t131 := Tryd.underlying108
  a131 := Tryd.isAgg108
  z131 := Tryd.sizeOf108
  v131 := Tryd.zeroValue108
  t182 := Tryd.underlying103
  a182 := Tryd.isAgg103
  z182 := Tryd.sizeOf103
  v182 := Tryd.zeroValue103
  t183 := Tryd.underlying104
  a183 := Tryd.isAgg104
  z183 := Tryd.sizeOf104
  v183 := Tryd.zeroValue104
  t218 := Tryd.underlying116
  a218 := Tryd.isAgg116
  z218 := Tryd.sizeOf116
  v218 := Tryd.zeroValue116
  t222 := Tryd.underlying120
  a222 := Tryd.isAgg120
  z222 := Tryd.sizeOf120
  v222 := Tryd.zeroValue120
  t228 := Tryd.underlying124
  a228 := Tryd.isAgg124
  z228 := Tryd.sizeOf124
  v228 := Tryd.zeroValue124
  t229 := Tryd.underlying125
  a229 := Tryd.isAgg125
  z229 := Tryd.sizeOf125
  v229 := Tryd.zeroValue125 }
open Go.Sort Go.RowKit in
theorem Tryd.slices_Sort_string (blk off cap : Nat) (ss : List (List UInt8)) (w : World) (hH : Holds encStr w blk off ss.toArray) (hblk : blk < w.heap.size) (hsz : ss.length < 4611686018427387904) :
    Calls Tryd.prog 42 #[.slice (some ⟨blk, off, none⟩) ss.length cap] w fun e w' =>
      e = .returned (.tuple #[]) ∧ ∃ n os, w' = grow (putRow encStr (Sort.ahead w n) blk off (ss.mergeSort fun x y => decide (x ≤ y)).toArray) os := Any.slices_Sort_string Tryd.lays190 blk off cap ss w hH hblk hsz
def Tryd.lays194_ren : Go.Shelf.Ren := ⟨fun | 194 => 43 | n => n, fun | 31 => 25 | 9 => 9 | 3 => 3 | 4 => 4 | 0 => 0 | n => n, fun | n => n⟩
theorem Tryd.lays194 : Go.Proofs.Lays.n194 Tryd.prog Tryd.lays194_ren := {
  mixed := by kernel_rfl
  f194 := Tryd.func43.trans (congrArg some (by kernel_rfl))
  t0 := Tryd.underlying0
  a0 := Tryd.isAgg0
  z0 := Tryd.sizeOf0
  v0 := Tryd.zeroValue0
  t3 := Tryd.underlying3
  a3 := Tryd.isAgg3
  z3 := Tryd.sizeOf3
  v3 := Tryd.zeroValue3
  t4 := Tryd.underlying4
  a4 := Tryd.isAgg4
  z4 := Tryd.sizeOf4
  v4 := Tryd.zeroValue4
  t9 := Tryd.underlying9
  a9 := Tryd.isAgg9
  z9 := Tryd.sizeOf9
  v9 := Tryd.zeroValue9
  t31 := Tryd.underlying25
  a31 := Tryd.isAgg25
  z31 := Tryd.sizeOf25
  v31 := Tryd.zeroValue25 }
open Go.RowKit Go.Lib Go.Sort in
theorem Tryd.slices_Compact_string_arr (blk off cap : Nat) (d : Array (List UInt8)) (w : World) (hH : Holds encStr w blk off d) (hsz : d.size ≤ 9223372036854775807) (hcap : d.size ≤ cap) :
    Calls Tryd.prog 43 #[.slice (some ⟨blk, off, none⟩) d.size cap] w fun e w' => e = .returned (.slice (some ⟨blk, off, none⟩) (compactUpTo d d.size).length cap) ∧ ∃ q, w' = putRow encStr (Sort.ahead w q) blk off (compactUpTo d d.size ++ List.replicate (d.size - (compactUpTo d d.size).length) []).toArray := Any.slices_Compact_string_arr Tryd.lays194 blk off cap d w hH hsz hcap
open Go.RowKit Go.Lib Go.Sort in
theorem Tryd.slices_Compact_string (blk off cap : Nat) (zs : List (List UInt8)) (w : World) (hH : Holds encStr w blk off zs.toArray) (hsz : zs.length ≤ 9223372036854775807) (hcap : zs.length ≤ cap) :
    Calls Tryd.prog 43 #[.slice (some ⟨blk, off, none⟩) zs.length cap] w fun e w' => e = .returned (.slice (some ⟨blk, off, none⟩) (Lib.compact zs).length cap) ∧ ∃ q, w' = putRow encStr (Sort.ahead w q) blk off (Lib.compact zs ++ List.replicate (zs.length - (Lib.compact zs).length) []).toArray := Any.slices_Compact_string Tryd.lays194 blk off cap zs w hH hsz hcap
open Go.RowKit Go.Lib Go.Sort in
theorem Tryd.slices_Compact_string_empty (a : Option Addr) (cap : Nat) (w : World) :
    Calls Tryd.prog 43 #[.slice a 0 cap] w fun e w' => e = .returned (.slice a 0 cap) ∧ w' = w := Any.slices_Compact_string_empty Tryd.lays194 a cap w
open Go.RowKit Go.Sort in
theorem Tryd.slices_Sort_string_none (p : Option Addr) (cap : Nat) (w : World) :
    Calls Tryd.prog 42 #[.slice p 0 cap] w fun e w' => e = .returned (.tuple #[]) ∧ w' = w := Any.slices_Sort_string_none Tryd.lays190 p cap w
end Go.Proofs
namespace Go.Proofs.YtlmccjdpmhancaaDoor
open Go.RowKit Go.Sort

/-! ### Room for entries -/
set_option maxHeartbeats 1000000 in
set_option maxRecDepth 100000 in
theorem egrow_any (k : Nat) (hk : k ≤ 1000000) (w : World) :
    Calls Tryd.prog 62 #[.slice none 0 0, .int .i64 (k : Int)] w fun e w' => ∃ v, e = .returned v ∧ w'.ownsRow w.heap.size 34 5 v 0 [] ∧ Below w.heap.size w w' := by
  by_cases h0 : k = 0
  · subst h0
    go_enter Tryd.func62, Tryd.ntmps62
    go_wp2
    go_ret
    exact ⟨_, rfl, ⟨rfl, .inl ⟨rfl, rfl⟩⟩, Below.refl _ _⟩
  · obtain ⟨i, hi, hz0, hz1, hz2⟩ := info_parts Tryd.infoE
    have HRUN := hid (Lib.run_append_nil_zeros (P := Tryd.prog) w 22 3 22 34 i (eA zE) .i64 .i64 Tryd.underlying22 Tryd.underlying3 hi hz0 k (by omega) (by rw [hz1]; decide) (by omega) (by rw [hz2]; omega))
    have hc1 := grownCap_ge w k 0 34
    have hc2 := grownCap_le_maxLen w k 0 34 (by unfold maxLen; omega)
    have HO := hid (World.ownsRow_made (base := w.heap.size) (e := 34) (size := 5) w.drew (Builtin.zeroCells (eA zE).cells k ++ Builtin.zeroCells (eA zE).cells (grownCap w k 0 34 - k)) (grownCap w k 0 34) (Nat.le_refl _) hc2 (by
      have h5 : (eA zE).cells.size = 5 := rfl
      simp only [Array.size_append, size_zeroCells, h5]
      omega))
    have hb : Below w.heap.size w (w.drew.alloc (.cells (Builtin.zeroCells (eA zE).cells k ++ Builtin.zeroCells (eA zE).cells (grownCap w k 0 34 - k)) 34)) := (Below.refl _ _).drew.alloc (Nat.le_refl _) _
    generalize w.drew.alloc (.cells (Builtin.zeroCells (eA zE).cells k ++ Builtin.zeroCells (eA zE).cells (grownCap w k 0 34 - k)) 34) = W at *
    generalize grownCap w k 0 34 = q at *
    have hkz : (0 : Int) < k := by omega
    have hkn : ¬ (k : Int) < 0 := by omega
    clear hi hz0 hz1 hz2 h0
    unfold maxLen at hc2
    go_enter Tryd.func62, Tryd.ntmps62
    go_wp2_with (at_builtin; refine Lib.wpList_append_run _ rfl _ _ _ _ rfl _ _ rfl rfl _ _ HRUN.out ?_)
    go_ret
    exact ⟨_, rfl, HO.out, hb⟩

/-- append of entries onto a row of the call's own. -/
theorem app_ents {W : World} {n₀ : Nat} {v : Value} {xs : List Ent} (hrow : W.ownsRow n₀ 34 5 v xs.length (entV xs)) (hn : n₀ ≤ W.heap.size) {B : Option Addr} {m d : Nat} {ys : List Ent} (hl : ys.length = m) (hr : Rd W B (entV ys)) (hk : xs.length + m ≤ 1000000) :
    ∃ v' w1, Hid ((Builtin.append_ #[22, 22] 22 #[v, .slice B m d]).run Tryd.prog W = .ok v' w1) ∧ w1.ownsRow n₀ 34 5 v' (xs ++ ys).length (entV (xs ++ ys)) ∧ Below n₀ W w1 := by
  obtain ⟨i, hi, hz0, hz1, hz2⟩ := info_parts Tryd.infoE
  have own : ∀ ad : Addr, (∀ j u, (entV ys)[j]? = some u → W.cell? (ad.add j) = some u) → ∃ v' w1, Hid ((Builtin.append_ #[22, 22] 22 #[v, .slice (some ad) m d]).run Tryd.prog W = .ok v' w1) ∧ w1.ownsRow n₀ 34 5 v' (xs ++ ys).length (entV (xs ++ ys)) ∧ Below n₀ W w1 := by
    intro ad hc
    obtain ⟨v', w', h2, h3, h4, -⟩ := run_append_own (P := Tryd.prog) W n₀ 22 22 34 i (eA zE) 5 56 Tryd.underlying22 hi hz0 hz1 hz2 rfl (by decide) v xs.length (entV xs) hrow ad m d (entV ys) (by rw [entV_length, hl]) hc (entV_one _) (by unfold maxLen; omega) (by omega) hn
    refine ⟨v', w', h2, ?_, (Below.refl n₀ W).grown h4 hn fun j ej => (hrow.lt j ej).1⟩
    rw [entV_append, List.length_append, hl]
    exact h3
  rcases hr with hr | ⟨ad, rfl, hc⟩
  · have hy : ys = [] := by
      have := entV_length ys
      rw [hr] at this
      exact List.eq_nil_of_length_eq_zero (by simp at this; omega)
    subst hy
    subst hl
    cases B with
    | none =>
      refine ⟨v, W, ?_, by rw [List.append_nil]; exact hrow, Below.refl _ _⟩
      show _ = _
      rcases hrow.2 with ⟨e1, e0⟩ | ⟨g, cap, cur, e1, _, _, hnc, _⟩
      · rw [e1]
        simp [Builtin.append_, run_underlying Tryd.underlying22, sizeOf, typeInfo, hi, Builtin.lenOf, Builtin.firstCells]
      · rw [e1]
        simp [Builtin.append_, run_underlying Tryd.underlying22, sizeOf, typeInfo, hi, Builtin.lenOf, Builtin.firstCells, hnc, storeCells]
    | some ad => exact own ad (by simp [entV])
  · exact own ad hc

set_option maxHeartbeats 2000000 in
set_option maxRecDepth 100000 in
theorem concat_any {w : World} {A B : Option Addr} {n c m d g : Nat} {es fs : List Ent} (h : Et w A n c es) (k : Et w B m d fs) (hn : n ≤ 100000) (hm : m ≤ 100000) (hg : Blk w g [.slice A n c, .slice B m d] 22) :
    Calls Tryd.prog 41 #[.slice (some ⟨g, 0, none⟩) 2 2] w fun e w' => ∃ v, e = .returned v ∧ w'.ownsRow w.heap.size 34 5 v (es ++ fs).length (entV (es ++ fs)) ∧ Below w.heap.size w w' := by
  have hr := h.rd
  have hr2 := k.rd
  have HL := hid h.len
  have HL2 := hid k.len
  have g0 := hg.cell 0
  have g1 := hg.cell 1
  have lg := hg.lt
  simp only [List.getElem?_cons_zero, List.getElem?_cons_succ] at g0 g1
  clear h k hg
  go_enter Tryd.func41, Tryd.ntmps41
  go_wp2_with fail
  go_loop [3, 11] (fun s i => (i = .int .i64 0 ∧ s = .int .i64 0) ∨ (i = .int .i64 1 ∧ s = .int .i64 (n : Int)) ∨ (i = .int .i64 2 ∧ s = .int .i64 ((n + m : Nat) : Int))) (fun _ i => 2 - (intOf i).toNat)
  case atStart => exact .inl ⟨rfl, rfl⟩
  case round =>
    have hnz : ¬ (n : Int) < 0 := by omega
    have hnm : ¬ (n : Int) + m < 0 := by omega
    rcases hrel with ⟨rfl, rfl⟩ | ⟨rfl, rfl⟩ | ⟨rfl, rfl⟩
    · go_wp2
      go_round
      case rel => exact .inr (.inl ⟨rfl, rfl⟩)
      case measure => decide
    · go_wp2
      go_round
      case rel => exact .inr (.inr ⟨rfl, by simp⟩)
      case measure => decide
    · go_wp2_with fail
      refine (egrow_any (n + m) (by omega) w).mono ?_
      rintro e w1 ⟨v1, rfl, o1, b1⟩
      go_wp2_with fail
      go_loopw [6, 27] (fun v i wr => ∃ xs : List Ent, ((i = .int .i64 0 ∧ xs = []) ∨ (i = .int .i64 1 ∧ xs = es) ∨ (i = .int .i64 2 ∧ xs = es ++ fs)) ∧ wr.ownsRow w.heap.size 34 5 v xs.length (entV xs) ∧ Below w.heap.size w wr) (fun _ i _ => 2 - (intOf i).toNat)
      case atStart => exact ⟨[], .inl ⟨rfl, rfl⟩, o1, b1⟩
      case round =>
        obtain ⟨xs, hx, o, b⟩ := hrel
        have y0 := (b.cell (p := ⟨g, 0, none⟩) lg).trans g0
        have y1 := (b.cell (p := ⟨g, 1, none⟩) lg).trans g1
        rcases hx with ⟨rfl, rfl⟩ | ⟨rfl, rfl⟩ | ⟨rfl, rfl⟩
        · obtain ⟨v', w2, HRUN, o2, b2⟩ := app_ents (W := wr) o b.size (d := c) HL.out (hr.below b) (by simp; omega)
          have b3 := b.trans b2
          clear o b2
          go_wp2_with (at_builtin; refine Lib.wpList_append_run _ rfl _ _ _ _ rfl _ _ rfl rfl _ _ HRUN.out ?_)
          go_roundw
          case rel => exact ⟨es, .inr (.inl ⟨rfl, rfl⟩), o2, b3⟩
          case measure => decide
        · obtain ⟨v', w2, HRUN, o2, b2⟩ := app_ents (W := wr) o b.size (d := d) HL2.out (hr2.below b) (by have := HL.out; omega)
          have b3 := b.trans b2
          clear o b2
          go_wp2_with (at_builtin; refine Lib.wpList_append_run _ rfl _ _ _ _ rfl _ _ rfl rfl _ _ HRUN.out ?_)
          go_roundw
          case rel => exact ⟨_, .inr (.inr ⟨rfl, rfl⟩), o2, b3⟩
          case measure => decide
        · go_wp2
          go_ret
          exact ⟨_, rfl, o, b⟩
end Go.Proofs.YtlmccjdpmhancaaDoor
namespace Go.Proofs.YtlmccjdpmhancaaDoor
open Go.RowKit Go.Sort

/-! ### Sorted, and each once: plain lists -/
theorem compact_has {zs : List (List UInt8)} {x : List UInt8} : x ∈ Lib.compact zs ↔ x ∈ zs := by
  unfold Lib.compact Lib.compactUpTo
  constructor
  · intro h
    obtain ⟨i, hi, rfl⟩ := List.mem_map.1 h
    have hi' : i < zs.length := List.mem_range.1 (List.mem_filter.1 hi).1
    simp [getElem!_pos, hi']
  · intro h
    obtain ⟨i, hi, rfl⟩ := List.mem_iff_getElem.1 h
    have key : ∀ i (hi : i < zs.length), ∃ j, j ≤ i ∧ Lib.keeps zs.toArray j = true ∧ zs.toArray[j]! = zs[i] := by
      intro i
      induction i with
      | zero => intro hi; exact ⟨0, Nat.le_refl _, Lib.keeps_lt_one _ 0 (by omega), by simp [getElem!_pos, hi]⟩
      | succ i ih =>
        intro hi
        by_cases e : zs.toArray[i + 1]! = zs.toArray[i + 1 - 1]!
        · obtain ⟨j, h1, h2, h3⟩ := ih (by omega)
          refine ⟨j, by omega, h2, ?_⟩
          rw [h3]
          simp only [Nat.add_sub_cancel] at e
          rw [getElem!_pos _ _ (by simpa using hi), getElem!_pos _ _ (by simp; omega)] at e
          simpa using e.symm
        · exact ⟨i + 1, Nat.le_refl _, Lib.keeps_pos e, by simp [getElem!_pos, hi]⟩
    obtain ⟨j, h1, h2, h3⟩ := key i hi
    exact List.mem_map.2 ⟨j, List.mem_filter.2 ⟨List.mem_range.2 (by omega), h2⟩, h3⟩
theorem compact_rises {zs : List (List UInt8)} (hs : zs.Pairwise fun a b => a ≤ b) : (Lib.compact zs).Pairwise fun a b => a < b := by
  have hle : ∀ i j (hi : i < zs.length) (hj : j < zs.length), i ≤ j → zs[i] ≤ zs[j] := fun i j hi hj h => by
    rcases Nat.lt_or_ge i j with e | e
    · exact List.pairwise_iff_getElem.1 hs i j hi hj e
    · have : i = j := by omega
      subst this
      exact List.le_refl _
  unfold Lib.compact Lib.compactUpTo
  rw [List.pairwise_map]
  have hr := (List.pairwise_lt_range (n := zs.toArray.size)).filter (Lib.keeps zs.toArray)
  refine hr.imp_of_mem ?_
  intro a b ha hb hab
  have hb1 : b < zs.length := by simpa using List.mem_range.1 (List.mem_filter.1 hb).1
  have hk := (List.mem_filter.1 hb).2
  have hne : zs.toArray[b]! ≠ zs.toArray[b - 1]! := fun e => by
    rw [Lib.keeps_neg (by omega) e] at hk
    cases hk
  rw [getElem!_pos zs.toArray b (by simpa using hb1), getElem!_pos zs.toArray (b - 1) (by simp; omega)] at hne
  rw [getElem!_pos zs.toArray b (by simpa using hb1), getElem!_pos zs.toArray a (by simp; omega)]
  simp only [List.getElem_toArray] at hne ⊢
  have h1 := hle a (b - 1) (by omega) (by omega) (by omega)
  have h2 := hle (b - 1) b (by omega) hb1 (by omega)
  rcases List.le_iff_lt_or_eq.1 h2 with e | e
  · exact List.lt_of_le_of_lt h1 e
  · exact absurd e.symm hne
def knownL (ss : List (List UInt8)) : List (List UInt8) := Lib.compact (ss.mergeSort fun x y => decide (x ≤ y))
theorem known_has {ss : List (List UInt8)} {x : List UInt8} : x ∈ knownL ss ↔ x ∈ ss := by
  rw [knownL, compact_has]
  exact (List.mergeSort_perm ss _).mem_iff
theorem known_rises (ss : List (List UInt8)) : (knownL ss).Pairwise fun a b => a < b := by
  refine compact_rises ?_
  have := List.pairwise_mergeSort (le := fun x y => decide (x ≤ y)) (fun a b c h1 h2 => by simp only [decide_eq_true_eq] at *; exact List.le_trans h1 h2) (fun a b => by
    simp only [Bool.or_eq_true, decide_eq_true_eq]; exact List.le_total a b) ss
  exact this.imp fun h => by simpa using h
theorem known_is {l m : List Ent} (hl : SrtE l) (hm : SrtE m) : (knownL ((l ++ m).map epth)).map mkS = (mrgL l m).map (·.1.path) := by
  refine mrg_paths hl hm ?_ fun x => ?_
  · refine List.pairwise_map.2 ((known_rises _).imp fun h => ?_)
    simpa [mkS] using h
  · rw [List.mem_map]
    constructor
    · rintro ⟨y, hy, rfl⟩
      obtain ⟨e, he, rfl⟩ := List.mem_map.1 (known_has.1 hy)
      have : mkS (epth e) = e.path := data_inj (by simp [mkS, epth])
      rw [this]
      rcases List.mem_append.1 he with h | h
      · exact .inl (List.mem_map.2 ⟨e, h, rfl⟩)
      · exact .inr (List.mem_map.2 ⟨e, h, rfl⟩)
    · intro h
      refine ⟨x.data.toList, known_has.2 ?_, data_inj (by simp [mkS])⟩
      rcases h with h | h <;> obtain ⟨e, he, rfl⟩ := List.mem_map.1 h
      · exact List.mem_map.2 ⟨e, List.mem_append_left _ he, rfl⟩
      · exact List.mem_map.2 ⟨e, List.mem_append_right _ he, rfl⟩

/-! ### known -/
def KnownPost (w : World) (ss : List (List UInt8)) (e : Ending) (w' : World) : Prop :=
  ∃ C q, e = .returned (.slice C (knownL ss).length q) ∧ Rd w' C (strV ((knownL ss).map mkS)) ∧ Below w.heap.size w w'
theorem strV_enc (L : List (List UInt8)) : strV (L.map mkS) = L.map encStr := by
  rw [strV, List.map_map]
  rfl
theorem known_end {w w1 : World} {g cap n nn q base : Nat} {os : Array Obj} {ss : List (List UInt8)} (hown : w1.ownsRow base 9 1 (.slice (some ⟨g, 0, none⟩) n cap) n (ss.map encStr)) (hbel : Below w.heap.size w w1) (hbg : base ≤ g) (hwb : w.heap.size ≤ base) (hlen : ss.length = n) :
    KnownPost w ss (.returned (.slice (some ⟨g, 0, none⟩) (knownL ss).length cap))
      (putRow encStr (Sort.ahead (grow (putRow encStr (Sort.ahead w1 nn) g 0 (ss.mergeSort fun x y => decide (x ≤ y)).toArray) os) q) g 0 (knownL ss ++ List.replicate (n - (knownL ss).length) []).toArray) := by
  have hl2 : (ss.mergeSort fun x y => decide (x ≤ y)).length = ss.length := List.length_mergeSort ss
  have hle : (knownL ss).length ≤ ss.length := by rw [← hl2]; exact Lib.compact_length_le _
  subst hlen
  rcases hown.2 with ⟨h0, _⟩ | ⟨g', cap', cur, hv, hbase, hb, h1, h2, h3, h4⟩
  · cases h0
  cases hv
  have hs := ownsRow_sorted (n := nn) (os := os) (ts := ss.mergeSort fun x y => decide (x ≤ y)) hl2 hbase hb h1 h2 h3
  have hc := Lib.ownsRow_putRow (q := q) (k := (knownL ss).length) (ys := knownL ss ++ List.replicate (ss.length - (knownL ss).length) []) hs (by simp; omega) (by omega)
  rw [List.take_left] at hc
  refine ⟨_, cap, rfl, ?_, Lib.below_putRow (hbel.grown (grownBy_sorted _) hbel.size (fun j hj => by cases hj; omega)) (by omega)⟩
  rw [strV_enc]
  exact Rd.of_own hc

set_option maxHeartbeats 2000000 in
set_option maxRecDepth 100000 in
theorem known_any {w : World} {A B : Option Addr} {n c m d : Nat} {es fs : List Ent} (h : Et w A n c es) (k : Et w B m d fs) (hn : n ≤ 100000) (hm : m ≤ 100000) :
    Calls Tryd.prog 20 #[.slice A n c, .slice B m d] w (KnownPost w ((es ++ fs).map epth)) := by
  have hal : ∀ (W : World) (o : Obj), Below W.heap.size W (W.alloc o) := fun W o => (Below.refl _ _).alloc (Nat.le_refl _) o
  have c0 := concat_any (h.below (hal w (.cells #[.slice A n c, .slice B m d] 22))) (k.below (hal w _)) hn hm (Blk.new w [.slice A n c, .slice B m d] 22)
  have HN : Hid ((es ++ fs).length ≤ 200000) := by show _ ≤ _; rw [List.length_append, h.len, k.len]; omega
  clear h k
  generalize es ++ fs = xs at *
  go_enter Tryd.func20, Tryd.ntmps20
  go_wp2_with fail
  refine c0.mono ?_
  rintro e w1 ⟨v1, rfl, o1, hb1⟩
  clear c0
  have b1 := below2 (hal w _) hb1
  clear hb1
  obtain ⟨A1, q1, rfl⟩ := own_slice o1
  have r1 : Rd w1 A1 (entV xs) := by
    rcases o1.2 with ⟨e1, e0⟩ | ⟨g, cap, cur, e1, _⟩
    · have : xs = [] := List.eq_nil_of_length_eq_zero e0
      subst this; exact .inl rfl
    · injection e1 with e1 e2 e3
      subst e1
      exact .inr ⟨_, rfl, o1.cells (g := g) rfl⟩
  clear o1
  have hN := HN.out
  go_wp2_with fail
  go_loopw [5, 13] (fun v i wr => ∃ j : Nat, j ≤ xs.length ∧ i = .int .i64 j ∧ wr.ownsRow w1.heap.size 9 1 v j (strV ((xs.take j).map (·.path))) ∧ Below w1.heap.size w1 wr) (fun _ i _ => xs.length - (intOf i).toNat)
  case atStart => exact ⟨0, by omega, rfl, ⟨rfl, .inl ⟨rfl, rfl⟩⟩, Below.refl _ _⟩
  case round =>
    obtain ⟨j, hj, rfl, o, b⟩ := hrel
    by_cases hjn : j < xs.length
    · have hz : (0 : Int) ≤ j := by omega
      have hlt : (j : Int) < xs.length := by omega
      obtain ⟨g, og, rfl, x0, x1, x2, x3, x4, lg⟩ := (r1.below b).ent hjn
      have HT : Hid (strV ((xs.take (j + 1)).map (·.path)) = strV ((xs.take j).map (·.path)) ++ [.string xs[j].path]) := by
        show _ = _
        rw [List.take_add_one, List.getElem?_eq_getElem hjn, List.map_append, strV, List.map_append]
        rfl
      generalize xs[j] = x at *
      have hal2 := hal wr (.cells #[.string x.path, .bool x.has, .string x.data, .int .i64 x.l, .int .i64 x.r] 34)
      have o2 := own_below o hal2
      have b2 := b.trans (hal2.mono b.size)
      obtain ⟨A2, c2, w3, HRUN, o3, hgr, hb3⟩ := app_own2 (n₀ := w1.heap.size) Tryd.underlying25 Tryd.infoS rfl (by decide) o2 b2.size (by omega) (by unfold maxLen; omega) [.string x.path] rfl (by simp [Value.oneCell'])
      rw [← HT.out] at o3
      have b3 := b2.trans hb3
      clear o o2 b hb3 hgr hal2
      rw [show (wr.alloc (.cells #[.string x.path, .bool x.has, .string x.data, .int .i64 x.l, .int .i64 x.r] 34)).heap.size = wr.heap.size + 1 by simp] at HRUN
      go_wp2_with (at_builtin; refine Lib.wpList_append_run _ rfl _ _ _ _ rfl _ _ rfl rfl _ _ HRUN.out ?_)
      go_roundw
      case rel => exact ⟨j + 1, by omega, by go_num, o3, b3⟩
      case measure => simp [intOf]; omega
    · have HE := hid (show j = xs.length by omega)
      have hnlt : ¬ (j : Int) < xs.length := by omega
      have hjL : j ≤ 200000 := by omega
      have HO : Hid (wr.ownsRow w1.heap.size 9 1 u5 j ((xs.map epth).map encStr)) := by
        have := o
        rw [HE.out, List.take_length] at this
        show World.ownsRow _ _ _ _ _ _ _
        rw [HE.out]
        have e : strV (xs.map (·.path)) = (xs.map epth).map encStr := by rw [strV, ← Lib.map_encStr]; simp only [List.map_map]; rfl
        rw [← e]
        exact this
      have b2 := below2 b1 b
      clear o r1
      by_cases hv : u5 = .slice none 0 0
      · subst hv
        have hj0 : j = 0 := by
          have := HO.out.1
          rcases HO.out.2 with ⟨_, e⟩ | ⟨g, cap, cur, e, _⟩
          · exact e
          · cases e
        subst hj0
        have hxs : xs = [] := List.eq_nil_of_length_eq_zero HE.out.symm
        subst hxs
        go_wp2_with fail
        refine (Tryd.slices_Sort_string_none none 0 _).mono ?_
        rintro e w2 ⟨rfl, rfl⟩
        go_wp2_with fail
        refine (Tryd.slices_Compact_string_empty none 0 _).mono ?_
        rintro e w2 ⟨rfl, rfl⟩
        go_wp2
        go_ret
        have hk0 : knownL (List.map epth []) = [] := by simp [knownL, Lib.compact, Lib.compactUpTo]
        unfold KnownPost
        rw [hk0]
        exact ⟨none, 0, rfl, .inl rfl, b2⟩
      · obtain ⟨g, cap, rfl, hbg, hgl, hncap, hcm, hlen, hH⟩ := Lib.holds_of_ownsRow HO.out hv
        have hsort := Tryd.slices_Sort_string g 0 cap (xs.map epth) wr hH hgl (by omega)
        rw [hlen] at hsort
        unfold maxLen at hcm
        have HX := hid hlen
        have HHH := hid hH
        have hwb := b1.size
        clear hv hlen hH
        generalize xs.map epth = ss at *
        go_wp2_with fail
        refine hsort.mono ?_
        rintro e w2 ⟨rfl, nn, os, rfl⟩
        clear hsort
        have hl2 : (ss.mergeSort fun x y => decide (x ≤ y)).length = j := by rw [List.length_mergeSort]; exact HX.out
        have hH2 : Holds encStr (grow (putRow encStr (Sort.ahead wr nn) g 0 (ss.mergeSort fun x y => decide (x ≤ y)).toArray) os) g 0 (ss.mergeSort fun x y => decide (x ≤ y)).toArray :=
          holds_grow encStr _ os g 0 _ (by simpa [putRow, mapBlock, Sort.ahead] using hgl) (holds_putRow encStr _ g 0 _ _ (holds_ahead encStr wr nn g 0 _ HHH.out) (by simp))
        have hcomp := Tryd.slices_Compact_string g 0 cap (ss.mergeSort fun x y => decide (x ≤ y)) _ hH2 (by omega) (by omega)
        rw [hl2] at hcomp
        have HF := hid (fun q => known_end (w := w) (nn := nn) (os := os) (q := q) HO.out b2 hbg hwb HX.out)
        clear hH2 hl2
        go_wp2_with fail
        refine hcomp.mono ?_
        rintro e w3 ⟨rfl, q, rfl⟩
        clear hcomp
        go_wp2
        go_ret
        exact HF.out q
end Go.Proofs.YtlmccjdpmhancaaDoor
namespace Go.Proofs.YtlmccjdpmhancaaDoor
open Go.RowKit

/-! ### A path is put at its place -/
def lessS (s p : ByteArray) : Bool := Op.bytesLess s.data.toList p.data.toList
def atS (out : List ByteArray) (p : ByteArray) : Nat := out.findIdx fun s => !lessS s p
def insP (out : List ByteArray) (p : ByteArray) : List ByteArray := if out[atS out p]? = some p then out else out.take (atS out p) ++ p :: out.drop (atS out p)
def SrtS (out : List ByteArray) : Prop := out.Pairwise fun a b => a.data.toList < b.data.toList
theorem atS_le (out : List ByteArray) (p : ByteArray) : atS out p ≤ out.length := List.findIdx_le_length
theorem atS_low {out : List ByteArray} {p : ByteArray} {k : Nat} (hk : k < out.length) (h : k < atS out p) : lessS out[k] p = true := by
  have := List.not_of_lt_findIdx h
  simpa using this
theorem atS_at {out : List ByteArray} {p : ByteArray} (h : atS out p < out.length) : lessS out[atS out p] p = false := by
  have h1 : (!lessS out[atS out p] p) = true := List.findIdx_getElem (p := fun s => !lessS s p) (w := h)
  simpa using h1
theorem atS_is {out : List ByteArray} {p : ByteArray} {k : Nat} (hk : k ≤ out.length) (h1 : ∀ i (hi : i < out.length), i < k → lessS out[i] p = true) (h2 : ∀ hi : k < out.length, lessS out[k] p = false) : atS out p = k := by
  by_cases hlt : k < out.length
  · exact (List.findIdx_eq hlt).2 ⟨by simp [h2 hlt], fun i hi => by simp [h1 i (by omega) hi]⟩
  · obtain rfl : k = out.length := by omega
    refine List.findIdx_eq_length.2 fun x hx => ?_
    obtain ⟨i, hi, rfl⟩ := List.mem_iff_getElem.1 hx
    simp [h1 i hi hi]
theorem ins_mem {out : List ByteArray} {p x : ByteArray} : x ∈ insP out p ↔ x = p ∨ x ∈ out := by
  unfold insP
  split
  · rename_i h
    have := List.mem_of_getElem? h
    constructor
    · exact .inr
    · rintro (rfl | h)
      · exact this
      · exact h
  · have e : ∀ y, y ∈ out ↔ y ∈ out.take (atS out p) ∨ y ∈ out.drop (atS out p) := fun y => by
      conv => lhs; rw [← List.take_append_drop (atS out p) out]
      rw [List.mem_append]
    rw [List.mem_append, List.mem_cons, e x]
    constructor
    · rintro (h | h | h)
      · exact .inr (.inl h)
      · exact .inl h
      · exact .inr (.inr h)
    · rintro (h | h | h)
      · exact .inr (.inl h)
      · exact .inl h
      · exact .inr (.inr h)
theorem ins_srt {out : List ByteArray} {p : ByteArray} (h : SrtS out) : SrtS (insP out p) := by
  unfold insP
  split
  · exact h
  · rename_i hne
    have hh := List.pairwise_iff_getElem.1 h
    have low : ∀ a ∈ out.take (atS out p), a.data.toList < p.data.toList := by
      intro a ha
      obtain ⟨i, hi, rfl⟩ := List.mem_iff_getElem.1 ha
      rw [List.length_take] at hi
      rw [List.getElem_take]
      exact (less_iff _ _).1 (atS_low (by omega) (by omega))
    have high : ∀ b ∈ out.drop (atS out p), p.data.toList < b.data.toList := by
      intro b hb
      obtain ⟨i, hi, rfl⟩ := List.mem_iff_getElem.1 hb
      rw [List.length_drop] at hi
      rw [List.getElem_drop]
      have h0 : atS out p < out.length := by omega
      have h1 : p.data.toList < out[atS out p].data.toList := by
        rcases lt_tri p.data.toList out[atS out p].data.toList with x | x | x
        · exact x
        · exact absurd ((List.getElem?_eq_getElem h0).trans (congrArg some (data_inj x).symm)) hne
        · have := atS_at h0
          rw [lessS, (less_iff _ _).2 x] at this
          cases this
      by_cases hi0 : i = 0
      · subst hi0; exact h1
      · exact List.lt_trans h1 (hh _ _ h0 (by omega) (by omega))
    refine List.pairwise_append.2 ⟨h.sublist (List.take_sublist _ _), List.pairwise_cons.2 ⟨high, h.sublist (List.drop_sublist _ _)⟩, ?_⟩
    intro a ha b hb
    rcases List.mem_cons.1 hb with rfl | hb
    · exact low a ha
    · exact List.lt_trans (low a ha) (high b hb)
def pthL (l : List Ent) (t : List Fil) : List ByteArray := l.map (·.path) ++ t.map (·.1)
def allL (l : List Ent) (t : List Fil) : List ByteArray := (pthL l t).foldl insP []
theorem fold_ins (xs : List ByteArray) : ∀ (out : List ByteArray), SrtS out → SrtS (xs.foldl insP out) ∧ ∀ x, x ∈ xs.foldl insP out ↔ x ∈ xs ∨ x ∈ out := by
  induction xs with
  | nil => exact fun out h => ⟨h, fun x => by simp⟩
  | cons y xs ih =>
    intro out h
    obtain ⟨h1, h2⟩ := ih (insP out y) (ins_srt h)
    refine ⟨h1, fun x => ?_⟩
    rw [List.foldl_cons, h2, ins_mem, List.mem_cons]
    constructor
    · rintro (h | h | h)
      · exact .inl (.inr h)
      · exact .inl (.inl h)
      · exact .inr h
    · rintro ((h | h) | h)
      · exact .inr (.inl h)
      · exact .inl h
      · exact .inr (.inr h)
theorem srtS_one : ∀ {a b : List ByteArray}, SrtS a → SrtS b → (∀ x, x ∈ a ↔ x ∈ b) → a = b := by
  intro a b ha hb h
  have e := Srt.unique (a := a.map fun s => (s, noS)) (b := b.map fun s => (s, noS)) (List.pairwise_map.2 ha) (List.pairwise_map.2 hb) (fun f => by
    simp only [List.mem_map]
    constructor
    · rintro ⟨x, hx, rfl⟩; exact ⟨x, (h x).1 hx, rfl⟩
    · rintro ⟨x, hx, rfl⟩; exact ⟨x, (h x).2 hx, rfl⟩)
  have := congrArg (List.map Prod.fst) e
  simpa [List.map_map, Function.comp_def] using this
theorem all_both {l : List Ent} {t : List Fil} (hl : SrtE l) (ht : Srt t) : allL l t = (bothL l t).map (·.2.path) := by
  obtain ⟨h1, h2⟩ := fold_ins (pthL l t) [] List.Pairwise.nil
  refine srtS_one h1 (List.pairwise_map.2 (both_srt l t hl ht)) fun x => ?_
  rw [show allL l t = (pthL l t).foldl insP [] from rfl] at *
  rw [h2, both_path, pthL, List.mem_append]
  simp
theorem ins_len (out : List ByteArray) (p : ByteArray) : (insP out p).length ≤ out.length + 1 := by
  unfold insP
  split
  · omega
  · rw [List.length_append, List.length_take, List.length_cons, List.length_drop]; have := atS_le out p; omega
theorem fold_len (xs : List ByteArray) : ∀ (out : List ByteArray), (xs.foldl insP out).length ≤ out.length + xs.length := by
  induction xs with
  | nil => simp
  | cons y xs ih => intro out; rw [List.foldl_cons]; have := ih (insP out y); have := ins_len out y; simp; omega

/-! ### Slices of strings, cut -/
theorem cut_pre (B : Option Addr) (n c k : Nat) (hk : k ≤ c) (w : World) : (Instr.slice 25 (.slice B n c) none (some (.int .i64 (k : Int))) none).run Tryd.prog w = .ok (.slice (if c = 0 then B else B.map (·.add 0)) k c) w := by
  simp [Instr.slice, Instr.sliceBounds, Instr.sliceBound, run_underlying Tryd.underlying25, Tryd.sizeOf9, asIntOf]
  intro h
  omega
theorem cut_post (B : Option Addr) (n c k : Nat) (hk : k ≤ n) (w : World) : (Instr.slice 25 (.slice B n c) (some (.int .i64 (k : Int))) none none).run Tryd.prog w = .ok (.slice (if c = k then B else B.map (·.add k)) (n - k) (c - k)) w := by
  simp [Instr.slice, Instr.sliceBounds, Instr.sliceBound, run_underlying Tryd.underlying25, Tryd.sizeOf9, asIntOf]
  intro h
  omega
theorem cuts {w : World} {B : Option Addr} {c k : Nat} {out : List ByteArray} (h : Rd w B (strV out)) (hc : out.length ≤ c) (hk : k ≤ out.length) :
    ∃ B1 B2, (∀ w, (Instr.slice 25 (.slice B out.length c) none (some (.int .i64 (k : Int))) none).run Tryd.prog w = .ok (.slice B1 k c) w) ∧ (∀ w, (Instr.slice 25 (.slice B out.length c) (some (.int .i64 (k : Int))) none none).run Tryd.prog w = .ok (.slice B2 (out.length - k) (c - k)) w) ∧
      Rd w B1 (strV (out.take k)) ∧ Rd w B2 (strV (out.drop k)) := by
  have hl := strV_length out
  refine ⟨_, _, cut_pre B out.length c k (by omega), cut_post B out.length c k hk, ?_, ?_⟩
  · have := h.cut (k := 0) (m := k) (cap := c) (by omega) (by omega)
    rw [List.drop_zero] at this
    rw [show strV (out.take k) = (strV out).take k by simp [strV, List.map_take]]
    exact this
  · have := h.cut (k := k) (m := out.length - k) (cap := c) (by omega) (by omega)
    rw [List.take_of_length_le (by rw [List.length_drop]; omega)] at this
    rw [show strV (out.drop k) = (strV out).drop k by simp [strV, List.map_drop]]
    exact this
/-- append of strings onto a row of the call's own. -/
theorem app_strs {W : World} {n₀ : Nat} {A : Option Addr} {k c : Nat} {xs : List ByteArray} (hrow : W.ownsRow n₀ 9 1 (.slice A k c) k (strV xs)) (hn : n₀ ≤ W.heap.size) {B : Option Addr} {m d : Nat} {ys : List ByteArray} (hl : ys.length = m) (hr : Rd W B (strV ys)) {t : Nat} (ht : k + m = t) (hk : t ≤ 1000000) :
    ∃ A' c' w1, Hid ((Builtin.append_ #[25, 25] 25 #[.slice A k c, .slice B m d]).run Tryd.prog W = .ok (.slice A' t c') w1) ∧ w1.ownsRow n₀ 9 1 (.slice A' t c') t (strV (xs ++ ys)) ∧ W.grownBy w1 (Value.slice A k c).ownBlock ∧ Below n₀ W w1 := by
  subst ht
  obtain ⟨A', c', w1, h1, h2, h3⟩ := run_app (P := Tryd.prog) W n₀ 25 25 9 (.string ⟨#[]⟩) 16 Tryd.underlying25 Tryd.infoS rfl A k c (strV xs) hrow B m d (strV ys) (by rw [strV_length]; exact hl) hr (strV_one _) (by omega) hn (by unfold maxLen; omega)
  exact ⟨A', c', w1, h1, by rw [strV_append]; exact h2, h3, (Below.refl n₀ W).grown h3 hn fun j ej => (hrow.lt j ej).1⟩
theorem own_none (w : World) (base : Nat) (h : base ≤ w.heap.size) : (w.alloc (.cells #[] 9)).ownsRow base 9 1 (.slice (some ⟨w.heap.size, 0, none⟩) 0 0) 0 (strV []) := World.ownsRow_made w #[] 0 h (by unfold maxLen; omega) (by simp)
theorem rd_one (w : World) (p : ByteArray) : Rd (w.alloc (.cells #[.string p] 9)) (some ⟨w.heap.size, 0, none⟩) (strV [p]) := (Blk.new w [.string p] 9).rd
theorem rd_apart {w w' : World} {g : Nat} {row : Option Nat} {ys : List Value} (h : Rd w (some ⟨g, 0, none⟩) ys) (hg : w.grownBy w' row) (hlt : g < w.heap.size) (hne : some g ≠ row) : Rd w' (some ⟨g, 0, none⟩) ys := by
  rcases h with h | ⟨ad, e, hc⟩
  · exact .inl h
  · injection e with e
    subst e
    refine .inr ⟨_, rfl, fun j u hu => ?_⟩
    rw [← hc j u hu]
    exact World.cell?_of_block (by rw [add_block]; exact hg.block g hlt hne)

end Go.Proofs.YtlmccjdpmhancaaDoor
namespace Go.Proofs.YtlmccjdpmhancaaDoor
open Go.RowKit

/-! ### Does one of these clash with a path? -/
def clB (a b : ByteArray) : Bool := clashL a.data.toList b.data.toList
set_option maxHeartbeats 400000 in
theorem fits1_any (bx : Nat) (a b : ByteArray) (W : World) (hx : W.cell? ⟨bx, 0, none⟩ = some (.string a)) (ha : a.size < 4294967281) (hb : b.size < 4294967281) :
    Calls Tryd.prog 46 (#[.string b] ++ #[.pointer (some ⟨bx, 0, none⟩)]) W fun x w' => x = .returned (.bool (clB a b)) ∧ Below W.heap.size W w' := by
  have c0 := clash_any a b W ha hb
  have HV : Hid (clashL a.data.toList b.data.toList = clB a b) := rfl
  go_enter Tryd.func46, Tryd.ntmps46
  go_wp2_with fail
  refine c0.mono ?_
  rintro e w1 ⟨rfl, hb1⟩
  clear c0
  rw [HV.out]
  go_wp2
  go_ret
  exact ⟨rfl, hb1⟩
def idxB (l : List ByteArray) (q : ByteArray → Bool) : Int := if l.any q then (l.findIdx q : Int) else -1
theorem idxB_at {l : List ByteArray} {q : ByteArray → Bool} {j : Nat} (hj : j < l.length) (h : q l[j] = true) (hn : ∀ k (hk : k < l.length), k < j → q l[k] = false) : idxB l q = j := by
  have h1 : l.any q = true := List.any_eq_true.2 ⟨_, List.getElem_mem hj, h⟩
  have h2 : l.findIdx q = j := by
    refine (List.findIdx_eq hj).2 ⟨h, fun k hk => ?_⟩
    rw [hn k (by omega) hk]
  rw [idxB, if_pos h1, h2]
theorem idxB_no {l : List ByteArray} {q : ByteArray → Bool} (hn : ∀ k (hk : k < l.length), q l[k] = false) : idxB l q = -1 := by
  have : l.any q = false := List.any_eq_false.2 fun x hx => by
    obtain ⟨k, hk, rfl⟩ := List.mem_iff_getElem.1 hx
    simp [hn k hk]
  rw [idxB, this]; rfl
theorem idxB_pos (l : List ByteArray) (q : ByteArray → Bool) : decide (0 ≤ idxB l q) = l.any q := by
  unfold idxB
  cases h : l.any q with
  | true => rw [if_pos rfl]; simp
  | false => rfl
theorem str_at {w : World} {B : Option Addr} {l : List ByteArray} (h : Rd w B (strV l)) {j : Nat} (hj : j < l.length) : ∃ g o, B = some ⟨g, o, none⟩ ∧ w.cell? ⟨g, o + j, none⟩ = some (.string l[j]) ∧ g < w.heap.size := by
  obtain ⟨g, o, e, hc, hg⟩ := h.at_ (k := j) (by rw [strV_length]; exact hj)
  exact ⟨g, o, e, by rw [hc]; simp [strV], hg⟩

set_option maxHeartbeats 1000000 in
theorem idxC_any (bx : Nat) (B : Option Addr) (c : Nat) (l : List ByteArray) (a : ByteArray) (w : World) (hx : w.cell? ⟨bx, 0, none⟩ = some (.string a)) (hr : Rd w B (strV l)) (hn : l.length ≤ 1000000) (ha : a.size < 4294967281) (hs : ∀ b ∈ l, b.size < 4294967281) :
    Calls Tryd.prog 65 #[.slice B l.length c, .func (.func 46) #[] #[.pointer (some ⟨bx, 0, none⟩)]] w fun x w' => x = .returned (.int .i64 (idxB l (clB a))) ∧ Below w.heap.size w w' := by
  have eg := enters_of Tryd.func46 (by kernel_rfl) rfl
  have hbx := World.block_lt_of_cell? _ _ hx
  go_enter Tryd.func65, Tryd.ntmps65
  go_wp2_with fail
  go_loopw [8] (fun i wr => ∃ j : Nat, j ≤ l.length ∧ i = .int .i64 j ∧ Hid (∀ k (hk : k < l.length), k < j → clB a l[k] = false) ∧ Below w.heap.size w wr) (fun i _ => l.length - (intOf i).toNat)
  case atStart => exact ⟨0, by omega, rfl, hid (fun k _ hk => absurd hk (by omega)), Below.refl _ _⟩
  case round =>
    obtain ⟨j, hj, rfl, HO, hb⟩ := hrel
    by_cases hjn : j < l.length
    · obtain ⟨g, o, rfl, h1, -⟩ := str_at (hr.below hb) hjn
      have hx1 := (hb.cell (p := ⟨bx, 0, none⟩) hbx).trans hx
      have cc := fits1_any bx a l[j] wr hx1 ha (hs _ (List.getElem_mem hjn))
      have HY := hid (fun h => @idxB_at l (clB a) j hjn h HO.out)
      have HN : Hid (clB a l[j] = false → ∀ k (hk : k < l.length), k < j + 1 → clB a l[k] = false) := fun h k hk hkj => by
        by_cases e : k = j
        · subst e; exact h
        · exact HO.out k hk (by omega)
      generalize l[j] = f at *
      have hz : (0 : Int) ≤ j := by omega
      have hlt : (j : Int) < l.length := by omega
      go_wp2_with fail
      refine cc.mono ?_
      rintro e w1 ⟨rfl, hb1⟩
      have hb1' := below2 hb hb1
      clear cc hb hb1 hx1
      cases hq : clB a f with
      | true =>
        have HQ := hid hq
        clear hq
        go_wp2
        go_ret
        exact ⟨ret_int (HY.out HQ.out).symm, hb1'⟩
      | false =>
        have HQ := hid hq
        clear hq
        go_wp2
        go_roundw
        case rel => exact ⟨j + 1, by omega, by go_num, hid (HN.out HQ.out), hb1'⟩
        case measure => simp [intOf]; omega
    · have HE := hid (show j = l.length by omega)
      have hnlt : ¬ (j : Int) < l.length := by omega
      go_wp2
      go_ret
      refine ⟨ret_int ?_, hb⟩
      symm
      exact idxB_no fun k hk => HO.out k hk (by rw [HE.out]; exact hk)
set_option maxHeartbeats 400000 in
theorem contC_any (bx : Nat) (B : Option Addr) (c : Nat) (l : List ByteArray) (a : ByteArray) (w : World) (hx : w.cell? ⟨bx, 0, none⟩ = some (.string a)) (hr : Rd w B (strV l)) (hn : l.length ≤ 1000000) (ha : a.size < 4294967281) (hs : ∀ b ∈ l, b.size < 4294967281) :
    Calls Tryd.prog 45 #[.slice B l.length c, .func (.func 46) #[] #[.pointer (some ⟨bx, 0, none⟩)]] w fun x w' => x = .returned (.bool (l.any (clB a))) ∧ Below w.heap.size w w' := by
  have c0 := idxC_any bx B c l a w hx hr hn ha hs
  have HP := hid (idxB_pos l (clB a))
  clear hx hr ha hs
  generalize l.any (clB a) = b at *
  generalize idxB l (clB a) = z at *
  go_enter Tryd.func45, Tryd.ntmps45
  go_wp2_with fail
  refine c0.mono ?_
  rintro e w1 ⟨rfl, hb1⟩
  clear c0
  go_wp2
  go_ret
  exact ⟨ret_bool HP.out, hb1⟩

/-! ### fits -/
def fpaths (es : List Ent) : List ByteArray := (filesOf es).map (·.1)
theorem fpaths_more (es : List Ent) (j : Nat) (h : j < es.length) : fpaths (es.take (j + 1)) = fpaths (es.take j) ++ (if es[j].has then [es[j].path] else []) := by
  rw [fpaths, filesOf_more es j h, List.map_append, fpaths]
  congr 1
  split <;> rfl
theorem fpaths_len (es : List Ent) : (fpaths es).length = (filesOf es).length := by rw [fpaths, List.length_map]
abbrev Apt (l : List ByteArray) : Prop := l.Pairwise fun b a => clB a b = false
def fitN (es : List Ent) : Nat := if 32 < es.length ∨ 16 < (filesOf es).length then 2 else if Apt (fpaths es) then 0 else 6
theorem apt_more {l : List ByteArray} {j : Nat} (hj : j < l.length) : Apt (l.take (j + 1)) ↔ Apt (l.take j) ∧ (l.take j).any (clB l[j]) = false := by
  rw [List.take_add_one, List.getElem?_eq_getElem hj]
  simp only [Option.toList_some, Apt, List.pairwise_append, List.any_eq_false, List.mem_singleton]
  constructor
  · rintro ⟨h1, -, h2⟩
    exact ⟨h1, fun x hx => by simp [h2 x hx _ rfl]⟩
  · rintro ⟨h1, h2⟩
    exact ⟨h1, List.pairwise_singleton .., fun x hx y hy => by subst hy; simpa using h2 x hx⟩
theorem apt_no {l : List ByteArray} {j : Nat} (hj : j < l.length) (h : (l.take j).any (clB l[j]) = true) : ¬ Apt l := fun hA => by
  have := (apt_more hj).1 (List.Pairwise.sublist (List.take_sublist _ _) hA)
  rw [h] at this
  cases this.2
end Go.Proofs.YtlmccjdpmhancaaDoor
namespace Go.Proofs.YtlmccjdpmhancaaDoor
open Go.RowKit

theorem eqF (f g : Fil) (w : World) : (binOp .eql 50 (.agg #[.string f.1, .string f.2]) (.agg #[.string g.1, .string g.2])).run Tryd.prog w = .ok (.bool (decide (f = g))) w := by
  have u9 := Tryd.underlying9
  have a9 := Tryd.isAgg9
  have z9 := Tryd.sizeOf9
  have hS : Tryd.prog.underlying 50 = some (.struct (Tryd.prog.fieldsOf 50)) := by kernel_rfl
  have hp : Tryd.prog.stoodInHeld 50 = false := by kernel_rfl
  rw [run_eql_struct, show (10000 : Nat) = 9999 + 1 from rfl, run_equalIn_agg w 9999 50 _ _ hS hp]
  simp only [Program.fieldsOf, Tryd.underlying50]
  go_simp
  have inj : ∀ {a b : ByteArray}, a.toList = b.toList → a = b := fun h => data_inj (by rw [← Lib.toList_data, ← Lib.toList_data]; exact h)
  by_cases h1 : f.1.toList = g.1.toList
  · by_cases h2 : f.2.toList = g.2.toList
    · have e : f = g := Prod.ext (inj h1) (inj h2)
      rw [if_pos h1, if_pos h2, decide_eq_true e]
    · have e : f ≠ g := fun e => h2 (by rw [e])
      rw [if_pos h1, if_neg h2, decide_eq_false e]
  · have e : f ≠ g := fun e => h1 (by rw [e])
    rw [if_neg h1, decide_eq_false e]

set_option maxHeartbeats 400000 in
theorem plan1_any (bx : Nat) (g : Fil) (p : ByteArray) (W : World) (hx : W.cell? ⟨bx, 0, none⟩ = some (.string p)) :
    Calls Tryd.prog 26 (#[.agg #[.string g.1, .string g.2]] ++ #[.pointer (some ⟨bx, 0, none⟩)]) W fun x w' => x = .returned (.bool (decide (g.1 = p))) ∧ Below W.heap.size W w' := by
  obtain ⟨x, d⟩ := g
  have hb := World.block_lt_of_cell? _ _ hx
  have HE := hid (str_eqb x p)
  go_enter Tryd.func26, Tryd.ntmps26
  go_wp2
  go_ret
  exact ⟨ret_bool HE.out, by go_grown⟩

set_option maxHeartbeats 1000000 in
theorem idxQ_any (bx : Nat) (A : Option Addr) (n c : Nat) (fs : List Fil) (p : ByteArray) (w : World) (hl : fs.length = n) (hx : w.cell? ⟨bx, 0, none⟩ = some (.string p)) (hr : Rd w A (filV fs)) (hn : n ≤ 140737488355328) :
    Calls Tryd.prog 49 #[.slice A n c, .func (.func 26) #[] #[.pointer (some ⟨bx, 0, none⟩)]] w (IdxPost w (fs.any fun g => decide (g.1 = p))) := by
  have eg := enters_of Tryd.func26 (by kernel_rfl) rfl
  have hbx := World.block_lt_of_cell? _ _ hx
  have HL := hid hl
  clear hl
  go_enter Tryd.func49, Tryd.ntmps49
  go_wp2_with fail
  go_loopw [8] (fun i wr => ∃ j : Nat, j ≤ n ∧ i = .int .i64 j ∧ Hid ((fs.take j).any (fun g => decide (g.1 = p)) = false) ∧ Below w.heap.size w wr) (fun i _ => n - (intOf i).toNat)
  case atStart => exact ⟨0, by omega, rfl, by simp [Hid], Below.refl _ _⟩
  case round =>
    obtain ⟨j, hj, rfl, HO, hb⟩ := hrel
    by_cases hjn : j < n
    · have hjl : j < fs.length := by rw [HL.out]; exact hjn
      obtain ⟨b, off, rfl, h1, h2, -⟩ := (hr.below hb).fil hjl
      have HK := hid (any_take_step (fun g => decide (g.1 = p)) fs j hjl)
      have HM := hid (List.getElem_mem hjl)
      have hx1 := (hb.cell (p := ⟨bx, 0, none⟩) hbx).trans hx
      have cc := plan1_any bx fs[j] p wr hx1
      generalize fs[j] = g at *
      have hz : (0 : Int) ≤ j := by omega
      have hlt : (j : Int) < n := by omega
      go_wp2_with fail
      refine cc.mono ?_
      rintro e w1 ⟨rfl, hb1'⟩
      have hb1 := below2 hb hb1'
      clear cc hb hb1' hx1
      cases hq : (decide (g.1 = p))
      · go_wp2
        go_roundw
        case rel => exact ⟨j + 1, by omega, by go_num, hid (by rw [HK.out, HO.out, hq]; rfl), hb1⟩
        case measure => simp [intOf]; omega
      · have HQ := hid hq
        clear hq
        go_wp2
        go_ret
        refine ⟨j, rfl, ?_, hb1⟩
        rw [decide_eq_true hz]
        exact (List.any_eq_true.2 ⟨g, HM.out, HQ.out⟩).symm
    · have HE := hid (show j = n by omega)
      have hnlt : ¬ (j : Int) < n := by omega
      go_wp2
      go_ret
      refine ⟨-1, rfl, ?_, hb⟩
      have ho := HO.out
      rw [HE.out, ← HL.out, List.take_length] at ho
      rw [ho]; rfl

set_option maxHeartbeats 400000 in
theorem contQ_any (bx : Nat) (A : Option Addr) (n c : Nat) (fs : List Fil) (p : ByteArray) (w : World) (hl : fs.length = n) (hx : w.cell? ⟨bx, 0, none⟩ = some (.string p)) (hr : Rd w A (filV fs)) (hn : n ≤ 140737488355328) :
    Calls Tryd.prog 25 #[.slice A n c, .func (.func 26) #[] #[.pointer (some ⟨bx, 0, none⟩)]] w fun x w' => x = .returned (.bool (fs.any (fun g => decide (g.1 = p)))) ∧ Below w.heap.size w w' := by
  have c0 := idxQ_any bx A n c fs p w hl hx hr hn
  clear hl hx hr
  generalize fs.any (fun g => decide (g.1 = p)) = b at *
  go_enter Tryd.func25, Tryd.ntmps25
  go_wp2_with fail
  refine c0.mono ?_
  rintro e w1 ⟨z, rfl, hz, hb1⟩
  clear c0
  have HZ := hid hz
  clear hz
  go_wp2
  go_ret
  exact ⟨ret_bool HZ.out, hb1⟩

set_option maxHeartbeats 1000000 in
theorem idxV_any (A : Option Addr) (n c : Nat) (fs : List Fil) (f : Fil) (w : World) (hl : fs.length = n) (hr : Rd w A (filV fs)) (hn : n ≤ 140737488355328) :
    Calls Tryd.prog 50 #[.slice A n c, .agg #[.string f.1, .string f.2]] w (IdxPost w (fs.any fun g => decide (f = g))) := by
  have HL := hid hl
  have hal : ∀ (W : World) (o : Obj), Below W.heap.size W (W.alloc o) := fun W o => (Below.refl _ _).alloc (Nat.le_refl _) o
  have P0 := Blk.new w [.string f.1, .string f.2] 50
  have b0 := hal w (.cells #[.string f.1, .string f.2] 50)
  clear hl
  go_enter Tryd.func50, Tryd.ntmps50
  go_wp2_with fail
  go_loopw [8] (fun i wr => ∃ j : Nat, j ≤ n ∧ i = .int .i64 j ∧ Hid ((fs.take j).any (fun g => decide (f = g)) = false) ∧ Blk wr w.heap.size [.string f.1, .string f.2] 50 ∧ Below w.heap.size w wr) (fun i _ => n - (intOf i).toNat)
  case atStart => exact ⟨0, by omega, rfl, by simp [Hid], Blk.new w [.string f.1, .string f.2] 50, b0⟩
  case round =>
    obtain ⟨j, hj, rfl, HO, pk, hb⟩ := hrel
    by_cases hjn : j < n
    · have hjl : j < fs.length := by rw [HL.out]; exact hjn
      obtain ⟨b, off, rfl, h1, h2, -⟩ := (hr.below hb).fil hjl
      have HK := hid (any_take_step (fun g => decide (f = g)) fs j hjl)
      have HM := hid (List.getElem_mem hjl)
      have c1 := pk.cell 0
      have c2 := pk.cell 1
      simp only [List.getElem?_cons_zero, List.getElem?_cons_succ] at c1 c2
      generalize fs[j] = g at *
      have hz : (0 : Int) ≤ j := by omega
      have hlt : (j : Int) < n := by omega
      have hep := eqF f g
      have hb1 := hb.drew
      go_wp2_with fail
      refine wp_region_held_drew (S := fun w' => (w'.cell? ⟨w.heap.size, 0, none⟩ = some (.string f.1) ∧ w'.cell? ⟨w.heap.size, 1, none⟩ = some (.string f.2)) ∧ w'.cell? ⟨b, off + j * 2, none⟩ = some (.string g.1) ∧ w'.cell? ⟨b, off + j * 2 + 1, none⟩ = some (.string g.2)) (by kernel_rfl) ⟨⟨c1, c2⟩, h1, h2⟩ (fun hHeld => ?_)
      refine wpAnyH_take (i := 0) (oi := ⟨_, _, _, _, _, _⟩) (v := ?_) rfl (by kernel_rfl) (by kernel_rfl) (by kernel_rfl) (fun _ _ _ h => h) (Or.inl ⟨by rfl, ?_⟩) (by assumption) ?_
      rotate_left
      · intro w hSw; (try dsimp only at hSw); go_simp; (try (with_reducible rfl))
      try simp only [Act.put, List.setIfInBounds_toArray, List.set_cons_zero, List.set_cons_succ]
      refine wpAnyH_take (i := 1) (oi := ⟨_, _, _, _, _, _⟩) (v := ?_) rfl (by kernel_rfl) (by kernel_rfl) (by kernel_rfl) (fun _ _ _ h => h) (Or.inl ⟨by rfl, ?_⟩) (by assumption) ?_
      rotate_left
      · intro w hSw; (try dsimp only at hSw); go_simp; (try (with_reducible rfl))
      try simp only [Act.put, List.setIfInBounds_toArray, List.set_cons_zero, List.set_cons_succ]
      refine wpAnyH_take (i := 2) (oi := ⟨_, _, _, _, _, _⟩) (v := ?_) rfl (by kernel_rfl) (by kernel_rfl) (by kernel_rfl) (fun _ _ _ h => h) (Or.inl ⟨by rfl, ?_⟩) (by assumption) ?_
      rotate_left
      · intro w hSw; (try dsimp only at hSw); go_simp; (try (with_reducible rfl))
      try simp only [Act.put, List.setIfInBounds_toArray, List.set_cons_zero, List.set_cons_succ]
      refine wpAnyH_take (i := 3) (oi := ⟨_, _, _, _, _, _⟩) (v := ?_) rfl (by kernel_rfl) (by kernel_rfl) (by kernel_rfl) (fun _ _ _ h => h) (Or.inl ⟨by rfl, ?_⟩) (by assumption) ?_
      rotate_left
      · intro w hSw; (try dsimp only at hSw); go_simp; (try (with_reducible rfl))
      try simp only [Act.put, List.setIfInBounds_toArray, List.set_cons_zero, List.set_cons_succ]
      refine wpAnyH_take (i := 4) (oi := ⟨_, _, _, _, _, _⟩) (v := ?_) rfl (by kernel_rfl) (by kernel_rfl) (by kernel_rfl) (fun _ _ _ h => h) (Or.inl ⟨by rfl, ?_⟩) (by assumption) ?_
      rotate_left
      · intro w hSw; (try dsimp only at hSw); go_simp; (try (with_reducible rfl))
      try simp only [Act.put, List.setIfInBounds_toArray, List.set_cons_zero, List.set_cons_succ]
      refine wpAnyH_take (i := 5) (oi := ⟨_, _, _, _, _, _⟩) (v := ?_) rfl (by kernel_rfl) (by kernel_rfl) (by kernel_rfl) (fun _ _ _ h => h) (Or.inl ⟨by rfl, ?_⟩) (by assumption) ?_
      rotate_left
      · intro w hSw; (try dsimp only at hSw); go_simp; (try (with_reducible rfl))
      try simp only [Act.put, List.setIfInBounds_toArray, List.set_cons_zero, List.set_cons_succ]
      refine wpAnyH_done (by kernel_rfl) ?_ _
      clear hHeld hep
      cases hq : (decide (f = g))
      · go_wp2
        go_roundw
        case rel => exact ⟨j + 1, by omega, by go_num, hid (by rw [HK.out, HO.out, hq]; rfl), pk.drew, hb1⟩
        case measure => simp [intOf]; omega
      · have HQ := hid hq
        clear hq
        go_wp2
        go_ret
        refine ⟨j, rfl, ?_, hb1⟩
        rw [decide_eq_true hz]
        exact (List.any_eq_true.2 ⟨g, HM.out, HQ.out⟩).symm
    · have HE := hid (show j = n by omega)
      have hnlt : ¬ (j : Int) < n := by omega
      go_wp2
      go_ret
      refine ⟨-1, rfl, ?_, hb⟩
      have ho := HO.out
      rw [HE.out, ← HL.out, List.take_length] at ho
      rw [ho]; rfl

set_option maxHeartbeats 400000 in
theorem contV_any (A : Option Addr) (n c : Nat) (fs : List Fil) (f : Fil) (w : World) (hl : fs.length = n) (hr : Rd w A (filV fs)) (hn : n ≤ 140737488355328) :
    Calls Tryd.prog 27 #[.slice A n c, .agg #[.string f.1, .string f.2]] w fun x w' => x = .returned (.bool (fs.any (fun g => decide (f = g)))) ∧ Below w.heap.size w w' := by
  have c0 := idxV_any A n c fs f (w.alloc (.cells #[.string f.1, .string f.2] 50)) hl (hr.alloc _) hn
  clear hl hr
  generalize fs.any (fun g => decide (f = g)) = b at *
  go_enter Tryd.func27, Tryd.ntmps27
  go_wp2_with fail
  refine c0.mono ?_
  rintro e w1 ⟨z, rfl, hz, hb1⟩
  clear c0
  have HZ := hid hz
  clear hz
  go_wp2
  go_ret
  exact ⟨ret_bool HZ.out, below_al _ hb1⟩

/-! ### Is a string there? -/
set_option maxHeartbeats 1000000 in
theorem idxT_any (B : Option Addr) (c : Nat) (l : List ByteArray) (p : ByteArray) (w : World) (hr : Rd w B (strV l)) (hn : l.length ≤ 1000000) :
    Calls Tryd.prog 51 #[.slice B l.length c, .string p] w (IdxPost w (l.any fun s => decide (p = s))) := by
  go_enter Tryd.func51, Tryd.ntmps51
  go_wp2_with fail
  go_loop [8] (fun i => ∃ j : Nat, j ≤ l.length ∧ i = .int .i64 j ∧ Hid ((l.take j).any (fun s => decide (p = s)) = false)) (fun i => l.length - (intOf i).toNat)
  case atStart => exact ⟨0, by omega, rfl, by simp [Hid]⟩
  case round =>
    obtain ⟨j, hj, rfl, HO⟩ := hrel
    by_cases hjn : j < l.length
    · obtain ⟨g, o, rfl, h1, -⟩ := str_at hr hjn
      have HK := hid (any_take_step (fun s => decide (p = s)) l j hjn)
      have HM := hid (List.getElem_mem hjn)
      have hsq := str_eqb p l[j]
      generalize l[j] = s at *
      have hz : (0 : Int) ≤ j := by omega
      have hlt : (j : Int) < l.length := by omega
      cases hq : decide (p = s) with
      | false =>
        rw [hq] at hsq
        have HK2 : Hid ((l.take (j + 1)).any (fun s => decide (p = s)) = false) := by show _ = _; rw [HK.out, HO.out, hq]; rfl
        clear HK HM HO hq
        go_wp2
        go_round
        case rel => exact ⟨j + 1, by omega, by go_num, HK2⟩
        case measure => simp [intOf]; omega
      | true =>
        rw [hq] at hsq
        have HQ : Hid (l.any (fun s => decide (p = s)) = true) := List.any_eq_true.2 ⟨s, HM.out, hq⟩
        clear HK HM HO hq
        go_wp2
        go_ret
        exact ⟨j, rfl, by rw [decide_eq_true hz, HQ.out], Below.refl _ _⟩
    · have HE := hid (show j = l.length by omega)
      have hnlt : ¬ (j : Int) < l.length := by omega
      have HQ : Hid (l.any (fun s => decide (p = s)) = false) := by have ho := HO.out; rw [HE.out, List.take_length] at ho; exact ho
      go_wp2
      go_ret
      exact ⟨-1, rfl, by rw [HQ.out]; rfl, Below.refl _ _⟩
set_option maxHeartbeats 400000 in
theorem contT_any (B : Option Addr) (c : Nat) (l : List ByteArray) (p : ByteArray) (w : World) (hr : Rd w B (strV l)) (hn : l.length ≤ 1000000) :
    Calls Tryd.prog 28 #[.slice B l.length c, .string p] w fun x w' => x = .returned (.bool (l.any fun s => decide (p = s))) ∧ Below w.heap.size w w' := by
  have c0 := idxT_any B c l p w hr hn
  clear hr
  generalize l.any (fun s => decide (p = s)) = b at *
  go_enter Tryd.func28, Tryd.ntmps28
  go_wp2_with fail
  refine c0.mono ?_
  rintro e w1 ⟨z, rfl, hz, hb1⟩
  clear c0
  have HZ := hid hz
  clear hz
  go_wp2
  go_ret
  exact ⟨ret_bool HZ.out, hb1⟩
end Go.Proofs.YtlmccjdpmhancaaDoor
namespace Go.Proofs.YtlmccjdpmhancaaDoor
open Go.RowKit

/-! ### Actions -/
abbrev Ac := ByteArray × Bool × ByteArray
def aV (a : Ac) : List Value := [.string a.1, .bool a.2.1, .string a.2.2]
def actV (l : List Ac) : List Value := l.flatMap aV
theorem actV_append (a b : List Ac) : actV (a ++ b) = actV a ++ actV b := by simp [actV]
theorem actV_one (l : List Ac) : ∀ u ∈ actV l, u.oneCell' = true := by
  intro u hu
  obtain ⟨a, -, ha⟩ := List.mem_flatMap.1 hu
  simp only [aV, List.mem_cons, List.not_mem_nil, or_false] at ha
  rcases ha with rfl | rfl | rfl <;> rfl
theorem actV_length (l : List Ac) : (actV l).length = l.length * 3 := by
  induction l with
  | nil => rfl
  | cons a l ih => rw [show actV (a :: l) = aV a ++ actV l from rfl, List.length_append, ih, List.length_cons]; simp [aV]; omega
theorem Tryd.infoA : (Tryd.prog.info? 43).map (fun i => (i.zero, i.size, i.bytes)) = some (some (.agg #[zS, .bool false, zS]), 3, 40) := by kernel_rfl
def dropsL (t u : List Fil) : List Ac := (t.filter fun f => !(u.any fun g => decide (g.1 = f.1))).map fun f => (f.1, false, noS)
def putsL (t u : List Fil) : List Ac := (u.filter fun f => !(t.any fun g => decide (f = g))).map fun f => (f.1, true, f.2)
def planL (t u : List Fil) : List Ac := dropsL t u ++ putsL t u
theorem drops_more (t u : List Fil) (j : Nat) (h : j < t.length) : dropsL (t.take (j + 1)) u = dropsL (t.take j) u ++ (if u.any (fun g => decide (g.1 = t[j].1)) then [] else [(t[j].1, false, noS)]) := by
  rw [dropsL, List.take_add_one, List.getElem?_eq_getElem h, List.filter_append, List.map_append, dropsL]
  congr 1
  simp only [Option.toList_some, List.filter_cons, List.filter_nil]
  cases u.any (fun g => decide (g.1 = t[j].1)) <;> rfl
theorem puts_more (t u : List Fil) (j : Nat) (h : j < u.length) : putsL t (u.take (j + 1)) = putsL t (u.take j) ++ (if t.any (fun g => decide (u[j] = g)) then [] else [(u[j].1, true, u[j].2)]) := by
  rw [putsL, List.take_add_one, List.getElem?_eq_getElem h, List.filter_append, List.map_append, putsL]
  congr 1
  simp only [Option.toList_some, List.filter_cons, List.filter_nil]
  cases t.any (fun g => decide (u[j] = g)) <;> rfl
theorem drops_len (t u : List Fil) : (dropsL t u).length ≤ t.length := by rw [dropsL, List.length_map]; exact List.length_filter_le _ _
theorem puts_len (t u : List Fil) : (putsL t u).length ≤ u.length := by rw [putsL, List.length_map]; exact List.length_filter_le _ _
def planN (t : List Fil) (es : List Ent) : Nat := if treeR t && archR es then 0 else 1
def planA (t : List Fil) (es : List Ent) : List Ac := if planN t es = 0 then planL t (treeE es) else []
def PlanPost (w : World) (t : List Fil) (es : List Ent) (e : Ending) (w' : World) : Prop :=
  ∃ A' c', e = .returned (.tuple #[.slice A' (planA t es).length c', .int .i64 (planN t es : Nat)]) ∧
    w'.ownsRow w.heap.size 43 3 (.slice A' (planA t es).length c') (planA t es).length (actV (planA t es)) ∧ Below w.heap.size w w'
theorem plan_err {w w' : World} {t : List Fil} {es : List Ent} (h : (treeR t && archR es) = false) (hb : Below w.heap.size w w') : PlanPost w t es (.returned (.tuple #[.slice none 0 0, .int .i64 1])) w' := by
  have e0 : planN t es = 1 := by unfold planN; rw [h]; rfl
  have e1 : planA t es = [] := by unfold planA; rw [e0, if_neg (by decide)]
  refine ⟨none, 0, ?_, ?_, hb⟩
  · rw [e1, e0]; rfl
  · rw [e1]; exact World.ownsRow_nil _ _ _ _
/-- One more action. -/
theorem app_act {W : World} {n₀ : Nat} {v : Value} {xs : List Ac} (hrow : W.ownsRow n₀ 43 3 v xs.length (actV xs)) (hn : n₀ ≤ W.heap.size) (hk : xs.length ≤ 1000000) (a : Ac) :
    ∃ A' c' w1, Hid ((Builtin.append_ #[35, 35] 35 #[v, .slice (some ⟨W.heap.size, 0, none⟩) 1 1]).run Tryd.prog (W.alloc (.cells #[.string a.1, .bool a.2.1, .string a.2.2] 43)) = .ok (.slice A' (xs ++ [a]).length c') w1) ∧ w1.ownsRow n₀ 43 3 (.slice A' (xs ++ [a]).length c') (xs ++ [a]).length (actV (xs ++ [a])) ∧ Below n₀ W w1 := by
  obtain ⟨A', c', w1, h1, h2, -, h4⟩ := app_own2 (n₀ := n₀) Tryd.underlying35 Tryd.infoA rfl (by decide) hrow hn (by omega) (by unfold maxLen; omega) (aV a) rfl (by intro u hu; exact actV_one [a] u (by simpa [actV] using hu))
  refine ⟨A', c', w1, ?_, ?_, h4⟩
  · rw [List.length_append, List.length_singleton]; exact h1
  · rw [List.length_append, List.length_singleton, actV_append]
    simpa [actV] using h2

set_option maxHeartbeats 4000000 in
theorem plan_any {w : World} {A B : Option Addr} {n c m d : Nat} {t : List Fil} {es : List Ent} (h : Ft w A n c t) (k : Et w B m d es) (hn : n ≤ 100000) (hme : m ≤ 100000) :
    Calls Tryd.prog 10 #[.slice A n c, .slice B m d] w (PlanPost w t es) := by
  have hmf : ∀ (fn : Fn) (first cap : Array Value) (w : World), (Instr.makeFunc fn first cap).run Tryd.prog w = .ok (.func fn first cap) w := fun _ _ _ _ => rfl
  have hal : ∀ (W : World) (o : Obj), Below W.heap.size W (W.alloc o) := fun W o => (Below.refl _ _).alloc (Nat.le_refl _) o
  go_enter Tryd.func10, Tryd.ntmps10
  go_wp2_with fail
  refine (tree_any h).mono ?_
  rintro e w1 ⟨rfl, b1⟩
  have h1 := h.below b1
  have k1 := k.below b1
  cases hR : treeR t with
  | false =>
    have HN : Hid ((treeR t && archR es) = false) := by show _ = _; rw [hR]; rfl
    clear hR
    go_wp2
    exact bodyPost_ret (v := .tuple #[.slice none 0 0, .int .i64 1]) (by simp [results, Tryd.results10, go_sem]) rfl (plan_err HN.out b1)
  | true =>
    go_wp2_with fail
    refine (archR_any k1).mono ?_
    rintro e w2 ⟨rfl, hb2⟩
    have b2 := below2 b1 hb2
    have h2 := h1.below hb2
    have k2 := k1.below hb2
    clear hb2 b1 h1 k1 h k
    cases hR2 : archR es with
    | false =>
      have HN : Hid ((treeR t && archR es) = false) := by show _ = _; rw [hR, hR2]; rfl
      clear hR hR2
      go_wp2
      exact bodyPost_ret (v := .tuple #[.slice none 0 0, .int .i64 1]) (by simp [results, Tryd.results10, go_sem]) rfl (plan_err HN.out b2)
    | true =>
      have HN : Hid (planN t es = 0) := by show _ = _; unfold planN; rw [hR, hR2]; rfl
      have HA : Hid (planA t es = planL t (treeE es)) := by show _ = _; unfold planA; rw [HN.out, if_pos rfl]
      have hfl : (treeE es).length ≤ m := by rw [treeE, hR2, if_pos rfl, ← k2.len]; exact filesOf_len es
      have hm : m ≤ 100000 := hme
      clear hR hR2
      go_wp2_with fail
      refine (treeE_any k2).mono ?_
      rintro e w3 ⟨U, du, rfl, u3, hb3⟩
      have b3 := below2 b2 hb3
      have h3 := h2.below hb3
      clear hb3 b2 h2 k2
      generalize treeE es = u at *
      have HL := hid h3.len
      have HSZ := hid h3.sz
      have HW := hid b3.size
      go_wp2_with fail
      go_loopw [6, 24] (fun v i wr => ∃ j : Nat, j ≤ n ∧ i = .int .i64 j ∧ wr.ownsRow w3.heap.size 43 3 v (dropsL (t.take j) u).length (actV (dropsL (t.take j) u)) ∧ Below w3.heap.size w3 wr) (fun _ i _ => n - (intOf i).toNat)
      case atStart => exact ⟨0, by omega, rfl, World.ownsRow_nil _ _ _ _, Below.refl _ _⟩
      case round =>
        obtain ⟨j, hj, rfl, o, b⟩ := hrel
        by_cases hjn : j < n
        · have hjl : j < t.length := by rw [HL.out]; exact hjn
          have hz : (0 : Int) ≤ j := by omega
          have hlt : (j : Int) < n := by omega
          obtain ⟨g, og, rfl, x1, x2, -⟩ := (h3.rd.below b).fil hjl
          have HT := hid (drops_more t u j hjl)
          have hpz : t[j].1.size ≤ 281474976710656 := by have := (HSZ.out _ (List.getElem_mem hjl)).1; omega
          have hdl : (dropsL (t.take j) u).length ≤ 100000 := by have := drops_len (t.take j) u; rw [List.length_take] at this; omega
          generalize dropsL (t.take j) u = out at *
          generalize t[j] = f at *
          have hal2 := hal wr (.cells #[.string f.1, .string f.2] 50)
          have pf := Blk.new wr [.string f.1, .string f.2] 50
          have o2 := own_below o hal2
          have b2 := b.trans (hal2.mono b.size)
          have u2 := (u3.below b).below hal2
          have cc := contQ_any wr.heap.size U u.length du u f.1 _ rfl (pf.cell 0) u2.rd (by omega)
          clear o hal2
          go_wp2_with fail
          refine cc.mono ?_
          rintro e w4 ⟨rfl, hb4⟩
          clear cc u2
          have pf4 := pf.below hb4
          have o4 := own_below o2 hb4
          have b4 := b2.trans (hb4.mono b2.size)
          have p0 := pf4.cell 0
          simp only [List.getElem?_cons_zero] at p0
          clear pf pf4 o2 b2 hb4 x1 x2
          cases hq : u.any (fun g => decide (g.1 = f.1)) with
          | true =>
            have HT2 : Hid (dropsL (t.take (j + 1)) u = out) := by show _ = _; rw [HT.out, hq]; simp
            clear HT hq
            go_wp2
            go_roundw
            case rel => exact ⟨j + 1, by omega, by go_num, by rw [HT2.out]; exact o4, b4⟩
            case measure => simp [intOf]; omega
          | false =>
            have HT2 : Hid (dropsL (t.take (j + 1)) u = out ++ [(f.1, false, noS)]) := by show _ = _; rw [HT.out, hq]; simp
            clear HT hq
            go_wp2_with fail
            refine (clone_any f.1 _ hpz).mono ?_
            rintro e w5 ⟨rfl, hb5⟩
            have o5 := own_below o4 hb5
            have b5 := b4.trans (hb5.mono b4.size)
            obtain ⟨A6, c6, w6, HRUN, o6, e6⟩ := app_act o5 b5.size (by omega) (f.1, false, noS)
            have b6 := b5.trans e6
            clear o4 o5 b4 b5 hb5 e6 p0
            go_wp2_with (at_builtin; refine Lib.wpList_append_run _ rfl _ _ _ _ rfl _ _ rfl rfl _ _ HRUN.out ?_)
            go_roundw
            case rel => exact ⟨j + 1, by omega, by go_num, by rw [HT2.out]; simpa using o6, b6⟩
            case measure => simp [intOf]; omega
        · have HE := hid (show j = n by omega)
          have hnlt : ¬ (j : Int) < n := by omega
          rw [HE.out, ← HL.out, List.take_length] at o
          have hdl : (dropsL t u).length ≤ 100000 := by have := drops_len t u; rw [HL.out] at this; omega
          have HA2 : Hid (planL t u = dropsL t u ++ putsL t u) := rfl
          obtain ⟨W1, rfl⟩ : ∃ W1, W1 = wr := ⟨_, rfl⟩
          generalize dropsL t u = ds at *
          go_wp2_with fail
          go_loopw [6, 42] (fun v i wr => ∃ k : Nat, k ≤ u.length ∧ i = .int .i64 k ∧ wr.ownsRow w3.heap.size 43 3 v (ds ++ putsL t (u.take k)).length (actV (ds ++ putsL t (u.take k))) ∧ Below w3.heap.size w3 wr) (fun _ i _ => u.length - (intOf i).toNat)
          case atStart => exact ⟨0, by omega, rfl, by rw [List.take_zero, show putsL t [] = [] from rfl, List.append_nil]; exact o, b⟩
          case round =>
            clear o b
            obtain ⟨k, hk, rfl, o, b⟩ := hrel
            by_cases hkn : k < u.length
            · have hz : (0 : Int) ≤ k := by omega
              have hlt : (k : Int) < u.length := by omega
              obtain ⟨g, og, rfl, x1, x2, -⟩ := (u3.rd.below b).fil hkn
              have HT := hid (puts_more t u k hkn)
              have hdl : (ds ++ putsL t (u.take k)).length ≤ 1000000 := by have := puts_len t (u.take k); rw [List.length_take] at this; rw [List.length_append]; omega
              have HT2 : Hid (ds ++ putsL t (u.take (k + 1)) = (ds ++ putsL t (u.take k)) ++ (if t.any (fun g => decide (u[k] = g)) then [] else [(u[k].1, true, u[k].2)])) := by show _ = _; rw [HT.out, List.append_assoc]
              clear HT
              generalize ds ++ putsL t (u.take k) = out at *
              generalize u[k] = f at *
              have hal2 := hal wr (.cells #[.string f.1, .string f.2] 50)
              have pf := Blk.new wr [.string f.1, .string f.2] 50
              have o2 := own_below o hal2
              have b2 := b.trans (hal2.mono b.size)
              have t2 := (h3.below b).below hal2
              have cc := contV_any A n c t f _ t2.len t2.rd t2.big
              clear o hal2
              go_wp2_with fail
              refine cc.mono ?_
              rintro e w4 ⟨rfl, hb4⟩
              clear cc t2
              have pf4 := pf.below hb4
              have o4 := own_below o2 hb4
              have b4 := b2.trans (hb4.mono b2.size)
              have p0 := pf4.cell 0
              have p1 := pf4.cell 1
              simp only [List.getElem?_cons_zero, List.getElem?_cons_succ] at p0 p1
              clear pf pf4 o2 b2 hb4 x1 x2
              cases hq : t.any (fun g => decide (f = g)) with
              | true =>
                have HT3 : Hid (ds ++ putsL t (u.take (k + 1)) = out) := by show _ = _; rw [HT2.out, hq]; simp
                clear HT2 hq
                go_wp2
                go_roundw
                case rel => exact ⟨k + 1, by omega, by go_num, by rw [HT3.out]; exact o4, b4⟩
                case measure => simp [intOf]; omega
              | false =>
                have HT3 : Hid (ds ++ putsL t (u.take (k + 1)) = out ++ [(f.1, true, f.2)]) := by show _ = _; rw [HT2.out, hq]; simp
                clear HT2 hq
                obtain ⟨A6, c6, w6, HRUN, o6, e6⟩ := app_act o4 b4.size (by omega) (f.1, true, f.2)
                have b6 := b4.trans e6
                clear o4 b4 e6
                go_wp2_with (at_builtin; refine Lib.wpList_append_run _ rfl _ _ _ _ rfl _ _ rfl rfl _ _ HRUN.out ?_)
                go_roundw
                case rel => exact ⟨k + 1, by omega, by go_num, by rw [HT3.out]; simpa using o6, b6⟩
                case measure => simp [intOf]; omega
            · have HE2 := hid (show k = u.length by omega)
              have hknl : ¬ (k : Int) < u.length := by omega
              rw [HE2.out, List.take_length, ← HA2.out, ← HA.out] at o
              obtain ⟨A5, c5, rfl⟩ := own_slice o
              have b5 := below2 b3 b
              have o5 := own_low o HW.out
              go_wp2
              refine bodyPost_ret (v := .tuple #[.slice A5 (planA t es).length c5, .int .i64 0]) (by simp [results, Tryd.results10, go_sem]) rfl ?_
              exact ⟨_, _, by rw [HN.out]; rfl, o5, b5⟩
end Go.Proofs.YtlmccjdpmhancaaDoor
