/- Package scan: the iterator over files; what collects them. -/
import Derived.RangeFuncNested
import Derived.RangeFuncBound
import Derived.RangeFuncBox
import Derived.RangeFuncCalls
import Derived.RangeFuncLeaves
import Derived.Shelf.Abstract
import Derived.OwnWalkIn
import Derived.TacticsInMore
import Derived.LoopNIn
import Derived.LoopIn
import Derived.Maps.AppendAt
import Derived.Test.YtnkkjedckehoaaaDoorSc
import Derived.Test.YtnkkjedckehoaaaDoorTg
namespace Go.Proofs.YtnkkjedckehoaaaDoor
open Go.RowKit Go.Shelf

attribute [local go_sem] Oper.semAt_some

/-- Sizes that are asked. -/
def SzE (e : Ent) : Prop := e.path.size < 4294967281 ∧ e.data.size ≤ 140737488355328
def SzF (f : Fil) : Prop := f.1.size < 4294967281 ∧ f.2.size ≤ 140737488355328
instance (f : Fil) : Decidable (SzF f) := by unfold SzF; exact inferInstance
abbrev SF := { f : Fil // SzF f }
def toF (e : Ent) : Option SF := if h : e.has = true ∧ SzF (e.path, e.data) then some ⟨(e.path, e.data), h.2⟩ else none
def filT (es : List Ent) : List SF := es.filterMap toF
theorem filT_val {es : List Ent} (h : ∀ e ∈ es, SzE e) : (filT es).map (·.1) = filesOf es := by
  induction es with
  | nil => rfl
  | cons e es ih =>
    have ih := ih fun x hx => h x (List.mem_cons_of_mem _ hx)
    have he : SzF (e.path, e.data) := h e (by simp)
    rw [filesOf_cons, filT, List.filterMap_cons]
    cases hh : e.has with
    | true => rw [toF, dif_pos ⟨hh, he⟩]; simp only [List.map_cons, if_true]; rw [← ih]; rfl
    | false => rw [toF, dif_neg (by simp [hh]), if_neg (by simp)]; exact ih
theorem filT_more (es : List Ent) (j : Nat) (h : j < es.length) : filT (es.take (j + 1)) = filT (es.take j) ++ (toF es[j]).toList := by
  rw [filT, List.take_add_one, List.getElem?_eq_getElem h, List.filterMap_append]
  simp only [Option.toList, List.filterMap_cons, List.filterMap_nil]
  cases toF es[j] <;> rfl
theorem filT_len (es : List Ent) : (filT es).length ≤ es.length := List.length_filterMap_le ..

theorem files_any (A : Option Addr) (n c : Nat) (w : World) :
    Calls Tryd.prog 43 #[.slice A n c] w fun e w' => e = .returned (.func (.func 65) #[] #[.pointer (some ⟨w.heap.size, 0, none⟩)]) ∧ w' = w.alloc (.cells #[.slice A n c] 22) := by
  have hmf : ∀ (fn : Fn) (first cap : Array Value) (w : World), (Instr.makeFunc fn first cap).run Tryd.prog w = .ok (.func fn first cap) w := fun _ _ _ _ => rfl
  go_enter Tryd.func43, Tryd.ntmps43
  go_wp2
  go_ret
  exact ⟨rfl, rfl⟩

set_option maxRecDepth 100000 in
set_option maxHeartbeats 1000000 in
theorem files1_in (k : Nat) (hk : 1 ≤ k) (l Bn : Nat) (w0 : World) (A : Option Addr) (n c : Nat) (es : List Ent) (hl : es.length = n) (hr : Rd w0 A (entV es)) (hn : n ≤ 1000000) (hsz : ∀ e ∈ es, SzE e) (J Jx : List SF → World → Prop)
    (W : World) (hJ : AbidesFrom W.heap.size J)
    (hY : ∀ pre (x : SF) W, J pre W → pre.length < n → YieldAt Fence.wide (k - 1) Tryd.prog l #[.agg #[.string x.1.1, .string x.1.2]] W fun e W' =>
      (e = .returned (.bool true) ∧ J (pre ++ [x]) W' ∧ Below w0.heap.size W W') ∨ (e = .returned (.bool false) ∧ Jx (pre ++ [x]) W'))
    (hB : W.cell? ⟨Bn, 0, none⟩ = some (.slice A n c)) (hW : Below w0.heap.size w0 W) (h0 : J [] W) :
    CallsIn Fence.wide k Tryd.prog 65 #[.func (.yield l) #[] #[], .pointer (some ⟨Bn, 0, none⟩)] W fun e W' => (∃ v, e = .returned v) ∧
      ((∃ ys, ys = filT es ∧ J ys W') ∨ (∃ pre, pre <+: filT es ∧ Jx pre W')) := by
  refine callsIn_of_wp Tryd.func65 rfl trivial ?_ rfl
  simp only [Tryd.ntmps65, List.size_toArray, List.length_cons, List.length_nil, Nat.reduceAdd, Nat.reduceSub, Array.replicate_succ, Array.replicate_zero, List.push_toArray, List.append_toArray, List.nil_append, List.cons_append]
  have HL := hid hl
  have HS := hid hsz
  clear hl hsz
  gi_wp2
  gi_loopw [7] (fun p wr => ∃ j : Nat, j ≤ n ∧ p = .int .i64 j ∧ Below w0.heap.size w0 wr ∧ J (filT (es.take j)) wr) (fun p _ => n - (intOf p).toNat)
  case atStart => exact ⟨0, by omega, rfl, hW, h0⟩
  case round =>
    obtain ⟨j, hj, rfl, hw, hJj⟩ := hrel
    by_cases hjn : j < n
    · have hjl : j < es.length := by rw [HL.out]; exact hjn
      have hr1 := hr.below hw
      obtain ⟨b, off, rfl, h1, h2, h3, h4, h5, -⟩ := hr1.ent hjl
      have hz : (0 : Int) ≤ j := by omega
      have hlt : (j : Int) < n := by omega
      have HM := hid (filT_more es j hjl)
      have HZ := hid (HS.out es[j] (List.getElem_mem hjl))
      have HPre : Hid (filT (es.take (j + 1)) <+: filT es) := List.IsPrefix.filterMap _ (List.take_prefix _ _)
      have hlen : (filT (es.take j)).length < n := by have := filT_len (es.take j); rw [List.length_take] at this; omega
      have hJ1 := hJ _ _ _ none hJj (World.grownBy_alloc wr (.cells #[.string es[j].path, .bool es[j].has, .string es[j].data, .int .i64 es[j].l, .int .i64 es[j].r] 37) none) (by simp)
      have hw1 := hw.alloc hw.size (.cells #[.string es[j].path, .bool es[j].has, .string es[j].data, .int .i64 es[j].l, .int .i64 es[j].r] 37)
      clear hr1
      generalize es[j] = x at *
      obtain ⟨p, h, d, cl, cr⟩ := x
      simp only at h1 h2 h3 h4 h5 hJ1 hw1
      cases h with
      | false =>
        have HF : Hid (toF ⟨p, false, d, cl, cr⟩ = none) := by show _ = _; rw [toF, dif_neg (by simp)]
        rw [HF.out] at HM
        have HJ2 : Hid (J (filT (es.take (j + 1))) (wr.alloc (.cells #[.string p, .bool false, .string d, .int .i64 cl, .int .i64 cr] 37))) := by rw [HM.out, Option.toList, List.append_nil]; exact hJ1
        clear HM HF HZ hJ1
        gi_wp2
        refine ⟨fun _ h => (by cases h), ?_⟩
        gi_wp2
        go_roundw
        case rel => exact ⟨j + 1, by omega, by go_num, hw1, HJ2.out⟩
        case measure => simp [intOf]; omega
      | true =>
        have HF : Hid (toF ⟨p, true, d, cl, cr⟩ = some ⟨(p, d), HZ.out⟩) := by show _ = _; rw [toF, dif_pos ⟨rfl, HZ.out⟩]
        rw [HF.out] at HM
        obtain ⟨fn, tmps, assign, body, hy, hR⟩ := hY _ ⟨(p, d), HZ.out⟩ _ hJ1 hlen
        dsimp only at hy
        gi_wp2
        refine hR.mono ?_
        rintro e W3 (⟨rfl, hJ3, hk3⟩ | ⟨rfl, hJx3⟩)
        · have HJ3 : Hid (J (filT (es.take (j + 1))) W3) := by rw [HM.out]; exact hJ3
          have hw3 := hw1.trans hk3
          clear hJ3 hk3 HM HF hy hR
          gi_wp2
          go_roundw
          case rel => exact ⟨j + 1, by omega, by go_num, hw3, HJ3.out⟩
          case measure => simp [intOf]; omega
        · have HJ3 : Hid (Jx (filT (es.take (j + 1))) W3) := by rw [HM.out]; exact hJx3
          gi_wp2
          refine bodyPost_ret (results_none rfl _ _ _) rfl ?_
          exact ⟨⟨_, rfl⟩, .inr ⟨_, HPre.out, HJ3.out⟩⟩
    · have HE := hid (show j = n by omega)
      have hnlt : ¬ (j : Int) < n := by omega
      gi_wp2
      go_end0
      refine ⟨⟨_, rfl⟩, .inl ?_⟩
      rw [HE.out, List.take_of_length_le (by rw [HL.out]; omega)] at hJj
      exact hJj
theorem files_stops (k : Nat) (hk : 1 ≤ k) (Bn : Nat) (w0 w : World) (A : Option Addr) (n c : Nat) (es : List Ent) (hl : es.length = n) (hr : Rd w0 A (entV es)) (hn : n ≤ 1000000) (hsz : ∀ e ∈ es, SzE e) (hBn : Bn < w.heap.size) (hc : w.cell? ⟨Bn, 0, none⟩ = some (.slice A n c)) (hw : Below w0.heap.size w0 w) :
    SeqStopsK Fence.wide k Tryd.prog 65 #[.pointer (some ⟨Bn, 0, none⟩)] (fun x : SF => #[Value.agg #[.string x.1.1, .string x.1.2]]) (Below w0.heap.size) (fun ys => ys = filT es) (fun pre => pre <+: filT es) n w := fun l J Jx W hW hJ _ hY h0 =>
  files1_in k hk l Bn w0 A n c es hl hr hn hsz J Jx W hJ hY ((hW.cell (p := ⟨Bn, 0, none⟩) hBn).trans hc) (hw.trans (hW.mono hw.size)) h0

/-! ### slices.Collect of it -/
theorem blk_kept {W W' : World} {row : Option Nat} {g : Nat} {cs : List Value} {t : TypeId} (h : Blk W g cs t) (hg : W.grownBy W' row) (hr : ∀ r, row = some r → ∃ o : Obj, W.heap[r]? = some o ∧ o.isCells = false) : Blk W' g cs t := by
  unfold Blk at h ⊢
  rw [hg.block g (Array.getElem?_eq_some_iff.1 h).1 (fun e => by
    obtain ⟨o, ho, hc⟩ := hr g e.symm
    rw [h] at ho; injection ho with ho; subst ho; cases hc)]
  exact h
/-- append whose run is known. -/
theorem wpAppIn {F : Fence} {n : Nat} {P : Program} {w w' : World} {ops : Array Oper} {rest : List Oper} {o : Oper} {a : Act} {Q : Exit → Act → World → Prop} (hgd : o.guard = none) (s x : Operand) (t : TypeId)
    (ho : o.op = .call { callee := .builtin .append, args := #[s, x], argTypes := #[t, t] }) (v1 v2 v : Value) (hs : a.eval s = v1) (hx : a.eval x = v2)
    (hrun : (Builtin.append_ #[t, t] o.type #[v1, v2]).run P w = .ok v w') (h : wpListIn F n P ops Q rest (a.put o.dst v) w') : wpListIn F n P ops Q (o :: rest) a w := by
  refine wpListIn_plain hgd fun K hK => ?_
  unfold Oper.wpIn
  refine ⟨?_, ?_⟩
  · simp [Oper.about, ho, resolve, Target.leads, Sem.run_pure]
  · rw [Oper.semAt_plain F _ _ (by rw [ho]; intro c hc'; cases hc')]
    simp [execOp, ho, resolve, invoke, builtin, hs, hx, hrun, Result.andThen]
    exact hK _ _ h
/-- A file as one behind what is there already, in a round. -/
theorem app_round {W : World} {n₀ B : Nat} {v : Value} {k : Nat} {xs : List Value} (hv : Boxed W B 23 v) (hrow : W.ownsRow n₀ 53 2 v k xs) (hn : n₀ ≤ W.heap.size) (hB : n₀ ≤ B) (hk : k ≤ 1000000) (f : Fil) :
    ∃ A' c' w1, Hid ((Builtin.append_ #[23, 23] 23 #[v, .slice (some ⟨W.heap.size, 0, none⟩) 1 1]).run Tryd.prog (W.alloc (.cells #[.string f.1, .string f.2] 53)) = .ok (.slice A' (k + 1) c') w1) ∧
      w1.cell? ⟨B, 0, none⟩ = some v ∧ w1.frozen? ⟨B, 0, none⟩ = false ∧ Boxed (w1.setCell ⟨B, 0, none⟩ (.slice A' (k + 1) c')) B 23 (.slice A' (k + 1) c') ∧
      (w1.setCell ⟨B, 0, none⟩ (.slice A' (k + 1) c')).ownsRow n₀ 53 2 (.slice A' (k + 1) c') (k + 1) (xs ++ [.string f.1, .string f.2]) ∧ KeepsOthers W (w1.setCell ⟨B, 0, none⟩ (.slice A' (k + 1) c')) ∧ Below n₀ W (w1.setCell ⟨B, 0, none⟩ (.slice A' (k + 1) c')) ∧ (W.alloc (.cells #[.string f.1, .string f.2] 53)).grownBy w1 v.ownBlock := by
  obtain ⟨i, hi, hz0, hz1, hz2⟩ := info_parts Tryd.infoF
  obtain ⟨v', w1, h2, h3, h4, -⟩ := run_append_own (P := Tryd.prog) (W.alloc (.cells #[.string f.1, .string f.2] 53)) n₀ 23 23 53 i _ 2 32 Tryd.underlying23 hi hz0 hz1 hz2 rfl (by decide) v k xs (hrow.alloc _) ⟨W.heap.size, 0, none⟩ 1 1 [.string f.1, .string f.2] rfl
    (new_cells W 53 [.string f.1, .string f.2]) (by simp [Value.oneCell']) (by unfold maxLen; omega) (by omega) (by simp; omega)
  obtain ⟨g', cap', rfl⟩ := ownsRow_succ h3
  obtain ⟨a1, a2, a3, a4, a5⟩ := hv.appended (by decide) hrow hn hB h3 h4
  exact ⟨_, _, w1, h2, a1.cell, a1.frozen, a2, a3, a4, a5, h4⟩

set_option maxRecDepth 100000 in
set_option maxHeartbeats 2000000 in
theorem appendSeq_any (Bn : Nat) (A : Option Addr) (n c : Nat) (es : List Ent) (w : World) (hl : es.length = n) (hr : Rd w A (entV es)) (hn : n ≤ 1000000) (hsz : ∀ e ∈ es, SzE e) (hc : w.cell? ⟨Bn, 0, none⟩ = some (.slice A n c)) :
    Calls Tryd.prog 64 #[.slice none 0 0, .func (.func 65) #[] #[.pointer (some ⟨Bn, 0, none⟩)]] w fun e w' =>
      ∃ v, e = .returned v ∧ w'.ownsRow w.heap.size 53 2 v (filesOf es).length (filV (filesOf es)) ∧ Below w.heap.size w w' := by
  have hBn := World.block_lt_of_cell? _ _ hc
  refine (callsIn_wide (n := 3)).1 ?_
  refine callsIn_of_wp_marks Tryd.func64 rfl trivial ?_ rfl
  simp only [Tryd.ntmps64, List.size_toArray, List.length_cons, List.length_nil, Nat.reduceAdd, Nat.reduceSub, Array.replicate_succ, Array.replicate_zero, List.push_toArray, List.append_toArray, List.nil_append, List.cons_append]
  gi_wp2
  have bO := Boxed.new w 23 (.slice none 0 0)
  have hB0 : Below w.heap.size w (w.alloc (.cells #[.slice none 0 0] 23)) := (Below.refl _ _).alloc (Nat.le_refl _) _
  have hs0 : (w.alloc (.cells #[.slice none 0 0] 23)).heap.size = w.heap.size + 1 := by simp
  have hc0 := (hB0.cell (p := ⟨Bn, 0, none⟩) hBn).trans hc
  obtain ⟨W0, hW0⟩ : ∃ W0, w.alloc (.cells #[.slice none 0 0] 23) = W0 := ⟨_, rfl⟩
  rw [hW0] at bO hB0 hs0 hc0 ⊢
  clear hW0
  refine wpIn_rangeFunc_ownH rfl (by omega) (gf := 65) (lb := #[.pointer (some ⟨Bn, 0, none⟩)]) rfl trivial (enters_of Tryd.func65 (by kernel_rfl) rfl)
    (files_stops _ (by omega) Bn w W0 A n c es hl hr hn hsz (by omega) hc0 hB0) belowK_t (belowK_b (by omega)) (Below.refl _ _) (fun _ => rfl)
    (fun (pre : List SF) W => (∃ v, Boxed W w.heap.size 23 v ∧ W.ownsRow w.heap.size 53 2 v pre.length (filV (pre.map (·.1))) ∧ True) ∧ Below w.heap.size w W)
    (fun _ _ _ => False)
    (OwnFrom.and (Own.from (holdsRow_own w.heap.size w.heap.size 23 53 2 (fun (pre : List SF) => pre.length) (fun pre => filV (pre.map (·.1))) (fun _ _ => True)) _) (ownFrom_below (Nat.le_refl _) (by omega)))
    (fun _ _ _ _ _ hs _ _ => hs)
    ⟨⟨_, bO, World.ownsRow_nil _ _ _ _, trivial⟩, hB0⟩
    (fun x a' W => ∃ Bx, w.heap.size < Bx ∧ Blk W Bx [.string x.1.1, .string x.1.2] 53 ∧ a' = { tmps := #[.slice none 0 0, .func (.func 65) #[] #[.pointer (some ⟨Bn, 0, none⟩)], .pointer (some ⟨w.heap.size, 0, none⟩), undef, .slice none 0 0, .pointer (some ⟨Bx, 0, none⟩), .func (.func 65) #[] #[.pointer (some ⟨Bn, 0, none⟩)], .agg #[.string x.1.1, .string x.1.2], undef, undef, undef, undef, undef], defers := [] })
    (fun x a' _ X Y row hs hg hr => by obtain ⟨Bx, h1, h2, h3⟩ := hs; exact ⟨Bx, h1, blk_kept h2 hg (fun r e => (hr r e).2), h3⟩)
    ?assign ?body ?done ?stop
  case assign =>
    rintro l pre x W K ⟨⟨v, hv, hrow, -⟩, hB⟩ hK
    gi_wp2
    exact hK _ _ ((KeepsOthers.alloc _ _).from _) ((Below.refl _ W).alloc hB.size _) ⟨⟨v, hv.alloc _, hrow.alloc _, trivial⟩, hB.alloc hB.size _⟩ ⟨W.heap.size, hv.lt, Blk.new W _ _, rfl⟩
  case body =>
    rintro l pre x a' W hl ⟨r, hr⟩ ⟨⟨v, hv, hrow, -⟩, hB⟩ ⟨Bx, hBx, bX, rfl⟩ hlt
    have hcv := hv.cell
    have x0 := bX.cell 0
    have x1 := bX.cell 1
    simp only [List.getElem?_cons_zero, List.getElem?_cons_succ] at x0 x1
    obtain ⟨A', c', w1, HRUN, c1, c2, c3, c4, c5, c6, -⟩ := app_round hv hrow hB.size (Nat.le_refl _) (by omega) x.1
    gi_wp2_with (gi_at_builtin; refine wpAppIn rfl (.tmp 8) (.tmp 10) 23 rfl _ _ _ rfl rfl HRUN.out ?_)
    exact ⟨c5.from _, c6, ⟨_, c3, by simpa [filV_append, filV] using c4, trivial⟩, hB.trans c6⟩
  case done =>
    rintro D ys W hD rfl ⟨⟨v, hv, hrow, -⟩, hB⟩ hK
    rw [show (filT es).length = (filesOf es).length by rw [← filT_val hsz, List.length_map], filT_val hsz] at hrow
    have hcv := hv.cell
    gi_wp2
    refine ⟨by simp, .inl ⟨_, _, rfl, run_takeDeferred hK, ?_⟩⟩
    exact ⟨_, results_tmp rfl _ _ _, v, rfl, ownsRow_putObj hrow _ hK rfl, hB.trans (belowK_b (w := w) (Nat.le_refl _) W D _ _ (by omega) hK rfl rfl)⟩
  case stop =>
    rintro D c pre W _ _ h _
    exact h.elim
end Go.Proofs.YtnkkjedckehoaaaDoor
