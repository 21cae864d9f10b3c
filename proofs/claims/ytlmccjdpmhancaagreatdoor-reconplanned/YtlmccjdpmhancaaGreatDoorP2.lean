/- The texts Sd, Se, Hin, Sf, Sg, in one. -/
import Derived.Test.YtlmccjdpmhancaaGreatDoorP1
import Derived.RangeFuncNested
import Derived.RangeFuncBound
import Derived.RangeFuncBox
import Derived.RangeFuncCalls
import Derived.RangeFuncLeaves
import Derived.Shelf.Abstract
import Derived.OwnWalkIn
import Derived.TacticsInMore
import Derived.LoopNIn
import Derived.LoopIn
import Derived.Maps.AppendAt
import Derived.OrdersIn
import Derived.ControlIn
import Derived.Deep.RegionHeld
namespace Go.Proofs.YtlmccjdpmhancaaGreatDoor
open Go.RowKit Go.Shelf

attribute [local go_sem] Oper.semAt_some

/-- Sizes that are asked. -/
def SzE (e : Ent) : Prop := e.path.size < 4294967281 ∧ e.data.size ≤ 140737488355328
def SzF (f : Fil) : Prop := f.1.size < 4294967281 ∧ f.2.size ≤ 140737488355328
instance (f : Fil) : Decidable (SzF f) := by unfold SzF; exact inferInstance
abbrev SF := { f : Fil // SzF f }
def toF (e : Ent) : Option SF := if h : e.has = true ∧ SzF (e.path, e.data) then some ⟨(e.path, e.data), h.2⟩ else none
def filT (es : List Ent) : List SF := es.filterMap toF
theorem filT_val {es : List Ent} (h : ∀ e ∈ es, SzE e) : (filT es).map (·.1) = filesOf es := by
  induction es with
  | nil => rfl
  | cons e es ih =>
    have ih := ih fun x hx => h x (List.mem_cons_of_mem _ hx)
    have he : SzF (e.path, e.data) := h e (by simp)
    rw [filesOf_cons, filT, List.filterMap_cons]
    cases hh : e.has with
    | true => rw [toF, dif_pos ⟨hh, he⟩]; simp only [List.map_cons, if_true]; rw [← ih]; rfl
    | false => rw [toF, dif_neg (by simp [hh]), if_neg (by simp)]; exact ih
theorem filT_more (es : List Ent) (j : Nat) (h : j < es.length) : filT (es.take (j + 1)) = filT (es.take j) ++ (toF es[j]).toList := by
  rw [filT, List.take_add_one, List.getElem?_eq_getElem h, List.filterMap_append]
  simp only [Option.toList, List.filterMap_cons, List.filterMap_nil]
  cases toF es[j] <;> rfl
theorem filT_len (es : List Ent) : (filT es).length ≤ es.length := List.length_filterMap_le ..

theorem files_any (A : Option Addr) (n c : Nat) (w : World) :
    Calls Tryz.prog 60 #[.slice A n c] w fun e w' => e = .returned (.func (.func 96) #[] #[.pointer (some ⟨w.heap.size, 0, none⟩)]) ∧ w' = w.alloc (.cells #[.slice A n c] 22) := by
  have hmf : ∀ (fn : Fn) (first cap : Array Value) (w : World), (Instr.makeFunc fn first cap).run Tryz.prog w = .ok (.func fn first cap) w := fun _ _ _ _ => rfl
  go_enter Tryz.func60, Tryz.ntmps60
  go_wp2
  go_ret
  exact ⟨rfl, rfl⟩

set_option maxRecDepth 100000 in
set_option maxHeartbeats 1000000 in
theorem files1_in (k : Nat) (hk : 1 ≤ k) (l Bn : Nat) (w0 : World) (A : Option Addr) (n c : Nat) (es : List Ent) (hl : es.length = n) (hr : Rd w0 A (entV es)) (hn : n ≤ 1000000) (hsz : ∀ e ∈ es, SzE e) (J Jx : List SF → World → Prop)
    (W : World) (hJ : AbidesFrom W.heap.size J)
    (hY : ∀ pre (x : SF) W, J pre W → pre.length < n → YieldAt Fence.wide (k - 1) Tryz.prog l #[.agg #[.string x.1.1, .string x.1.2]] W fun e W' =>
      (e = .returned (.bool true) ∧ J (pre ++ [x]) W' ∧ Below w0.heap.size W W') ∨ (e = .returned (.bool false) ∧ Jx (pre ++ [x]) W'))
    (hB : W.cell? ⟨Bn, 0, none⟩ = some (.slice A n c)) (hW : Below w0.heap.size w0 W) (h0 : J [] W) :
    CallsIn Fence.wide k Tryz.prog 96 #[.func (.yield l) #[] #[], .pointer (some ⟨Bn, 0, none⟩)] W fun e W' => (∃ v, e = .returned v) ∧
      ((∃ ys, ys = filT es ∧ J ys W') ∨ (∃ pre, pre <+: filT es ∧ Jx pre W')) := by
  refine callsIn_of_wp Tryz.func96 rfl trivial ?_ rfl
  simp only [Tryz.ntmps96, List.size_toArray, List.length_cons, List.length_nil, Nat.reduceAdd, Nat.reduceSub, Array.replicate_succ, Array.replicate_zero, List.push_toArray, List.append_toArray, List.nil_append, List.cons_append]
  have HL := hid hl
  have HS := hid hsz
  clear hl hsz
  gi_wp2
  gi_loopw [7] (fun p wr => ∃ j : Nat, j ≤ n ∧ p = .int .i64 j ∧ Below w0.heap.size w0 wr ∧ J (filT (es.take j)) wr) (fun p _ => n - (intOf p).toNat)
  case atStart => exact ⟨0, by omega, rfl, hW, h0⟩
  case round =>
    obtain ⟨j, hj, rfl, hw, hJj⟩ := hrel
    by_cases hjn : j < n
    · have hjl : j < es.length := by rw [HL.out]; exact hjn
      have hr1 := hr.below hw
      obtain ⟨b, off, rfl, h1, h2, h3, h4, h5, -⟩ := hr1.ent hjl
      have hz : (0 : Int) ≤ j := by omega
      have hlt : (j : Int) < n := by omega
      have HM := hid (filT_more es j hjl)
      have HZ := hid (HS.out es[j] (List.getElem_mem hjl))
      have HPre : Hid (filT (es.take (j + 1)) <+: filT es) := List.IsPrefix.filterMap _ (List.take_prefix _ _)
      have hlen : (filT (es.take j)).length < n := by have := filT_len (es.take j); rw [List.length_take] at this; omega
      have hJ1 := hJ _ _ _ none hJj (World.grownBy_alloc wr (.cells #[.string es[j].path, .bool es[j].has, .string es[j].data, .int .i64 es[j].l, .int .i64 es[j].r] 34) none) (by simp)
      have hw1 := hw.alloc hw.size (.cells #[.string es[j].path, .bool es[j].has, .string es[j].data, .int .i64 es[j].l, .int .i64 es[j].r] 34)
      clear hr1
      generalize es[j] = x at *
      obtain ⟨p, h, d, cl, cr⟩ := x
      simp only at h1 h2 h3 h4 h5 hJ1 hw1
      cases h with
      | false =>
        have HF : Hid (toF ⟨p, false, d, cl, cr⟩ = none) := by show _ = _; rw [toF, dif_neg (by simp)]
        rw [HF.out] at HM
        have HJ2 : Hid (J (filT (es.take (j + 1))) (wr.alloc (.cells #[.string p, .bool false, .string d, .int .i64 cl, .int .i64 cr] 34))) := by rw [HM.out, Option.toList, List.append_nil]; exact hJ1
        clear HM HF HZ hJ1
        gi_wp2
        refine ⟨fun _ h => (by cases h), ?_⟩
        gi_wp2
        go_roundw
        case rel => exact ⟨j + 1, by omega, by go_num, hw1, HJ2.out⟩
        case measure => simp [intOf]; omega
      | true =>
        have HF : Hid (toF ⟨p, true, d, cl, cr⟩ = some ⟨(p, d), HZ.out⟩) := by show _ = _; rw [toF, dif_pos ⟨rfl, HZ.out⟩]
        rw [HF.out] at HM
        obtain ⟨fn, tmps, assign, body, hy, hR⟩ := hY _ ⟨(p, d), HZ.out⟩ _ hJ1 hlen
        dsimp only at hy
        gi_wp2
        refine hR.mono ?_
        rintro e W3 (⟨rfl, hJ3, hk3⟩ | ⟨rfl, hJx3⟩)
        · have HJ3 : Hid (J (filT (es.take (j + 1))) W3) := by rw [HM.out]; exact hJ3
          have hw3 := hw1.trans hk3
          clear hJ3 hk3 HM HF hy hR
          gi_wp2
          go_roundw
          case rel => exact ⟨j + 1, by omega, by go_num, hw3, HJ3.out⟩
          case measure => simp [intOf]; omega
        · have HJ3 : Hid (Jx (filT (es.take (j + 1))) W3) := by rw [HM.out]; exact hJx3
          gi_wp2
          refine bodyPost_ret (results_none rfl _ _ _) rfl ?_
          exact ⟨⟨_, rfl⟩, .inr ⟨_, HPre.out, HJ3.out⟩⟩
    · have HE := hid (show j = n by omega)
      have hnlt : ¬ (j : Int) < n := by omega
      gi_wp2
      go_end0
      refine ⟨⟨_, rfl⟩, .inl ?_⟩
      rw [HE.out, List.take_of_length_le (by rw [HL.out]; omega)] at hJj
      exact hJj
theorem files_stops (k : Nat) (hk : 1 ≤ k) (Bn : Nat) (w0 w : World) (A : Option Addr) (n c : Nat) (es : List Ent) (hl : es.length = n) (hr : Rd w0 A (entV es)) (hn : n ≤ 1000000) (hsz : ∀ e ∈ es, SzE e) (hBn : Bn < w.heap.size) (hc : w.cell? ⟨Bn, 0, none⟩ = some (.slice A n c)) (hw : Below w0.heap.size w0 w) :
    SeqStopsK Fence.wide k Tryz.prog 96 #[.pointer (some ⟨Bn, 0, none⟩)] (fun x : SF => #[Value.agg #[.string x.1.1, .string x.1.2]]) (Below w0.heap.size) (fun ys => ys = filT es) (fun pre => pre <+: filT es) n w := fun l J Jx W hW hJ _ hY h0 =>
  files1_in k hk l Bn w0 A n c es hl hr hn hsz J Jx W hJ hY ((hW.cell (p := ⟨Bn, 0, none⟩) hBn).trans hc) (hw.trans (hW.mono hw.size)) h0

/-! ### slices.Collect of it -/
theorem blk_kept {W W' : World} {row : Option Nat} {g : Nat} {cs : List Value} {t : TypeId} (h : Blk W g cs t) (hg : W.grownBy W' row) (hr : ∀ r, row = some r → ∃ o : Obj, W.heap[r]? = some o ∧ o.isCells = false) : Blk W' g cs t := by
  unfold Blk at h ⊢
  rw [hg.block g (Array.getElem?_eq_some_iff.1 h).1 (fun e => by
    obtain ⟨o, ho, hc⟩ := hr g e.symm
    rw [h] at ho; injection ho with ho; subst ho; cases hc)]
  exact h
/-- append whose run is known. -/
theorem wpAppIn {F : Fence} {n : Nat} {P : Program} {w w' : World} {ops : Array Oper} {rest : List Oper} {o : Oper} {a : Act} {Q : Exit → Act → World → Prop} (hgd : o.guard = none) (s x : Operand) (t : TypeId)
    (ho : o.op = .call { callee := .builtin .append, args := #[s, x], argTypes := #[t, t] }) (v1 v2 v : Value) (hs : a.eval s = v1) (hx : a.eval x = v2)
    (hrun : (Builtin.append_ #[t, t] o.type #[v1, v2]).run P w = .ok v w') (h : wpListIn F n P ops Q rest (a.put o.dst v) w') : wpListIn F n P ops Q (o :: rest) a w := by
  refine wpListIn_plain hgd fun K hK => ?_
  unfold Oper.wpIn
  refine ⟨?_, ?_⟩
  · simp [Oper.about, ho, resolve, Target.leads, Sem.run_pure]
  · rw [Oper.semAt_plain F _ _ (by rw [ho]; intro c hc'; cases hc')]
    simp [execOp, ho, resolve, invoke, builtin, hs, hx, hrun, Result.andThen]
    exact hK _ _ h
/-- A file as one behind what is there already, in a round. -/
theorem app_round {W : World} {n₀ B : Nat} {v : Value} {k : Nat} {xs : List Value} (hv : Boxed W B 36 v) (hrow : W.ownsRow n₀ 57 2 v k xs) (hn : n₀ ≤ W.heap.size) (hB : n₀ ≤ B) (hk : k ≤ 1000000) (f : Fil) :
    ∃ A' c' w1, Hid ((Builtin.append_ #[36, 36] 36 #[v, .slice (some ⟨W.heap.size, 0, none⟩) 1 1]).run Tryz.prog (W.alloc (.cells #[.string f.1, .string f.2] 57)) = .ok (.slice A' (k + 1) c') w1) ∧
      w1.cell? ⟨B, 0, none⟩ = some v ∧ w1.frozen? ⟨B, 0, none⟩ = false ∧ Boxed (w1.setCell ⟨B, 0, none⟩ (.slice A' (k + 1) c')) B 36 (.slice A' (k + 1) c') ∧
      (w1.setCell ⟨B, 0, none⟩ (.slice A' (k + 1) c')).ownsRow n₀ 57 2 (.slice A' (k + 1) c') (k + 1) (xs ++ [.string f.1, .string f.2]) ∧ KeepsOthers W (w1.setCell ⟨B, 0, none⟩ (.slice A' (k + 1) c')) ∧ Below n₀ W (w1.setCell ⟨B, 0, none⟩ (.slice A' (k + 1) c')) ∧ (W.alloc (.cells #[.string f.1, .string f.2] 57)).grownBy w1 v.ownBlock := by
  obtain ⟨i, hi, hz0, hz1, hz2⟩ := info_parts Tryz.infoF
  obtain ⟨v', w1, h2, h3, h4, -⟩ := run_append_own (P := Tryz.prog) (W.alloc (.cells #[.string f.1, .string f.2] 57)) n₀ 36 36 57 i _ 2 32 Tryz.underlying36 hi hz0 hz1 hz2 rfl (by decide) v k xs (hrow.alloc _) ⟨W.heap.size, 0, none⟩ 1 1 [.string f.1, .string f.2] rfl
    (new_cells W 57 [.string f.1, .string f.2]) (by simp [Value.oneCell']) (by unfold maxLen; omega) (by omega) (by simp; omega)
  obtain ⟨g', cap', rfl⟩ := ownsRow_succ h3
  obtain ⟨a1, a2, a3, a4, a5⟩ := hv.appended (by decide) hrow hn hB h3 h4
  exact ⟨_, _, w1, h2, a1.cell, a1.frozen, a2, a3, a4, a5, h4⟩

set_option maxRecDepth 100000 in
set_option maxHeartbeats 2000000 in
theorem appendSeq_any (Bn : Nat) (A : Option Addr) (n c : Nat) (es : List Ent) (w : World) (hl : es.length = n) (hr : Rd w A (entV es)) (hn : n ≤ 1000000) (hsz : ∀ e ∈ es, SzE e) (hc : w.cell? ⟨Bn, 0, none⟩ = some (.slice A n c)) :
    Calls Tryz.prog 95 #[.slice none 0 0, .func (.func 96) #[] #[.pointer (some ⟨Bn, 0, none⟩)]] w fun e w' =>
      ∃ v, e = .returned v ∧ w'.ownsRow w.heap.size 57 2 v (filesOf es).length (filV (filesOf es)) ∧ Below w.heap.size w w' := by
  have hBn := World.block_lt_of_cell? _ _ hc
  refine (callsIn_wide (n := 3)).1 ?_
  refine callsIn_of_wp_marks Tryz.func95 rfl trivial ?_ rfl
  simp only [Tryz.ntmps95, List.size_toArray, List.length_cons, List.length_nil, Nat.reduceAdd, Nat.reduceSub, Array.replicate_succ, Array.replicate_zero, List.push_toArray, List.append_toArray, List.nil_append, List.cons_append]
  gi_wp2
  have bO := Boxed.new w 36 (.slice none 0 0)
  have hB0 : Below w.heap.size w (w.alloc (.cells #[.slice none 0 0] 36)) := (Below.refl _ _).alloc (Nat.le_refl _) _
  have hs0 : (w.alloc (.cells #[.slice none 0 0] 36)).heap.size = w.heap.size + 1 := by simp
  have hc0 := (hB0.cell (p := ⟨Bn, 0, none⟩) hBn).trans hc
  obtain ⟨W0, hW0⟩ : ∃ W0, w.alloc (.cells #[.slice none 0 0] 36) = W0 := ⟨_, rfl⟩
  rw [hW0] at bO hB0 hs0 hc0 ⊢
  clear hW0
  refine wpIn_rangeFunc_ownH rfl (by omega) (gf := 96) (lb := #[.pointer (some ⟨Bn, 0, none⟩)]) rfl trivial (enters_of Tryz.func96 (by kernel_rfl) rfl)
    (files_stops _ (by omega) Bn w W0 A n c es hl hr hn hsz (by omega) hc0 hB0) belowK_t (belowK_b (by omega)) (Below.refl _ _) (fun _ => rfl)
    (fun (pre : List SF) W => (∃ v, Boxed W w.heap.size 36 v ∧ W.ownsRow w.heap.size 57 2 v pre.length (filV (pre.map (·.1))) ∧ True) ∧ Below w.heap.size w W)
    (fun _ _ _ => False)
    (OwnFrom.and (Own.from (holdsRow_own w.heap.size w.heap.size 36 57 2 (fun (pre : List SF) => pre.length) (fun pre => filV (pre.map (·.1))) (fun _ _ => True)) _) (ownFrom_below (Nat.le_refl _) (by omega)))
    (fun _ _ _ _ _ hs _ _ => hs)
    ⟨⟨_, bO, World.ownsRow_nil _ _ _ _, trivial⟩, hB0⟩
    (fun x a' W => ∃ Bx, w.heap.size < Bx ∧ Blk W Bx [.string x.1.1, .string x.1.2] 57 ∧ a' = { tmps := #[.slice none 0 0, .func (.func 96) #[] #[.pointer (some ⟨Bn, 0, none⟩)], .pointer (some ⟨w.heap.size, 0, none⟩), undef, .slice none 0 0, .pointer (some ⟨Bx, 0, none⟩), .func (.func 96) #[] #[.pointer (some ⟨Bn, 0, none⟩)], .agg #[.string x.1.1, .string x.1.2], undef, undef, undef, undef, undef], defers := [] })
    (fun x a' _ X Y row hs hg hr => by obtain ⟨Bx, h1, h2, h3⟩ := hs; exact ⟨Bx, h1, blk_kept h2 hg (fun r e => (hr r e).2), h3⟩)
    ?assign ?body ?done ?stop
  case assign =>
    rintro l pre x W K ⟨⟨v, hv, hrow, -⟩, hB⟩ hK
    gi_wp2
    exact hK _ _ ((KeepsOthers.alloc _ _).from _) ((Below.refl _ W).alloc hB.size _) ⟨⟨v, hv.alloc _, hrow.alloc _, trivial⟩, hB.alloc hB.size _⟩ ⟨W.heap.size, hv.lt, Blk.new W _ _, rfl⟩
  case body =>
    rintro l pre x a' W hl ⟨r, hr⟩ ⟨⟨v, hv, hrow, -⟩, hB⟩ ⟨Bx, hBx, bX, rfl⟩ hlt
    have hcv := hv.cell
    have x0 := bX.cell 0
    have x1 := bX.cell 1
    simp only [List.getElem?_cons_zero, List.getElem?_cons_succ] at x0 x1
    obtain ⟨A', c', w1, HRUN, c1, c2, c3, c4, c5, c6, -⟩ := app_round hv hrow hB.size (Nat.le_refl _) (by omega) x.1
    gi_wp2_with (gi_at_builtin; refine wpAppIn rfl (.tmp 8) (.tmp 10) 36 rfl _ _ _ rfl rfl HRUN.out ?_)
    exact ⟨c5.from _, c6, ⟨_, c3, by simpa [filV_append, filV] using c4, trivial⟩, hB.trans c6⟩
  case done =>
    rintro D ys W hD rfl ⟨⟨v, hv, hrow, -⟩, hB⟩ hK
    rw [show (filT es).length = (filesOf es).length by rw [← filT_val hsz, List.length_map], filT_val hsz] at hrow
    have hcv := hv.cell
    gi_wp2
    refine ⟨by simp, .inl ⟨_, _, rfl, run_takeDeferred hK, ?_⟩⟩
    exact ⟨_, results_tmp rfl _ _ _, v, rfl, ownsRow_putObj hrow _ hK rfl, hB.trans (belowK_b (w := w) (Nat.le_refl _) W D _ _ (by omega) hK rfl rfl)⟩
  case stop =>
    rintro D c pre W _ _ h _
    exact h.elim
end Go.Proofs.YtlmccjdpmhancaaGreatDoor
namespace Go.Proofs.YtlmccjdpmhancaaGreatDoor
open Go.RowKit

/-- Files in memory of the call's own. -/
theorem own2_ft {w : World} {base : Nat} {v : Value} {fs : List Fil} (h : w.ownsRow base 57 2 v fs.length (filV fs)) (hn : fs.length ≤ 1000000) (hs : ∀ f ∈ fs, SzF f) : ∃ A c, v = .slice A fs.length c ∧ Ft w A fs.length c fs := by
  rcases h.2 with ⟨rfl, h0⟩ | ⟨g, cap, cur, rfl, _, _, h1, h2, _⟩
  · exact ⟨none, 0, by rw [h0], rfl, .inl (List.eq_nil_of_length_eq_zero (by rw [filV_length, h0])), by omega, by omega, by omega, hs⟩
  · exact ⟨_, cap, rfl, rfl, .inr ⟨_, rfl, h.cells (g := g) rfl⟩, h1, by omega, h2, hs⟩
theorem files_sz {es : List Ent} (h : ∀ e ∈ es, SzE e) : ∀ f ∈ filesOf es, SzF f := by
  intro f hf
  obtain ⟨e, he, -, rfl⟩ := mem_files.1 hf
  exact h e he
set_option maxHeartbeats 400000 in
theorem collect_any (Bn : Nat) (A : Option Addr) (n c : Nat) (es : List Ent) (w : World) (hl : es.length = n) (hr : Rd w A (entV es)) (hn : n ≤ 1000000) (hsz : ∀ e ∈ es, SzE e) (hc : w.cell? ⟨Bn, 0, none⟩ = some (.slice A n c)) :
    Calls Tryz.prog 59 #[.func (.func 96) #[] #[.pointer (some ⟨Bn, 0, none⟩)]] w fun e w' =>
      ∃ B d, e = .returned (.slice B (filesOf es).length d) ∧ Ft w' B (filesOf es).length d (filesOf es) ∧ Below w.heap.size w w' := by
  have c0 := appendSeq_any Bn A n c es w hl hr hn hsz hc
  have HS := hid (files_sz hsz)
  have HN := hid (filesOf_len es)
  clear hc hr hsz
  go_enter Tryz.func59, Tryz.ntmps59
  go_wp2_with fail
  refine c0.mono ?_
  clear c0
  rintro e w1 ⟨v, rfl, hrow, hb⟩
  obtain ⟨B, d, rfl, hft⟩ := own2_ft hrow (by have := HN.out; omega) HS.out
  go_wp2
  go_ret
  exact ⟨B, d, rfl, hft, hb⟩

theorem all_take_moreE (q : Ent → Bool) (l : List Ent) (j : Nat) (h : j < l.length) : (l.take (j + 1)).all q = ((l.take j).all q && q l[j]) := all_take_more q l j h
set_option maxHeartbeats 2000000 in
theorem archR_any {w : World} {A : Option Addr} {n c : Nat} {es : List Ent} (h : Et w A n c es) :
    Calls Tryz.prog 24 #[.slice A n c] w fun e w' => e = .returned (.bool (archR es)) ∧ Below w.heap.size w w' := by
  have hr := h.rd
  have hnb := h.big
  have HF : Hid (∀ e ∈ es, SzE e) := h.sz
  have HL := hid h.len
  clear h
  by_cases h32 : (32 : Int) < n
  · go_enter Tryz.func24, Tryz.ntmps24
    go_wp2
    go_ret
    refine ⟨ret_bool ?_, Below.refl _ _⟩
    symm
    refine archR_no fun h => ?_
    have := h.few
    have := HL.out
    omega
  · have hmk := make_strs n (by omega)
    go_enter Tryz.func24, Tryz.ntmps24
    go_upto_region 5 with (fail)
    go_loopw [14] (fun i wr => ∃ j : Nat, j ≤ n ∧ i = .int .i64 j ∧ Blk wr w.heap.size (fill (strV (es.map (·.path))) (.string ⟨#[]⟩) j) 9 ∧ Below w.heap.size w wr ∧ Hid ((es.take j).all fineE = true)) (fun i _ => n - (intOf i).toNat)
    case atStart =>
      refine ⟨0, by omega, rfl, ?_, (Below.refl _ _).alloc (Nat.le_refl _) _, by simp [Hid]⟩
      have := Blk.new w (List.replicate n (Value.string ⟨#[]⟩)) 9
      rw [fill_zero, strV_length, List.length_map, HL.out]
      simpa using this
    case round =>
      obtain ⟨j, hj, rfl, hblk, hb, HO⟩ := hrel
      by_cases hjn : j < n
      · have hjl : j < es.length := by rw [HL.out]; exact hjn
        have hr1 := hr.below hb
        obtain ⟨b, off, rfl, h1, h2, h3, h4, h5, -⟩ := hr1.ent hjl
        have hz : (0 : Int) ≤ j := by omega
        have hlt : (j : Int) < n := by omega
        clear hr1
        go_upto_region 7 with (fail)
        have HK := hid (all_take_more fineE es j hjl)
        have HX := hid (show (strV (es.map (·.path)))[j]? = some (.string es[j].path) by simp [strV, hjl])
        have hblk2 := hblk.below ((Below.refl _ _).alloc (Nat.le_refl _) (.cells #[.string es[j].path, .bool es[j].has, .string es[j].data, .int .i64 es[j].l, .int .i64 es[j].r] 34))
        have hb2 := hb.alloc hb.size (.cells #[.string es[j].path, .bool es[j].has, .string es[j].data, .int .i64 es[j].l, .int .i64 es[j].r] 34)
        have k := Blk.new wr [.string es[j].path, .bool es[j].has, .string es[j].data, .int .i64 es[j].l, .int .i64 es[j].r] 34
        have HM := hid (List.getElem_mem hjl)
        clear hblk hb h1 h2 h3 h4 h5
        generalize es[j] = f at *
        generalize wr.alloc (.cells #[.string f.path, .bool f.has, .string f.data, .int .i64 f.l, .int .i64 f.r] 34) = wa at *
        generalize wr.heap.size = g at *
        have k1 := k.cell 0
        have k2 := k.cell 1
        have k3 := k.cell 2
        have k4 := k.cell 3
        have k5 := k.cell 4
        simp only [List.getElem?_cons_zero, List.getElem?_cons_succ] at k1 k2 k3 k4 k5
        go_wp2_with fail
        refine (efine_any f _).mono ?_
        rintro e w1 ⟨rfl, hb1⟩
        have hblk3 := hblk2.below hb1
        have hb3 := hb2.trans (hb1.mono hb2.size)
        have k6 := (k.below hb1).cell 0
        simp only [List.getElem?_cons_zero] at k6
        clear hblk2 hb2 k k1 k2 k3 k4 k5 hb1
        cases hq : fineE f with
        | false =>
          have HQ := hid hq
          clear hq
          go_wp2
          go_ret
          refine ⟨ret_bool ?_, hb3⟩
          symm
          refine archR_no fun h => ?_
          have := h.fine f HM.out
          rw [HQ.out] at this
          cases this
        | true =>
          have c1 := hblk3.cell j
          rw [fill_at _ _ _ (by rw [strV_length, List.length_map]; exact hjl)] at c1
          have c2 := hblk3.frozen j
          have hblk4 := hblk3.set_ j (.string f.path)
          rw [fill_set _ _ _ _ HX.out] at hblk4
          have hb4 : Below w.heap.size w (w1.setCell ⟨w.heap.size, j, none⟩ (.string f.path)) := hb3.grown (grown_set j _) hb3.size (by intro k hk; injection hk with hk; omega)
          clear hblk3
          go_wp2
          go_roundw
          case rel => exact ⟨j + 1, by omega, by go_num, hblk4, hb4, hid (by rw [HK.out, HO.out, hq]; rfl)⟩
          case measure => simp [intOf]; omega
      · have HE := hid (show j = n by omega)
        have hnlt : ¬ (j : Int) < n := by omega
        have ho := HO.out
        have e1 : j = es.length := by rw [HL.out]; omega
        rw [e1, List.take_length] at ho
        have HD := hid ho
        have e2 : (strV (es.map (·.path))).length = es.length := by rw [strV_length, List.length_map]
        rw [show j = (strV (es.map (·.path))).length by rw [e2]; exact e1, fill_all] at hblk
        have hrd : Rd wr (some ⟨w.heap.size, 0, none⟩) (strV (es.map (·.path))) := hblk.rd
        have HLL := hid (show lst (es.map (·.path)) = es.map epth by simp [lst, epth])
        have HFN := hid (show (es.map (·.path)).length = n by rw [List.length_map, HL.out])
        have HSS : Hid (∀ s ∈ es.map (·.path), s.size < 4294967281) := by
          intro s hs
          obtain ⟨f, hf, rfl⟩ := List.mem_map.1 hs
          exact (HF.out f hf).1
        clear ho e1 e2 hblk HO
        have hn32 : es.length ≤ 32 := by rw [HL.out]; omega
        have HT := hid (show archR es = (sortedL (es.map epth) && treeR (filesOf es)) by rw [archR, HD.out, decide_eq_true hn32]; rfl)
        clear hn32
        go_wp2_with fail
        refine (sorted_any _ n n (es.map (·.path)) _ HFN.out hrd (by omega) HSS.out).mono ?_
        rintro e w1 ⟨rfl, hb1⟩
        rw [HLL.out]
        have hb1' := below2 hb hb1
        clear hrd hb hb1
        cases hq : sortedL (es.map epth)
        · rw [hq] at HT
          go_wp2
          go_ret
          exact ⟨ret_bool HT.out.symm, hb1'⟩
        · rw [hq, Bool.true_and] at HT
          have hr1 := hr.below hb1'
          go_wp2_with fail
          refine (files_any A n c _).mono ?_
          rintro e w2 ⟨rfl, rfl⟩
          go_wp2_with fail
          refine (collect_any w1.heap.size A n c es _ HL.out (hr1.alloc _) hnb HF.out (Boxed.new w1 _ _).cell).mono ?_
          rintro e w3 ⟨B, d, rfl, hft, hb3⟩
          have hb3' := below2 hb1' (below_new _ hb3)
          clear hb1' hb3 hr1
          go_wp2_with fail
          refine (tree_any hft).mono ?_
          rintro e w4 ⟨rfl, hb4⟩
          go_wp2
          go_ret
          exact ⟨ret_bool HT.out.symm, below2 hb3' hb4⟩

def findE (es : List Ent) (p : ByteArray) : Int := if archR es then idxE es p else -1
set_option maxHeartbeats 1000000 in
theorem findE_any {w : World} {A : Option Addr} {n c : Nat} {es : List Ent} (h : Et w A n c es) (p : ByteArray) :
    Calls Tryz.prog 29 #[.slice A n c, .string p] w fun e w' => e = .returned (.int .i64 (findE es p)) ∧ Below w.heap.size w w' := by
  have hmf : ∀ (fn : Fn) (first cap : Array Value) (w : World), (Instr.makeFunc fn first cap).run Tryz.prog w = .ok (.func fn first cap) w := fun _ _ _ _ => rfl
  have h1 := h.below ((Below.refl _ _).alloc (Nat.le_refl _) (.cells #[.string p] 9))
  go_enter Tryz.func29, Tryz.ntmps29
  go_wp2_with fail
  refine (archR_any h1).mono ?_
  rintro e w1 ⟨rfl, hb1⟩
  have hx := (hb1.cell (p := ⟨w.heap.size, 0, none⟩) (by simp)).trans (Boxed.new w 9 (.string p)).cell
  have h2 := h1.below hb1
  have hb1' := below_new _ hb1
  clear hb1 h1 h
  cases hR : archR es
  · have HR := hid hR
    clear hR
    go_wp2
    go_ret
    exact ⟨ret_int (by rw [findE, HR.out]; rfl), hb1'⟩
  · have HR := hid hR
    clear hR
    have c0 := idxE_any w.heap.size A n c es p w1 h2.len hx h2.rd h2.big
    clear h2 hx
    go_wp2_with fail
    refine c0.mono ?_
    clear c0
    rintro e w2 ⟨rfl, hb2⟩
    go_wp2
    go_ret
    exact ⟨ret_int (by rw [findE, HR.out]; rfl), below2 hb1' hb2⟩
end Go.Proofs.YtlmccjdpmhancaaGreatDoor
namespace Go.Proofs.YtlmccjdpmhancaaGreatDoor
open Go.RowKit

def noDefer (ops : Array Oper) : Bool := ops.all fun o => match o.op with
  | .defer _ => false
  | _ => true
theorem noDefer_at {ops : Array Oper} (h : noDefer ops = true) {i : Nat} {o : Oper} (ho : ops[i]? = some o) : ∀ c, o.op ≠ .defer c := by
  intro c hc
  have := (Array.all_eq_true.1 h) i (Array.getElem?_eq_some_iff.1 ho).1
  rw [(Array.getElem?_eq_some_iff.1 ho).2, hc] at this
  cases this
theorem op_round {l n : Nat} {P : Program} {o : Oper} {a : Act} {w : World} {K : Act → World → Prop} {Q : Exit → Act → World → Prop} (hd : ∀ c, o.op ≠ .defer c) (h : o.wp P a w K Q) : o.wpIn (Fence.wide.inRound l) n P a w K Q := by
  unfold Oper.wpIn
  refine ⟨fun _ _ => trivial, ?_⟩
  rw [Oper.semAt_eq _ _ _ hd]
  unfold Oper.wp at h
  generalize (execOp a.eval o).run P w = r at *
  cases r with
  | ok x w' =>
    cases x with
    | enter f args => exact ⟨fun h => (by cases h), CallsIn.inRound l (callsIn_wide.2 h)⟩
    | row rw_ args => exact ⟨fun h => (by cases h), fun c cs _ => by obtain ⟨v, w2, r, s⟩ := h c cs; exact ⟨v, w2, r, stepsIn_wide.2 s⟩⟩
    | round => exact h.elim
    | _ => exact h
  | halt x w' => cases x <;> exact h
theorem any_round {l n : Nat} {P : Program} {md : Region.Mode} {ops : Array Oper} {Q : Exit → Act → World → Prop} (hd : noDefer ops = true) (hno : ¬ LetsOut Q) :
    ∀ (fuel : Nat) (listed : Array Bool) (a : Act) (w : World), wpAny P md ops Q fuel listed a w → wpAnyIn (Fence.wide.inRound l) n P md ops Q fuel listed a w
  | 0, _, _, _, h => h
  | fuel + 1, listed, a, w, h => by
    refine ⟨h.1, fun i hi => ?_⟩
    have h1 := wpOp_mono (K' := wpAnyIn (Fence.wide.inRound l) n P md ops Q fuel (listed.setIfInBounds i true)) (fun a' w' h' => any_round (l := l) (n := n) hd hno fuel _ a' w' h') (h.2 i hi)
    unfold wpOp at h1
    unfold wpOpIn
    cases ho : ops[i]? with
    | none => rw [ho] at h1; exact h1
    | some o =>
      rw [ho] at h1
      simp only at h1 ⊢
      split
      · rename_i hw
        rw [if_pos hw] at h1
        rcases h1 with h1 | ⟨-, h1⟩
        · exact op_round (noDefer_at hd ho) h1
        · exact absurd h1 hno
      · rename_i hw
        rw [if_neg hw] at h1
        exact ⟨fun _ _ => trivial, h1⟩
/-- The beginning: as 'wp_region_held_drew', in a round. -/
theorem in_round {id l n : Nat} {P : Program} {ops : Array Oper} {Q : Exit → Act → World → Prop} {S : World → Prop} {a : Act} {w : World} (hm : P.follows .mixedOrders = true) (hd : noDefer ops = true) (hno : ¬ LetsOut Q) (hS : S w.drew)
    (h : S w.drew → wpAnyH P .any ops Q S ops.size (Array.replicate ops.size false) a w.drew) : (Code.region id ops true).wpIn (Fence.wide.inRound l) n P Q a w :=
  wpIn_region_any hm (any_round hd hno _ _ _ _ (wpAny_of_held _ _ _ _ (h hS)))
end Go.Proofs.YtlmccjdpmhancaaGreatDoor
namespace Go.Proofs.YtlmccjdpmhancaaGreatDoor
open Go.RowKit Go.Shelf

attribute [local go_sem] Oper.semAt_some

theorem boxed_below {W W' : World} {B : Nat} {t : TypeId} {v : Value} (h : Boxed W B t v) (hb : Below W.heap.size W W') : Boxed W' B t v := (hb.block B h.lt).trans h
theorem own_below {W W' : World} {base : Nat} {e : TypeId} {sz k : Nat} {v : Value} {xs : List Value} (h : W.ownsRow base e sz v k xs) (hb : Below W.heap.size W W') : W'.ownsRow base e sz v k xs := by
  refine h.kept (grown_below (row := none) hb) ?_
  rcases h.2 with ⟨e, -⟩ | ⟨g, cap', cur, e, -⟩
  · exact .inl (by rw [e]; rfl)
  · exact .inr (by rw [e]; simp [Value.ownBlock])
theorem own_low {w : World} {base base' : Nat} {e : TypeId} {sz : Nat} {v : Value} {n : Nat} {xs : List Value} (h : w.ownsRow base e sz v n xs) (hb : base' ≤ base) : w.ownsRow base' e sz v n xs := by
  refine ⟨h.1, ?_⟩
  rcases h.2 with h2 | ⟨g, cap, cur, h2, h3, h4⟩
  · exact .inl h2
  · exact .inr ⟨g, cap, cur, h2, by omega, h4⟩
theorem keeps_below {W W' : World} (h : Below W.heap.size W W') : KeepsOthers W W' := KeepsOthers.of_grownBy (grown_below (row := none) h) (by simp)
theorem below_undrew {W W' : World} (h : Below W.drew.heap.size W.drew W') : Below W.heap.size W W' := ⟨h.os, h.tape, h.output, h.size, h.block⟩

def treeE (es : List Ent) : List Fil := if archR es then filesOf es else []
set_option maxRecDepth 100000 in
set_option maxHeartbeats 4000000 in
theorem treeE_any {w : World} {A : Option Addr} {n c : Nat} {es : List Ent} (h : Et w A n c es) :
    Calls Tryz.prog 30 #[.slice A n c] w fun e w' => ∃ B d, e = .returned (.slice B (treeE es).length d) ∧ Ft w' B (treeE es).length d (treeE es) ∧ Below w.heap.size w w' := by
  have c0 := archR_any h
  cases hR : archR es with
  | false =>
    rw [hR] at c0
    have HR : Hid (treeE es = []) := by show _ = _; rw [treeE, hR]; rfl
    clear hR
    go_enter Tryz.func30, Tryz.ntmps30
    go_wp2_with fail
    refine c0.mono ?_
    clear c0
    rintro e w1 ⟨rfl, hb1⟩
    go_wp2
    go_ret
    rw [HR.out]
    exact ⟨none, 0, rfl, ⟨rfl, .inl rfl, Nat.le_refl _, by simp, by omega, by simp⟩, hb1⟩
  | true =>
    rw [hR] at c0
    have HR : Hid (treeE es = filesOf es) := by show _ = _; rw [treeE, hR]; rfl
    clear hR
    refine (callsIn_wide (n := 3)).1 ?_
    refine callsIn_of_wp_marks Tryz.func30 rfl trivial ?_ rfl
    simp only [Tryz.ntmps30, List.size_toArray, List.length_cons, List.length_nil, Nat.reduceAdd, Nat.reduceSub, Array.replicate_succ, Array.replicate_zero, List.push_toArray, List.append_toArray, List.nil_append, List.cons_append]
    gi_wp2_with (first
      | (refine ⟨trivial, ?_⟩; gi_at_call 24; refine (callsIn_wide.2 c0).mono ?_; rintro e w1 ⟨rfl, hb1⟩)
      | (refine ⟨trivial, ?_⟩; gi_at_call 60; refine (callsIn_wide.2 (files_any A n c _)).mono ?_; rintro e w' ⟨rfl, rfl⟩))
    have h1 := h.below hb1
    have hr1 := h1.rd
    have hl := h1.len
    have hn := h1.big
    have hsz : ∀ e ∈ es, SzE e := h1.sz
    clear h h1 c0
    have bO := (Boxed.new w1 36 (.slice none 0 0)).alloc (.cells #[.slice A n c] 22)
    have bN := Boxed.new (w1.alloc (.cells #[.slice none 0 0] 36)) 22 (.slice A n c)
    rw [World.size_alloc] at bN
    have hB0 : Below w1.heap.size w1 ((w1.alloc (.cells #[.slice none 0 0] 36)).alloc (.cells #[.slice A n c] 22)) := ((Below.refl _ _).alloc (Nat.le_refl _) _).alloc (by simp) _
    have hs0 : ((w1.alloc (.cells #[.slice none 0 0] 36)).alloc (.cells #[.slice A n c] 22)).heap.size = w1.heap.size + 2 := by simp
    obtain ⟨W0, hW0⟩ : ∃ W0, (w1.alloc (.cells #[.slice none 0 0] 36)).alloc (.cells #[.slice A n c] 22) = W0 := ⟨_, rfl⟩
    rw [hW0] at bO bN hB0 hs0 ⊢
    clear hW0
    refine wpIn_rangeFunc_ownH rfl (by omega) (gf := 96) (lb := #[.pointer (some ⟨w1.heap.size + 1, 0, none⟩)]) rfl trivial (enters_of Tryz.func96 (by kernel_rfl) rfl)
      (files_stops _ (by omega) (w1.heap.size + 1) w1 W0 A n c es hl hr1 hn hsz (by omega) bN.cell hB0) belowK_t (belowK_b (by omega)) (Below.refl _ _) (fun _ => rfl)
      (fun (pre : List SF) W => (∃ v, Boxed W w1.heap.size 36 v ∧ W.ownsRow w1.heap.size 57 2 v pre.length (filV (pre.map (·.1))) ∧ True) ∧ Below w1.heap.size w1 W)
      (fun _ _ _ => False)
      (OwnFrom.and (Own.from (holdsRow_own w1.heap.size w1.heap.size 36 57 2 (fun (pre : List SF) => pre.length) (fun pre => filV (pre.map (·.1))) (fun _ _ => True)) _) (ownFrom_below (Nat.le_refl _) (by omega)))
      (fun _ _ _ _ _ hs _ _ => hs)
      ⟨⟨_, bO, World.ownsRow_nil _ _ _ _, trivial⟩, hB0⟩
      (fun x a' W => ∃ Bx v', w1.heap.size < Bx ∧ Blk W Bx [.string x.1.1, .string x.1.2] 57 ∧ Boxed W w1.heap.size 36 v' ∧ some Bx ≠ v'.ownBlock ∧ a' = { tmps := #[.slice A n c, undef, .slice none 0 0, .pointer (some ⟨w1.heap.size, 0, none⟩), .pointer (some ⟨Bx, 0, none⟩), .slice A n c, .bool true, .bool false, .slice A n c, .func (.func 96) #[] #[.pointer (some ⟨w1.heap.size + 1, 0, none⟩)], .agg #[.string x.1.1, .string x.1.2], undef, undef, undef, undef, undef, undef, undef, undef, undef, undef, undef], defers := [] })
      (fun x a' _ X Y row hs hg hr => by obtain ⟨Bx, v', h1, h2, h3, h4⟩ := hs; exact ⟨Bx, v', h1, blk_kept h2 hg (fun r e => (hr r e).2), boxed_own _ _ (fun (_ : Unit) => v') () X Y row h3 hg (fun r e => (hr r e).2), h4⟩)
      ?assign ?body ?done ?stop
    case assign =>
      rintro l pre x W K ⟨⟨v, hv, hrow, -⟩, hB⟩ hK
      gi_wp2
      exact hK _ _ ((KeepsOthers.alloc _ _).from _) ((Below.refl _ W).alloc hB.size _) ⟨⟨v, hv.alloc _, hrow.alloc _, trivial⟩, hB.alloc hB.size _⟩ ⟨W.heap.size, v, hv.lt, Blk.new W _ _, hv.alloc _, fun e => by have := (hrow.lt _ e.symm).2; omega, rfl⟩
    case body =>
      rintro l pre x a' W hl ⟨r, hr⟩ ⟨⟨v, hv, hrow, -⟩, hB⟩ ⟨Bx, v', hBx, bX, hv', hne, rfl⟩ hlt
      obtain rfl : v = v' := by have := hv'.cell; rw [hv.cell] at this; injection this
      have hcv := hv.cell
      have x0 := bX.cell 0
      have x1 := bX.cell 1
      simp only [List.getElem?_cons_zero, List.getElem?_cons_succ] at x0 x1
      have hz := x.2
      unfold SzF at hz
      gi_wp2
      refine in_round (S := fun w' => w'.cell? ⟨Bx, 0, none⟩ = some (.string x.1.1) ∧ w'.cell? ⟨Bx, 1, none⟩ = some (.string x.1.2)) (by kernel_rfl) (by kernel_rfl) (by rintro ⟨_, _, h⟩; exact h) ⟨x0, x1⟩ (fun hHeld => ?_)
      refine wpAnyH_take (i := 1) (oi := ⟨_, _, _, _, _, _⟩) (v := ?_) rfl (by kernel_rfl) (by kernel_rfl) (by kernel_rfl) (fun _ _ _ h => h) (Or.inl ⟨by rfl, ?_⟩) (by assumption) ?_
      rotate_left
      · intro w hSw; (try dsimp only at hSw); go_simp; (try (with_reducible rfl))
      try simp only [Act.put, List.setIfInBounds_toArray, List.set_cons_zero, List.set_cons_succ]
      refine wpAnyH_take (i := 2) (oi := ⟨_, _, _, _, _, _⟩) (v := ?_) rfl (by kernel_rfl) (by kernel_rfl) (by kernel_rfl) (fun _ _ _ h => h) (Or.inl ⟨by rfl, ?_⟩) (by assumption) ?_
      rotate_left
      · intro w hSw; (try dsimp only at hSw); go_simp; (try (with_reducible rfl))
      try simp only [Act.put, List.setIfInBounds_toArray, List.set_cons_zero, List.set_cons_succ]
      refine wpAnyH_take (i := 4) (oi := ⟨_, _, _, _, _, _⟩) (v := ?_) rfl (by kernel_rfl) (by kernel_rfl) (by kernel_rfl) (fun _ _ _ h => h) (Or.inl ⟨by rfl, ?_⟩) (by assumption) ?_
      rotate_left
      · intro w hSw; (try dsimp only at hSw); go_simp; (try (with_reducible rfl))
      try simp only [Act.put, List.setIfInBounds_toArray, List.set_cons_zero, List.set_cons_succ]
      refine wpAnyH_take (i := 5) (oi := ⟨_, _, _, _, _, _⟩) (v := ?_) rfl (by kernel_rfl) (by kernel_rfl) (by kernel_rfl) (fun _ _ _ h => h) (Or.inl ⟨by rfl, ?_⟩) (by assumption) ?_
      rotate_left
      · intro w hSw; (try dsimp only at hSw); go_simp; (try (with_reducible rfl))
      try simp only [Act.put, List.setIfInBounds_toArray, List.set_cons_zero, List.set_cons_succ]
      refine wpAnyH_ready (rs := [0, 3]) (by kernel_rfl) (by simp) ?_
      refine AllReadyH.cons (o := ⟨_, _, _, _, _, _⟩) rfl (fun K hK => ?_) (AllReadyH.cons (o := ⟨_, _, _, _, _, _⟩) rfl (fun K hK => ?_) (AllReadyH.nil))
      · go_simp
        refine hK.out _ _ ⟨x0, x1⟩ (fun hHeld => ?_)
        clear hK K
        try simp only [Act.put, List.setIfInBounds_toArray, List.set_cons_zero, List.set_cons_succ]
        refine wpAnyH_ready (rs := [3]) (by kernel_rfl) (by simp) ?_
        refine AllReadyH.cons (o := ⟨_, _, _, _, _, _⟩) rfl (fun K hK => ?_) (AllReadyH.nil)
        go_simp
        refine (clone_any x.1.1 _ (by omega)).mono ?_
        rintro e W1 ⟨rfl, hb2⟩
        have b2 := below_undrew hb2
        have hv2 := boxed_below hv b2
        have hrow2 := own_below hrow b2
        have bX2 := bX.below b2
        have y2 := bX2.cell 0
        have z2 := bX2.cell 1
        have q2 := hv2.cell
        simp only [List.getElem?_cons_zero, List.getElem?_cons_succ] at y2 z2
        refine hK.out _ _ ⟨y2, z2⟩ (fun hHeld => ?_)
        clear hK K
        try simp only [Act.put, List.setIfInBounds_toArray, List.set_cons_zero, List.set_cons_succ]
        refine wpAnyH_ready (rs := [6]) (by kernel_rfl) (by simp) ?_
        refine AllReadyH.cons (o := ⟨_, _, _, _, _, _⟩) rfl (fun K hK => ?_) (AllReadyH.nil)
        go_simp
        refine (clone_any x.1.2 _ (by omega)).mono ?_
        rintro e W2 ⟨rfl, hb3⟩
        have hv3 := boxed_below hv2 hb3
        have hrow3 := own_below hrow2 hb3
        have bX3 := bX2.below hb3
        have b3 := below2 b2 hb3
        have y3 := bX3.cell 0
        have z3 := bX3.cell 1
        have q3 := hv3.cell
        simp only [List.getElem?_cons_zero, List.getElem?_cons_succ] at y3 z3
        refine hK.out _ _ ⟨y3, z3⟩ (fun hHeld => ?_)
        clear hK K
        try simp only [Act.put, List.setIfInBounds_toArray, List.set_cons_zero, List.set_cons_succ]
        refine wpAnyH_take (i := 7) (oi := ⟨_, _, _, _, _, _⟩) (v := ?_) rfl (by kernel_rfl) (by kernel_rfl) (by kernel_rfl) (fun _ _ _ h => h) (Or.inl ⟨by rfl, ?_⟩) (by assumption) ?_
        rotate_left
        · intro w hSw; (try dsimp only at hSw); go_simp; (try (with_reducible rfl))
        try simp only [Act.put, List.setIfInBounds_toArray, List.set_cons_zero, List.set_cons_succ]
        refine wpAnyH_ready (rs := [8]) (by kernel_rfl) (by simp) ?_
        refine AllReadyH.cons (o := ⟨_, _, _, _, _, _⟩) rfl (fun K hK => ?_) (AllReadyH.nil)
        go_simp
        obtain ⟨A', c', w3, HRUN, c1, c2, c3, c4, c5, c6, hg⟩ := app_round hv3 hrow3 (Nat.le_trans hB.size b3.size) (Nat.le_refl _) (by omega) x.1
        have hv4 := hv3.alloc (.cells #[.string x.1.1, .string x.1.2] 57)
        have bX4 := bX3.below ((Below.refl _ _).alloc (Nat.le_refl _) (.cells #[.string x.1.1, .string x.1.2] 57))
        have y4 := bX4.cell 0
        have z4 := bX4.cell 1
        have q4 := hv4.cell
        simp only [List.getElem?_cons_zero, List.getElem?_cons_succ] at y4 z4
        refine hK.out _ _ ⟨y4, z4⟩ (fun hHeld => ?_)
        clear hK K
        try simp only [Act.put, List.setIfInBounds_toArray, List.set_cons_zero, List.set_cons_succ]
        have bX5 : Blk w3 Bx [.string x.1.1, .string x.1.2] 57 := (hg.block Bx bX4.lt hne).trans bX4
        have bX6 := bX5.other (show Bx ≠ w1.heap.size by omega) 0 (.slice A' (pre.length + 1) c')
        have y5 := bX5.cell 0
        have z5 := bX5.cell 1
        have y6 := bX6.cell 0
        have z6 := bX6.cell 1
        simp only [List.getElem?_cons_zero, List.getElem?_cons_succ] at y5 z5 y6 z6
        refine wpAnyH_ready (rs := [9]) (by kernel_rfl) (by simp) ?_
        refine AllReadyH.cons (o := ⟨_, _, _, _, _, _⟩) rfl (fun K hK => ?_) (AllReadyH.nil)
        refine stepApp2 (by rfl) (.tmp 11) (.tmp 19) 36 rfl _ _ _ rfl rfl HRUN.out ?_
        refine hK.out _ _ ⟨y5, z5⟩ (fun hHeld => ?_)
        clear hK K
        try simp only [Act.put, List.setIfInBounds_toArray, List.set_cons_zero, List.set_cons_succ]
        refine wpAnyH_ready (rs := [10]) (by kernel_rfl) (by simp) ?_
        refine AllReadyH.cons (o := ⟨_, _, _, _, _, _⟩) rfl (fun K hK => ?_) (AllReadyH.nil)
        go_simp
        refine hK.out _ _ ⟨y6, z6⟩ (fun hHeld => ?_)
        clear hK K
        try simp only [Act.put, List.setIfInBounds_toArray, List.set_cons_zero, List.set_cons_succ]
        refine wpAnyH_done (by kernel_rfl) ?_ _
        exact ⟨((keeps_below b3).trans c5).from _, (b3.mono hB.size).trans c6, ⟨_, c3, by simpa [filV_append, filV] using c4, trivial⟩, hB.trans ((b3.mono hB.size).trans c6)⟩
      · go_simp
        refine (clone_any x.1.1 _ (by omega)).mono ?_
        rintro e W1 ⟨rfl, hb2⟩
        have b2 := below_undrew hb2
        have hv2 := boxed_below hv b2
        have hrow2 := own_below hrow b2
        have bX2 := bX.below b2
        have y2 := bX2.cell 0
        have z2 := bX2.cell 1
        have q2 := hv2.cell
        simp only [List.getElem?_cons_zero, List.getElem?_cons_succ] at y2 z2
        refine hK.out _ _ ⟨y2, z2⟩ (fun hHeld => ?_)
        clear hK K
        try simp only [Act.put, List.setIfInBounds_toArray, List.set_cons_zero, List.set_cons_succ]
        refine wpAnyH_ready (rs := [0, 6]) (by kernel_rfl) (by simp) ?_
        refine AllReadyH.cons (o := ⟨_, _, _, _, _, _⟩) rfl (fun K hK => ?_) (AllReadyH.cons (o := ⟨_, _, _, _, _, _⟩) rfl (fun K hK => ?_) (AllReadyH.nil))
        · go_simp
          refine hK.out _ _ ⟨y2, z2⟩ (fun hHeld => ?_)
          clear hK K
          try simp only [Act.put, List.setIfInBounds_toArray, List.set_cons_zero, List.set_cons_succ]
          refine wpAnyH_ready (rs := [6]) (by kernel_rfl) (by simp) ?_
          refine AllReadyH.cons (o := ⟨_, _, _, _, _, _⟩) rfl (fun K hK => ?_) (AllReadyH.nil)
          go_simp
          refine (clone_any x.1.2 _ (by omega)).mono ?_
          rintro e W2 ⟨rfl, hb3⟩
          have hv3 := boxed_below hv2 hb3
          have hrow3 := own_below hrow2 hb3
          have bX3 := bX2.below hb3
          have b3 := below2 b2 hb3
          have y3 := bX3.cell 0
          have z3 := bX3.cell 1
          have q3 := hv3.cell
          simp only [List.getElem?_cons_zero, List.getElem?_cons_succ] at y3 z3
          refine hK.out _ _ ⟨y3, z3⟩ (fun hHeld => ?_)
          clear hK K
          try simp only [Act.put, List.setIfInBounds_toArray, List.set_cons_zero, List.set_cons_succ]
          refine wpAnyH_take (i := 7) (oi := ⟨_, _, _, _, _, _⟩) (v := ?_) rfl (by kernel_rfl) (by kernel_rfl) (by kernel_rfl) (fun _ _ _ h => h) (Or.inl ⟨by rfl, ?_⟩) (by assumption) ?_
          rotate_left
          · intro w hSw; (try dsimp only at hSw); go_simp; (try (with_reducible rfl))
          try simp only [Act.put, List.setIfInBounds_toArray, List.set_cons_zero, List.set_cons_succ]
          refine wpAnyH_ready (rs := [8]) (by kernel_rfl) (by simp) ?_
          refine AllReadyH.cons (o := ⟨_, _, _, _, _, _⟩) rfl (fun K hK => ?_) (AllReadyH.nil)
          go_simp
          obtain ⟨A', c', w3, HRUN, c1, c2, c3, c4, c5, c6, hg⟩ := app_round hv3 hrow3 (Nat.le_trans hB.size b3.size) (Nat.le_refl _) (by omega) x.1
          have hv4 := hv3.alloc (.cells #[.string x.1.1, .string x.1.2] 57)
          have bX4 := bX3.below ((Below.refl _ _).alloc (Nat.le_refl _) (.cells #[.string x.1.1, .string x.1.2] 57))
          have y4 := bX4.cell 0
          have z4 := bX4.cell 1
          have q4 := hv4.cell
          simp only [List.getElem?_cons_zero, List.getElem?_cons_succ] at y4 z4
          refine hK.out _ _ ⟨y4, z4⟩ (fun hHeld => ?_)
          clear hK K
          try simp only [Act.put, List.setIfInBounds_toArray, List.set_cons_zero, List.set_cons_succ]
          have bX5 : Blk w3 Bx [.string x.1.1, .string x.1.2] 57 := (hg.block Bx bX4.lt hne).trans bX4
          have bX6 := bX5.other (show Bx ≠ w1.heap.size by omega) 0 (.slice A' (pre.length + 1) c')
          have y5 := bX5.cell 0
          have z5 := bX5.cell 1
          have y6 := bX6.cell 0
          have z6 := bX6.cell 1
          simp only [List.getElem?_cons_zero, List.getElem?_cons_succ] at y5 z5 y6 z6
          refine wpAnyH_ready (rs := [9]) (by kernel_rfl) (by simp) ?_
          refine AllReadyH.cons (o := ⟨_, _, _, _, _, _⟩) rfl (fun K hK => ?_) (AllReadyH.nil)
          refine stepApp2 (by rfl) (.tmp 11) (.tmp 19) 36 rfl _ _ _ rfl rfl HRUN.out ?_
          refine hK.out _ _ ⟨y5, z5⟩ (fun hHeld => ?_)
          clear hK K
          try simp only [Act.put, List.setIfInBounds_toArray, List.set_cons_zero, List.set_cons_succ]
          refine wpAnyH_ready (rs := [10]) (by kernel_rfl) (by simp) ?_
          refine AllReadyH.cons (o := ⟨_, _, _, _, _, _⟩) rfl (fun K hK => ?_) (AllReadyH.nil)
          go_simp
          refine hK.out _ _ ⟨y6, z6⟩ (fun hHeld => ?_)
          clear hK K
          try simp only [Act.put, List.setIfInBounds_toArray, List.set_cons_zero, List.set_cons_succ]
          refine wpAnyH_done (by kernel_rfl) ?_ _
          exact ⟨((keeps_below b3).trans c5).from _, (b3.mono hB.size).trans c6, ⟨_, c3, by simpa [filV_append, filV] using c4, trivial⟩, hB.trans ((b3.mono hB.size).trans c6)⟩
        · go_simp
          refine (clone_any x.1.2 _ (by omega)).mono ?_
          rintro e W2 ⟨rfl, hb3⟩
          have hv3 := boxed_below hv2 hb3
          have hrow3 := own_below hrow2 hb3
          have bX3 := bX2.below hb3
          have b3 := below2 b2 hb3
          have y3 := bX3.cell 0
          have z3 := bX3.cell 1
          have q3 := hv3.cell
          simp only [List.getElem?_cons_zero, List.getElem?_cons_succ] at y3 z3
          refine hK.out _ _ ⟨y3, z3⟩ (fun hHeld => ?_)
          clear hK K
          try simp only [Act.put, List.setIfInBounds_toArray, List.set_cons_zero, List.set_cons_succ]
          refine wpAnyH_take (i := 7) (oi := ⟨_, _, _, _, _, _⟩) (v := ?_) rfl (by kernel_rfl) (by kernel_rfl) (by kernel_rfl) (fun _ _ _ h => h) (Or.inl ⟨by rfl, ?_⟩) (by assumption) ?_
          rotate_left
          · intro w hSw; (try dsimp only at hSw); go_simp; (try (with_reducible rfl))
          try simp only [Act.put, List.setIfInBounds_toArray, List.set_cons_zero, List.set_cons_succ]
          refine wpAnyH_ready (rs := [0, 8]) (by kernel_rfl) (by simp) ?_
          refine AllReadyH.cons (o := ⟨_, _, _, _, _, _⟩) rfl (fun K hK => ?_) (AllReadyH.cons (o := ⟨_, _, _, _, _, _⟩) rfl (fun K hK => ?_) (AllReadyH.nil))
          · go_simp
            refine hK.out _ _ ⟨y3, z3⟩ (fun hHeld => ?_)
            clear hK K
            try simp only [Act.put, List.setIfInBounds_toArray, List.set_cons_zero, List.set_cons_succ]
            refine wpAnyH_ready (rs := [8]) (by kernel_rfl) (by simp) ?_
            refine AllReadyH.cons (o := ⟨_, _, _, _, _, _⟩) rfl (fun K hK => ?_) (AllReadyH.nil)
            go_simp
            obtain ⟨A', c', w3, HRUN, c1, c2, c3, c4, c5, c6, hg⟩ := app_round hv3 hrow3 (Nat.le_trans hB.size b3.size) (Nat.le_refl _) (by omega) x.1
            have hv4 := hv3.alloc (.cells #[.string x.1.1, .string x.1.2] 57)
            have bX4 := bX3.below ((Below.refl _ _).alloc (Nat.le_refl _) (.cells #[.string x.1.1, .string x.1.2] 57))
            have y4 := bX4.cell 0
            have z4 := bX4.cell 1
            have q4 := hv4.cell
            simp only [List.getElem?_cons_zero, List.getElem?_cons_succ] at y4 z4
            refine hK.out _ _ ⟨y4, z4⟩ (fun hHeld => ?_)
            clear hK K
            try simp only [Act.put, List.setIfInBounds_toArray, List.set_cons_zero, List.set_cons_succ]
            have bX5 : Blk w3 Bx [.string x.1.1, .string x.1.2] 57 := (hg.block Bx bX4.lt hne).trans bX4
            have bX6 := bX5.other (show Bx ≠ w1.heap.size by omega) 0 (.slice A' (pre.length + 1) c')
            have y5 := bX5.cell 0
            have z5 := bX5.cell 1
            have y6 := bX6.cell 0
            have z6 := bX6.cell 1
            simp only [List.getElem?_cons_zero, List.getElem?_cons_succ] at y5 z5 y6 z6
            refine wpAnyH_ready (rs := [9]) (by kernel_rfl) (by simp) ?_
            refine AllReadyH.cons (o := ⟨_, _, _, _, _, _⟩) rfl (fun K hK => ?_) (AllReadyH.nil)
            refine stepApp2 (by rfl) (.tmp 11) (.tmp 19) 36 rfl _ _ _ rfl rfl HRUN.out ?_
            refine hK.out _ _ ⟨y5, z5⟩ (fun hHeld => ?_)
            clear hK K
            try simp only [Act.put, List.setIfInBounds_toArray, List.set_cons_zero, List.set_cons_succ]
            refine wpAnyH_ready (rs := [10]) (by kernel_rfl) (by simp) ?_
            refine AllReadyH.cons (o := ⟨_, _, _, _, _, _⟩) rfl (fun K hK => ?_) (AllReadyH.nil)
            go_simp
            refine hK.out _ _ ⟨y6, z6⟩ (fun hHeld => ?_)
            clear hK K
            try simp only [Act.put, List.setIfInBounds_toArray, List.set_cons_zero, List.set_cons_succ]
            refine wpAnyH_done (by kernel_rfl) ?_ _
            exact ⟨((keeps_below b3).trans c5).from _, (b3.mono hB.size).trans c6, ⟨_, c3, by simpa [filV_append, filV] using c4, trivial⟩, hB.trans ((b3.mono hB.size).trans c6)⟩
          · go_simp
            obtain ⟨A', c', w3, HRUN, c1, c2, c3, c4, c5, c6, hg⟩ := app_round hv3 hrow3 (Nat.le_trans hB.size b3.size) (Nat.le_refl _) (by omega) x.1
            have hv4 := hv3.alloc (.cells #[.string x.1.1, .string x.1.2] 57)
            have bX4 := bX3.below ((Below.refl _ _).alloc (Nat.le_refl _) (.cells #[.string x.1.1, .string x.1.2] 57))
            have y4 := bX4.cell 0
            have z4 := bX4.cell 1
            have q4 := hv4.cell
            simp only [List.getElem?_cons_zero, List.getElem?_cons_succ] at y4 z4
            refine hK.out _ _ ⟨y4, z4⟩ (fun hHeld => ?_)
            clear hK K
            try simp only [Act.put, List.setIfInBounds_toArray, List.set_cons_zero, List.set_cons_succ]
            refine wpAnyH_ready (rs := [0]) (by kernel_rfl) (by simp) ?_
            refine AllReadyH.cons (o := ⟨_, _, _, _, _, _⟩) rfl (fun K hK => ?_) (AllReadyH.nil)
            go_simp
            refine hK.out _ _ ⟨y4, z4⟩ (fun hHeld => ?_)
            clear hK K
            try simp only [Act.put, List.setIfInBounds_toArray, List.set_cons_zero, List.set_cons_succ]
            have bX5 : Blk w3 Bx [.string x.1.1, .string x.1.2] 57 := (hg.block Bx bX4.lt hne).trans bX4
            have bX6 := bX5.other (show Bx ≠ w1.heap.size by omega) 0 (.slice A' (pre.length + 1) c')
            have y5 := bX5.cell 0
            have z5 := bX5.cell 1
            have y6 := bX6.cell 0
            have z6 := bX6.cell 1
            simp only [List.getElem?_cons_zero, List.getElem?_cons_succ] at y5 z5 y6 z6
            refine wpAnyH_ready (rs := [9]) (by kernel_rfl) (by simp) ?_
            refine AllReadyH.cons (o := ⟨_, _, _, _, _, _⟩) rfl (fun K hK => ?_) (AllReadyH.nil)
            refine stepApp2 (by rfl) (.tmp 11) (.tmp 19) 36 rfl _ _ _ rfl rfl HRUN.out ?_
            refine hK.out _ _ ⟨y5, z5⟩ (fun hHeld => ?_)
            clear hK K
            try simp only [Act.put, List.setIfInBounds_toArray, List.set_cons_zero, List.set_cons_succ]
            refine wpAnyH_ready (rs := [10]) (by kernel_rfl) (by simp) ?_
            refine AllReadyH.cons (o := ⟨_, _, _, _, _, _⟩) rfl (fun K hK => ?_) (AllReadyH.nil)
            go_simp
            refine hK.out _ _ ⟨y6, z6⟩ (fun hHeld => ?_)
            clear hK K
            try simp only [Act.put, List.setIfInBounds_toArray, List.set_cons_zero, List.set_cons_succ]
            refine wpAnyH_done (by kernel_rfl) ?_ _
            exact ⟨((keeps_below b3).trans c5).from _, (b3.mono hB.size).trans c6, ⟨_, c3, by simpa [filV_append, filV] using c4, trivial⟩, hB.trans ((b3.mono hB.size).trans c6)⟩
    case done =>
      rintro D ys W hD rfl ⟨⟨v, hv, hrow, -⟩, hB⟩ hK
      have HS := hid (files_sz hsz)
      have HN := hid (filesOf_len es)
      rw [show (filT es).length = (filesOf es).length by rw [← filT_val hsz, List.length_map], filT_val hsz] at hrow
      have hcv := hv.cell
      have hrow2 := ownsRow_putObj hrow (.deferred none) hK rfl
      obtain ⟨B, d, rfl, hft⟩ := own2_ft hrow2 (by have := HN.out; omega) HS.out
      have hb2 := below2 hb1 (hB.trans (belowK_b (w := w1) (Nat.le_refl _) W D _ (.deferred none) (by omega) hK rfl rfl))
      gi_wp2
      refine ⟨by simp, .inl ⟨_, _, rfl, run_takeDeferred hK, ?_⟩⟩
      rw [HR.out]
      exact ⟨_, results_tmp rfl _ _ _, B, d, rfl, hft, hb2⟩
    case stop =>
      rintro D c pre W _ _ h _
      exact h.elim
end Go.Proofs.YtlmccjdpmhancaaGreatDoor
namespace Go.Proofs.YtlmccjdpmhancaaGreatDoor
open Go.RowKit Go.Shelf

attribute [local go_sem] Oper.semAt_some

theorem both_any (A B : Option Addr) (n c m d : Nat) (w : World) :
    Calls Tryz.prog 56 #[.slice A n c, .slice B m d] w fun e w' => e = .returned (.func (.func 92) #[] #[.pointer (some ⟨w.heap.size, 0, none⟩), .pointer (some ⟨w.heap.size + 1, 0, none⟩)]) ∧ w' = (w.alloc (.cells #[.slice A n c] 22)).alloc (.cells #[.slice B m d] 36) := by
  have hmf : ∀ (fn : Fn) (first cap : Array Value) (w : World), (Instr.makeFunc fn first cap).run Tryz.prog w = .ok (.func fn first cap) w := fun _ _ _ _ => rfl
  go_enter Tryz.func56, Tryz.ntmps56
  go_wp2
  go_ret
  exact ⟨rfl, rfl⟩

/-- The slice without its first one. -/
theorem cut_run {t e : TypeId} {sz : Nat} (ht : Tryz.prog.underlying t = some (.slice e)) (hz : ∀ w, (sizeOf e).run Tryz.prog w = .ok sz w) (A : Option Addr) (n c : Nat) (hn : 0 < n) (w : World) :
    (Instr.slice t (.slice A n c) (some (.int .i64 1)) none none).run Tryz.prog w = .ok (.slice (if c = 1 then A else A.map (·.add (1 * sz))) (n - 1) (c - 1)) w := by
  have h1 : (0 : Int) ≤ 1 ∧ (1 : Int) ≤ (n : Int) := by omega
  simp [Instr.slice, Instr.sliceBounds, Instr.sliceBound, run_underlying ht, hz, asIntOf, h1]
theorem rd_tail {w : World} {A : Option Addr} {xs ys : List Value} {c k : Nat} (h : Rd w A (xs ++ ys)) (hk : xs.length = k) (hc : ys ≠ [] → c ≠ 1) : Rd w (if c = 1 then A else A.map (·.add k)) ys := by
  by_cases hy : ys = []
  · exact .inl hy
  · rw [if_neg (hc hy)]
    rcases h with h | ⟨ad, rfl, h⟩
    · exact .inl (List.append_eq_nil_iff.1 h).2
    · refine .inr ⟨ad.add k, rfl, fun j u hu => ?_⟩
      rw [add_assoc']
      refine h _ u ?_
      rw [List.getElem?_append_right (by omega), hk, Nat.add_sub_cancel_left]
      exact hu
theorem ent_tail {w : World} {A : Option Addr} {e : Ent} {es : List Ent} {c : Nat} (h : Rd w A (entV (e :: es))) (hc : es.length + 1 ≤ c) :
    ∃ A', (∀ w, (Instr.slice 22 (.slice A (es.length + 1) c) (some (.int .i64 1)) none none).run Tryz.prog w = .ok (.slice A' es.length (c - 1)) w) ∧ Rd w A' (entV es) :=
  ⟨_, fun w => cut_run Tryz.underlying22 (fun w => Tryz.sizeOf34 w) A (es.length + 1) c (by omega) w, rd_tail (xs := eV e) h rfl (fun hy => by
    have : es ≠ [] := fun x => hy (by rw [x]; rfl)
    have := List.length_pos_iff.2 this
    omega)⟩
theorem fil_tail {w : World} {A : Option Addr} {f : Fil} {fs : List Fil} {c : Nat} (h : Rd w A (filV (f :: fs))) (hc : fs.length + 1 ≤ c) :
    ∃ A', (∀ w, (Instr.slice 36 (.slice A (fs.length + 1) c) (some (.int .i64 1)) none none).run Tryz.prog w = .ok (.slice A' fs.length (c - 1)) w) ∧ Rd w A' (filV fs) :=
  ⟨_, fun w => cut_run Tryz.underlying36 (fun w => Tryz.sizeOf57 w) A (fs.length + 1) c (by omega) w, rd_tail (xs := [.string f.1, .string f.2]) h rfl (fun hy => by
    have : fs ≠ [] := fun x => hy (by rw [x]; rfl)
    have := List.length_pos_iff.2 this
    omega)⟩
abbrev S2 := { p : Ent × Ent // SzE p.2 }
def sliceLen : Value → Nat
  | .slice _ n _ => n
  | _ => 0

set_option maxRecDepth 100000 in
set_option maxHeartbeats 4000000 in
theorem both1_in (k : Nat) (hk : 1 ≤ k) (l Bl Bt : Nat) (w0 : World) (A B : Option Addr) (n c m d : Nat) (es : List Ent) (fs : List Fil) (hl : es.length = n) (hr : Rd w0 A (entV es)) (hc : n ≤ c) (hl2 : fs.length = m) (hr2 : Rd w0 B (filV fs)) (hc2 : m ≤ d)
    (ys : List S2) (hys : ys.map (·.1) = bothL es fs) (J Jx : List S2 → World → Prop)
    (W : World) (hJ : AbidesFrom W.heap.size J)
    (hY : ∀ pre (x : S2) W, J pre W → pre.length < n + m → YieldAt Fence.wide (k - 1) Tryz.prog l #[eA x.1.1, eA x.1.2] W fun e W' =>
      (e = .returned (.bool true) ∧ J (pre ++ [x]) W' ∧ Below w0.heap.size W W') ∨ (e = .returned (.bool false) ∧ Jx (pre ++ [x]) W'))
    (hB : W.cell? ⟨Bl, 0, none⟩ = some (.slice A n c)) (hB2 : W.cell? ⟨Bt, 0, none⟩ = some (.slice B m d)) (hW : Below w0.heap.size w0 W) (h0 : J [] W) :
    CallsIn Fence.wide k Tryz.prog 92 #[.func (.yield l) #[] #[], .pointer (some ⟨Bl, 0, none⟩), .pointer (some ⟨Bt, 0, none⟩)] W fun e W' => (∃ v, e = .returned v) ∧
      ((∃ zs, zs = ys ∧ J zs W') ∨ (∃ pre, pre <+: ys ∧ Jx pre W')) := by
  refine callsIn_of_wp Tryz.func92 rfl trivial ?_ rfl
  simp only [Tryz.ntmps92, List.size_toArray, List.length_cons, List.length_nil, Nat.reduceAdd, Nat.reduceSub, Array.replicate_succ, Array.replicate_zero, List.push_toArray, List.append_toArray, List.nil_append, List.cons_append]
  gi_wp2
  refine wpIn_wide.2 ?_
  refine wp_region_held_drew (S := fun w' => w'.cell? ⟨Bl, 0, none⟩ = some (.slice A n c) ∧ w'.cell? ⟨Bt, 0, none⟩ = some (.slice B m d)) (by kernel_rfl) ⟨hB, hB2⟩ (fun hHeld => ?_)
  refine wpAnyH_take (i := 0) (oi := ⟨_, _, _, _, _, _⟩) (v := ?_) rfl (by kernel_rfl) (by kernel_rfl) (by kernel_rfl) (fun _ _ _ h => h) (Or.inl ⟨by rfl, ?_⟩) (by assumption) ?_
  rotate_left
  · intro w hSw; (try dsimp only at hSw); go_simp; (try (with_reducible rfl))
  try simp only [Act.put, List.setIfInBounds_toArray, List.set_cons_zero, List.set_cons_succ]
  refine wpAnyH_take (i := 1) (oi := ⟨_, _, _, _, _, _⟩) (v := ?_) rfl (by kernel_rfl) (by kernel_rfl) (by kernel_rfl) (fun _ _ _ h => h) (Or.inl ⟨by rfl, ?_⟩) (by assumption) ?_
  rotate_left
  · intro w hSw; (try dsimp only at hSw); go_simp; (try (with_reducible rfl))
  try simp only [Act.put, List.setIfInBounds_toArray, List.set_cons_zero, List.set_cons_succ]
  refine wpAnyH_take (i := 2) (oi := ⟨_, _, _, _, _, _⟩) (v := ?_) rfl (by kernel_rfl) (by kernel_rfl) (by kernel_rfl) (fun _ _ _ h => h) (Or.inl ⟨by rfl, ?_⟩) (by assumption) ?_
  rotate_left
  · intro w hSw; (try dsimp only at hSw); go_simp; (try (with_reducible rfl))
  try simp only [Act.put, List.setIfInBounds_toArray, List.set_cons_zero, List.set_cons_succ]
  refine wpAnyH_take (i := 3) (oi := ⟨_, _, _, _, _, _⟩) (v := ?_) rfl (by kernel_rfl) (by kernel_rfl) (by kernel_rfl) (fun _ _ _ h => h) (Or.inl ⟨by rfl, ?_⟩) (by assumption) ?_
  rotate_left
  · intro w hSw; (try dsimp only at hSw); go_simp; (try (with_reducible rfl))
  try simp only [Act.put, List.setIfInBounds_toArray, List.set_cons_zero, List.set_cons_succ]
  refine wpAnyH_done (by kernel_rfl) ?_ _
  have hJd : J [] W.drew := hJ _ _ _ none h0 ⟨rfl, rfl, rfl, Nat.le_refl _, fun _ _ _ => rfl⟩ (by simp)
  have hWd : Below w0.heap.size w0 W.drew := ⟨hW.os, hW.tape, hW.output, hW.size, hW.block⟩
  have hJ' : AbidesFrom W.drew.heap.size J := hJ
  clear hHeld hB hB2 h0 hW hJ
  generalize W.drew = W1 at *
  gi_wp2
  gi_loopw [4, 5] (fun p q wr => ∃ (pre zs : List S2) (es' : List Ent) (fs' : List Fil) (A' B' : Option Addr) (c' d' : Nat), p = .slice A' es'.length c' ∧ q = .slice B' fs'.length d' ∧ Rd w0 A' (entV es') ∧ Rd w0 B' (filV fs') ∧ es'.length ≤ c' ∧ fs'.length ≤ d' ∧ Hid (ys = pre ++ zs) ∧ Hid (zs.map (·.1) = bothL es' fs') ∧ es'.length + fs'.length + pre.length ≤ n + m ∧ Below w0.heap.size w0 wr ∧ J pre wr) (fun p q _ => sliceLen p + sliceLen q)
  case atStart => exact ⟨[], ys, es, fs, A, B, c, d, by rw [hl], by rw [hl2], hr, hr2, by omega, by omega, hid rfl, hid hys, by simp; omega, hWd, hJd⟩
  case round =>
    obtain ⟨pre, zs, es', fs', A', B', c', d', rfl, rfl, hr1, hr2', hc1, hc2', HY, HZ, hlen, hb, hJp⟩ := hrel
    clear hr hr2 hc hc2 hl hl2 hys hJd hWd
    match es', fs', hr1, hr2', hc1, hc2', HZ, hlen with
    | [], [], hr1, hr2', hc1, hc2', HZ, hlen =>
      have HE : Hid (pre = ys) := by
        have := HZ.out
        rw [bothL_nil, List.map_eq_nil_iff] at this
        rw [Hid, HY.out, this, List.append_nil]
      gi_wp2
      go_end0
      exact ⟨⟨_, rfl⟩, .inl ⟨_, HE.out, hJp⟩⟩
    | [], f :: t, hr1, hr2', hc1, hc2', HZ, hlen =>
      have c0 := lesser_any (c := c') (d := d') (es := []) rfl (hr1.below hb) (fs := (f :: t)) rfl (hr2'.below hb) (by simp)
      rw [show lesP [] (f :: t) = f.1 from rfl] at c0
      obtain ⟨B2, hsB, hrB⟩ := fil_tail hr2' hc2'
      obtain ⟨bt, ot, rfl, f0, f1, hbt⟩ := (hr2'.below hb).fil (j := 0) (by simp)
      simp only [List.getElem_cons_zero, Nat.zero_mul, Nat.add_zero] at f0 f1
      obtain ⟨x, zs', rfl, hx, hz⟩ := List.map_eq_cons_iff.1 (HZ.out.trans (bothL_t f t))
      obtain ⟨⟨wx, ix⟩, hsx⟩ := x
      simp only [Prod.mk.injEq] at hx
      obtain ⟨rfl, rfl⟩ := And.intro hx.1.symm hx.2.symm
      have HZ' := hid hz
      clear hz HZ
      simp only [List.length_cons, List.length_nil] at *
      have hm1 : 0 < t.length + 1 := by omega
      generalize HM1 : t.length + 1 = m1 at *
      have HM1' := hid HM1
      clear HM1
      gi_wp2_with (refine ⟨trivial, ?_⟩; gi_at_call 93; refine (callsIn_wide.2 c0).mono ?_; rintro ee w1 ⟨rfl, hb1⟩; have f0' := fun o1 o2 => (((hb1.alloc hb1.size o1).alloc (hb1.alloc hb1.size o1).size o2).cell (p := ⟨bt, ot, none⟩) hbt).trans f0)
      clear c0
      have P1 : Blk ((w1.alloc (.cells #[.string f.1, .bool false, .string ⟨#[]⟩, .int .i64 0, .int .i64 0] 34)).alloc (.cells #[.string f.1, .bool false, .string ⟨#[]⟩, .int .i64 0, .int .i64 0] 34)) w1.heap.size [.string f.1, .bool false, .string ⟨#[]⟩, .int .i64 0, .int .i64 0] 34 := (Blk.new w1 [.string f.1, .bool false, .string ⟨#[]⟩, .int .i64 0, .int .i64 0] 34).below ((Below.refl _ _).alloc (Nat.le_refl _) _)
      have Q1 := Blk.new (w1.alloc (.cells #[.string f.1, .bool false, .string ⟨#[]⟩, .int .i64 0, .int .i64 0] 34)) [.string f.1, .bool false, .string ⟨#[]⟩, .int .i64 0, .int .i64 0] 34
      rw [World.size_alloc] at Q1
      have hbX : Below wr.heap.size wr ((w1.alloc (.cells #[.string f.1, .bool false, .string ⟨#[]⟩, .int .i64 0, .int .i64 0] 34)).alloc (.cells #[.string f.1, .bool false, .string ⟨#[]⟩, .int .i64 0, .int .i64 0] 34)) := (hb1.alloc hb1.size _).alloc (by have := hb1.size; simp; omega) _
      have hg : wr.heap.size ≤ w1.heap.size := hb1.size
      have hg2 : wr.heap.size ≤ w1.heap.size + 1 := by omega
      have hgg : w1.heap.size ≠ w1.heap.size + 1 := by omega
      generalize (w1.alloc (.cells #[.string f.1, .bool false, .string ⟨#[]⟩, .int .i64 0, .int .i64 0] 34)).alloc (.cells #[.string f.1, .bool false, .string ⟨#[]⟩, .int .i64 0, .int .i64 0] 34) = X at *
      generalize w1.heap.size + 1 = g2 at *
      generalize w1.heap.size = g at *
      have fX := (hbX.cell (p := ⟨bt, ot + 1, none⟩) hbt).trans f1
      refine wpIn_wide.2 ?_
      refine wp_region_held_drew (S := fun w' => w'.cell? ⟨bt, ot + 1, none⟩ = some (.string f.2)) (by kernel_rfl) fX (fun hHeld => ?_)
      have P1 := P1.drew
      have Q1 := Q1.drew
      have hbX := hbX.drew
      clear fX
      generalize X.drew = X at *
      refine wpAnyH_take (i := 0) (oi := ⟨_, _, _, _, _, _⟩) (v := ?_) rfl (by kernel_rfl) (by kernel_rfl) (by kernel_rfl) (fun _ _ _ h => h) (Or.inl ⟨by rfl, ?_⟩) (by assumption) ?_
      rotate_left
      · intro w hSw; (try dsimp only at hSw); go_simp; (try (with_reducible rfl))
      try simp only [Act.put, List.setIfInBounds_toArray, List.set_cons_zero, List.set_cons_succ]
      refine wpAnyH_take (i := 1) (oi := ⟨_, _, _, _, _, _⟩) (v := ?_) rfl (by kernel_rfl) (by kernel_rfl) (by kernel_rfl) (fun _ _ _ h => h) (Or.inl ⟨by rfl, ?_⟩) (by assumption) ?_
      rotate_left
      · intro w hSw; (try dsimp only at hSw); go_simp; (try (with_reducible rfl))
      try simp only [Act.put, List.setIfInBounds_toArray, List.set_cons_zero, List.set_cons_succ]
      refine wpAnyH_take (i := 2) (oi := ⟨_, _, _, _, _, _⟩) (v := ?_) rfl (by kernel_rfl) (by kernel_rfl) (by kernel_rfl) (fun _ _ _ h => h) (Or.inl ⟨by rfl, ?_⟩) (by assumption) ?_
      rotate_left
      · intro w hSw; (try dsimp only at hSw); go_simp; (try (with_reducible rfl))
      try simp only [Act.put, List.setIfInBounds_toArray, List.set_cons_zero, List.set_cons_succ]
      refine wpAnyH_take (i := 3) (oi := ⟨_, _, _, _, _, _⟩) (v := ?_) rfl (by kernel_rfl) (by kernel_rfl) (by kernel_rfl) (fun _ _ _ h => h) (Or.inl ⟨by rfl, ?_⟩) (by assumption) ?_
      rotate_left
      · intro w hSw; (try dsimp only at hSw); go_simp; (try (with_reducible rfl))
      try simp only [Act.put, List.setIfInBounds_toArray, List.set_cons_zero, List.set_cons_succ]
      refine wpAnyH_take (i := 4) (oi := ⟨_, _, _, _, _, _⟩) (v := ?_) rfl (by kernel_rfl) (by kernel_rfl) (by kernel_rfl) (fun _ _ _ h => h) (Or.inl ⟨by rfl, ?_⟩) (by assumption) ?_
      rotate_left
      · intro w hSw; (try dsimp only at hSw); go_simp; (try (with_reducible rfl))
      try simp only [Act.put, List.setIfInBounds_toArray, List.set_cons_zero, List.set_cons_succ]
      refine wpAnyH_take (i := 5) (oi := ⟨_, _, _, _, _, _⟩) (v := ?_) rfl (by kernel_rfl) (by kernel_rfl) (by kernel_rfl) (fun _ _ _ h => h) (Or.inl ⟨by rfl, ?_⟩) (by assumption) ?_
      rotate_left
      · intro w hSw; (try dsimp only at hSw); go_simp; (try (with_reducible rfl))
      try simp only [Act.put, List.setIfInBounds_toArray, List.set_cons_zero, List.set_cons_succ]
      refine wpAnyH_take (i := 6) (oi := ⟨_, _, _, _, _, _⟩) (v := ?_) rfl (by kernel_rfl) (by kernel_rfl) (by kernel_rfl) (fun _ _ _ h => h) (Or.inl ⟨by rfl, ?_⟩) (by assumption) ?_
      rotate_left
      · intro w hSw; (try dsimp only at hSw); go_simp; (try (with_reducible rfl))
      try simp only [Act.put, List.setIfInBounds_toArray, List.set_cons_zero, List.set_cons_succ]
      have u0 := Q1.cell 0
      have u1 := Q1.cell 1
      have u2 := Q1.cell 2
      have u3 := Q1.cell 3
      have u4 := Q1.cell 4
      simp only [List.getElem?_cons_zero, List.getElem?_cons_succ] at u0 u1 u2 u3 u4
      have v1 := Q1.frozen 1
      have v2 := Q1.frozen 2
      have Q2 := (Q1.set_ 1 (.bool true))
      have hbY := hbX.setCell (p := ⟨g2, 1, none⟩) hg2 (.bool true)
      have P2 := P1.other hgg 1 (.bool true)
      have fY := (hbY.cell (p := ⟨bt, ot + 1, none⟩) hbt).trans f1
      simp only [List.set_cons_zero, List.set_cons_succ] at Q2
      refine wpAnyH_ready (rs := [7]) (by kernel_rfl) (by simp) ?_
      refine AllReadyH.cons (o := ⟨_, _, _, _, _, _⟩) rfl (fun K hK => ?_) AllReadyH.nil
      go_simp
      generalize X.setCell ⟨g2, 1, none⟩ (.bool true) = Y at *
      refine hK.out _ _ fY (fun hHeld => ?_)
      clear hK K
      try simp only [Act.put, List.setIfInBounds_toArray, List.set_cons_zero, List.set_cons_succ]
      refine wpAnyH_take (i := 8) (oi := ⟨_, _, _, _, _, _⟩) (v := ?_) rfl (by kernel_rfl) (by kernel_rfl) (by kernel_rfl) (fun _ _ _ h => h) (Or.inl ⟨by rfl, ?_⟩) (by assumption) ?_
      rotate_left
      · intro w hSw; (try dsimp only at hSw); go_simp; (try (with_reducible rfl))
      try simp only [Act.put, List.setIfInBounds_toArray, List.set_cons_zero, List.set_cons_succ]
      have y2 := Q2.cell 2
      have y3 := Q2.frozen 2
      have Q3 := (Q2.set_ 2 (.string f.2))
      have hbZ := hbY.setCell (p := ⟨g2, 2, none⟩) hg2 (.string f.2)
      have P3 := P2.other hgg 2 (.string f.2)
      have fZ := (hbZ.cell (p := ⟨bt, ot + 1, none⟩) hbt).trans f1
      simp only [List.set_cons_zero, List.set_cons_succ, List.getElem?_cons_zero, List.getElem?_cons_succ] at Q3 y2
      refine wpAnyH_ready (rs := [9]) (by kernel_rfl) (by simp) ?_
      refine AllReadyH.cons (o := ⟨_, _, _, _, _, _⟩) rfl (fun K hK => ?_) AllReadyH.nil
      go_simp
      generalize Y.setCell ⟨g2, 2, none⟩ (.string f.2) = Z at *
      refine hK.out _ _ fZ (fun hHeld => ?_)
      clear hK K
      try simp only [Act.put, List.setIfInBounds_toArray, List.set_cons_zero, List.set_cons_succ]
      refine wpAnyH_take (i := 10) (oi := ⟨_, _, _, _, _, _⟩) (v := ?_) rfl (by kernel_rfl) (by kernel_rfl) (by kernel_rfl) (fun _ _ _ h => h) (Or.inl ⟨by rfl, ?_⟩) (by assumption) ?_
      rotate_left
      · intro w hSw; (try dsimp only at hSw); go_simp; (try (with_reducible rfl))
      try simp only [Act.put, List.setIfInBounds_toArray, List.set_cons_zero, List.set_cons_succ]
      refine wpAnyH_done (by kernel_rfl) ?_ _
      clear hHeld u0 u1 u2 u3 u4 v1 v2 Q1 Q2 P1 P2 hbX hbY fY fZ y2 y3
      have r0 := P3.cell 0
      have r1 := P3.cell 1
      have r2 := P3.cell 2
      have r3 := P3.cell 3
      have r4 := P3.cell 4
      simp only [List.getElem?_cons_zero, List.getElem?_cons_succ] at r0 r1 r2 r3 r4
      have s0 := Q3.cell 0
      have s1 := Q3.cell 1
      have s2 := Q3.cell 2
      have s3 := Q3.cell 3
      have s4 := Q3.cell 4
      simp only [List.getElem?_cons_zero, List.getElem?_cons_succ] at s0 s1 s2 s3 s4
      have hJy := hJ' _ _ _ none hJp (grown_below (row := none) hbZ) (by simp)
      have hbz := hb.trans (hbZ.mono hb.size)
      obtain ⟨fn, tmps, assign, body, hy, hR⟩ := hY _ ⟨(_, _), hsx⟩ _ hJy (by omega)
      simp only [kept, fresh, noS, eA] at hy
      clear hJy hbZ
      gi_wp2
      refine hR.mono ?_
      rintro ee W3 (⟨rfl, hJ3, hk3⟩ | ⟨rfl, hJx3⟩)
      · have hb3 := hbz.trans hk3
        clear hk3 hy hR
        gi_wp2
        go_roundw
        case rel => exact ⟨_, zs', [], t, A', B2, c', d' - 1, rfl, rfl, hr1, hrB, by have hh2 := HM1'.out; (first | omega | (simp; done) | (simp; omega)), by have hh2 := HM1'.out; (first | omega | (simp; done) | (simp; omega)), hid (by rw [HY.out]; simp), HZ', by have hh2 := HM1'.out; (first | omega | (simp; done) | (simp; omega)), hb3, hJ3⟩
        case measure => have hh2 := HM1'.out; simp [sliceLen]; omega
      · gi_wp2
        refine bodyPost_ret (results_none rfl _ _ _) rfl ?_
        exact ⟨⟨_, rfl⟩, .inr ⟨_, ⟨zs', by rw [HY.out]; simp⟩, hJx3⟩⟩
    | e :: el, [], hr1, hr2', hc1, hc2', HZ, hlen =>
      have c0 := lesser_any (c := c') (d := d') (es := (e :: el)) rfl (hr1.below hb) (fs := []) rfl (hr2'.below hb) (by simp)
      rw [show lesP (e :: el) [] = e.path from rfl] at c0
      obtain ⟨A2, hsA, hrA⟩ := ent_tail hr1 hc1
      obtain ⟨bl, ol, rfl, e0, e1, e2, e3, e4, hbl⟩ := (hr1.below hb).ent (j := 0) (by simp)
      simp only [List.getElem_cons_zero, Nat.zero_mul, Nat.add_zero] at e0 e1 e2 e3 e4
      obtain ⟨x, zs', rfl, hx, hz⟩ := List.map_eq_cons_iff.1 (HZ.out.trans (bothL_l e el))
      obtain ⟨⟨wx, ix⟩, hsx⟩ := x
      simp only [Prod.mk.injEq] at hx
      obtain ⟨rfl, rfl⟩ := And.intro hx.1.symm hx.2.symm
      have HZ' := hid hz
      clear hz HZ
      simp only [List.length_cons, List.length_nil] at *
      have hn1 : 0 < el.length + 1 := by omega
      generalize HN1 : el.length + 1 = n1 at *
      have HN1' := hid HN1
      clear HN1
      gi_wp2_with (refine ⟨trivial, ?_⟩; gi_at_call 93; refine (callsIn_wide.2 c0).mono ?_; rintro ee w1 ⟨rfl, hb1⟩; have e0' := fun o => ((hb1.alloc hb1.size o).cell (p := ⟨bl, ol, none⟩) hbl).trans e0)
      clear c0
      have p0 := Blk.new w1 [.string e.path, .bool false, .string ⟨#[]⟩, .int .i64 0, .int .i64 0] 34
      have hbw : Below wr.heap.size wr (w1.alloc (.cells #[.string e.path, .bool false, .string ⟨#[]⟩, .int .i64 0, .int .i64 0] 34)) := hb1.alloc hb1.size _
      have hg : wr.heap.size ≤ w1.heap.size := hb1.size
      obtain ⟨X1, hX1⟩ : ∃ X1, w1.alloc (.cells #[.string e.path, .bool false, .string ⟨#[]⟩, .int .i64 0, .int .i64 0] 34) = X1 := ⟨_, rfl⟩
      rw [hX1]
      rw [show Blk _ w1.heap.size _ _ = Blk X1 w1.heap.size [.string e.path, .bool false, .string ⟨#[]⟩, .int .i64 0, .int .i64 0] 34 from by rw [← hX1]] at p0
      rw [hX1] at hbw
      clear hX1 hb1
      have hsz1 := p0.lt
      generalize w1.heap.size = g at *
      have k0 := (hbw.cell (p := ⟨bl, ol, none⟩) hbl).trans e0
      have k1 := (hbw.cell (p := ⟨bl, ol + 1, none⟩) hbl).trans e1
      have k2 := (hbw.cell (p := ⟨bl, ol + 2, none⟩) hbl).trans e2
      have k3 := (hbw.cell (p := ⟨bl, ol + 3, none⟩) hbl).trans e3
      have k4 := (hbw.cell (p := ⟨bl, ol + 4, none⟩) hbl).trans e4
      refine wpIn_wide.2 ?_
      refine wp_region_held_drew (S := fun w' => w'.cell? ⟨bl, ol, none⟩ = some (.string e.path) ∧ w'.cell? ⟨bl, ol + 1, none⟩ = some (.bool e.has) ∧ w'.cell? ⟨bl, ol + 2, none⟩ = some (.string e.data) ∧ w'.cell? ⟨bl, ol + 3, none⟩ = some (.int .i64 e.l) ∧ w'.cell? ⟨bl, ol + 4, none⟩ = some (.int .i64 e.r)) (by kernel_rfl) ⟨k0, k1, k2, k3, k4⟩ (fun hHeld => ?_)
      have p0 := p0.drew
      have hbw := hbw.drew
      clear k0 k1 k2 k3 k4
      generalize X1.drew = X1 at *
      refine wpAnyH_take (i := 0) (oi := ⟨_, _, _, _, _, _⟩) (v := ?_) rfl (by kernel_rfl) (by kernel_rfl) (by kernel_rfl) (fun _ _ _ h => h) (Or.inl ⟨by rfl, ?_⟩) (by assumption) ?_
      rotate_left
      · intro w hSw; (try dsimp only at hSw); go_simp; (try (with_reducible rfl))
      try simp only [Act.put, List.setIfInBounds_toArray, List.set_cons_zero, List.set_cons_succ]
      refine wpAnyH_take (i := 1) (oi := ⟨_, _, _, _, _, _⟩) (v := ?_) rfl (by kernel_rfl) (by kernel_rfl) (by kernel_rfl) (fun _ _ _ h => h) (Or.inl ⟨by rfl, ?_⟩) (by assumption) ?_
      rotate_left
      · intro w hSw; (try dsimp only at hSw); go_simp; (try (with_reducible rfl))
      try simp only [Act.put, List.setIfInBounds_toArray, List.set_cons_zero, List.set_cons_succ]
      refine wpAnyH_take (i := 2) (oi := ⟨_, _, _, _, _, _⟩) (v := ?_) rfl (by kernel_rfl) (by kernel_rfl) (by kernel_rfl) (fun _ _ _ h => h) (Or.inl ⟨by rfl, ?_⟩) (by assumption) ?_
      rotate_left
      · intro w hSw; (try dsimp only at hSw); go_simp; (try (with_reducible rfl))
      try simp only [Act.put, List.setIfInBounds_toArray, List.set_cons_zero, List.set_cons_succ]
      refine wpAnyH_take (i := 3) (oi := ⟨_, _, _, _, _, _⟩) (v := ?_) rfl (by kernel_rfl) (by kernel_rfl) (by kernel_rfl) (fun _ _ _ h => h) (Or.inl ⟨by rfl, ?_⟩) (by assumption) ?_
      rotate_left
      · intro w hSw; (try dsimp only at hSw); go_simp; (try (with_reducible rfl))
      try simp only [Act.put, List.setIfInBounds_toArray, List.set_cons_zero, List.set_cons_succ]
      refine wpAnyH_take (i := 4) (oi := ⟨_, _, _, _, _, _⟩) (v := ?_) rfl (by kernel_rfl) (by kernel_rfl) (by kernel_rfl) (fun _ _ _ h => h) (Or.inl ⟨by rfl, ?_⟩) (by assumption) ?_
      rotate_left
      · intro w hSw; (try dsimp only at hSw); go_simp; (try (with_reducible rfl))
      try simp only [Act.put, List.setIfInBounds_toArray, List.set_cons_zero, List.set_cons_succ]
      have u0 := p0.cell 0
      have u1 := p0.cell 1
      have u2 := p0.cell 2
      have u3 := p0.cell 3
      have u4 := p0.cell 4
      simp only [List.getElem?_cons_zero, List.getElem?_cons_succ] at u0 u1 u2 u3 u4
      have v0 := p0.frozen 0
      have v1 := p0.frozen 1
      have v2 := p0.frozen 2
      have v3 := p0.frozen 3
      have v4 := p0.frozen 4
      have p1 : Blk (((((X1.setCell ⟨g, 0, none⟩ (.string e.path)).setCell ⟨g, 1, none⟩ (.bool e.has)).setCell ⟨g, 2, none⟩ (.string e.data)).setCell ⟨g, 3, none⟩ (.int .i64 e.l)).setCell ⟨g, 4, none⟩ (.int .i64 e.r)) g [.string e.path, .bool e.has, .string e.data, .int .i64 e.l, .int .i64 e.r] 34 := ((((p0.set_ 0 (.string e.path)).set_ 1 (.bool e.has)).set_ 2 (.string e.data)).set_ 3 (.int .i64 e.l)).set_ 4 (.int .i64 e.r)
      have hbw1 : Below wr.heap.size wr (((((X1.setCell ⟨g, 0, none⟩ (.string e.path)).setCell ⟨g, 1, none⟩ (.bool e.has)).setCell ⟨g, 2, none⟩ (.string e.data)).setCell ⟨g, 3, none⟩ (.int .i64 e.l)).setCell ⟨g, 4, none⟩ (.int .i64 e.r)) := ((((hbw.setCell (p := ⟨g, 0, none⟩) hg _).setCell (p := ⟨g, 1, none⟩) hg _).setCell (p := ⟨g, 2, none⟩) hg _).setCell (p := ⟨g, 3, none⟩) hg _).setCell (p := ⟨g, 4, none⟩) hg _
      generalize HX2 : ((((X1.setCell ⟨g, 0, none⟩ (.string e.path)).setCell ⟨g, 1, none⟩ (.bool e.has)).setCell ⟨g, 2, none⟩ (.string e.data)).setCell ⟨g, 3, none⟩ (.int .i64 e.l)).setCell ⟨g, 4, none⟩ (.int .i64 e.r) = X2 at p1 hbw1
      have m0 := (hbw1.cell (p := ⟨bl, ol, none⟩) hbl).trans e0
      have m1 := (hbw1.cell (p := ⟨bl, ol + 1, none⟩) hbl).trans e1
      have m2 := (hbw1.cell (p := ⟨bl, ol + 2, none⟩) hbl).trans e2
      have m3 := (hbw1.cell (p := ⟨bl, ol + 3, none⟩) hbl).trans e3
      have m4 := (hbw1.cell (p := ⟨bl, ol + 4, none⟩) hbl).trans e4
      refine wpAnyH_ready (rs := [5]) (by kernel_rfl) (by simp) ?_
      refine AllReadyH.cons (o := ⟨_, _, _, _, _, _⟩) rfl (fun K hK => ?_) AllReadyH.nil
      go_simp
      refine hK.out _ _ ⟨m0, m1, m2, m3, m4⟩ (fun hHeld => ?_)
      clear hK K
      try simp only [Act.put, List.setIfInBounds_toArray, List.set_cons_zero, List.set_cons_succ]
      refine wpAnyH_take (i := 6) (oi := ⟨_, _, _, _, _, _⟩) (v := ?_) rfl (by kernel_rfl) (by kernel_rfl) (by kernel_rfl) (fun _ _ _ h => h) (Or.inl ⟨by rfl, ?_⟩) (by assumption) ?_
      rotate_left
      · intro w hSw; (try dsimp only at hSw); go_simp; (try (with_reducible rfl))
      try simp only [Act.put, List.setIfInBounds_toArray, List.set_cons_zero, List.set_cons_succ]
      refine wpAnyH_done (by kernel_rfl) ?_ _
      clear hHeld HX2 p0 hbw u0 u1 u2 u3 u4 v0 v1 v2 v3 v4 m0 m1 m2 m3 m4
      have q0 := p1.cell 0
      have q1 := p1.cell 1
      have q2 := p1.cell 2
      have q3 := p1.cell 3
      have q4 := p1.cell 4
      simp only [List.getElem?_cons_zero, List.getElem?_cons_succ] at q0 q1 q2 q3 q4
      have hgX := p1.lt
      have hbZ : Below wr.heap.size wr (X2.alloc (.cells #[.string e.path, .bool false, .string ⟨#[]⟩, .int .i64 e.l, .int .i64 e.r] 34)) := hbw1.alloc hbw1.size _
      have hJy := hJ' _ _ _ none hJp (grown_below (row := none) hbZ) (by simp)
      have hbz := hb.trans (hbZ.mono hb.size)
      obtain ⟨fn, tmps, assign, body, hy, hR⟩ := hY _ ⟨(_, _), hsx⟩ _ hJy (by omega)
      simp only [gone, noS, eA] at hy
      clear hJy hbZ
      gi_wp2
      refine hR.mono ?_
      rintro ee W3 (⟨rfl, hJ3, hk3⟩ | ⟨rfl, hJx3⟩)
      · have hb3 := hbz.trans hk3
        clear hk3 hy hR
        gi_wp2
        go_roundw
        case rel => exact ⟨_, zs', el, [], A2, B', c' - 1, d', rfl, rfl, hrA, hr2', by have hh1 := HN1'.out; (first | omega | (simp; done) | (simp; omega)), by have hh1 := HN1'.out; (first | omega | (simp; done) | (simp; omega)), hid (by rw [HY.out]; simp), HZ', by have hh1 := HN1'.out; (first | omega | (simp; done) | (simp; omega)), hb3, hJ3⟩
        case measure => have hh1 := HN1'.out; simp [sliceLen]; omega
      · gi_wp2
        refine bodyPost_ret (results_none rfl _ _ _) rfl ?_
        exact ⟨⟨_, rfl⟩, .inr ⟨_, ⟨zs', by rw [HY.out]; simp⟩, hJx3⟩⟩
    | e :: el, f :: t, hr1, hr2', hc1, hc2', HZ, hlen =>
      by_cases hef : e.path = f.1
      · obtain ⟨fp, fd⟩ := f
        obtain rfl : e.path = fp := hef
        have HP : Hid (lesP (e :: el) ((e.path, fd) :: t) = e.path) := by show _ = _; rw [lesP]; split <;> rfl
        have c0 := lesser_any (c := c') (d := d') (es := (e :: el)) rfl (hr1.below hb) (fs := ((e.path, fd) :: t)) rfl (hr2'.below hb) (by simp)
        rw [show lesP (e :: el) ((e.path, fd) :: t) = e.path from HP.out] at c0
        obtain ⟨A2, hsA, hrA⟩ := ent_tail hr1 hc1
        obtain ⟨bl, ol, rfl, e0, e1, e2, e3, e4, hbl⟩ := (hr1.below hb).ent (j := 0) (by simp)
        simp only [List.getElem_cons_zero, Nat.zero_mul, Nat.add_zero] at e0 e1 e2 e3 e4
        obtain ⟨B2, hsB, hrB⟩ := fil_tail hr2' hc2'
        obtain ⟨bt, ot, rfl, f0, f1, hbt⟩ := (hr2'.below hb).fil (j := 0) (by simp)
        simp only [List.getElem_cons_zero, Nat.zero_mul, Nat.add_zero] at f0 f1
        obtain ⟨x, zs', rfl, hx, hz⟩ := List.map_eq_cons_iff.1 (HZ.out.trans (bothL_eq (f := (e.path, fd)) rfl el t))
        obtain ⟨⟨wx, ix⟩, hsx⟩ := x
        simp only [Prod.mk.injEq] at hx
        obtain ⟨rfl, rfl⟩ := And.intro hx.1.symm hx.2.symm
        have HZ' := hid hz
        clear hz HZ
        simp only [List.length_cons] at *
        have hn1 : 0 < el.length + 1 := by omega
        generalize HN1 : el.length + 1 = n1 at *
        have HN1' := hid HN1
        clear HN1
        have hm1 : 0 < t.length + 1 := by omega
        generalize HM1 : t.length + 1 = m1 at *
        have HM1' := hid HM1
        clear HM1
        gi_wp2_with (refine ⟨trivial, ?_⟩; gi_at_call 93; refine (callsIn_wide.2 c0).mono ?_; rintro ee w1 ⟨rfl, hb1⟩; have e0' := fun o => ((hb1.alloc hb1.size o).cell (p := ⟨bl, ol, none⟩) hbl).trans e0)
        clear c0
        have p0 := Blk.new w1 [.string e.path, .bool false, .string ⟨#[]⟩, .int .i64 0, .int .i64 0] 34
        have hbw : Below wr.heap.size wr (w1.alloc (.cells #[.string e.path, .bool false, .string ⟨#[]⟩, .int .i64 0, .int .i64 0] 34)) := hb1.alloc hb1.size _
        have hg : wr.heap.size ≤ w1.heap.size := hb1.size
        obtain ⟨X1, hX1⟩ : ∃ X1, w1.alloc (.cells #[.string e.path, .bool false, .string ⟨#[]⟩, .int .i64 0, .int .i64 0] 34) = X1 := ⟨_, rfl⟩
        rw [hX1]
        rw [show Blk _ w1.heap.size _ _ = Blk X1 w1.heap.size [.string e.path, .bool false, .string ⟨#[]⟩, .int .i64 0, .int .i64 0] 34 from by rw [← hX1]] at p0
        rw [hX1] at hbw
        clear hX1 hb1
        have hsz1 := p0.lt
        generalize w1.heap.size = g at *
        have k0 := (hbw.cell (p := ⟨bl, ol, none⟩) hbl).trans e0
        have k1 := (hbw.cell (p := ⟨bl, ol + 1, none⟩) hbl).trans e1
        have k2 := (hbw.cell (p := ⟨bl, ol + 2, none⟩) hbl).trans e2
        have k3 := (hbw.cell (p := ⟨bl, ol + 3, none⟩) hbl).trans e3
        have k4 := (hbw.cell (p := ⟨bl, ol + 4, none⟩) hbl).trans e4
        refine wpIn_wide.2 ?_
        refine wp_region_held_drew (S := fun w' => w'.cell? ⟨bl, ol, none⟩ = some (.string e.path) ∧ w'.cell? ⟨bl, ol + 1, none⟩ = some (.bool e.has) ∧ w'.cell? ⟨bl, ol + 2, none⟩ = some (.string e.data) ∧ w'.cell? ⟨bl, ol + 3, none⟩ = some (.int .i64 e.l) ∧ w'.cell? ⟨bl, ol + 4, none⟩ = some (.int .i64 e.r)) (by kernel_rfl) ⟨k0, k1, k2, k3, k4⟩ (fun hHeld => ?_)
        have p0 := p0.drew
        have hbw := hbw.drew
        clear k0 k1 k2 k3 k4
        generalize X1.drew = X1 at *
        refine wpAnyH_take (i := 0) (oi := ⟨_, _, _, _, _, _⟩) (v := ?_) rfl (by kernel_rfl) (by kernel_rfl) (by kernel_rfl) (fun _ _ _ h => h) (Or.inl ⟨by rfl, ?_⟩) (by assumption) ?_
        rotate_left
        · intro w hSw; (try dsimp only at hSw); go_simp; (try (with_reducible rfl))
        try simp only [Act.put, List.setIfInBounds_toArray, List.set_cons_zero, List.set_cons_succ]
        refine wpAnyH_take (i := 1) (oi := ⟨_, _, _, _, _, _⟩) (v := ?_) rfl (by kernel_rfl) (by kernel_rfl) (by kernel_rfl) (fun _ _ _ h => h) (Or.inl ⟨by rfl, ?_⟩) (by assumption) ?_
        rotate_left
        · intro w hSw; (try dsimp only at hSw); go_simp; (try (with_reducible rfl))
        try simp only [Act.put, List.setIfInBounds_toArray, List.set_cons_zero, List.set_cons_succ]
        refine wpAnyH_take (i := 2) (oi := ⟨_, _, _, _, _, _⟩) (v := ?_) rfl (by kernel_rfl) (by kernel_rfl) (by kernel_rfl) (fun _ _ _ h => h) (Or.inl ⟨by rfl, ?_⟩) (by assumption) ?_
        rotate_left
        · intro w hSw; (try dsimp only at hSw); go_simp; (try (with_reducible rfl))
        try simp only [Act.put, List.setIfInBounds_toArray, List.set_cons_zero, List.set_cons_succ]
        refine wpAnyH_take (i := 3) (oi := ⟨_, _, _, _, _, _⟩) (v := ?_) rfl (by kernel_rfl) (by kernel_rfl) (by kernel_rfl) (fun _ _ _ h => h) (Or.inl ⟨by rfl, ?_⟩) (by assumption) ?_
        rotate_left
        · intro w hSw; (try dsimp only at hSw); go_simp; (try (with_reducible rfl))
        try simp only [Act.put, List.setIfInBounds_toArray, List.set_cons_zero, List.set_cons_succ]
        refine wpAnyH_take (i := 4) (oi := ⟨_, _, _, _, _, _⟩) (v := ?_) rfl (by kernel_rfl) (by kernel_rfl) (by kernel_rfl) (fun _ _ _ h => h) (Or.inl ⟨by rfl, ?_⟩) (by assumption) ?_
        rotate_left
        · intro w hSw; (try dsimp only at hSw); go_simp; (try (with_reducible rfl))
        try simp only [Act.put, List.setIfInBounds_toArray, List.set_cons_zero, List.set_cons_succ]
        have u0 := p0.cell 0
        have u1 := p0.cell 1
        have u2 := p0.cell 2
        have u3 := p0.cell 3
        have u4 := p0.cell 4
        simp only [List.getElem?_cons_zero, List.getElem?_cons_succ] at u0 u1 u2 u3 u4
        have v0 := p0.frozen 0
        have v1 := p0.frozen 1
        have v2 := p0.frozen 2
        have v3 := p0.frozen 3
        have v4 := p0.frozen 4
        have p1 : Blk (((((X1.setCell ⟨g, 0, none⟩ (.string e.path)).setCell ⟨g, 1, none⟩ (.bool e.has)).setCell ⟨g, 2, none⟩ (.string e.data)).setCell ⟨g, 3, none⟩ (.int .i64 e.l)).setCell ⟨g, 4, none⟩ (.int .i64 e.r)) g [.string e.path, .bool e.has, .string e.data, .int .i64 e.l, .int .i64 e.r] 34 := ((((p0.set_ 0 (.string e.path)).set_ 1 (.bool e.has)).set_ 2 (.string e.data)).set_ 3 (.int .i64 e.l)).set_ 4 (.int .i64 e.r)
        have hbw1 : Below wr.heap.size wr (((((X1.setCell ⟨g, 0, none⟩ (.string e.path)).setCell ⟨g, 1, none⟩ (.bool e.has)).setCell ⟨g, 2, none⟩ (.string e.data)).setCell ⟨g, 3, none⟩ (.int .i64 e.l)).setCell ⟨g, 4, none⟩ (.int .i64 e.r)) := ((((hbw.setCell (p := ⟨g, 0, none⟩) hg _).setCell (p := ⟨g, 1, none⟩) hg _).setCell (p := ⟨g, 2, none⟩) hg _).setCell (p := ⟨g, 3, none⟩) hg _).setCell (p := ⟨g, 4, none⟩) hg _
        generalize HX2 : ((((X1.setCell ⟨g, 0, none⟩ (.string e.path)).setCell ⟨g, 1, none⟩ (.bool e.has)).setCell ⟨g, 2, none⟩ (.string e.data)).setCell ⟨g, 3, none⟩ (.int .i64 e.l)).setCell ⟨g, 4, none⟩ (.int .i64 e.r) = X2 at p1 hbw1
        have m0 := (hbw1.cell (p := ⟨bl, ol, none⟩) hbl).trans e0
        have m1 := (hbw1.cell (p := ⟨bl, ol + 1, none⟩) hbl).trans e1
        have m2 := (hbw1.cell (p := ⟨bl, ol + 2, none⟩) hbl).trans e2
        have m3 := (hbw1.cell (p := ⟨bl, ol + 3, none⟩) hbl).trans e3
        have m4 := (hbw1.cell (p := ⟨bl, ol + 4, none⟩) hbl).trans e4
        refine wpAnyH_ready (rs := [5]) (by kernel_rfl) (by simp) ?_
        refine AllReadyH.cons (o := ⟨_, _, _, _, _, _⟩) rfl (fun K hK => ?_) AllReadyH.nil
        go_simp
        refine hK.out _ _ ⟨m0, m1, m2, m3, m4⟩ (fun hHeld => ?_)
        clear hK K
        try simp only [Act.put, List.setIfInBounds_toArray, List.set_cons_zero, List.set_cons_succ]
        refine wpAnyH_take (i := 6) (oi := ⟨_, _, _, _, _, _⟩) (v := ?_) rfl (by kernel_rfl) (by kernel_rfl) (by kernel_rfl) (fun _ _ _ h => h) (Or.inl ⟨by rfl, ?_⟩) (by assumption) ?_
        rotate_left
        · intro w hSw; (try dsimp only at hSw); go_simp; (try (with_reducible rfl))
        try simp only [Act.put, List.setIfInBounds_toArray, List.set_cons_zero, List.set_cons_succ]
        refine wpAnyH_done (by kernel_rfl) ?_ _
        clear hHeld HX2 p0 hbw u0 u1 u2 u3 u4 v0 v1 v2 v3 v4 m0 m1 m2 m3 m4
        have q0 := p1.cell 0
        have q1 := p1.cell 1
        have q2 := p1.cell 2
        have q3 := p1.cell 3
        have q4 := p1.cell 4
        simp only [List.getElem?_cons_zero, List.getElem?_cons_succ] at q0 q1 q2 q3 q4
        have hgX := p1.lt
        have f0'' := fun o => ((hbw1.alloc hbw1.size o).cell (p := ⟨bt, ot, none⟩) hbt).trans f0
        gi_wp2
        have P1 := p1.below ((Below.refl _ _).alloc (Nat.le_refl _) (.cells #[.string e.path, .bool false, .string ⟨#[]⟩, .int .i64 e.l, .int .i64 e.r] 34))
        have Q1 := Blk.new X2 [.string e.path, .bool false, .string ⟨#[]⟩, .int .i64 e.l, .int .i64 e.r] 34
        have hbX : Below wr.heap.size wr (X2.alloc (.cells #[.string e.path, .bool false, .string ⟨#[]⟩, .int .i64 e.l, .int .i64 e.r] 34)) := hbw1.alloc hbw1.size _
        have hg2 : wr.heap.size ≤ X2.heap.size := hbw1.size
        have hgg : g ≠ X2.heap.size := by omega
        generalize X2.alloc (.cells #[.string e.path, .bool false, .string ⟨#[]⟩, .int .i64 e.l, .int .i64 e.r] 34) = X at *
        generalize X2.heap.size = g2 at *
        have fX := (hbX.cell (p := ⟨bt, ot + 1, none⟩) hbt).trans f1
        refine wpIn_wide.2 ?_
        refine wp_region_held_drew (S := fun w' => w'.cell? ⟨bt, ot + 1, none⟩ = some (.string fd)) (by kernel_rfl) fX (fun hHeld => ?_)
        have P1 := P1.drew
        have Q1 := Q1.drew
        have hbX := hbX.drew
        clear fX
        generalize X.drew = X at *
        refine wpAnyH_take (i := 0) (oi := ⟨_, _, _, _, _, _⟩) (v := ?_) rfl (by kernel_rfl) (by kernel_rfl) (by kernel_rfl) (fun _ _ _ h => h) (Or.inl ⟨by rfl, ?_⟩) (by assumption) ?_
        rotate_left
        · intro w hSw; (try dsimp only at hSw); go_simp; (try (with_reducible rfl))
        try simp only [Act.put, List.setIfInBounds_toArray, List.set_cons_zero, List.set_cons_succ]
        refine wpAnyH_take (i := 1) (oi := ⟨_, _, _, _, _, _⟩) (v := ?_) rfl (by kernel_rfl) (by kernel_rfl) (by kernel_rfl) (fun _ _ _ h => h) (Or.inl ⟨by rfl, ?_⟩) (by assumption) ?_
        rotate_left
        · intro w hSw; (try dsimp only at hSw); go_simp; (try (with_reducible rfl))
        try simp only [Act.put, List.setIfInBounds_toArray, List.set_cons_zero, List.set_cons_succ]
        refine wpAnyH_take (i := 2) (oi := ⟨_, _, _, _, _, _⟩) (v := ?_) rfl (by kernel_rfl) (by kernel_rfl) (by kernel_rfl) (fun _ _ _ h => h) (Or.inl ⟨by rfl, ?_⟩) (by assumption) ?_
        rotate_left
        · intro w hSw; (try dsimp only at hSw); go_simp; (try (with_reducible rfl))
        try simp only [Act.put, List.setIfInBounds_toArray, List.set_cons_zero, List.set_cons_succ]
        refine wpAnyH_take (i := 3) (oi := ⟨_, _, _, _, _, _⟩) (v := ?_) rfl (by kernel_rfl) (by kernel_rfl) (by kernel_rfl) (fun _ _ _ h => h) (Or.inl ⟨by rfl, ?_⟩) (by assumption) ?_
        rotate_left
        · intro w hSw; (try dsimp only at hSw); go_simp; (try (with_reducible rfl))
        try simp only [Act.put, List.setIfInBounds_toArray, List.set_cons_zero, List.set_cons_succ]
        refine wpAnyH_take (i := 4) (oi := ⟨_, _, _, _, _, _⟩) (v := ?_) rfl (by kernel_rfl) (by kernel_rfl) (by kernel_rfl) (fun _ _ _ h => h) (Or.inl ⟨by rfl, ?_⟩) (by assumption) ?_
        rotate_left
        · intro w hSw; (try dsimp only at hSw); go_simp; (try (with_reducible rfl))
        try simp only [Act.put, List.setIfInBounds_toArray, List.set_cons_zero, List.set_cons_succ]
        refine wpAnyH_take (i := 5) (oi := ⟨_, _, _, _, _, _⟩) (v := ?_) rfl (by kernel_rfl) (by kernel_rfl) (by kernel_rfl) (fun _ _ _ h => h) (Or.inl ⟨by rfl, ?_⟩) (by assumption) ?_
        rotate_left
        · intro w hSw; (try dsimp only at hSw); go_simp; (try (with_reducible rfl))
        try simp only [Act.put, List.setIfInBounds_toArray, List.set_cons_zero, List.set_cons_succ]
        refine wpAnyH_take (i := 6) (oi := ⟨_, _, _, _, _, _⟩) (v := ?_) rfl (by kernel_rfl) (by kernel_rfl) (by kernel_rfl) (fun _ _ _ h => h) (Or.inl ⟨by rfl, ?_⟩) (by assumption) ?_
        rotate_left
        · intro w hSw; (try dsimp only at hSw); go_simp; (try (with_reducible rfl))
        try simp only [Act.put, List.setIfInBounds_toArray, List.set_cons_zero, List.set_cons_succ]
        have u0 := Q1.cell 0
        have u1 := Q1.cell 1
        have u2 := Q1.cell 2
        have u3 := Q1.cell 3
        have u4 := Q1.cell 4
        simp only [List.getElem?_cons_zero, List.getElem?_cons_succ] at u0 u1 u2 u3 u4
        have v1 := Q1.frozen 1
        have v2 := Q1.frozen 2
        have Q2 := (Q1.set_ 1 (.bool true))
        have hbY := hbX.setCell (p := ⟨g2, 1, none⟩) hg2 (.bool true)
        have P2 := P1.other hgg 1 (.bool true)
        have fY := (hbY.cell (p := ⟨bt, ot + 1, none⟩) hbt).trans f1
        simp only [List.set_cons_zero, List.set_cons_succ] at Q2
        refine wpAnyH_ready (rs := [7]) (by kernel_rfl) (by simp) ?_
        refine AllReadyH.cons (o := ⟨_, _, _, _, _, _⟩) rfl (fun K hK => ?_) AllReadyH.nil
        go_simp
        generalize X.setCell ⟨g2, 1, none⟩ (.bool true) = Y at *
        refine hK.out _ _ fY (fun hHeld => ?_)
        clear hK K
        try simp only [Act.put, List.setIfInBounds_toArray, List.set_cons_zero, List.set_cons_succ]
        refine wpAnyH_take (i := 8) (oi := ⟨_, _, _, _, _, _⟩) (v := ?_) rfl (by kernel_rfl) (by kernel_rfl) (by kernel_rfl) (fun _ _ _ h => h) (Or.inl ⟨by rfl, ?_⟩) (by assumption) ?_
        rotate_left
        · intro w hSw; (try dsimp only at hSw); go_simp; (try (with_reducible rfl))
        try simp only [Act.put, List.setIfInBounds_toArray, List.set_cons_zero, List.set_cons_succ]
        have y2 := Q2.cell 2
        have y3 := Q2.frozen 2
        have Q3 := (Q2.set_ 2 (.string fd))
        have hbZ := hbY.setCell (p := ⟨g2, 2, none⟩) hg2 (.string fd)
        have P3 := P2.other hgg 2 (.string fd)
        have fZ := (hbZ.cell (p := ⟨bt, ot + 1, none⟩) hbt).trans f1
        simp only [List.set_cons_zero, List.set_cons_succ, List.getElem?_cons_zero, List.getElem?_cons_succ] at Q3 y2
        refine wpAnyH_ready (rs := [9]) (by kernel_rfl) (by simp) ?_
        refine AllReadyH.cons (o := ⟨_, _, _, _, _, _⟩) rfl (fun K hK => ?_) AllReadyH.nil
        go_simp
        generalize Y.setCell ⟨g2, 2, none⟩ (.string fd) = Z at *
        refine hK.out _ _ fZ (fun hHeld => ?_)
        clear hK K
        try simp only [Act.put, List.setIfInBounds_toArray, List.set_cons_zero, List.set_cons_succ]
        refine wpAnyH_take (i := 10) (oi := ⟨_, _, _, _, _, _⟩) (v := ?_) rfl (by kernel_rfl) (by kernel_rfl) (by kernel_rfl) (fun _ _ _ h => h) (Or.inl ⟨by rfl, ?_⟩) (by assumption) ?_
        rotate_left
        · intro w hSw; (try dsimp only at hSw); go_simp; (try (with_reducible rfl))
        try simp only [Act.put, List.setIfInBounds_toArray, List.set_cons_zero, List.set_cons_succ]
        refine wpAnyH_done (by kernel_rfl) ?_ _
        clear hHeld u0 u1 u2 u3 u4 v1 v2 Q1 Q2 P1 P2 hbX hbY fY fZ y2 y3
        have r0 := P3.cell 0
        have r1 := P3.cell 1
        have r2 := P3.cell 2
        have r3 := P3.cell 3
        have r4 := P3.cell 4
        simp only [List.getElem?_cons_zero, List.getElem?_cons_succ] at r0 r1 r2 r3 r4
        have s0 := Q3.cell 0
        have s1 := Q3.cell 1
        have s2 := Q3.cell 2
        have s3 := Q3.cell 3
        have s4 := Q3.cell 4
        simp only [List.getElem?_cons_zero, List.getElem?_cons_succ] at s0 s1 s2 s3 s4
        have hJy := hJ' _ _ _ none hJp (grown_below (row := none) hbZ) (by simp)
        have hbz := hb.trans (hbZ.mono hb.size)
        obtain ⟨fn, tmps, assign, body, hy, hR⟩ := hY _ ⟨(_, _), hsx⟩ _ hJy (by omega)
        simp only [kept, eA] at hy
        clear hJy hbZ
        gi_wp2
        refine hR.mono ?_
        rintro ee W3 (⟨rfl, hJ3, hk3⟩ | ⟨rfl, hJx3⟩)
        · have hb3 := hbz.trans hk3
          clear hk3 hy hR
          gi_wp2
          go_roundw
          case rel => exact ⟨_, zs', el, t, A2, B2, c' - 1, d' - 1, rfl, rfl, hrA, hrB, by have hh1 := HN1'.out; have hh2 := HM1'.out; (first | omega | (simp; done) | (simp; omega)), by have hh1 := HN1'.out; have hh2 := HM1'.out; (first | omega | (simp; done) | (simp; omega)), hid (by rw [HY.out]; simp), HZ', by have hh1 := HN1'.out; have hh2 := HM1'.out; (first | omega | (simp; done) | (simp; omega)), hb3, hJ3⟩
          case measure => have hh1 := HN1'.out; have hh2 := HM1'.out; simp [sliceLen]; omega
        · gi_wp2
          refine bodyPost_ret (results_none rfl _ _ _) rfl ?_
          exact ⟨⟨_, rfl⟩, .inr ⟨_, ⟨zs', by rw [HY.out]; simp⟩, hJx3⟩⟩
      · cases hlt : Op.bytesLess (pth f) (epth e) with
        | true =>
          have HP : Hid (lesP (e :: el) (f :: t) = f.1) := by show _ = _; rw [lesP, if_pos hlt]
          have hne : (e.path.toList == f.1.toList) = false := by rw [str_eqb]; exact decide_eq_false hef
          have c0 := lesser_any (c := c') (d := d') (es := (e :: el)) rfl (hr1.below hb) (fs := (f :: t)) rfl (hr2'.below hb) (by simp)
          rw [show lesP (e :: el) (f :: t) = f.1 from HP.out] at c0
          obtain ⟨A2, hsA, hrA⟩ := ent_tail hr1 hc1
          obtain ⟨bl, ol, rfl, e0, e1, e2, e3, e4, hbl⟩ := (hr1.below hb).ent (j := 0) (by simp)
          simp only [List.getElem_cons_zero, Nat.zero_mul, Nat.add_zero] at e0 e1 e2 e3 e4
          obtain ⟨B2, hsB, hrB⟩ := fil_tail hr2' hc2'
          obtain ⟨bt, ot, rfl, f0, f1, hbt⟩ := (hr2'.below hb).fil (j := 0) (by simp)
          simp only [List.getElem_cons_zero, Nat.zero_mul, Nat.add_zero] at f0 f1
          obtain ⟨x, zs', rfl, hx, hz⟩ := List.map_eq_cons_iff.1 (HZ.out.trans (bothL_lt hef hlt el t))
          obtain ⟨⟨wx, ix⟩, hsx⟩ := x
          simp only [Prod.mk.injEq] at hx
          obtain ⟨rfl, rfl⟩ := And.intro hx.1.symm hx.2.symm
          have HZ' := hid hz
          clear hz HZ
          simp only [List.length_cons] at *
          have hn1 : 0 < el.length + 1 := by omega
          generalize HN1 : el.length + 1 = n1 at *
          have HN1' := hid HN1
          clear HN1
          have hm1 : 0 < t.length + 1 := by omega
          generalize HM1 : t.length + 1 = m1 at *
          have HM1' := hid HM1
          clear HM1
          gi_wp2_with (refine ⟨trivial, ?_⟩; gi_at_call 93; refine (callsIn_wide.2 c0).mono ?_; rintro ee w1 ⟨rfl, hb1⟩; have e0' := fun o => ((hb1.alloc hb1.size o).cell (p := ⟨bl, ol, none⟩) hbl).trans e0; have f0' := fun o1 o2 => (((hb1.alloc hb1.size o1).alloc (hb1.alloc hb1.size o1).size o2).cell (p := ⟨bt, ot, none⟩) hbt).trans f0)
          clear c0
          have P1 : Blk ((w1.alloc (.cells #[.string f.1, .bool false, .string ⟨#[]⟩, .int .i64 0, .int .i64 0] 34)).alloc (.cells #[.string f.1, .bool false, .string ⟨#[]⟩, .int .i64 0, .int .i64 0] 34)) w1.heap.size [.string f.1, .bool false, .string ⟨#[]⟩, .int .i64 0, .int .i64 0] 34 := (Blk.new w1 [.string f.1, .bool false, .string ⟨#[]⟩, .int .i64 0, .int .i64 0] 34).below ((Below.refl _ _).alloc (Nat.le_refl _) _)
          have Q1 := Blk.new (w1.alloc (.cells #[.string f.1, .bool false, .string ⟨#[]⟩, .int .i64 0, .int .i64 0] 34)) [.string f.1, .bool false, .string ⟨#[]⟩, .int .i64 0, .int .i64 0] 34
          rw [World.size_alloc] at Q1
          have hbX : Below wr.heap.size wr ((w1.alloc (.cells #[.string f.1, .bool false, .string ⟨#[]⟩, .int .i64 0, .int .i64 0] 34)).alloc (.cells #[.string f.1, .bool false, .string ⟨#[]⟩, .int .i64 0, .int .i64 0] 34)) := (hb1.alloc hb1.size _).alloc (by have := hb1.size; simp; omega) _
          have hg : wr.heap.size ≤ w1.heap.size := hb1.size
          have hg2 : wr.heap.size ≤ w1.heap.size + 1 := by omega
          have hgg : w1.heap.size ≠ w1.heap.size + 1 := by omega
          generalize (w1.alloc (.cells #[.string f.1, .bool false, .string ⟨#[]⟩, .int .i64 0, .int .i64 0] 34)).alloc (.cells #[.string f.1, .bool false, .string ⟨#[]⟩, .int .i64 0, .int .i64 0] 34) = X at *
          generalize w1.heap.size + 1 = g2 at *
          generalize w1.heap.size = g at *
          have fX := (hbX.cell (p := ⟨bt, ot + 1, none⟩) hbt).trans f1
          refine wpIn_wide.2 ?_
          refine wp_region_held_drew (S := fun w' => w'.cell? ⟨bt, ot + 1, none⟩ = some (.string f.2)) (by kernel_rfl) fX (fun hHeld => ?_)
          have P1 := P1.drew
          have Q1 := Q1.drew
          have hbX := hbX.drew
          clear fX
          generalize X.drew = X at *
          refine wpAnyH_take (i := 0) (oi := ⟨_, _, _, _, _, _⟩) (v := ?_) rfl (by kernel_rfl) (by kernel_rfl) (by kernel_rfl) (fun _ _ _ h => h) (Or.inl ⟨by rfl, ?_⟩) (by assumption) ?_
          rotate_left
          · intro w hSw; (try dsimp only at hSw); go_simp; (try (with_reducible rfl))
          try simp only [Act.put, List.setIfInBounds_toArray, List.set_cons_zero, List.set_cons_succ]
          refine wpAnyH_take (i := 1) (oi := ⟨_, _, _, _, _, _⟩) (v := ?_) rfl (by kernel_rfl) (by kernel_rfl) (by kernel_rfl) (fun _ _ _ h => h) (Or.inl ⟨by rfl, ?_⟩) (by assumption) ?_
          rotate_left
          · intro w hSw; (try dsimp only at hSw); go_simp; (try (with_reducible rfl))
          try simp only [Act.put, List.setIfInBounds_toArray, List.set_cons_zero, List.set_cons_succ]
          refine wpAnyH_take (i := 2) (oi := ⟨_, _, _, _, _, _⟩) (v := ?_) rfl (by kernel_rfl) (by kernel_rfl) (by kernel_rfl) (fun _ _ _ h => h) (Or.inl ⟨by rfl, ?_⟩) (by assumption) ?_
          rotate_left
          · intro w hSw; (try dsimp only at hSw); go_simp; (try (with_reducible rfl))
          try simp only [Act.put, List.setIfInBounds_toArray, List.set_cons_zero, List.set_cons_succ]
          refine wpAnyH_take (i := 3) (oi := ⟨_, _, _, _, _, _⟩) (v := ?_) rfl (by kernel_rfl) (by kernel_rfl) (by kernel_rfl) (fun _ _ _ h => h) (Or.inl ⟨by rfl, ?_⟩) (by assumption) ?_
          rotate_left
          · intro w hSw; (try dsimp only at hSw); go_simp; (try (with_reducible rfl))
          try simp only [Act.put, List.setIfInBounds_toArray, List.set_cons_zero, List.set_cons_succ]
          refine wpAnyH_take (i := 4) (oi := ⟨_, _, _, _, _, _⟩) (v := ?_) rfl (by kernel_rfl) (by kernel_rfl) (by kernel_rfl) (fun _ _ _ h => h) (Or.inl ⟨by rfl, ?_⟩) (by assumption) ?_
          rotate_left
          · intro w hSw; (try dsimp only at hSw); go_simp; (try (with_reducible rfl))
          try simp only [Act.put, List.setIfInBounds_toArray, List.set_cons_zero, List.set_cons_succ]
          refine wpAnyH_take (i := 5) (oi := ⟨_, _, _, _, _, _⟩) (v := ?_) rfl (by kernel_rfl) (by kernel_rfl) (by kernel_rfl) (fun _ _ _ h => h) (Or.inl ⟨by rfl, ?_⟩) (by assumption) ?_
          rotate_left
          · intro w hSw; (try dsimp only at hSw); go_simp; (try (with_reducible rfl))
          try simp only [Act.put, List.setIfInBounds_toArray, List.set_cons_zero, List.set_cons_succ]
          refine wpAnyH_take (i := 6) (oi := ⟨_, _, _, _, _, _⟩) (v := ?_) rfl (by kernel_rfl) (by kernel_rfl) (by kernel_rfl) (fun _ _ _ h => h) (Or.inl ⟨by rfl, ?_⟩) (by assumption) ?_
          rotate_left
          · intro w hSw; (try dsimp only at hSw); go_simp; (try (with_reducible rfl))
          try simp only [Act.put, List.setIfInBounds_toArray, List.set_cons_zero, List.set_cons_succ]
          have u0 := Q1.cell 0
          have u1 := Q1.cell 1
          have u2 := Q1.cell 2
          have u3 := Q1.cell 3
          have u4 := Q1.cell 4
          simp only [List.getElem?_cons_zero, List.getElem?_cons_succ] at u0 u1 u2 u3 u4
          have v1 := Q1.frozen 1
          have v2 := Q1.frozen 2
          have Q2 := (Q1.set_ 1 (.bool true))
          have hbY := hbX.setCell (p := ⟨g2, 1, none⟩) hg2 (.bool true)
          have P2 := P1.other hgg 1 (.bool true)
          have fY := (hbY.cell (p := ⟨bt, ot + 1, none⟩) hbt).trans f1
          simp only [List.set_cons_zero, List.set_cons_succ] at Q2
          refine wpAnyH_ready (rs := [7]) (by kernel_rfl) (by simp) ?_
          refine AllReadyH.cons (o := ⟨_, _, _, _, _, _⟩) rfl (fun K hK => ?_) AllReadyH.nil
          go_simp
          generalize X.setCell ⟨g2, 1, none⟩ (.bool true) = Y at *
          refine hK.out _ _ fY (fun hHeld => ?_)
          clear hK K
          try simp only [Act.put, List.setIfInBounds_toArray, List.set_cons_zero, List.set_cons_succ]
          refine wpAnyH_take (i := 8) (oi := ⟨_, _, _, _, _, _⟩) (v := ?_) rfl (by kernel_rfl) (by kernel_rfl) (by kernel_rfl) (fun _ _ _ h => h) (Or.inl ⟨by rfl, ?_⟩) (by assumption) ?_
          rotate_left
          · intro w hSw; (try dsimp only at hSw); go_simp; (try (with_reducible rfl))
          try simp only [Act.put, List.setIfInBounds_toArray, List.set_cons_zero, List.set_cons_succ]
          have y2 := Q2.cell 2
          have y3 := Q2.frozen 2
          have Q3 := (Q2.set_ 2 (.string f.2))
          have hbZ := hbY.setCell (p := ⟨g2, 2, none⟩) hg2 (.string f.2)
          have P3 := P2.other hgg 2 (.string f.2)
          have fZ := (hbZ.cell (p := ⟨bt, ot + 1, none⟩) hbt).trans f1
          simp only [List.set_cons_zero, List.set_cons_succ, List.getElem?_cons_zero, List.getElem?_cons_succ] at Q3 y2
          refine wpAnyH_ready (rs := [9]) (by kernel_rfl) (by simp) ?_
          refine AllReadyH.cons (o := ⟨_, _, _, _, _, _⟩) rfl (fun K hK => ?_) AllReadyH.nil
          go_simp
          generalize Y.setCell ⟨g2, 2, none⟩ (.string f.2) = Z at *
          refine hK.out _ _ fZ (fun hHeld => ?_)
          clear hK K
          try simp only [Act.put, List.setIfInBounds_toArray, List.set_cons_zero, List.set_cons_succ]
          refine wpAnyH_take (i := 10) (oi := ⟨_, _, _, _, _, _⟩) (v := ?_) rfl (by kernel_rfl) (by kernel_rfl) (by kernel_rfl) (fun _ _ _ h => h) (Or.inl ⟨by rfl, ?_⟩) (by assumption) ?_
          rotate_left
          · intro w hSw; (try dsimp only at hSw); go_simp; (try (with_reducible rfl))
          try simp only [Act.put, List.setIfInBounds_toArray, List.set_cons_zero, List.set_cons_succ]
          refine wpAnyH_done (by kernel_rfl) ?_ _
          clear hHeld u0 u1 u2 u3 u4 v1 v2 Q1 Q2 P1 P2 hbX hbY fY fZ y2 y3
          have r0 := P3.cell 0
          have r1 := P3.cell 1
          have r2 := P3.cell 2
          have r3 := P3.cell 3
          have r4 := P3.cell 4
          simp only [List.getElem?_cons_zero, List.getElem?_cons_succ] at r0 r1 r2 r3 r4
          have s0 := Q3.cell 0
          have s1 := Q3.cell 1
          have s2 := Q3.cell 2
          have s3 := Q3.cell 3
          have s4 := Q3.cell 4
          simp only [List.getElem?_cons_zero, List.getElem?_cons_succ] at s0 s1 s2 s3 s4
          have hJy := hJ' _ _ _ none hJp (grown_below (row := none) hbZ) (by simp)
          have hbz := hb.trans (hbZ.mono hb.size)
          obtain ⟨fn, tmps, assign, body, hy, hR⟩ := hY _ ⟨(_, _), hsx⟩ _ hJy (by omega)
          simp only [kept, fresh, noS, eA] at hy
          clear hJy hbZ
          gi_wp2
          refine hR.mono ?_
          rintro ee W3 (⟨rfl, hJ3, hk3⟩ | ⟨rfl, hJx3⟩)
          · have hb3 := hbz.trans hk3
            clear hk3 hy hR
            gi_wp2
            go_roundw
            case rel => exact ⟨_, zs', e :: el, t, _, B2, c', d' - 1, by rw [← HN1'.out]; rfl, rfl, hr1, hrB, by have hh1 := HN1'.out; have hh2 := HM1'.out; (first | omega | (simp; done) | (simp; omega)), by have hh1 := HN1'.out; have hh2 := HM1'.out; (first | omega | (simp; done) | (simp; omega)), hid (by rw [HY.out]; simp), HZ', by have hh1 := HN1'.out; have hh2 := HM1'.out; (first | omega | (simp; done) | (simp; omega)), hb3, hJ3⟩
            case measure => have hh1 := HN1'.out; have hh2 := HM1'.out; simp [sliceLen]; omega
          · gi_wp2
            refine bodyPost_ret (results_none rfl _ _ _) rfl ?_
            exact ⟨⟨_, rfl⟩, .inr ⟨_, ⟨zs', by rw [HY.out]; simp⟩, hJx3⟩⟩
        | false =>
          have HP : Hid (lesP (e :: el) (f :: t) = e.path) := by show _ = _; rw [lesP, if_neg (by simp [hlt])]
          have hne : (f.1.toList == e.path.toList) = false := by rw [str_eqb]; exact decide_eq_false (Ne.symm hef)
          have c0 := lesser_any (c := c') (d := d') (es := (e :: el)) rfl (hr1.below hb) (fs := (f :: t)) rfl (hr2'.below hb) (by simp)
          rw [show lesP (e :: el) (f :: t) = e.path from HP.out] at c0
          obtain ⟨A2, hsA, hrA⟩ := ent_tail hr1 hc1
          obtain ⟨bl, ol, rfl, e0, e1, e2, e3, e4, hbl⟩ := (hr1.below hb).ent (j := 0) (by simp)
          simp only [List.getElem_cons_zero, Nat.zero_mul, Nat.add_zero] at e0 e1 e2 e3 e4
          obtain ⟨B2, hsB, hrB⟩ := fil_tail hr2' hc2'
          obtain ⟨bt, ot, rfl, f0, f1, hbt⟩ := (hr2'.below hb).fil (j := 0) (by simp)
          simp only [List.getElem_cons_zero, Nat.zero_mul, Nat.add_zero] at f0 f1
          obtain ⟨x, zs', rfl, hx, hz⟩ := List.map_eq_cons_iff.1 (HZ.out.trans (bothL_gt hef hlt el t))
          obtain ⟨⟨wx, ix⟩, hsx⟩ := x
          simp only [Prod.mk.injEq] at hx
          obtain ⟨rfl, rfl⟩ := And.intro hx.1.symm hx.2.symm
          have HZ' := hid hz
          clear hz HZ
          simp only [List.length_cons] at *
          have hn1 : 0 < el.length + 1 := by omega
          generalize HN1 : el.length + 1 = n1 at *
          have HN1' := hid HN1
          clear HN1
          have hm1 : 0 < t.length + 1 := by omega
          generalize HM1 : t.length + 1 = m1 at *
          have HM1' := hid HM1
          clear HM1
          gi_wp2_with (refine ⟨trivial, ?_⟩; gi_at_call 93; refine (callsIn_wide.2 c0).mono ?_; rintro ee w1 ⟨rfl, hb1⟩; have e0' := fun o => ((hb1.alloc hb1.size o).cell (p := ⟨bl, ol, none⟩) hbl).trans e0)
          clear c0
          have p0 := Blk.new w1 [.string e.path, .bool false, .string ⟨#[]⟩, .int .i64 0, .int .i64 0] 34
          have hbw : Below wr.heap.size wr (w1.alloc (.cells #[.string e.path, .bool false, .string ⟨#[]⟩, .int .i64 0, .int .i64 0] 34)) := hb1.alloc hb1.size _
          have hg : wr.heap.size ≤ w1.heap.size := hb1.size
          obtain ⟨X1, hX1⟩ : ∃ X1, w1.alloc (.cells #[.string e.path, .bool false, .string ⟨#[]⟩, .int .i64 0, .int .i64 0] 34) = X1 := ⟨_, rfl⟩
          rw [hX1]
          rw [show Blk _ w1.heap.size _ _ = Blk X1 w1.heap.size [.string e.path, .bool false, .string ⟨#[]⟩, .int .i64 0, .int .i64 0] 34 from by rw [← hX1]] at p0
          rw [hX1] at hbw
          clear hX1 hb1
          have hsz1 := p0.lt
          generalize w1.heap.size = g at *
          have k0 := (hbw.cell (p := ⟨bl, ol, none⟩) hbl).trans e0
          have k1 := (hbw.cell (p := ⟨bl, ol + 1, none⟩) hbl).trans e1
          have k2 := (hbw.cell (p := ⟨bl, ol + 2, none⟩) hbl).trans e2
          have k3 := (hbw.cell (p := ⟨bl, ol + 3, none⟩) hbl).trans e3
          have k4 := (hbw.cell (p := ⟨bl, ol + 4, none⟩) hbl).trans e4
          refine wpIn_wide.2 ?_
          refine wp_region_held_drew (S := fun w' => w'.cell? ⟨bl, ol, none⟩ = some (.string e.path) ∧ w'.cell? ⟨bl, ol + 1, none⟩ = some (.bool e.has) ∧ w'.cell? ⟨bl, ol + 2, none⟩ = some (.string e.data) ∧ w'.cell? ⟨bl, ol + 3, none⟩ = some (.int .i64 e.l) ∧ w'.cell? ⟨bl, ol + 4, none⟩ = some (.int .i64 e.r)) (by kernel_rfl) ⟨k0, k1, k2, k3, k4⟩ (fun hHeld => ?_)
          have p0 := p0.drew
          have hbw := hbw.drew
          clear k0 k1 k2 k3 k4
          generalize X1.drew = X1 at *
          refine wpAnyH_take (i := 0) (oi := ⟨_, _, _, _, _, _⟩) (v := ?_) rfl (by kernel_rfl) (by kernel_rfl) (by kernel_rfl) (fun _ _ _ h => h) (Or.inl ⟨by rfl, ?_⟩) (by assumption) ?_
          rotate_left
          · intro w hSw; (try dsimp only at hSw); go_simp; (try (with_reducible rfl))
          try simp only [Act.put, List.setIfInBounds_toArray, List.set_cons_zero, List.set_cons_succ]
          refine wpAnyH_take (i := 1) (oi := ⟨_, _, _, _, _, _⟩) (v := ?_) rfl (by kernel_rfl) (by kernel_rfl) (by kernel_rfl) (fun _ _ _ h => h) (Or.inl ⟨by rfl, ?_⟩) (by assumption) ?_
          rotate_left
          · intro w hSw; (try dsimp only at hSw); go_simp; (try (with_reducible rfl))
          try simp only [Act.put, List.setIfInBounds_toArray, List.set_cons_zero, List.set_cons_succ]
          refine wpAnyH_take (i := 2) (oi := ⟨_, _, _, _, _, _⟩) (v := ?_) rfl (by kernel_rfl) (by kernel_rfl) (by kernel_rfl) (fun _ _ _ h => h) (Or.inl ⟨by rfl, ?_⟩) (by assumption) ?_
          rotate_left
          · intro w hSw; (try dsimp only at hSw); go_simp; (try (with_reducible rfl))
          try simp only [Act.put, List.setIfInBounds_toArray, List.set_cons_zero, List.set_cons_succ]
          refine wpAnyH_take (i := 3) (oi := ⟨_, _, _, _, _, _⟩) (v := ?_) rfl (by kernel_rfl) (by kernel_rfl) (by kernel_rfl) (fun _ _ _ h => h) (Or.inl ⟨by rfl, ?_⟩) (by assumption) ?_
          rotate_left
          · intro w hSw; (try dsimp only at hSw); go_simp; (try (with_reducible rfl))
          try simp only [Act.put, List.setIfInBounds_toArray, List.set_cons_zero, List.set_cons_succ]
          refine wpAnyH_take (i := 4) (oi := ⟨_, _, _, _, _, _⟩) (v := ?_) rfl (by kernel_rfl) (by kernel_rfl) (by kernel_rfl) (fun _ _ _ h => h) (Or.inl ⟨by rfl, ?_⟩) (by assumption) ?_
          rotate_left
          · intro w hSw; (try dsimp only at hSw); go_simp; (try (with_reducible rfl))
          try simp only [Act.put, List.setIfInBounds_toArray, List.set_cons_zero, List.set_cons_succ]
          have u0 := p0.cell 0
          have u1 := p0.cell 1
          have u2 := p0.cell 2
          have u3 := p0.cell 3
          have u4 := p0.cell 4
          simp only [List.getElem?_cons_zero, List.getElem?_cons_succ] at u0 u1 u2 u3 u4
          have v0 := p0.frozen 0
          have v1 := p0.frozen 1
          have v2 := p0.frozen 2
          have v3 := p0.frozen 3
          have v4 := p0.frozen 4
          have p1 : Blk (((((X1.setCell ⟨g, 0, none⟩ (.string e.path)).setCell ⟨g, 1, none⟩ (.bool e.has)).setCell ⟨g, 2, none⟩ (.string e.data)).setCell ⟨g, 3, none⟩ (.int .i64 e.l)).setCell ⟨g, 4, none⟩ (.int .i64 e.r)) g [.string e.path, .bool e.has, .string e.data, .int .i64 e.l, .int .i64 e.r] 34 := ((((p0.set_ 0 (.string e.path)).set_ 1 (.bool e.has)).set_ 2 (.string e.data)).set_ 3 (.int .i64 e.l)).set_ 4 (.int .i64 e.r)
          have hbw1 : Below wr.heap.size wr (((((X1.setCell ⟨g, 0, none⟩ (.string e.path)).setCell ⟨g, 1, none⟩ (.bool e.has)).setCell ⟨g, 2, none⟩ (.string e.data)).setCell ⟨g, 3, none⟩ (.int .i64 e.l)).setCell ⟨g, 4, none⟩ (.int .i64 e.r)) := ((((hbw.setCell (p := ⟨g, 0, none⟩) hg _).setCell (p := ⟨g, 1, none⟩) hg _).setCell (p := ⟨g, 2, none⟩) hg _).setCell (p := ⟨g, 3, none⟩) hg _).setCell (p := ⟨g, 4, none⟩) hg _
          generalize HX2 : ((((X1.setCell ⟨g, 0, none⟩ (.string e.path)).setCell ⟨g, 1, none⟩ (.bool e.has)).setCell ⟨g, 2, none⟩ (.string e.data)).setCell ⟨g, 3, none⟩ (.int .i64 e.l)).setCell ⟨g, 4, none⟩ (.int .i64 e.r) = X2 at p1 hbw1
          have m0 := (hbw1.cell (p := ⟨bl, ol, none⟩) hbl).trans e0
          have m1 := (hbw1.cell (p := ⟨bl, ol + 1, none⟩) hbl).trans e1
          have m2 := (hbw1.cell (p := ⟨bl, ol + 2, none⟩) hbl).trans e2
          have m3 := (hbw1.cell (p := ⟨bl, ol + 3, none⟩) hbl).trans e3
          have m4 := (hbw1.cell (p := ⟨bl, ol + 4, none⟩) hbl).trans e4
          refine wpAnyH_ready (rs := [5]) (by kernel_rfl) (by simp) ?_
          refine AllReadyH.cons (o := ⟨_, _, _, _, _, _⟩) rfl (fun K hK => ?_) AllReadyH.nil
          go_simp
          refine hK.out _ _ ⟨m0, m1, m2, m3, m4⟩ (fun hHeld => ?_)
          clear hK K
          try simp only [Act.put, List.setIfInBounds_toArray, List.set_cons_zero, List.set_cons_succ]
          refine wpAnyH_take (i := 6) (oi := ⟨_, _, _, _, _, _⟩) (v := ?_) rfl (by kernel_rfl) (by kernel_rfl) (by kernel_rfl) (fun _ _ _ h => h) (Or.inl ⟨by rfl, ?_⟩) (by assumption) ?_
          rotate_left
          · intro w hSw; (try dsimp only at hSw); go_simp; (try (with_reducible rfl))
          try simp only [Act.put, List.setIfInBounds_toArray, List.set_cons_zero, List.set_cons_succ]
          refine wpAnyH_done (by kernel_rfl) ?_ _
          clear hHeld HX2 p0 hbw u0 u1 u2 u3 u4 v0 v1 v2 v3 v4 m0 m1 m2 m3 m4
          have q0 := p1.cell 0
          have q1 := p1.cell 1
          have q2 := p1.cell 2
          have q3 := p1.cell 3
          have q4 := p1.cell 4
          simp only [List.getElem?_cons_zero, List.getElem?_cons_succ] at q0 q1 q2 q3 q4
          have hgX := p1.lt
          have f0'' := fun o => ((hbw1.alloc hbw1.size o).cell (p := ⟨bt, ot, none⟩) hbt).trans f0
          have hbZ : Below wr.heap.size wr (X2.alloc (.cells #[.string e.path, .bool false, .string ⟨#[]⟩, .int .i64 e.l, .int .i64 e.r] 34)) := hbw1.alloc hbw1.size _
          have hJy := hJ' _ _ _ none hJp (grown_below (row := none) hbZ) (by simp)
          have hbz := hb.trans (hbZ.mono hb.size)
          obtain ⟨fn, tmps, assign, body, hy, hR⟩ := hY _ ⟨(_, _), hsx⟩ _ hJy (by omega)
          simp only [gone, noS, eA] at hy
          clear hJy hbZ
          gi_wp2
          refine hR.mono ?_
          rintro ee W3 (⟨rfl, hJ3, hk3⟩ | ⟨rfl, hJx3⟩)
          · have hb3 := hbz.trans hk3
            clear hk3 hy hR
            gi_wp2
            go_roundw
            case rel => exact ⟨_, zs', el, f :: t, A2, _, c' - 1, d', rfl, by rw [← HM1'.out]; rfl, hrA, hr2', by have hh1 := HN1'.out; have hh2 := HM1'.out; (first | omega | (simp; done) | (simp; omega)), by have hh1 := HN1'.out; have hh2 := HM1'.out; (first | omega | (simp; done) | (simp; omega)), hid (by rw [HY.out]; simp), HZ', by have hh1 := HN1'.out; have hh2 := HM1'.out; (first | omega | (simp; done) | (simp; omega)), hb3, hJ3⟩
            case measure => have hh1 := HN1'.out; have hh2 := HM1'.out; simp [sliceLen]; omega
          · gi_wp2
            refine bodyPost_ret (results_none rfl _ _ _) rfl ?_
            exact ⟨⟨_, rfl⟩, .inr ⟨_, ⟨zs', by rw [HY.out]; simp⟩, hJx3⟩⟩
/-- The pairs, each with its sizes. -/
def bothT (es : List Ent) (fs : List Fil) (h : ∀ p ∈ bothL es fs, SzE p.2) : List S2 := (bothL es fs).pmap (fun p hp => ⟨p, hp⟩) h
theorem bothT_val (es : List Ent) (fs : List Fil) (h : ∀ p ∈ bothL es fs, SzE p.2) : (bothT es fs h).map (·.1) = bothL es fs := by simp [bothT, List.map_pmap]
theorem both_sz {es : List Ent} {fs : List Fil} (h1 : ∀ e ∈ es, SzE e) (h2 : ∀ f ∈ fs, SzF f) : ∀ p ∈ bothL es fs, SzE p.2 := by
  intro p hp
  have hP := both_pair es fs p hp
  have hpath : p.2.path.size < 4294967281 := by
    rw [hP.path]
    rcases hP.was with h | ⟨h, h3⟩
    · exact (h1 _ h).1
    · have := (h2 _ (hP.is h3)).1
      rw [← hP.path]; exact this
  refine ⟨hpath, ?_⟩
  cases hh : p.2.has with
  | true => exact (h2 _ (hP.is hh)).2
  | false => rw [hP.none hh]; exact Nat.zero_le _
theorem both_stops (k : Nat) (hk : 1 ≤ k) (Bl Bt : Nat) (w0 w : World) (A B : Option Addr) (n c m d : Nat) (es : List Ent) (fs : List Fil) (hl : es.length = n) (hr : Rd w0 A (entV es)) (hc : n ≤ c) (hl2 : fs.length = m) (hr2 : Rd w0 B (filV fs)) (hc2 : m ≤ d)
    (hsz : ∀ p ∈ bothL es fs, SzE p.2) (hBl : Bl < w.heap.size) (hB : w.cell? ⟨Bl, 0, none⟩ = some (.slice A n c)) (hBt : Bt < w.heap.size) (hB2 : w.cell? ⟨Bt, 0, none⟩ = some (.slice B m d)) (hw : Below w0.heap.size w0 w) :
    SeqStopsK Fence.wide k Tryz.prog 92 #[.pointer (some ⟨Bl, 0, none⟩), .pointer (some ⟨Bt, 0, none⟩)] (fun x : S2 => #[eA x.1.1, eA x.1.2]) (Below w0.heap.size) (fun ys => ys = bothT es fs hsz) (fun pre => pre <+: bothT es fs hsz) (n + m) w := fun l J Jx W hW hJ _ hY h0 =>
  both1_in k hk l Bl Bt w0 A B n c m d es fs hl hr hc hl2 hr2 hc2 (bothT es fs hsz) (bothT_val es fs hsz) J Jx W hJ hY ((hW.cell (p := ⟨Bl, 0, none⟩) hBl).trans hB) ((hW.cell (p := ⟨Bt, 0, none⟩) hBt).trans hB2) (hw.trans (hW.mono hw.size)) h0
end Go.Proofs.YtlmccjdpmhancaaGreatDoor
