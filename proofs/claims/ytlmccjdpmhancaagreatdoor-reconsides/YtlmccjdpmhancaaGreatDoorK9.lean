/- The texts Ji, Jj, Jf, Rst, Jg, in one. -/
import Derived.Test.YtlmccjdpmhancaaGreatDoorK8
import Derived.Laws.StructEq
import Derived.Deep.RegionHeld3
namespace Go.Proofs.YtlmccjdpmhancaaGreatDoor
open Go.RowKit

theorem eqF (f g : Fil) (w : World) : (binOp .eql 57 (.agg #[.string f.1, .string f.2]) (.agg #[.string g.1, .string g.2])).run Tryz.prog w = .ok (.bool (decide (f = g))) w := by
  have u9 := Tryz.underlying9
  have a9 := Tryz.isAgg9
  have z9 := Tryz.sizeOf9
  have hS : Tryz.prog.underlying 57 = some (.struct (Tryz.prog.fieldsOf 57)) := by kernel_rfl
  have hp : Tryz.prog.stoodInHeld 57 = false := by kernel_rfl
  rw [run_eql_struct, show (10000 : Nat) = 9999 + 1 from rfl, run_equalIn_agg w 9999 57 _ _ hS hp]
  simp only [Program.fieldsOf, Tryz.underlying57]
  go_simp
  have inj : ∀ {a b : ByteArray}, a.toList = b.toList → a = b := fun h => data_inj (by rw [← Lib.toList_data, ← Lib.toList_data]; exact h)
  by_cases h1 : f.1.toList = g.1.toList
  · by_cases h2 : f.2.toList = g.2.toList
    · have e : f = g := Prod.ext (inj h1) (inj h2)
      rw [if_pos h1, if_pos h2, decide_eq_true e]
    · have e : f ≠ g := fun e => h2 (by rw [e])
      rw [if_pos h1, if_neg h2, decide_eq_false e]
  · have e : f ≠ g := fun e => h1 (by rw [e])
    rw [if_neg h1, decide_eq_false e]

set_option maxHeartbeats 400000 in
theorem plan1_any (bx : Nat) (g : Fil) (p : ByteArray) (W : World) (hx : W.cell? ⟨bx, 0, none⟩ = some (.string p)) :
    Calls Tryz.prog 44 (#[.agg #[.string g.1, .string g.2]] ++ #[.pointer (some ⟨bx, 0, none⟩)]) W fun x w' => x = .returned (.bool (decide (g.1 = p))) ∧ Below W.heap.size W w' := by
  obtain ⟨x, d⟩ := g
  have hb := World.block_lt_of_cell? _ _ hx
  have HE := hid (str_eqb x p)
  go_enter Tryz.func44, Tryz.ntmps44
  go_wp2
  go_ret
  exact ⟨ret_bool HE.out, by go_grown⟩

set_option maxHeartbeats 1000000 in
theorem idxQ_any (bx : Nat) (A : Option Addr) (n c : Nat) (fs : List Fil) (p : ByteArray) (w : World) (hl : fs.length = n) (hx : w.cell? ⟨bx, 0, none⟩ = some (.string p)) (hr : Rd w A (filV fs)) (hn : n ≤ 140737488355328) :
    Calls Tryz.prog 82 #[.slice A n c, .func (.func 44) #[] #[.pointer (some ⟨bx, 0, none⟩)]] w (IdxPost w (fs.any fun g => decide (g.1 = p))) := by
  have eg := enters_of Tryz.func44 (by kernel_rfl) rfl
  have hbx := World.block_lt_of_cell? _ _ hx
  have HL := hid hl
  clear hl
  go_enter Tryz.func82, Tryz.ntmps82
  go_wp2_with fail
  go_loopw [8] (fun i wr => ∃ j : Nat, j ≤ n ∧ i = .int .i64 j ∧ Hid ((fs.take j).any (fun g => decide (g.1 = p)) = false) ∧ Below w.heap.size w wr) (fun i _ => n - (intOf i).toNat)
  case atStart => exact ⟨0, by omega, rfl, by simp [Hid], Below.refl _ _⟩
  case round =>
    obtain ⟨j, hj, rfl, HO, hb⟩ := hrel
    by_cases hjn : j < n
    · have hjl : j < fs.length := by rw [HL.out]; exact hjn
      obtain ⟨b, off, rfl, h1, h2, -⟩ := (hr.below hb).fil hjl
      have HK := hid (any_take_step (fun g => decide (g.1 = p)) fs j hjl)
      have HM := hid (List.getElem_mem hjl)
      have hx1 := (hb.cell (p := ⟨bx, 0, none⟩) hbx).trans hx
      have cc := plan1_any bx fs[j] p wr hx1
      generalize fs[j] = g at *
      have hz : (0 : Int) ≤ j := by omega
      have hlt : (j : Int) < n := by omega
      go_wp2_with fail
      refine cc.mono ?_
      rintro e w1 ⟨rfl, hb1'⟩
      have hb1 := below2 hb hb1'
      clear cc hb hb1' hx1
      cases hq : (decide (g.1 = p))
      · go_wp2
        go_roundw
        case rel => exact ⟨j + 1, by omega, by go_num, hid (by rw [HK.out, HO.out, hq]; rfl), hb1⟩
        case measure => simp [intOf]; omega
      · have HQ := hid hq
        clear hq
        go_wp2
        go_ret
        refine ⟨j, rfl, ?_, hb1⟩
        rw [decide_eq_true hz]
        exact (List.any_eq_true.2 ⟨g, HM.out, HQ.out⟩).symm
    · have HE := hid (show j = n by omega)
      have hnlt : ¬ (j : Int) < n := by omega
      go_wp2
      go_ret
      refine ⟨-1, rfl, ?_, hb⟩
      have ho := HO.out
      rw [HE.out, ← HL.out, List.take_length] at ho
      rw [ho]; rfl

set_option maxHeartbeats 400000 in
theorem contQ_any (bx : Nat) (A : Option Addr) (n c : Nat) (fs : List Fil) (p : ByteArray) (w : World) (hl : fs.length = n) (hx : w.cell? ⟨bx, 0, none⟩ = some (.string p)) (hr : Rd w A (filV fs)) (hn : n ≤ 140737488355328) :
    Calls Tryz.prog 43 #[.slice A n c, .func (.func 44) #[] #[.pointer (some ⟨bx, 0, none⟩)]] w fun x w' => x = .returned (.bool (fs.any (fun g => decide (g.1 = p)))) ∧ Below w.heap.size w w' := by
  have c0 := idxQ_any bx A n c fs p w hl hx hr hn
  clear hl hx hr
  generalize fs.any (fun g => decide (g.1 = p)) = b at *
  go_enter Tryz.func43, Tryz.ntmps43
  go_wp2_with fail
  refine c0.mono ?_
  rintro e w1 ⟨z, rfl, hz, hb1⟩
  clear c0
  have HZ := hid hz
  clear hz
  go_wp2
  go_ret
  exact ⟨ret_bool HZ.out, hb1⟩

set_option maxHeartbeats 1000000 in
theorem idxV_any (A : Option Addr) (n c : Nat) (fs : List Fil) (f : Fil) (w : World) (hl : fs.length = n) (hr : Rd w A (filV fs)) (hn : n ≤ 140737488355328) :
    Calls Tryz.prog 83 #[.slice A n c, .agg #[.string f.1, .string f.2]] w (IdxPost w (fs.any fun g => decide (f = g))) := by
  have HL := hid hl
  have hal : ∀ (W : World) (o : Obj), Below W.heap.size W (W.alloc o) := fun W o => (Below.refl _ _).alloc (Nat.le_refl _) o
  have P0 := Blk.new w [.string f.1, .string f.2] 57
  have b0 := hal w (.cells #[.string f.1, .string f.2] 57)
  clear hl
  go_enter Tryz.func83, Tryz.ntmps83
  go_wp2_with fail
  go_loopw [8] (fun i wr => ∃ j : Nat, j ≤ n ∧ i = .int .i64 j ∧ Hid ((fs.take j).any (fun g => decide (f = g)) = false) ∧ Blk wr w.heap.size [.string f.1, .string f.2] 57 ∧ Below w.heap.size w wr) (fun i _ => n - (intOf i).toNat)
  case atStart => exact ⟨0, by omega, rfl, by simp [Hid], Blk.new w [.string f.1, .string f.2] 57, b0⟩
  case round =>
    obtain ⟨j, hj, rfl, HO, pk, hb⟩ := hrel
    by_cases hjn : j < n
    · have hjl : j < fs.length := by rw [HL.out]; exact hjn
      obtain ⟨b, off, rfl, h1, h2, -⟩ := (hr.below hb).fil hjl
      have HK := hid (any_take_step (fun g => decide (f = g)) fs j hjl)
      have HM := hid (List.getElem_mem hjl)
      have c1 := pk.cell 0
      have c2 := pk.cell 1
      simp only [List.getElem?_cons_zero, List.getElem?_cons_succ] at c1 c2
      generalize fs[j] = g at *
      have hz : (0 : Int) ≤ j := by omega
      have hlt : (j : Int) < n := by omega
      have hep := eqF f g
      have hb1 := hb.drew
      go_wp2_with fail
      refine wp_region_held_drew (S := fun w' => (w'.cell? ⟨w.heap.size, 0, none⟩ = some (.string f.1) ∧ w'.cell? ⟨w.heap.size, 1, none⟩ = some (.string f.2)) ∧ w'.cell? ⟨b, off + j * 2, none⟩ = some (.string g.1) ∧ w'.cell? ⟨b, off + j * 2 + 1, none⟩ = some (.string g.2)) (by kernel_rfl) ⟨⟨c1, c2⟩, h1, h2⟩ (fun hHeld => ?_)
      refine wpAnyH_take (i := 0) (oi := ⟨_, _, _, _, _, _⟩) (v := ?_) rfl (by kernel_rfl) (by kernel_rfl) (by kernel_rfl) (fun _ _ _ h => h) (Or.inl ⟨by rfl, ?_⟩) (by assumption) ?_
      rotate_left
      · intro w hSw; (try dsimp only at hSw); go_simp; (try (with_reducible rfl))
      try simp only [Act.put, List.setIfInBounds_toArray, List.set_cons_zero, List.set_cons_succ]
      refine wpAnyH_take (i := 1) (oi := ⟨_, _, _, _, _, _⟩) (v := ?_) rfl (by kernel_rfl) (by kernel_rfl) (by kernel_rfl) (fun _ _ _ h => h) (Or.inl ⟨by rfl, ?_⟩) (by assumption) ?_
      rotate_left
      · intro w hSw; (try dsimp only at hSw); go_simp; (try (with_reducible rfl))
      try simp only [Act.put, List.setIfInBounds_toArray, List.set_cons_zero, List.set_cons_succ]
      refine wpAnyH_take (i := 2) (oi := ⟨_, _, _, _, _, _⟩) (v := ?_) rfl (by kernel_rfl) (by kernel_rfl) (by kernel_rfl) (fun _ _ _ h => h) (Or.inl ⟨by rfl, ?_⟩) (by assumption) ?_
      rotate_left
      · intro w hSw; (try dsimp only at hSw); go_simp; (try (with_reducible rfl))
      try simp only [Act.put, List.setIfInBounds_toArray, List.set_cons_zero, List.set_cons_succ]
      refine wpAnyH_take (i := 3) (oi := ⟨_, _, _, _, _, _⟩) (v := ?_) rfl (by kernel_rfl) (by kernel_rfl) (by kernel_rfl) (fun _ _ _ h => h) (Or.inl ⟨by rfl, ?_⟩) (by assumption) ?_
      rotate_left
      · intro w hSw; (try dsimp only at hSw); go_simp; (try (with_reducible rfl))
      try simp only [Act.put, List.setIfInBounds_toArray, List.set_cons_zero, List.set_cons_succ]
      refine wpAnyH_take (i := 4) (oi := ⟨_, _, _, _, _, _⟩) (v := ?_) rfl (by kernel_rfl) (by kernel_rfl) (by kernel_rfl) (fun _ _ _ h => h) (Or.inl ⟨by rfl, ?_⟩) (by assumption) ?_
      rotate_left
      · intro w hSw; (try dsimp only at hSw); go_simp; (try (with_reducible rfl))
      try simp only [Act.put, List.setIfInBounds_toArray, List.set_cons_zero, List.set_cons_succ]
      refine wpAnyH_take (i := 5) (oi := ⟨_, _, _, _, _, _⟩) (v := ?_) rfl (by kernel_rfl) (by kernel_rfl) (by kernel_rfl) (fun _ _ _ h => h) (Or.inl ⟨by rfl, ?_⟩) (by assumption) ?_
      rotate_left
      · intro w hSw; (try dsimp only at hSw); go_simp; (try (with_reducible rfl))
      try simp only [Act.put, List.setIfInBounds_toArray, List.set_cons_zero, List.set_cons_succ]
      refine wpAnyH_done (by kernel_rfl) ?_ _
      clear hHeld hep
      cases hq : (decide (f = g))
      · go_wp2
        go_roundw
        case rel => exact ⟨j + 1, by omega, by go_num, hid (by rw [HK.out, HO.out, hq]; rfl), pk.drew, hb1⟩
        case measure => simp [intOf]; omega
      · have HQ := hid hq
        clear hq
        go_wp2
        go_ret
        refine ⟨j, rfl, ?_, hb1⟩
        rw [decide_eq_true hz]
        exact (List.any_eq_true.2 ⟨g, HM.out, HQ.out⟩).symm
    · have HE := hid (show j = n by omega)
      have hnlt : ¬ (j : Int) < n := by omega
      go_wp2
      go_ret
      refine ⟨-1, rfl, ?_, hb⟩
      have ho := HO.out
      rw [HE.out, ← HL.out, List.take_length] at ho
      rw [ho]; rfl

set_option maxHeartbeats 400000 in
theorem contV_any (A : Option Addr) (n c : Nat) (fs : List Fil) (f : Fil) (w : World) (hl : fs.length = n) (hr : Rd w A (filV fs)) (hn : n ≤ 140737488355328) :
    Calls Tryz.prog 45 #[.slice A n c, .agg #[.string f.1, .string f.2]] w fun x w' => x = .returned (.bool (fs.any (fun g => decide (f = g)))) ∧ Below w.heap.size w w' := by
  have c0 := idxV_any A n c fs f (w.alloc (.cells #[.string f.1, .string f.2] 57)) hl (hr.alloc _) hn
  clear hl hr
  generalize fs.any (fun g => decide (f = g)) = b at *
  go_enter Tryz.func45, Tryz.ntmps45
  go_wp2_with fail
  refine c0.mono ?_
  rintro e w1 ⟨z, rfl, hz, hb1⟩
  clear c0
  have HZ := hid hz
  clear hz
  go_wp2
  go_ret
  exact ⟨ret_bool HZ.out, below_al _ hb1⟩

/-! ### Is a string there? -/
set_option maxHeartbeats 1000000 in
theorem idxT_any (B : Option Addr) (c : Nat) (l : List ByteArray) (p : ByteArray) (w : World) (hr : Rd w B (strV l)) (hn : l.length ≤ 1000000) :
    Calls Tryz.prog 85 #[.slice B l.length c, .string p] w (IdxPost w (l.any fun s => decide (p = s))) := by
  go_enter Tryz.func85, Tryz.ntmps85
  go_wp2_with fail
  go_loop [8] (fun i => ∃ j : Nat, j ≤ l.length ∧ i = .int .i64 j ∧ Hid ((l.take j).any (fun s => decide (p = s)) = false)) (fun i => l.length - (intOf i).toNat)
  case atStart => exact ⟨0, by omega, rfl, by simp [Hid]⟩
  case round =>
    obtain ⟨j, hj, rfl, HO⟩ := hrel
    by_cases hjn : j < l.length
    · obtain ⟨g, o, rfl, h1, -⟩ := str_at hr hjn
      have HK := hid (any_take_step (fun s => decide (p = s)) l j hjn)
      have HM := hid (List.getElem_mem hjn)
      have hsq := str_eqb p l[j]
      generalize l[j] = s at *
      have hz : (0 : Int) ≤ j := by omega
      have hlt : (j : Int) < l.length := by omega
      cases hq : decide (p = s) with
      | false =>
        rw [hq] at hsq
        have HK2 : Hid ((l.take (j + 1)).any (fun s => decide (p = s)) = false) := by show _ = _; rw [HK.out, HO.out, hq]; rfl
        clear HK HM HO hq
        go_wp2
        go_round
        case rel => exact ⟨j + 1, by omega, by go_num, HK2⟩
        case measure => simp [intOf]; omega
      | true =>
        rw [hq] at hsq
        have HQ : Hid (l.any (fun s => decide (p = s)) = true) := List.any_eq_true.2 ⟨s, HM.out, hq⟩
        clear HK HM HO hq
        go_wp2
        go_ret
        exact ⟨j, rfl, by rw [decide_eq_true hz, HQ.out], Below.refl _ _⟩
    · have HE := hid (show j = l.length by omega)
      have hnlt : ¬ (j : Int) < l.length := by omega
      have HQ : Hid (l.any (fun s => decide (p = s)) = false) := by have ho := HO.out; rw [HE.out, List.take_length] at ho; exact ho
      go_wp2
      go_ret
      exact ⟨-1, rfl, by rw [HQ.out]; rfl, Below.refl _ _⟩
set_option maxHeartbeats 400000 in
theorem contT_any (B : Option Addr) (c : Nat) (l : List ByteArray) (p : ByteArray) (w : World) (hr : Rd w B (strV l)) (hn : l.length ≤ 1000000) :
    Calls Tryz.prog 49 #[.slice B l.length c, .string p] w fun x w' => x = .returned (.bool (l.any fun s => decide (p = s))) ∧ Below w.heap.size w w' := by
  have c0 := idxT_any B c l p w hr hn
  clear hr
  generalize l.any (fun s => decide (p = s)) = b at *
  go_enter Tryz.func49, Tryz.ntmps49
  go_wp2_with fail
  refine c0.mono ?_
  rintro e w1 ⟨z, rfl, hz, hb1⟩
  clear c0
  have HZ := hid hz
  clear hz
  go_wp2
  go_ret
  exact ⟨ret_bool HZ.out, hb1⟩
end Go.Proofs.YtlmccjdpmhancaaGreatDoor
namespace Go.Proofs.YtlmccjdpmhancaaGreatDoor
open Go.RowKit

/-! ### Actions -/
abbrev Ac := ByteArray × Bool × ByteArray
def aV (a : Ac) : List Value := [.string a.1, .bool a.2.1, .string a.2.2]
def actV (l : List Ac) : List Value := l.flatMap aV
theorem actV_append (a b : List Ac) : actV (a ++ b) = actV a ++ actV b := by simp [actV]
theorem actV_one (l : List Ac) : ∀ u ∈ actV l, u.oneCell' = true := by
  intro u hu
  obtain ⟨a, -, ha⟩ := List.mem_flatMap.1 hu
  simp only [aV, List.mem_cons, List.not_mem_nil, or_false] at ha
  rcases ha with rfl | rfl | rfl <;> rfl
theorem actV_length (l : List Ac) : (actV l).length = l.length * 3 := by
  induction l with
  | nil => rfl
  | cons a l ih => rw [show actV (a :: l) = aV a ++ actV l from rfl, List.length_append, ih, List.length_cons]; simp [aV]; omega
theorem Tryz.infoA : (Tryz.prog.info? 55).map (fun i => (i.zero, i.size, i.bytes)) = some (some (.agg #[zS, .bool false, zS]), 3, 40) := by kernel_rfl
def dropsL (t u : List Fil) : List Ac := (t.filter fun f => !(u.any fun g => decide (g.1 = f.1))).map fun f => (f.1, false, noS)
def putsL (t u : List Fil) : List Ac := (u.filter fun f => !(t.any fun g => decide (f = g))).map fun f => (f.1, true, f.2)
def planL (t u : List Fil) : List Ac := dropsL t u ++ putsL t u
theorem drops_more (t u : List Fil) (j : Nat) (h : j < t.length) : dropsL (t.take (j + 1)) u = dropsL (t.take j) u ++ (if u.any (fun g => decide (g.1 = t[j].1)) then [] else [(t[j].1, false, noS)]) := by
  rw [dropsL, List.take_add_one, List.getElem?_eq_getElem h, List.filter_append, List.map_append, dropsL]
  congr 1
  simp only [Option.toList_some, List.filter_cons, List.filter_nil]
  cases u.any (fun g => decide (g.1 = t[j].1)) <;> rfl
theorem puts_more (t u : List Fil) (j : Nat) (h : j < u.length) : putsL t (u.take (j + 1)) = putsL t (u.take j) ++ (if t.any (fun g => decide (u[j] = g)) then [] else [(u[j].1, true, u[j].2)]) := by
  rw [putsL, List.take_add_one, List.getElem?_eq_getElem h, List.filter_append, List.map_append, putsL]
  congr 1
  simp only [Option.toList_some, List.filter_cons, List.filter_nil]
  cases t.any (fun g => decide (u[j] = g)) <;> rfl
theorem drops_len (t u : List Fil) : (dropsL t u).length ≤ t.length := by rw [dropsL, List.length_map]; exact List.length_filter_le _ _
theorem puts_len (t u : List Fil) : (putsL t u).length ≤ u.length := by rw [putsL, List.length_map]; exact List.length_filter_le _ _
def planN (t : List Fil) (es : List Ent) : Nat := if treeR t && archR es then 0 else 1
def planA (t : List Fil) (es : List Ent) : List Ac := if planN t es = 0 then planL t (treeE es) else []
def PlanPost (w : World) (t : List Fil) (es : List Ent) (e : Ending) (w' : World) : Prop :=
  ∃ A' c', e = .returned (.tuple #[.slice A' (planA t es).length c', .int .i64 (planN t es : Nat)]) ∧
    w'.ownsRow w.heap.size 55 3 (.slice A' (planA t es).length c') (planA t es).length (actV (planA t es)) ∧ Below w.heap.size w w'
theorem plan_err {w w' : World} {t : List Fil} {es : List Ent} (h : (treeR t && archR es) = false) (hb : Below w.heap.size w w') : PlanPost w t es (.returned (.tuple #[.slice none 0 0, .int .i64 1])) w' := by
  have e0 : planN t es = 1 := by unfold planN; rw [h]; rfl
  have e1 : planA t es = [] := by unfold planA; rw [e0, if_neg (by decide)]
  refine ⟨none, 0, ?_, ?_, hb⟩
  · rw [e1, e0]; rfl
  · rw [e1]; exact World.ownsRow_nil _ _ _ _
/-- One more action. -/
theorem app_act {W : World} {n₀ : Nat} {v : Value} {xs : List Ac} (hrow : W.ownsRow n₀ 55 3 v xs.length (actV xs)) (hn : n₀ ≤ W.heap.size) (hk : xs.length ≤ 1000000) (a : Ac) :
    ∃ A' c' w1, Hid ((Builtin.append_ #[38, 38] 38 #[v, .slice (some ⟨W.heap.size, 0, none⟩) 1 1]).run Tryz.prog (W.alloc (.cells #[.string a.1, .bool a.2.1, .string a.2.2] 55)) = .ok (.slice A' (xs ++ [a]).length c') w1) ∧ w1.ownsRow n₀ 55 3 (.slice A' (xs ++ [a]).length c') (xs ++ [a]).length (actV (xs ++ [a])) ∧ Below n₀ W w1 := by
  obtain ⟨A', c', w1, h1, h2, -, h4⟩ := app_own2 (n₀ := n₀) Tryz.underlying38 Tryz.infoA rfl (by decide) hrow hn (by omega) (by unfold maxLen; omega) (aV a) rfl (by intro u hu; exact actV_one [a] u (by simpa [actV] using hu))
  refine ⟨A', c', w1, ?_, ?_, h4⟩
  · rw [List.length_append, List.length_singleton]; exact h1
  · rw [List.length_append, List.length_singleton, actV_append]
    simpa [actV] using h2

set_option maxHeartbeats 4000000 in
theorem plan_any {w : World} {A B : Option Addr} {n c m d : Nat} {t : List Fil} {es : List Ent} (h : Ft w A n c t) (k : Et w B m d es) (hn : n ≤ 100000) (hme : m ≤ 100000) :
    Calls Tryz.prog 18 #[.slice A n c, .slice B m d] w (PlanPost w t es) := by
  have hmf : ∀ (fn : Fn) (first cap : Array Value) (w : World), (Instr.makeFunc fn first cap).run Tryz.prog w = .ok (.func fn first cap) w := fun _ _ _ _ => rfl
  have hal : ∀ (W : World) (o : Obj), Below W.heap.size W (W.alloc o) := fun W o => (Below.refl _ _).alloc (Nat.le_refl _) o
  go_enter Tryz.func18, Tryz.ntmps18
  go_wp2_with fail
  refine (tree_any h).mono ?_
  rintro e w1 ⟨rfl, b1⟩
  have h1 := h.below b1
  have k1 := k.below b1
  cases hR : treeR t with
  | false =>
    have HN : Hid ((treeR t && archR es) = false) := by show _ = _; rw [hR]; rfl
    clear hR
    go_wp2
    exact bodyPost_ret (v := .tuple #[.slice none 0 0, .int .i64 1]) (by simp [results, Tryz.results18, go_sem]) rfl (plan_err HN.out b1)
  | true =>
    go_wp2_with fail
    refine (archR_any k1).mono ?_
    rintro e w2 ⟨rfl, hb2⟩
    have b2 := below2 b1 hb2
    have h2 := h1.below hb2
    have k2 := k1.below hb2
    clear hb2 b1 h1 k1 h k
    cases hR2 : archR es with
    | false =>
      have HN : Hid ((treeR t && archR es) = false) := by show _ = _; rw [hR, hR2]; rfl
      clear hR hR2
      go_wp2
      exact bodyPost_ret (v := .tuple #[.slice none 0 0, .int .i64 1]) (by simp [results, Tryz.results18, go_sem]) rfl (plan_err HN.out b2)
    | true =>
      have HN : Hid (planN t es = 0) := by show _ = _; unfold planN; rw [hR, hR2]; rfl
      have HA : Hid (planA t es = planL t (treeE es)) := by show _ = _; unfold planA; rw [HN.out, if_pos rfl]
      have hfl : (treeE es).length ≤ m := by rw [treeE, hR2, if_pos rfl, ← k2.len]; exact filesOf_len es
      have hm : m ≤ 100000 := hme
      clear hR hR2
      go_wp2_with fail
      refine (treeE_any k2).mono ?_
      rintro e w3 ⟨U, du, rfl, u3, hb3⟩
      have b3 := below2 b2 hb3
      have h3 := h2.below hb3
      clear hb3 b2 h2 k2
      generalize treeE es = u at *
      have HL := hid h3.len
      have HSZ := hid h3.sz
      have HW := hid b3.size
      go_wp2_with fail
      go_loopw [6, 24] (fun v i wr => ∃ j : Nat, j ≤ n ∧ i = .int .i64 j ∧ wr.ownsRow w3.heap.size 55 3 v (dropsL (t.take j) u).length (actV (dropsL (t.take j) u)) ∧ Below w3.heap.size w3 wr) (fun _ i _ => n - (intOf i).toNat)
      case atStart => exact ⟨0, by omega, rfl, World.ownsRow_nil _ _ _ _, Below.refl _ _⟩
      case round =>
        obtain ⟨j, hj, rfl, o, b⟩ := hrel
        by_cases hjn : j < n
        · have hjl : j < t.length := by rw [HL.out]; exact hjn
          have hz : (0 : Int) ≤ j := by omega
          have hlt : (j : Int) < n := by omega
          obtain ⟨g, og, rfl, x1, x2, -⟩ := (h3.rd.below b).fil hjl
          have HT := hid (drops_more t u j hjl)
          have hpz : t[j].1.size ≤ 281474976710656 := by have := (HSZ.out _ (List.getElem_mem hjl)).1; omega
          have hdl : (dropsL (t.take j) u).length ≤ 100000 := by have := drops_len (t.take j) u; rw [List.length_take] at this; omega
          generalize dropsL (t.take j) u = out at *
          generalize t[j] = f at *
          have hal2 := hal wr (.cells #[.string f.1, .string f.2] 57)
          have pf := Blk.new wr [.string f.1, .string f.2] 57
          have o2 := own_below o hal2
          have b2 := b.trans (hal2.mono b.size)
          have u2 := (u3.below b).below hal2
          have cc := contQ_any wr.heap.size U u.length du u f.1 _ rfl (pf.cell 0) u2.rd (by omega)
          clear o hal2
          go_wp2_with fail
          refine cc.mono ?_
          rintro e w4 ⟨rfl, hb4⟩
          clear cc u2
          have pf4 := pf.below hb4
          have o4 := own_below o2 hb4
          have b4 := b2.trans (hb4.mono b2.size)
          have p0 := pf4.cell 0
          simp only [List.getElem?_cons_zero] at p0
          clear pf pf4 o2 b2 hb4 x1 x2
          cases hq : u.any (fun g => decide (g.1 = f.1)) with
          | true =>
            have HT2 : Hid (dropsL (t.take (j + 1)) u = out) := by show _ = _; rw [HT.out, hq]; simp
            clear HT hq
            go_wp2
            go_roundw
            case rel => exact ⟨j + 1, by omega, by go_num, by rw [HT2.out]; exact o4, b4⟩
            case measure => simp [intOf]; omega
          | false =>
            have HT2 : Hid (dropsL (t.take (j + 1)) u = out ++ [(f.1, false, noS)]) := by show _ = _; rw [HT.out, hq]; simp
            clear HT hq
            go_wp2_with fail
            refine (clone_any f.1 _ hpz).mono ?_
            rintro e w5 ⟨rfl, hb5⟩
            have o5 := own_below o4 hb5
            have b5 := b4.trans (hb5.mono b4.size)
            obtain ⟨A6, c6, w6, HRUN, o6, e6⟩ := app_act o5 b5.size (by omega) (f.1, false, noS)
            have b6 := b5.trans e6
            clear o4 o5 b4 b5 hb5 e6 p0
            go_wp2_with (at_builtin; refine Lib.wpList_append_run _ rfl _ _ _ _ rfl _ _ rfl rfl _ _ HRUN.out ?_)
            go_roundw
            case rel => exact ⟨j + 1, by omega, by go_num, by rw [HT2.out]; simpa using o6, b6⟩
            case measure => simp [intOf]; omega
        · have HE := hid (show j = n by omega)
          have hnlt : ¬ (j : Int) < n := by omega
          rw [HE.out, ← HL.out, List.take_length] at o
          have hdl : (dropsL t u).length ≤ 100000 := by have := drops_len t u; rw [HL.out] at this; omega
          have HA2 : Hid (planL t u = dropsL t u ++ putsL t u) := rfl
          obtain ⟨W1, rfl⟩ : ∃ W1, W1 = wr := ⟨_, rfl⟩
          generalize dropsL t u = ds at *
          go_wp2_with fail
          go_loopw [6, 42] (fun v i wr => ∃ k : Nat, k ≤ u.length ∧ i = .int .i64 k ∧ wr.ownsRow w3.heap.size 55 3 v (ds ++ putsL t (u.take k)).length (actV (ds ++ putsL t (u.take k))) ∧ Below w3.heap.size w3 wr) (fun _ i _ => u.length - (intOf i).toNat)
          case atStart => exact ⟨0, by omega, rfl, by rw [List.take_zero, show putsL t [] = [] from rfl, List.append_nil]; exact o, b⟩
          case round =>
            clear o b
            obtain ⟨k, hk, rfl, o, b⟩ := hrel
            by_cases hkn : k < u.length
            · have hz : (0 : Int) ≤ k := by omega
              have hlt : (k : Int) < u.length := by omega
              obtain ⟨g, og, rfl, x1, x2, -⟩ := (u3.rd.below b).fil hkn
              have HT := hid (puts_more t u k hkn)
              have hdl : (ds ++ putsL t (u.take k)).length ≤ 1000000 := by have := puts_len t (u.take k); rw [List.length_take] at this; rw [List.length_append]; omega
              have HT2 : Hid (ds ++ putsL t (u.take (k + 1)) = (ds ++ putsL t (u.take k)) ++ (if t.any (fun g => decide (u[k] = g)) then [] else [(u[k].1, true, u[k].2)])) := by show _ = _; rw [HT.out, List.append_assoc]
              clear HT
              generalize ds ++ putsL t (u.take k) = out at *
              generalize u[k] = f at *
              have hal2 := hal wr (.cells #[.string f.1, .string f.2] 57)
              have pf := Blk.new wr [.string f.1, .string f.2] 57
              have o2 := own_below o hal2
              have b2 := b.trans (hal2.mono b.size)
              have t2 := (h3.below b).below hal2
              have cc := contV_any A n c t f _ t2.len t2.rd t2.big
              clear o hal2
              go_wp2_with fail
              refine cc.mono ?_
              rintro e w4 ⟨rfl, hb4⟩
              clear cc t2
              have pf4 := pf.below hb4
              have o4 := own_below o2 hb4
              have b4 := b2.trans (hb4.mono b2.size)
              have p0 := pf4.cell 0
              have p1 := pf4.cell 1
              simp only [List.getElem?_cons_zero, List.getElem?_cons_succ] at p0 p1
              clear pf pf4 o2 b2 hb4 x1 x2
              cases hq : t.any (fun g => decide (f = g)) with
              | true =>
                have HT3 : Hid (ds ++ putsL t (u.take (k + 1)) = out) := by show _ = _; rw [HT2.out, hq]; simp
                clear HT2 hq
                go_wp2
                go_roundw
                case rel => exact ⟨k + 1, by omega, by go_num, by rw [HT3.out]; exact o4, b4⟩
                case measure => simp [intOf]; omega
              | false =>
                have HT3 : Hid (ds ++ putsL t (u.take (k + 1)) = out ++ [(f.1, true, f.2)]) := by show _ = _; rw [HT2.out, hq]; simp
                clear HT2 hq
                obtain ⟨A6, c6, w6, HRUN, o6, e6⟩ := app_act o4 b4.size (by omega) (f.1, true, f.2)
                have b6 := b4.trans e6
                clear o4 b4 e6
                go_wp2_with (at_builtin; refine Lib.wpList_append_run _ rfl _ _ _ _ rfl _ _ rfl rfl _ _ HRUN.out ?_)
                go_roundw
                case rel => exact ⟨k + 1, by omega, by go_num, by rw [HT3.out]; simpa using o6, b6⟩
                case measure => simp [intOf]; omega
            · have HE2 := hid (show k = u.length by omega)
              have hknl : ¬ (k : Int) < u.length := by omega
              rw [HE2.out, List.take_length, ← HA2.out, ← HA.out] at o
              obtain ⟨A5, c5, rfl⟩ := own_slice o
              have b5 := below2 b3 b
              have o5 := own_low o HW.out
              go_wp2
              refine bodyPost_ret (v := .tuple #[.slice A5 (planA t es).length c5, .int .i64 0]) (by simp [results, Tryz.results18, go_sem]) rfl ?_
              exact ⟨_, _, by rw [HN.out]; rfl, o5, b5⟩
end Go.Proofs.YtlmccjdpmhancaaGreatDoor
namespace Go.Proofs.YtlmccjdpmhancaaGreatDoor
open Go.RowKit

set_option maxHeartbeats 2000000 in
theorem fits_any {w : World} {A : Option Addr} {n c : Nat} {es : List Ent} (h : Et w A n c es) :
    Calls Tryz.prog 35 #[.slice A n c] w fun e w' => e = .returned (.int .i64 (fitN es : Nat)) ∧ Below w.heap.size w w' := by
  have hmf : ∀ (fn : Fn) (first cap : Array Value) (w : World), (Instr.makeFunc fn first cap).run Tryz.prog w = .ok (.func fn first cap) w := fun _ _ _ _ => rfl
  have hal : ∀ (W : World) (o : Obj), Below W.heap.size W (W.alloc o) := fun W o => (Below.refl _ _).alloc (Nat.le_refl _) o
  have HL := hid h.len
  have hr := h.rd
  have hn := h.big
  have HS := hid h.sz
  clear h
  go_enter Tryz.func35, Tryz.ntmps35
  go_wp2_with fail
  go_loopw [3, 10] (fun v i wr => ∃ j : Nat, j ≤ n ∧ i = .int .i64 j ∧ Hid ((fpaths (es.take j)).length ≤ j) ∧ wr.ownsRow w.heap.size 9 1 v (fpaths (es.take j)).length (strV (fpaths (es.take j))) ∧ Below w.heap.size w wr) (fun _ i _ => n - (intOf i).toNat)
  case atStart => exact ⟨0, by omega, rfl, hid (Nat.le_refl _), ⟨rfl, .inl ⟨rfl, rfl⟩⟩, Below.refl _ _⟩
  case round =>
    obtain ⟨j, hj, rfl, HJ, o, b⟩ := hrel
    by_cases hjn : j < n
    · have hjl : j < es.length := by rw [HL.out]; exact hjn
      have hz : (0 : Int) ≤ j := by omega
      have hlt : (j : Int) < n := by omega
      obtain ⟨g, og, rfl, x0, x1, x2, x3, x4, lg⟩ := (hr.below b).ent hjl
      have HT := hid (fpaths_more es j hjl)
      generalize fpaths (es.take j) = fp at *
      generalize es[j] = x at *
      have hal2 := hal wr (.cells #[.string x.path, .bool x.has, .string x.data, .int .i64 x.l, .int .i64 x.r] 34)
      have o2 := own_below o hal2
      have b2 := b.trans (hal2.mono b.size)
      have hfj := HJ.out
      have HB2 := hid b2
      cases hh : x.has with
      | false =>
        rw [hh] at x1 HT o2 HB2
        have HT2 : Hid (fpaths (es.take (j + 1)) = fp) := by show _ = _; rw [HT.out]; simp
        clear o hal2 hh b2
        go_wp2
        go_roundw
        case rel => exact ⟨j + 1, by omega, by go_num, hid (by rw [HT2.out]; omega), by rw [HT2.out]; exact o2, HB2.out⟩
        case measure => simp [intOf]; omega
      | true =>
        rw [hh] at x1 HT
        have HT2 : Hid (fpaths (es.take (j + 1)) = fp ++ [x.path]) := by show _ = _; rw [HT.out]; simp
        obtain ⟨A2, c2, w3, HRUN, o3, hgr, hb3⟩ := app_own2 (n₀ := w.heap.size) Tryz.underlying25 Tryz.infoS rfl (by decide) o2 b2.size (by omega) (by unfold maxLen; omega) [.string x.path] rfl (by simp [Value.oneCell'])
        have b3 := b2.trans hb3
        rw [show (wr.alloc (.cells #[.string x.path, .bool x.has, .string x.data, .int .i64 x.l, .int .i64 x.r] 34)).heap.size = wr.heap.size + 1 by simp, hh] at HRUN
        clear o o2 b hb3 hgr hal2 b2 HB2 hh
        go_wp2_with (at_builtin; refine Lib.wpList_append_run _ rfl _ _ _ _ rfl _ _ rfl rfl _ _ HRUN.out ?_)
        go_roundw
        case rel => exact ⟨j + 1, by omega, by go_num, hid (by rw [HT2.out, List.length_append, List.length_singleton]; omega), by rw [HT2.out, List.length_append, List.length_singleton, strV_append]; exact o3, b3⟩
        case measure => simp [intOf]; omega
    · have HE := hid (show j = n by omega)
      have hnlt : ¬ (j : Int) < n := by omega
      have HT : Hid (es.take j = es) := by show _ = _; rw [HE.out, ← HL.out, List.take_length]
      rw [HT.out] at o HJ
      obtain ⟨F, q, rfl⟩ := own_slice o
      have HFL := hid (fpaths_len es)
      have hfs : Hid (∀ p ∈ fpaths es, p.size < 4294967281) := fun p hp => by
        obtain ⟨f, hf, rfl⟩ := List.mem_map.1 hp
        obtain ⟨e, he, -, rfl⟩ := mem_files.1 hf
        exact (HS.out e he).1
      have HN : Hid (fitN es = if 32 < n ∨ 16 < (fpaths es).length then 2 else if Apt (fpaths es) then 0 else 6) := by show _ = _; rw [HFL.out, ← HL.out]; rfl
      generalize fpaths es = fp at *
      clear hr
      by_cases h32 : 32 < n ∨ 16 < fp.length
      · have HR : Hid (fitN es = 2) := by show _ = _; rw [HN.out, if_pos h32]
        clear HN
        by_cases h3 : 32 < n
        · have h3' : (32 : Int) < n := by omega
          clear h32
          go_wp2
          go_ret
          exact ⟨by rw [HR.out]; rfl, b⟩
        · have h3' : ¬ (32 : Int) < n := by omega
          have h4 : (16 : Int) < fp.length := by omega
          clear h32
          go_wp2
          go_ret
          exact ⟨by rw [HR.out]; rfl, b⟩
      · have HR : Hid (fitN es = if Apt fp then 0 else 6) := by show _ = _; rw [HN.out, if_neg h32]
        have h3' : ¬ (32 : Int) < n := by omega
        have h4 : ¬ (16 : Int) < fp.length := by omega
        have hf16 : fp.length ≤ 16 := by omega
        clear HN h32
        have rF : Rd wr F (strV fp) := Rd.of_own o
        have hq : fp.length ≤ q := by
          rcases o.2 with ⟨e1, e0⟩ | ⟨g, cap, cur, e1, _, _, h5, _⟩
          · omega
          · injection e1 with _ _ e3; omega
        clear o
        obtain ⟨W1, rfl⟩ : ∃ W1, W1 = wr := ⟨_, rfl⟩
        go_wp2_with fail
        go_loopw [32] (fun i w2 => ∃ k : Nat, k ≤ fp.length ∧ i = .int .i64 k ∧ Hid (Apt (fp.take k)) ∧ Below W1.heap.size W1 w2) (fun i _ => fp.length - (intOf i).toNat)
        case atStart => exact ⟨0, by omega, rfl, hid List.Pairwise.nil, Below.refl _ _⟩
        case round =>
          obtain ⟨k, hk, rfl, HA, b2⟩ := hrel
          by_cases hkn : k < fp.length
          · have hz : (0 : Int) ≤ k := by omega
            have hlt : (k : Int) < fp.length := by omega
            obtain ⟨g, og, hF, x0, lg⟩ := str_at (rF.below b2) hkn
            obtain ⟨B1, B2, hcut, -, r1, -⟩ := cuts ((rF.below b2).below (hal wr (.cells #[.string fp[k]] 9))) hq hk
            have cc := contC_any wr.heap.size B1 q (fp.take k) fp[k] (wr.alloc (.cells #[.string fp[k]] 9)) (Boxed.new wr 9 (.string fp[k])).cell r1 (by simp; omega) (hfs.out _ (List.getElem_mem hkn)) (fun b hb => hfs.out b (List.mem_of_mem_take hb))
            rw [List.length_take, Nat.min_eq_left hk] at cc
            have HM := hid (apt_more hkn)
            have HNO := hid (fun h => @apt_no fp k hkn h)
            generalize fp[k] = x at *
            subst hF
            have bb := below2 b (below2 b2 (hal wr (.cells #[.string x] 9)))
            have bd := below2 b2 (hal wr (.cells #[.string x] 9))
            clear r1 rF
            go_wp2_with fail
            refine cc.mono ?_
            rintro e w3 ⟨rfl, hb3⟩
            have b3 := below2 bd hb3
            have b4 := below2 bb hb3
            clear cc hb3 bb bd
            cases hq2 : (fp.take k).any (clB x) with
            | true =>
              have HR2 : Hid (fitN es = 6) := by show _ = _; rw [HR.out, if_neg (HNO.out hq2)]
              clear HM HNO hq2
              go_wp2
              go_ret
              exact ⟨by rw [HR2.out]; rfl, b4⟩
            | false =>
              have HA2 := hid (HM.out.2 ⟨HA.out, hq2⟩)
              clear HM HNO hq2
              go_wp2
              go_roundw
              case rel => exact ⟨k + 1, by omega, by go_num, HA2, b3⟩
              case measure => simp [intOf]; omega
          · have HE2 := hid (show k = fp.length by omega)
            have hknl : ¬ (k : Int) < fp.length := by omega
            have HR2 : Hid (fitN es = 0) := by
              show _ = _
              have := HA.out
              rw [HE2.out, List.take_length] at this
              rw [HR.out, if_pos this]
            go_wp2
            go_ret
            exact ⟨by rw [HR2.out]; rfl, below2 b b2⟩
end Go.Proofs.YtlmccjdpmhancaaGreatDoor
namespace Go.Proofs.YtlmccjdpmhancaaGreatDoor
open Go.RowKit

/-- Two rows of the call's own: what is out, what changed. -/
structure RSt (base : Nat) (v u : Value) (out : List Ent) (ch : List ByteArray) (W : World) : Prop where
  o : W.ownsRow base 34 5 v out.length (entV out)
  c : W.ownsRow base 9 1 u ch.length (strV ch)
theorem RSt.below {base : Nat} {v u : Value} {out : List Ent} {ch : List ByteArray} {W W' : World} (h : RSt base v u out ch W) (hb : Below W.heap.size W W') : RSt base v u out ch W' := ⟨own_below h.o hb, own_below h.c hb⟩
theorem RSt.set {base : Nat} {v u : Value} {out : List Ent} {ch : List ByteArray} {W : World} (h : RSt base v u out ch W) {g : Nat} (hv : some g ≠ v.ownBlock) (hu : some g ≠ u.ownBlock) (i : Nat) (x : Value) : RSt base v u out ch (W.setCell ⟨g, i, none⟩ x) := ⟨h.o.kept (grown_set i x) (.inr (Ne.symm hv)), h.c.kept (grown_set i x) (.inr (Ne.symm hu))⟩
theorem RSt.apart {base : Nat} {v u : Value} {out : List Ent} {ch : List ByteArray} {W : World} (h : RSt base v u out ch W) {g : Nat} (hg : W.heap.size ≤ g) : some g ≠ v.ownBlock ∧ some g ≠ u.ownBlock := ⟨fun e => by have := (h.o.lt g e.symm).2; omega, fun e => by have := (h.c.lt g e.symm).2; omega⟩
/-- One more is out. -/
theorem RSt.app {base : Nat} {v u : Value} {out : List Ent} {ch : List ByteArray} {W : World} (h : RSt base v u out ch W) (hn : base ≤ W.heap.size) (hk : out.length ≤ 1000000) (z : Ent) :
    ∃ A' c' w1, Hid ((Builtin.append_ #[22, 22] 22 #[v, .slice (some ⟨W.heap.size, 0, none⟩) 1 1]).run Tryz.prog (W.alloc (.cells #[.string z.path, .bool z.has, .string z.data, .int .i64 z.l, .int .i64 z.r] 34)) = .ok (.slice A' (out.length + 1) c') w1) ∧ RSt base (.slice A' (out.length + 1) c') u (out ++ [z]) ch w1 ∧ Below base W w1 := by
  obtain ⟨A', c', w1, h1, h2, h3, h4⟩ := app_own2 (n₀ := base) Tryz.underlying22 Tryz.infoE rfl (by decide) h.o hn (by omega) (by unfold maxLen; omega) (eV z) rfl (by intro u hu; exact entV_one [z] u (by simpa [entV] using hu))
  refine ⟨A', c', w1, h1, ⟨by simpa [entV] using h2, ?_⟩, h4⟩
  exact (h.c.alloc (.cells (eV z).toArray 34)).kept h3 ((rows_apart h.c h.o (by decide)).imp id id)
/-- One more changed. -/
theorem RSt.appS {base : Nat} {v u : Value} {out : List Ent} {ch : List ByteArray} {W : World} (h : RSt base v u out ch W) (hn : base ≤ W.heap.size) (hk : ch.length ≤ 1000000) (z : ByteArray) :
    ∃ A' c' w1, Hid ((Builtin.append_ #[25, 25] 25 #[u, .slice (some ⟨W.heap.size, 0, none⟩) 1 1]).run Tryz.prog (W.alloc (.cells #[.string z] 9)) = .ok (.slice A' (ch.length + 1) c') w1) ∧ RSt base v (.slice A' (ch.length + 1) c') out (ch ++ [z]) w1 ∧ Below base W w1 ∧ (∀ g cs t, t ≠ 9 → Blk W g cs t → Blk w1 g cs t) := by
  obtain ⟨A', c', w1, h1, h2, h3, h4⟩ := app_own2 (n₀ := base) Tryz.underlying25 Tryz.infoS rfl (by decide) h.c hn (by omega) (by unfold maxLen; omega) [.string z] rfl (by simp [Value.oneCell'])
  refine ⟨A', c', w1, h1, ⟨?_, by simpa [strV] using h2⟩, h4, fun g cs t ht hb => ?_⟩
  · exact (h.o.alloc (.cells [Value.string z].toArray 9)).kept h3 ((rows_apart h.o h.c (by decide)).imp id id)
  · exact (h3.block g (by have := hb.lt; simp; omega) (blk_row h.c hb ht)).trans (Blk.below hb ((Below.refl _ _).alloc (Nat.le_refl _) _))
end Go.Proofs.YtlmccjdpmhancaaGreatDoor
namespace Go.Proofs.YtlmccjdpmhancaaGreatDoor
open Go.RowKit

def mrgN (es fs : List Ent) : Nat := if archR es && archR fs then fitN (mA es fs) else 1
def mrgA (es fs : List Ent) : List Ent := if mrgN es fs = 0 then mA es fs else []
def mrgC (es fs : List Ent) : List ByteArray := if mrgN es fs = 0 then mC es fs else []
def MergePost (w : World) (es fs : List Ent) (e : Ending) (w' : World) : Prop :=
  ∃ A' c' B' d', e = .returned (.tuple #[.slice A' (mrgA es fs).length c', .slice B' (mrgC es fs).length d', .int .i64 (mrgN es fs : Nat)]) ∧
    w'.ownsRow w.heap.size 34 5 (.slice A' (mrgA es fs).length c') (mrgA es fs).length (entV (mrgA es fs)) ∧
    w'.ownsRow w.heap.size 9 1 (.slice B' (mrgC es fs).length d') (mrgC es fs).length (strV (mrgC es fs)) ∧ Below w.heap.size w w'
theorem merge_err {w w' : World} {es fs : List Ent} (k : Nat) (hk : mrgN es fs = k) (h0 : k ≠ 0) (hb : Below w.heap.size w w') : MergePost w es fs (.returned (.tuple #[.slice none 0 0, .slice none 0 0, .int .i64 (k : Nat)])) w' := by
  have e1 : mrgA es fs = [] := by unfold mrgA; rw [hk, if_neg h0]
  have e2 : mrgC es fs = [] := by unfold mrgC; rw [hk, if_neg h0]
  refine ⟨none, 0, none, 0, ?_, ?_, ?_, hb⟩
  · rw [e1, e2, hk]; rfl
  · rw [e1]; exact World.ownsRow_nil _ _ _ _
  · rw [e2]; exact World.ownsRow_nil _ _ _ _
theorem mrgN_arg {es fs : List Ent} (h : (archR es && archR fs) = false) : mrgN es fs = 1 := by unfold mrgN; rw [h]; rfl
theorem mrgN_fit {es fs : List Ent} (h : archR es = true) (k : archR fs = true) : mrgN es fs = fitN (mA es fs) := by unfold mrgN; rw [h, k]; rfl
theorem blk_own {w : World} {g base : Nat} {es : List Ent} (h : Blk w g (entV es) 34) (hb : base ≤ g) (hn : es.length ≤ 1000000) : w.ownsRow base 34 5 (.slice (some ⟨g, 0, none⟩) es.length es.length) es.length (entV es) := by
  refine ⟨entV_length es, .inr ⟨g, es.length, (entV es).toArray, rfl, hb, h, Nat.le_refl _, by unfold maxLen; omega, by simp [entV_length], ?_⟩⟩
  rw [← entV_length]
  simp
def mAp (M : List (Ent × Bool)) : List Ent := M.map (·.1)
def mCp (M : List (Ent × Bool)) : List ByteArray := (M.filter (·.2)).map (·.1.path)
theorem mAp_more (M : List (Ent × Bool)) (j : Nat) (h : j < M.length) : mAp (M.take (j + 1)) = mAp (M.take j) ++ [M[j].1] := by
  rw [mAp, List.take_add_one, List.getElem?_eq_getElem h, List.map_append]; rfl
theorem mCp_more (M : List (Ent × Bool)) (j : Nat) (h : j < M.length) : mCp (M.take (j + 1)) = mCp (M.take j) ++ (if M[j].2 then [M[j].1.path] else []) := by
  rw [mCp, List.take_add_one, List.getElem?_eq_getElem h, List.filter_append, List.map_append, mCp]
  congr 1
  simp only [Option.toList_some, List.filter_cons, List.filter_nil]
  split <;> rfl
theorem mCp_len (M : List (Ent × Bool)) : (mCp M).length ≤ M.length := by rw [mCp, List.length_map]; exact List.length_filter_le _ _
/-- What comes of two archives is of the size of theirs. -/
theorem come_sz {a b : Ent} (ha : SzE a) (hb : SzE b) : SzE (comeE a b).1 := by
  unfold comeE
  split
  · exact hb
  · split
    · exact ha
    · split
      · simp only []; split
        · exact ha
        · exact ha
      · exact ha
theorem mrg_sz (l m : List Ent) (hl : ∀ e ∈ l, SzE e) (hm : ∀ e ∈ m, SzE e) : ∀ x ∈ mrgL l m, SzE x.1 := by
  fun_induction mrgL l m with
  | case1 => simp
  | case2 a l ih => intro x hx; exact (List.mem_cons.1 hx).elim (fun e => by subst e; exact hl _ List.mem_cons_self) (fun h => ih (fun e he => hl e (List.mem_cons_of_mem _ he)) hm x h)
  | case3 b m ih => intro x hx; exact (List.mem_cons.1 hx).elim (fun e => by subst e; exact hm _ List.mem_cons_self) (fun h => ih hl (fun e he => hm e (List.mem_cons_of_mem _ he)) x h)
  | case4 a l b m h ih => intro x hx; exact (List.mem_cons.1 hx).elim (fun e => by subst e; exact come_sz (hl _ List.mem_cons_self) (hm _ List.mem_cons_self)) (fun h => ih (fun e he => hl e (List.mem_cons_of_mem _ he)) (fun e he => hm e (List.mem_cons_of_mem _ he)) x h)
  | case5 a l b m h h2 ih => intro x hx; exact (List.mem_cons.1 hx).elim (fun e => by subst e; exact hl _ List.mem_cons_self) (fun h => ih (fun e he => hl e (List.mem_cons_of_mem _ he)) hm x h)
  | case6 a l b m h h2 ih => intro x hx; exact (List.mem_cons.1 hx).elim (fun e => by subst e; exact hm _ List.mem_cons_self) (fun h => ih hl (fun e he => hm e (List.mem_cons_of_mem _ he)) x h)
theorem mA_sz {l m : List Ent} (hl : ∀ e ∈ l, SzE e) (hm : ∀ e ∈ m, SzE e) : ∀ e ∈ mA l m, SzE e := fun e he => by
  obtain ⟨x, hx, rfl⟩ := List.mem_map.1 he
  exact mrg_sz l m hl hm x hx

set_option maxHeartbeats 4000000 in
theorem merge_any {w : World} {A B : Option Addr} {n c m d : Nat} {es fs : List Ent} (h : Et w A n c es) (k : Et w B m d fs) :
    Calls Tryz.prog 11 #[.slice A n c, .slice B m d] w (MergePost w es fs) := by
  have eg := enters_of Tryz.func66 (by kernel_rfl) rfl
  have hal : ∀ (W : World) (o : Obj), Below W.heap.size W (W.alloc o) := fun W o => (Below.refl _ _).alloc (Nat.le_refl _) o
  go_enter Tryz.func11, Tryz.ntmps11
  go_wp2_with fail
  refine (archR_any h).mono ?_
  rintro e w1 ⟨rfl, b1⟩
  have h1 := h.below b1
  have k1 := k.below b1
  cases hR : archR es with
  | false =>
    have HN := hid (mrgN_arg (es := es) (fs := fs) (by rw [hR]; rfl))
    clear hR
    go_wp2
    exact bodyPost_ret (v := .tuple #[.slice none 0 0, .slice none 0 0, .int .i64 1]) (by simp [results, Tryz.results11, go_sem]) rfl (merge_err 1 HN.out (by decide) b1)
  | true =>
    go_wp2_with fail
    refine (archR_any k1).mono ?_
    rintro e w2 ⟨rfl, hb2⟩
    have b2 := below2 b1 hb2
    have h2 := h1.below hb2
    have k2 := k1.below hb2
    clear hb2 b1 h1 k1
    cases hR2 : archR fs with
    | false =>
      have HN := hid (mrgN_arg (es := es) (fs := fs) (by rw [hR2, Bool.and_false]))
      clear hR hR2
      go_wp2
      exact bodyPost_ret (v := .tuple #[.slice none 0 0, .slice none 0 0, .int .i64 1]) (by simp [results, Tryz.results11, go_sem]) rfl (merge_err 1 HN.out (by decide) b2)
    | true =>
      have HN := hid (mrgN_fit hR hR2)
      have hA := (archR_iff es).1 hR
      have hB := (archR_iff fs).1 hR2
      have hn : n ≤ 32 := by have := hA.few; rw [h.len] at this; exact this
      have hm : m ≤ 32 := by have := hB.few; rw [k.len] at this; exact this
      have HK := hid (known_is hA.srt hB.srt)
      have HAT := hid (mrg_at es fs hA.srt hB.srt)
      have HSZ := hid (mrg_sz es fs h.sz k.sz)
      have HML : Hid ((mrgL es fs).length ≤ 64) := by have := mrg_len es fs; rw [h.len, k.len] at this; show _ ≤ _; omega
      clear hR hR2 hA hB
      go_wp2_with fail
      refine (coming_any A B n c m d w2).mono ?_
      rintro e w3 ⟨rfl, x1, x2, -, hb3⟩
      have b3 := below2 b2 hb3
      have h3 := h2.below hb3
      have k3 := k2.below hb3
      clear hb3 b2 h2 k2 h k
      go_wp2_with fail
      refine (known_any h3 k3 (by omega) (by omega)).mono ?_
      rintro e w4 ⟨C, q, rfl, r4, hb4⟩
      rw [HK.out] at r4
      have z1 := World.block_lt_of_cell? _ _ x1
      have z2 := World.block_lt_of_cell? _ _ x2
      have y1 := (hb4.cell (p := ⟨w2.heap.size, 0, none⟩) z1).trans x1
      have y2 := (hb4.cell (p := ⟨w2.heap.size + 1, 0, none⟩) z2).trans x2
      have b4 := below2 b3 hb4
      have h4 := h3.below hb4
      have k4 := k3.below hb4
      have l1 : w2.heap.size < w4.heap.size := by have := hb4.size; dsimp only at z1; omega
      have l2 : w2.heap.size + 1 < w4.heap.size := by have := hb4.size; dsimp only at z2; omega
      have HKL : Hid ((knownL ((es ++ fs).map epth)).length = (mrgL es fs).length) := by have := congrArg List.length HK.out; rw [List.length_map, List.length_map] at this; exact this
      rw [HKL.out]
      clear hb4 b3 h3 k3 x1 x2 z1 z2 HK HKL
      have HMA : Hid (mA es fs = mAp (mrgL es fs)) := rfl
      have HMC : Hid (mC es fs = mCp (mrgL es fs)) := rfl
      generalize mrgL es fs = M at *
      have hML := HML.out
      generalize w2.heap.size = q1 at *
      go_wp2_with fail
      go_loopw [7, 8, 30] (fun v u i wr => ∃ j : Nat, j ≤ M.length ∧ i = .int .i64 j ∧ RSt w4.heap.size v u (mAp (M.take j)) (mCp (M.take j)) wr ∧ Below w4.heap.size w4 wr) (fun _ _ i _ => M.length - (intOf i).toNat)
      case atStart => exact ⟨0, by omega, rfl, ⟨World.ownsRow_nil _ _ _ _, World.ownsRow_nil _ _ _ _⟩, Below.refl _ _⟩
      case round =>
        obtain ⟨j, hj, rfl, R, b⟩ := hrel
        by_cases hjn : j < M.length
        · have hz : (0 : Int) ≤ j := by omega
          have hlt : (j : Int) < M.length := by omega
          obtain ⟨g, og, rfl, p0, -⟩ := str_at (r4.below b) (j := j) (by rw [List.length_map]; exact hjn)
          rw [List.getElem_map] at p0
          have HT1 := hid (mAp_more M j hjn)
          have HT2 := hid (mCp_more M j hjn)
          have cc := coming1_any (h4.below b) (k4.below b) ((b.cell (p := ⟨q1, 0, none⟩) l1).trans y1) ((b.cell (p := ⟨q1 + 1, 0, none⟩) l2).trans y2) M[j].1.path M[j] (HAT.out _ (List.getElem_mem hjn))
          have hpz : M[j].1.path.size ≤ 281474976710656 := by have := (HSZ.out _ (List.getElem_mem hjn)).1; omega
          have hl1 : (mAp (M.take j)).length ≤ 64 := by rw [mAp, List.length_map, List.length_take]; omega
          have hl2 : (mCp (M.take j)).length ≤ 64 := by have := mCp_len (M.take j); rw [List.length_take] at this; omega
          generalize mAp (M.take j) = out at *
          generalize mCp (M.take j) = ch at *
          generalize M[j] = x at *
          obtain ⟨x, cf⟩ := x
          dsimp only at p0 cc hpz HT1 HT2
          go_wp2_with fail
          refine cc.mono ?_
          rintro e w5 ⟨rfl, hb5⟩
          clear cc
          have R5 := (R.below hb5).below (hal w5 (.cells #[.string x.path, .bool x.has, .string x.data, .int .i64 x.l, .int .i64 x.r] 34))
          have b5 := below2 (below2 b hb5) (hal w5 (.cells #[.string x.path, .bool x.has, .string x.data, .int .i64 x.l, .int .i64 x.r] 34))
          obtain ⟨A6, c6, w6, HRUN6, R6, e6⟩ := R5.app b5.size (by omega) x
          rw [show (w5.alloc (.cells #[.string x.path, .bool x.has, .string x.data, .int .i64 x.l, .int .i64 x.r] 34)).heap.size = w5.heap.size + 1 by simp] at HRUN6
          have b6 := b5.trans e6
          clear R R5 b5 e6
          cases cf with
          | false =>
            have HT3 : Hid (mCp (M.take (j + 1)) = ch) := by show _ = _; rw [HT2.out]; simp
            go_wp2_with (at_builtin; refine Lib.wpList_append_run _ rfl _ _ _ _ rfl _ _ rfl rfl _ _ HRUN6.out ?_)
            go_roundw
            case rel => exact ⟨j + 1, by omega, by go_num, by rw [HT1.out, HT3.out]; exact R6, b6⟩
            case measure => simp [intOf]; omega
          | true =>
            have HT3 : Hid (mCp (M.take (j + 1)) = ch ++ [x.path]) := by show _ = _; rw [HT2.out]; simp
            go_wp2_with (at_builtin; refine Lib.wpList_append_run _ rfl _ _ _ _ rfl _ _ rfl rfl _ _ HRUN6.out ?_)
            refine (clone_any x.path _ hpz).mono ?_
            rintro e w7 ⟨rfl, hb7⟩
            have R7 := R6.below hb7
            have b7 := b6.trans (hb7.mono b6.size)
            obtain ⟨A8, c8, w8, HRUN8, R8, e8, -⟩ := R7.appS b7.size (by omega) x.path
            have b8 := b7.trans e8
            clear R6 R7 b6 b7 hb7 e8
            go_wp2_with (at_builtin; refine Lib.wpList_append_run _ rfl _ _ _ _ rfl _ _ rfl rfl _ _ HRUN8.out ?_)
            go_roundw
            case rel => exact ⟨j + 1, by omega, by go_num, by rw [HT1.out, HT3.out]; simpa using R8, b8⟩
            case measure => simp [intOf]; omega
        · have HE := hid (show j = M.length by omega)
          have hnlt : ¬ (j : Int) < M.length := by omega
          rw [HE.out, List.take_length, ← HMA.out, ← HMC.out] at R
          have HSZ2 : Hid (∀ e ∈ mA es fs, SzE e) := fun e he => by
            rw [HMA.out] at he
            obtain ⟨y, hy, rfl⟩ := List.mem_map.1 he
            exact HSZ.out y hy
          have hLA : (mA es fs).length ≤ 64 := by rw [HMA.out, mAp, List.length_map]; exact hML
          have b5 := below2 b4 b
          obtain ⟨A5, c5, rfl⟩ := own_slice R.o
          obtain ⟨B5, d5, rfl⟩ := own_slice R.c
          have E5 := own5_et R.o (by omega) HSZ2.out
          have o5 := own_low R.c b4.size
          clear r4 y1 y2 h4 k4 R b HMA HAT HSZ
          go_wp2_with fail
          refine (fits_any E5).mono ?_
          rintro e w6 ⟨rfl, hb6⟩
          have E6 := E5.below hb6
          have o6 := own_below o5 hb6
          have b6 := below2 b5 hb6
          clear E5 o5 b5 hb6
          rw [← HN.out]
          by_cases h0 : mrgN es fs = 0
          · have HA : Hid (mrgA es fs = mA es fs) := by show _ = _; rw [mrgA, if_pos h0]
            have HC : Hid (mrgC es fs = mC es fs) := by show _ = _; rw [mrgC, if_pos h0]
            have HZ := hid h0
            rw [h0]
            clear h0
            go_wp2_with fail
            refine (copy_any E6).mono ?_
            rintro e w7 ⟨rfl, B7, hb7⟩
            have o7 := own_below o6 hb7
            have b7 := below2 b6 hb7
            have w67 := b6.size
            clear E6 o6
            go_wp2
            refine bodyPost_ret (v := .tuple #[.slice (some ⟨w6.heap.size, 0, none⟩) (mA es fs).length (mA es fs).length, .slice B5 (mC es fs).length d5, .int .i64 0]) (by simp [results, Tryz.results11, go_sem]) rfl ?_
            unfold MergePost
            rw [HA.out, HC.out, HZ.out]
            exact ⟨_, _, _, _, rfl, blk_own B7 w67 (by omega), o7, b7⟩
          · have h0' : ¬ ((mrgN es fs : Nat) : Int) = 0 := by omega
            have HZ := hid h0
            clear h0
            generalize hk : mrgN es fs = kk at *
            go_wp2
            exact bodyPost_ret (v := .tuple #[.slice none 0 0, .slice none 0 0, .int .i64 (kk : Int)]) (by simp [results, Tryz.results11, go_sem]) rfl (merge_err kk hk HZ.out b6)
end Go.Proofs.YtlmccjdpmhancaaGreatDoor
