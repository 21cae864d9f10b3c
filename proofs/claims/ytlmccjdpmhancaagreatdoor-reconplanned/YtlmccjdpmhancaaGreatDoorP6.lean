/- The texts Ji, Jj, Jf, Rst, Jg, Jk, Jm, in one. -/
import Derived.Test.YtlmccjdpmhancaaGreatDoorP5
import Derived.Laws.StructEq
import Derived.Deep.RegionHeld3
namespace Go.Proofs.YtlmccjdpmhancaaGreatDoor
open Go.RowKit

theorem eqF (f g : Fil) (w : World) : (binOp .eql 57 (.agg #[.string f.1, .string f.2]) (.agg #[.string g.1, .string g.2])).run Tryz.prog w = .ok (.bool (decide (f = g))) w := by
  have u9 := Tryz.underlying9
  have a9 := Tryz.isAgg9
  have z9 := Tryz.sizeOf9
  have hS : Tryz.prog.underlying 57 = some (.struct (Tryz.prog.fieldsOf 57)) := by kernel_rfl
  have hp : Tryz.prog.stoodInHeld 57 = false := by kernel_rfl
  rw [run_eql_struct, show (10000 : Nat) = 9999 + 1 from rfl, run_equalIn_agg w 9999 57 _ _ hS hp]
  simp only [Program.fieldsOf, Tryz.underlying57]
  go_simp
  have inj : ∀ {a b : ByteArray}, a.toList = b.toList → a = b := fun h => data_inj (by rw [← Lib.toList_data, ← Lib.toList_data]; exact h)
  by_cases h1 : f.1.toList = g.1.toList
  · by_cases h2 : f.2.toList = g.2.toList
    · have e : f = g := Prod.ext (inj h1) (inj h2)
      rw [if_pos h1, if_pos h2, decide_eq_true e]
    · have e : f ≠ g := fun e => h2 (by rw [e])
      rw [if_pos h1, if_neg h2, decide_eq_false e]
  · have e : f ≠ g := fun e => h1 (by rw [e])
    rw [if_neg h1, decide_eq_false e]

set_option maxHeartbeats 400000 in
theorem plan1_any (bx : Nat) (g : Fil) (p : ByteArray) (W : World) (hx : W.cell? ⟨bx, 0, none⟩ = some (.string p)) :
    Calls Tryz.prog 44 (#[.agg #[.string g.1, .string g.2]] ++ #[.pointer (some ⟨bx, 0, none⟩)]) W fun x w' => x = .returned (.bool (decide (g.1 = p))) ∧ Below W.heap.size W w' := by
  obtain ⟨x, d⟩ := g
  have hb := World.block_lt_of_cell? _ _ hx
  have HE := hid (str_eqb x p)
  go_enter Tryz.func44, Tryz.ntmps44
  go_wp2
  go_ret
  exact ⟨ret_bool HE.out, by go_grown⟩

set_option maxHeartbeats 1000000 in
theorem idxQ_any (bx : Nat) (A : Option Addr) (n c : Nat) (fs : List Fil) (p : ByteArray) (w : World) (hl : fs.length = n) (hx : w.cell? ⟨bx, 0, none⟩ = some (.string p)) (hr : Rd w A (filV fs)) (hn : n ≤ 140737488355328) :
    Calls Tryz.prog 82 #[.slice A n c, .func (.func 44) #[] #[.pointer (some ⟨bx, 0, none⟩)]] w (IdxPost w (fs.any fun g => decide (g.1 = p))) := by
  have eg := enters_of Tryz.func44 (by kernel_rfl) rfl
  have hbx := World.block_lt_of_cell? _ _ hx
  have HL := hid hl
  clear hl
  go_enter Tryz.func82, Tryz.ntmps82
  go_wp2_with fail
  go_loopw [8] (fun i wr => ∃ j : Nat, j ≤ n ∧ i = .int .i64 j ∧ Hid ((fs.take j).any (fun g => decide (g.1 = p)) = false) ∧ Below w.heap.size w wr) (fun i _ => n - (intOf i).toNat)
  case atStart => exact ⟨0, by omega, rfl, by simp [Hid], Below.refl _ _⟩
  case round =>
    obtain ⟨j, hj, rfl, HO, hb⟩ := hrel
    by_cases hjn : j < n
    · have hjl : j < fs.length := by rw [HL.out]; exact hjn
      obtain ⟨b, off, rfl, h1, h2, -⟩ := (hr.below hb).fil hjl
      have HK := hid (any_take_step (fun g => decide (g.1 = p)) fs j hjl)
      have HM := hid (List.getElem_mem hjl)
      have hx1 := (hb.cell (p := ⟨bx, 0, none⟩) hbx).trans hx
      have cc := plan1_any bx fs[j] p wr hx1
      generalize fs[j] = g at *
      have hz : (0 : Int) ≤ j := by omega
      have hlt : (j : Int) < n := by omega
      go_wp2_with fail
      refine cc.mono ?_
      rintro e w1 ⟨rfl, hb1'⟩
      have hb1 := below2 hb hb1'
      clear cc hb hb1' hx1
      cases hq : (decide (g.1 = p))
      · go_wp2
        go_roundw
        case rel => exact ⟨j + 1, by omega, by go_num, hid (by rw [HK.out, HO.out, hq]; rfl), hb1⟩
        case measure => simp [intOf]; omega
      · have HQ := hid hq
        clear hq
        go_wp2
        go_ret
        refine ⟨j, rfl, ?_, hb1⟩
        rw [decide_eq_true hz]
        exact (List.any_eq_true.2 ⟨g, HM.out, HQ.out⟩).symm
    · have HE := hid (show j = n by omega)
      have hnlt : ¬ (j : Int) < n := by omega
      go_wp2
      go_ret
      refine ⟨-1, rfl, ?_, hb⟩
      have ho := HO.out
      rw [HE.out, ← HL.out, List.take_length] at ho
      rw [ho]; rfl

set_option maxHeartbeats 400000 in
theorem contQ_any (bx : Nat) (A : Option Addr) (n c : Nat) (fs : List Fil) (p : ByteArray) (w : World) (hl : fs.length = n) (hx : w.cell? ⟨bx, 0, none⟩ = some (.string p)) (hr : Rd w A (filV fs)) (hn : n ≤ 140737488355328) :
    Calls Tryz.prog 43 #[.slice A n c, .func (.func 44) #[] #[.pointer (some ⟨bx, 0, none⟩)]] w fun x w' => x = .returned (.bool (fs.any (fun g => decide (g.1 = p)))) ∧ Below w.heap.size w w' := by
  have c0 := idxQ_any bx A n c fs p w hl hx hr hn
  clear hl hx hr
  generalize fs.any (fun g => decide (g.1 = p)) = b at *
  go_enter Tryz.func43, Tryz.ntmps43
  go_wp2_with fail
  refine c0.mono ?_
  rintro e w1 ⟨z, rfl, hz, hb1⟩
  clear c0
  have HZ := hid hz
  clear hz
  go_wp2
  go_ret
  exact ⟨ret_bool HZ.out, hb1⟩

set_option maxHeartbeats 1000000 in
theorem idxV_any (A : Option Addr) (n c : Nat) (fs : List Fil) (f : Fil) (w : World) (hl : fs.length = n) (hr : Rd w A (filV fs)) (hn : n ≤ 140737488355328) :
    Calls Tryz.prog 83 #[.slice A n c, .agg #[.string f.1, .string f.2]] w (IdxPost w (fs.any fun g => decide (f = g))) := by
  have HL := hid hl
  have hal : ∀ (W : World) (o : Obj), Below W.heap.size W (W.alloc o) := fun W o => (Below.refl _ _).alloc (Nat.le_refl _) o
  have P0 := Blk.new w [.string f.1, .string f.2] 57
  have b0 := hal w (.cells #[.string f.1, .string f.2] 57)
  clear hl
  go_enter Tryz.func83, Tryz.ntmps83
  go_wp2_with fail
  go_loopw [8] (fun i wr => ∃ j : Nat, j ≤ n ∧ i = .int .i64 j ∧ Hid ((fs.take j).any (fun g => decide (f = g)) = false) ∧ Blk wr w.heap.size [.string f.1, .string f.2] 57 ∧ Below w.heap.size w wr) (fun i _ => n - (intOf i).toNat)
  case atStart => exact ⟨0, by omega, rfl, by simp [Hid], Blk.new w [.string f.1, .string f.2] 57, b0⟩
  case round =>
    obtain ⟨j, hj, rfl, HO, pk, hb⟩ := hrel
    by_cases hjn : j < n
    · have hjl : j < fs.length := by rw [HL.out]; exact hjn
      obtain ⟨b, off, rfl, h1, h2, -⟩ := (hr.below hb).fil hjl
      have HK := hid (any_take_step (fun g => decide (f = g)) fs j hjl)
      have HM := hid (List.getElem_mem hjl)
      have c1 := pk.cell 0
      have c2 := pk.cell 1
      simp only [List.getElem?_cons_zero, List.getElem?_cons_succ] at c1 c2
      generalize fs[j] = g at *
      have hz : (0 : Int) ≤ j := by omega
      have hlt : (j : Int) < n := by omega
      have hep := eqF f g
      have hb1 := hb.drew
      go_wp2_with fail
      refine wp_region_held_drew (S := fun w' => (w'.cell? ⟨w.heap.size, 0, none⟩ = some (.string f.1) ∧ w'.cell? ⟨w.heap.size, 1, none⟩ = some (.string f.2)) ∧ w'.cell? ⟨b, off + j * 2, none⟩ = some (.string g.1) ∧ w'.cell? ⟨b, off + j * 2 + 1, none⟩ = some (.string g.2)) (by kernel_rfl) ⟨⟨c1, c2⟩, h1, h2⟩ (fun hHeld => ?_)
      refine wpAnyH_take (i := 0) (oi := ⟨_, _, _, _, _, _⟩) (v := ?_) rfl (by kernel_rfl) (by kernel_rfl) (by kernel_rfl) (fun _ _ _ h => h) (Or.inl ⟨by rfl, ?_⟩) (by assumption) ?_
      rotate_left
      · intro w hSw; (try dsimp only at hSw); go_simp; (try (with_reducible rfl))
      try simp only [Act.put, List.setIfInBounds_toArray, List.set_cons_zero, List.set_cons_succ]
      refine wpAnyH_take (i := 1) (oi := ⟨_, _, _, _, _, _⟩) (v := ?_) rfl (by kernel_rfl) (by kernel_rfl) (by kernel_rfl) (fun _ _ _ h => h) (Or.inl ⟨by rfl, ?_⟩) (by assumption) ?_
      rotate_left
      · intro w hSw; (try dsimp only at hSw); go_simp; (try (with_reducible rfl))
      try simp only [Act.put, List.setIfInBounds_toArray, List.set_cons_zero, List.set_cons_succ]
      refine wpAnyH_take (i := 2) (oi := ⟨_, _, _, _, _, _⟩) (v := ?_) rfl (by kernel_rfl) (by kernel_rfl) (by kernel_rfl) (fun _ _ _ h => h) (Or.inl ⟨by rfl, ?_⟩) (by assumption) ?_
      rotate_left
      · intro w hSw; (try dsimp only at hSw); go_simp; (try (with_reducible rfl))
      try simp only [Act.put, List.setIfInBounds_toArray, List.set_cons_zero, List.set_cons_succ]
      refine wpAnyH_take (i := 3) (oi := ⟨_, _, _, _, _, _⟩) (v := ?_) rfl (by kernel_rfl) (by kernel_rfl) (by kernel_rfl) (fun _ _ _ h => h) (Or.inl ⟨by rfl, ?_⟩) (by assumption) ?_
      rotate_left
      · intro w hSw; (try dsimp only at hSw); go_simp; (try (with_reducible rfl))
      try simp only [Act.put, List.setIfInBounds_toArray, List.set_cons_zero, List.set_cons_succ]
      refine wpAnyH_take (i := 4) (oi := ⟨_, _, _, _, _, _⟩) (v := ?_) rfl (by kernel_rfl) (by kernel_rfl) (by kernel_rfl) (fun _ _ _ h => h) (Or.inl ⟨by rfl, ?_⟩) (by assumption) ?_
      rotate_left
      · intro w hSw; (try dsimp only at hSw); go_simp; (try (with_reducible rfl))
      try simp only [Act.put, List.setIfInBounds_toArray, List.set_cons_zero, List.set_cons_succ]
      refine wpAnyH_take (i := 5) (oi := ⟨_, _, _, _, _, _⟩) (v := ?_) rfl (by kernel_rfl) (by kernel_rfl) (by kernel_rfl) (fun _ _ _ h => h) (Or.inl ⟨by rfl, ?_⟩) (by assumption) ?_
      rotate_left
      · intro w hSw; (try dsimp only at hSw); go_simp; (try (with_reducible rfl))
      try simp only [Act.put, List.setIfInBounds_toArray, List.set_cons_zero, List.set_cons_succ]
      refine wpAnyH_done (by kernel_rfl) ?_ _
      clear hHeld hep
      cases hq : (decide (f = g))
      · go_wp2
        go_roundw
        case rel => exact ⟨j + 1, by omega, by go_num, hid (by rw [HK.out, HO.out, hq]; rfl), pk.drew, hb1⟩
        case measure => simp [intOf]; omega
      · have HQ := hid hq
        clear hq
        go_wp2
        go_ret
        refine ⟨j, rfl, ?_, hb1⟩
        rw [decide_eq_true hz]
        exact (List.any_eq_true.2 ⟨g, HM.out, HQ.out⟩).symm
    · have HE := hid (show j = n by omega)
      have hnlt : ¬ (j : Int) < n := by omega
      go_wp2
      go_ret
      refine ⟨-1, rfl, ?_, hb⟩
      have ho := HO.out
      rw [HE.out, ← HL.out, List.take_length] at ho
      rw [ho]; rfl

set_option maxHeartbeats 400000 in
theorem contV_any (A : Option Addr) (n c : Nat) (fs : List Fil) (f : Fil) (w : World) (hl : fs.length = n) (hr : Rd w A (filV fs)) (hn : n ≤ 140737488355328) :
    Calls Tryz.prog 45 #[.slice A n c, .agg #[.string f.1, .string f.2]] w fun x w' => x = .returned (.bool (fs.any (fun g => decide (f = g)))) ∧ Below w.heap.size w w' := by
  have c0 := idxV_any A n c fs f (w.alloc (.cells #[.string f.1, .string f.2] 57)) hl (hr.alloc _) hn
  clear hl hr
  generalize fs.any (fun g => decide (f = g)) = b at *
  go_enter Tryz.func45, Tryz.ntmps45
  go_wp2_with fail
  refine c0.mono ?_
  rintro e w1 ⟨z, rfl, hz, hb1⟩
  clear c0
  have HZ := hid hz
  clear hz
  go_wp2
  go_ret
  exact ⟨ret_bool HZ.out, below_al _ hb1⟩

/-! ### Is a string there? -/
set_option maxHeartbeats 1000000 in
theorem idxT_any (B : Option Addr) (c : Nat) (l : List ByteArray) (p : ByteArray) (w : World) (hr : Rd w B (strV l)) (hn : l.length ≤ 1000000) :
    Calls Tryz.prog 85 #[.slice B l.length c, .string p] w (IdxPost w (l.any fun s => decide (p = s))) := by
  go_enter Tryz.func85, Tryz.ntmps85
  go_wp2_with fail
  go_loop [8] (fun i => ∃ j : Nat, j ≤ l.length ∧ i = .int .i64 j ∧ Hid ((l.take j).any (fun s => decide (p = s)) = false)) (fun i => l.length - (intOf i).toNat)
  case atStart => exact ⟨0, by omega, rfl, by simp [Hid]⟩
  case round =>
    obtain ⟨j, hj, rfl, HO⟩ := hrel
    by_cases hjn : j < l.length
    · obtain ⟨g, o, rfl, h1, -⟩ := str_at hr hjn
      have HK := hid (any_take_step (fun s => decide (p = s)) l j hjn)
      have HM := hid (List.getElem_mem hjn)
      have hsq := str_eqb p l[j]
      generalize l[j] = s at *
      have hz : (0 : Int) ≤ j := by omega
      have hlt : (j : Int) < l.length := by omega
      cases hq : decide (p = s) with
      | false =>
        rw [hq] at hsq
        have HK2 : Hid ((l.take (j + 1)).any (fun s => decide (p = s)) = false) := by show _ = _; rw [HK.out, HO.out, hq]; rfl
        clear HK HM HO hq
        go_wp2
        go_round
        case rel => exact ⟨j + 1, by omega, by go_num, HK2⟩
        case measure => simp [intOf]; omega
      | true =>
        rw [hq] at hsq
        have HQ : Hid (l.any (fun s => decide (p = s)) = true) := List.any_eq_true.2 ⟨s, HM.out, hq⟩
        clear HK HM HO hq
        go_wp2
        go_ret
        exact ⟨j, rfl, by rw [decide_eq_true hz, HQ.out], Below.refl _ _⟩
    · have HE := hid (show j = l.length by omega)
      have hnlt : ¬ (j : Int) < l.length := by omega
      have HQ : Hid (l.any (fun s => decide (p = s)) = false) := by have ho := HO.out; rw [HE.out, List.take_length] at ho; exact ho
      go_wp2
      go_ret
      exact ⟨-1, rfl, by rw [HQ.out]; rfl, Below.refl _ _⟩
set_option maxHeartbeats 400000 in
theorem contT_any (B : Option Addr) (c : Nat) (l : List ByteArray) (p : ByteArray) (w : World) (hr : Rd w B (strV l)) (hn : l.length ≤ 1000000) :
    Calls Tryz.prog 49 #[.slice B l.length c, .string p] w fun x w' => x = .returned (.bool (l.any fun s => decide (p = s))) ∧ Below w.heap.size w w' := by
  have c0 := idxT_any B c l p w hr hn
  clear hr
  generalize l.any (fun s => decide (p = s)) = b at *
  go_enter Tryz.func49, Tryz.ntmps49
  go_wp2_with fail
  refine c0.mono ?_
  rintro e w1 ⟨z, rfl, hz, hb1⟩
  clear c0
  have HZ := hid hz
  clear hz
  go_wp2
  go_ret
  exact ⟨ret_bool HZ.out, hb1⟩
end Go.Proofs.YtlmccjdpmhancaaGreatDoor
namespace Go.Proofs.YtlmccjdpmhancaaGreatDoor
open Go.RowKit

/-! ### Actions -/
abbrev Ac := ByteArray × Bool × ByteArray
def aV (a : Ac) : List Value := [.string a.1, .bool a.2.1, .string a.2.2]
def actV (l : List Ac) : List Value := l.flatMap aV
theorem actV_append (a b : List Ac) : actV (a ++ b) = actV a ++ actV b := by simp [actV]
theorem actV_one (l : List Ac) : ∀ u ∈ actV l, u.oneCell' = true := by
  intro u hu
  obtain ⟨a, -, ha⟩ := List.mem_flatMap.1 hu
  simp only [aV, List.mem_cons, List.not_mem_nil, or_false] at ha
  rcases ha with rfl | rfl | rfl <;> rfl
theorem actV_length (l : List Ac) : (actV l).length = l.length * 3 := by
  induction l with
  | nil => rfl
  | cons a l ih => rw [show actV (a :: l) = aV a ++ actV l from rfl, List.length_append, ih, List.length_cons]; simp [aV]; omega
theorem Tryz.infoA : (Tryz.prog.info? 55).map (fun i => (i.zero, i.size, i.bytes)) = some (some (.agg #[zS, .bool false, zS]), 3, 40) := by kernel_rfl
def dropsL (t u : List Fil) : List Ac := (t.filter fun f => !(u.any fun g => decide (g.1 = f.1))).map fun f => (f.1, false, noS)
def putsL (t u : List Fil) : List Ac := (u.filter fun f => !(t.any fun g => decide (f = g))).map fun f => (f.1, true, f.2)
def planL (t u : List Fil) : List Ac := dropsL t u ++ putsL t u
theorem drops_more (t u : List Fil) (j : Nat) (h : j < t.length) : dropsL (t.take (j + 1)) u = dropsL (t.take j) u ++ (if u.any (fun g => decide (g.1 = t[j].1)) then [] else [(t[j].1, false, noS)]) := by
  rw [dropsL, List.take_add_one, List.getElem?_eq_getElem h, List.filter_append, List.map_append, dropsL]
  congr 1
  simp only [Option.toList_some, List.filter_cons, List.filter_nil]
  cases u.any (fun g => decide (g.1 = t[j].1)) <;> rfl
theorem puts_more (t u : List Fil) (j : Nat) (h : j < u.length) : putsL t (u.take (j + 1)) = putsL t (u.take j) ++ (if t.any (fun g => decide (u[j] = g)) then [] else [(u[j].1, true, u[j].2)]) := by
  rw [putsL, List.take_add_one, List.getElem?_eq_getElem h, List.filter_append, List.map_append, putsL]
  congr 1
  simp only [Option.toList_some, List.filter_cons, List.filter_nil]
  cases t.any (fun g => decide (u[j] = g)) <;> rfl
theorem drops_len (t u : List Fil) : (dropsL t u).length ≤ t.length := by rw [dropsL, List.length_map]; exact List.length_filter_le _ _
theorem puts_len (t u : List Fil) : (putsL t u).length ≤ u.length := by rw [putsL, List.length_map]; exact List.length_filter_le _ _
def planN (t : List Fil) (es : List Ent) : Nat := if treeR t && archR es then 0 else 1
def planA (t : List Fil) (es : List Ent) : List Ac := if planN t es = 0 then planL t (treeE es) else []
def PlanPost (w : World) (t : List Fil) (es : List Ent) (e : Ending) (w' : World) : Prop :=
  ∃ A' c', e = .returned (.tuple #[.slice A' (planA t es).length c', .int .i64 (planN t es : Nat)]) ∧
    w'.ownsRow w.heap.size 55 3 (.slice A' (planA t es).length c') (planA t es).length (actV (planA t es)) ∧ Below w.heap.size w w'
theorem plan_err {w w' : World} {t : List Fil} {es : List Ent} (h : (treeR t && archR es) = false) (hb : Below w.heap.size w w') : PlanPost w t es (.returned (.tuple #[.slice none 0 0, .int .i64 1])) w' := by
  have e0 : planN t es = 1 := by unfold planN; rw [h]; rfl
  have e1 : planA t es = [] := by unfold planA; rw [e0, if_neg (by decide)]
  refine ⟨none, 0, ?_, ?_, hb⟩
  · rw [e1, e0]; rfl
  · rw [e1]; exact World.ownsRow_nil _ _ _ _
/-- One more action. -/
theorem app_act {W : World} {n₀ : Nat} {v : Value} {xs : List Ac} (hrow : W.ownsRow n₀ 55 3 v xs.length (actV xs)) (hn : n₀ ≤ W.heap.size) (hk : xs.length ≤ 1000000) (a : Ac) :
    ∃ A' c' w1, Hid ((Builtin.append_ #[38, 38] 38 #[v, .slice (some ⟨W.heap.size, 0, none⟩) 1 1]).run Tryz.prog (W.alloc (.cells #[.string a.1, .bool a.2.1, .string a.2.2] 55)) = .ok (.slice A' (xs ++ [a]).length c') w1) ∧ w1.ownsRow n₀ 55 3 (.slice A' (xs ++ [a]).length c') (xs ++ [a]).length (actV (xs ++ [a])) ∧ Below n₀ W w1 := by
  obtain ⟨A', c', w1, h1, h2, -, h4⟩ := app_own2 (n₀ := n₀) Tryz.underlying38 Tryz.infoA rfl (by decide) hrow hn (by omega) (by unfold maxLen; omega) (aV a) rfl (by intro u hu; exact actV_one [a] u (by simpa [actV] using hu))
  refine ⟨A', c', w1, ?_, ?_, h4⟩
  · rw [List.length_append, List.length_singleton]; exact h1
  · rw [List.length_append, List.length_singleton, actV_append]
    simpa [actV] using h2

set_option maxHeartbeats 4000000 in
theorem plan_any {w : World} {A B : Option Addr} {n c m d : Nat} {t : List Fil} {es : List Ent} (h : Ft w A n c t) (k : Et w B m d es) (hn : n ≤ 100000) (hme : m ≤ 100000) :
    Calls Tryz.prog 18 #[.slice A n c, .slice B m d] w (PlanPost w t es) := by
  have hmf : ∀ (fn : Fn) (first cap : Array Value) (w : World), (Instr.makeFunc fn first cap).run Tryz.prog w = .ok (.func fn first cap) w := fun _ _ _ _ => rfl
  have hal : ∀ (W : World) (o : Obj), Below W.heap.size W (W.alloc o) := fun W o => (Below.refl _ _).alloc (Nat.le_refl _) o
  go_enter Tryz.func18, Tryz.ntmps18
  go_wp2_with fail
  refine (tree_any h).mono ?_
  rintro e w1 ⟨rfl, b1⟩
  have h1 := h.below b1
  have k1 := k.below b1
  cases hR : treeR t with
  | false =>
    have HN : Hid ((treeR t && archR es) = false) := by show _ = _; rw [hR]; rfl
    clear hR
    go_wp2
    exact bodyPost_ret (v := .tuple #[.slice none 0 0, .int .i64 1]) (by simp [results, Tryz.results18, go_sem]) rfl (plan_err HN.out b1)
  | true =>
    go_wp2_with fail
    refine (archR_any k1).mono ?_
    rintro e w2 ⟨rfl, hb2⟩
    have b2 := below2 b1 hb2
    have h2 := h1.below hb2
    have k2 := k1.below hb2
    clear hb2 b1 h1 k1 h k
    cases hR2 : archR es with
    | false =>
      have HN : Hid ((treeR t && archR es) = false) := by show _ = _; rw [hR, hR2]; rfl
      clear hR hR2
      go_wp2
      exact bodyPost_ret (v := .tuple #[.slice none 0 0, .int .i64 1]) (by simp [results, Tryz.results18, go_sem]) rfl (plan_err HN.out b2)
    | true =>
      have HN : Hid (planN t es = 0) := by show _ = _; unfold planN; rw [hR, hR2]; rfl
      have HA : Hid (planA t es = planL t (treeE es)) := by show _ = _; unfold planA; rw [HN.out, if_pos rfl]
      have hfl : (treeE es).length ≤ m := by rw [treeE, hR2, if_pos rfl, ← k2.len]; exact filesOf_len es
      have hm : m ≤ 100000 := hme
      clear hR hR2
      go_wp2_with fail
      refine (treeE_any k2).mono ?_
      rintro e w3 ⟨U, du, rfl, u3, hb3⟩
      have b3 := below2 b2 hb3
      have h3 := h2.below hb3
      clear hb3 b2 h2 k2
      generalize treeE es = u at *
      have HL := hid h3.len
      have HSZ := hid h3.sz
      have HW := hid b3.size
      go_wp2_with fail
      go_loopw [6, 24] (fun v i wr => ∃ j : Nat, j ≤ n ∧ i = .int .i64 j ∧ wr.ownsRow w3.heap.size 55 3 v (dropsL (t.take j) u).length (actV (dropsL (t.take j) u)) ∧ Below w3.heap.size w3 wr) (fun _ i _ => n - (intOf i).toNat)
      case atStart => exact ⟨0, by omega, rfl, World.ownsRow_nil _ _ _ _, Below.refl _ _⟩
      case round =>
        obtain ⟨j, hj, rfl, o, b⟩ := hrel
        by_cases hjn : j < n
        · have hjl : j < t.length := by rw [HL.out]; exact hjn
          have hz : (0 : Int) ≤ j := by omega
          have hlt : (j : Int) < n := by omega
          obtain ⟨g, og, rfl, x1, x2, -⟩ := (h3.rd.below b).fil hjl
          have HT := hid (drops_more t u j hjl)
          have hpz : t[j].1.size ≤ 281474976710656 := by have := (HSZ.out _ (List.getElem_mem hjl)).1; omega
          have hdl : (dropsL (t.take j) u).length ≤ 100000 := by have := drops_len (t.take j) u; rw [List.length_take] at this; omega
          generalize dropsL (t.take j) u = out at *
          generalize t[j] = f at *
          have hal2 := hal wr (.cells #[.string f.1, .string f.2] 57)
          have pf := Blk.new wr [.string f.1, .string f.2] 57
          have o2 := own_below o hal2
          have b2 := b.trans (hal2.mono b.size)
          have u2 := (u3.below b).below hal2
          have cc := contQ_any wr.heap.size U u.length du u f.1 _ rfl (pf.cell 0) u2.rd (by omega)
          clear o hal2
          go_wp2_with fail
          refine cc.mono ?_
          rintro e w4 ⟨rfl, hb4⟩
          clear cc u2
          have pf4 := pf.below hb4
          have o4 := own_below o2 hb4
          have b4 := b2.trans (hb4.mono b2.size)
          have p0 := pf4.cell 0
          simp only [List.getElem?_cons_zero] at p0
          clear pf pf4 o2 b2 hb4 x1 x2
          cases hq : u.any (fun g => decide (g.1 = f.1)) with
          | true =>
            have HT2 : Hid (dropsL (t.take (j + 1)) u = out) := by show _ = _; rw [HT.out, hq]; simp
            clear HT hq
            go_wp2
            go_roundw
            case rel => exact ⟨j + 1, by omega, by go_num, by rw [HT2.out]; exact o4, b4⟩
            case measure => simp [intOf]; omega
          | false =>
            have HT2 : Hid (dropsL (t.take (j + 1)) u = out ++ [(f.1, false, noS)]) := by show _ = _; rw [HT.out, hq]; simp
            clear HT hq
            go_wp2_with fail
            refine (clone_any f.1 _ hpz).mono ?_
            rintro e w5 ⟨rfl, hb5⟩
            have o5 := own_below o4 hb5
            have b5 := b4.trans (hb5.mono b4.size)
            obtain ⟨A6, c6, w6, HRUN, o6, e6⟩ := app_act o5 b5.size (by omega) (f.1, false, noS)
            have b6 := b5.trans e6
            clear o4 o5 b4 b5 hb5 e6 p0
            go_wp2_with (at_builtin; refine Lib.wpList_append_run _ rfl _ _ _ _ rfl _ _ rfl rfl _ _ HRUN.out ?_)
            go_roundw
            case rel => exact ⟨j + 1, by omega, by go_num, by rw [HT2.out]; simpa using o6, b6⟩
            case measure => simp [intOf]; omega
        · have HE := hid (show j = n by omega)
          have hnlt : ¬ (j : Int) < n := by omega
          rw [HE.out, ← HL.out, List.take_length] at o
          have hdl : (dropsL t u).length ≤ 100000 := by have := drops_len t u; rw [HL.out] at this; omega
          have HA2 : Hid (planL t u = dropsL t u ++ putsL t u) := rfl
          obtain ⟨W1, rfl⟩ : ∃ W1, W1 = wr := ⟨_, rfl⟩
          generalize dropsL t u = ds at *
          go_wp2_with fail
          go_loopw [6, 42] (fun v i wr => ∃ k : Nat, k ≤ u.length ∧ i = .int .i64 k ∧ wr.ownsRow w3.heap.size 55 3 v (ds ++ putsL t (u.take k)).length (actV (ds ++ putsL t (u.take k))) ∧ Below w3.heap.size w3 wr) (fun _ i _ => u.length - (intOf i).toNat)
          case atStart => exact ⟨0, by omega, rfl, by rw [List.take_zero, show putsL t [] = [] from rfl, List.append_nil]; exact o, b⟩
          case round =>
            clear o b
            obtain ⟨k, hk, rfl, o, b⟩ := hrel
            by_cases hkn : k < u.length
            · have hz : (0 : Int) ≤ k := by omega
              have hlt : (k : Int) < u.length := by omega
              obtain ⟨g, og, rfl, x1, x2, -⟩ := (u3.rd.below b).fil hkn
              have HT := hid (puts_more t u k hkn)
              have hdl : (ds ++ putsL t (u.take k)).length ≤ 1000000 := by have := puts_len t (u.take k); rw [List.length_take] at this; rw [List.length_append]; omega
              have HT2 : Hid (ds ++ putsL t (u.take (k + 1)) = (ds ++ putsL t (u.take k)) ++ (if t.any (fun g => decide (u[k] = g)) then [] else [(u[k].1, true, u[k].2)])) := by show _ = _; rw [HT.out, List.append_assoc]
              clear HT
              generalize ds ++ putsL t (u.take k) = out at *
              generalize u[k] = f at *
              have hal2 := hal wr (.cells #[.string f.1, .string f.2] 57)
              have pf := Blk.new wr [.string f.1, .string f.2] 57
              have o2 := own_below o hal2
              have b2 := b.trans (hal2.mono b.size)
              have t2 := (h3.below b).below hal2
              have cc := contV_any A n c t f _ t2.len t2.rd t2.big
              clear o hal2
              go_wp2_with fail
              refine cc.mono ?_
              rintro e w4 ⟨rfl, hb4⟩
              clear cc t2
              have pf4 := pf.below hb4
              have o4 := own_below o2 hb4
              have b4 := b2.trans (hb4.mono b2.size)
              have p0 := pf4.cell 0
              have p1 := pf4.cell 1
              simp only [List.getElem?_cons_zero, List.getElem?_cons_succ] at p0 p1
              clear pf pf4 o2 b2 hb4 x1 x2
              cases hq : t.any (fun g => decide (f = g)) with
              | true =>
                have HT3 : Hid (ds ++ putsL t (u.take (k + 1)) = out) := by show _ = _; rw [HT2.out, hq]; simp
                clear HT2 hq
                go_wp2
                go_roundw
                case rel => exact ⟨k + 1, by omega, by go_num, by rw [HT3.out]; exact o4, b4⟩
                case measure => simp [intOf]; omega
              | false =>
                have HT3 : Hid (ds ++ putsL t (u.take (k + 1)) = out ++ [(f.1, true, f.2)]) := by show _ = _; rw [HT2.out, hq]; simp
                clear HT2 hq
                obtain ⟨A6, c6, w6, HRUN, o6, e6⟩ := app_act o4 b4.size (by omega) (f.1, true, f.2)
                have b6 := b4.trans e6
                clear o4 b4 e6
                go_wp2_with (at_builtin; refine Lib.wpList_append_run _ rfl _ _ _ _ rfl _ _ rfl rfl _ _ HRUN.out ?_)
                go_roundw
                case rel => exact ⟨k + 1, by omega, by go_num, by rw [HT3.out]; simpa using o6, b6⟩
                case measure => simp [intOf]; omega
            · have HE2 := hid (show k = u.length by omega)
              have hknl : ¬ (k : Int) < u.length := by omega
              rw [HE2.out, List.take_length, ← HA2.out, ← HA.out] at o
              obtain ⟨A5, c5, rfl⟩ := own_slice o
              have b5 := below2 b3 b
              have o5 := own_low o HW.out
              go_wp2
              refine bodyPost_ret (v := .tuple #[.slice A5 (planA t es).length c5, .int .i64 0]) (by simp [results, Tryz.results18, go_sem]) rfl ?_
              exact ⟨_, _, by rw [HN.out]; rfl, o5, b5⟩
end Go.Proofs.YtlmccjdpmhancaaGreatDoor
namespace Go.Proofs.YtlmccjdpmhancaaGreatDoor
open Go.RowKit

set_option maxHeartbeats 2000000 in
theorem fits_any {w : World} {A : Option Addr} {n c : Nat} {es : List Ent} (h : Et w A n c es) :
    Calls Tryz.prog 35 #[.slice A n c] w fun e w' => e = .returned (.int .i64 (fitN es : Nat)) ∧ Below w.heap.size w w' := by
  have hmf : ∀ (fn : Fn) (first cap : Array Value) (w : World), (Instr.makeFunc fn first cap).run Tryz.prog w = .ok (.func fn first cap) w := fun _ _ _ _ => rfl
  have hal : ∀ (W : World) (o : Obj), Below W.heap.size W (W.alloc o) := fun W o => (Below.refl _ _).alloc (Nat.le_refl _) o
  have HL := hid h.len
  have hr := h.rd
  have hn := h.big
  have HS := hid h.sz
  clear h
  go_enter Tryz.func35, Tryz.ntmps35
  go_wp2_with fail
  go_loopw [3, 10] (fun v i wr => ∃ j : Nat, j ≤ n ∧ i = .int .i64 j ∧ Hid ((fpaths (es.take j)).length ≤ j) ∧ wr.ownsRow w.heap.size 9 1 v (fpaths (es.take j)).length (strV (fpaths (es.take j))) ∧ Below w.heap.size w wr) (fun _ i _ => n - (intOf i).toNat)
  case atStart => exact ⟨0, by omega, rfl, hid (Nat.le_refl _), ⟨rfl, .inl ⟨rfl, rfl⟩⟩, Below.refl _ _⟩
  case round =>
    obtain ⟨j, hj, rfl, HJ, o, b⟩ := hrel
    by_cases hjn : j < n
    · have hjl : j < es.length := by rw [HL.out]; exact hjn
      have hz : (0 : Int) ≤ j := by omega
      have hlt : (j : Int) < n := by omega
      obtain ⟨g, og, rfl, x0, x1, x2, x3, x4, lg⟩ := (hr.below b).ent hjl
      have HT := hid (fpaths_more es j hjl)
      generalize fpaths (es.take j) = fp at *
      generalize es[j] = x at *
      have hal2 := hal wr (.cells #[.string x.path, .bool x.has, .string x.data, .int .i64 x.l, .int .i64 x.r] 34)
      have o2 := own_below o hal2
      have b2 := b.trans (hal2.mono b.size)
      have hfj := HJ.out
      have HB2 := hid b2
      cases hh : x.has with
      | false =>
        rw [hh] at x1 HT o2 HB2
        have HT2 : Hid (fpaths (es.take (j + 1)) = fp) := by show _ = _; rw [HT.out]; simp
        clear o hal2 hh b2
        go_wp2
        go_roundw
        case rel => exact ⟨j + 1, by omega, by go_num, hid (by rw [HT2.out]; omega), by rw [HT2.out]; exact o2, HB2.out⟩
        case measure => simp [intOf]; omega
      | true =>
        rw [hh] at x1 HT
        have HT2 : Hid (fpaths (es.take (j + 1)) = fp ++ [x.path]) := by show _ = _; rw [HT.out]; simp
        obtain ⟨A2, c2, w3, HRUN, o3, hgr, hb3⟩ := app_own2 (n₀ := w.heap.size) Tryz.underlying25 Tryz.infoS rfl (by decide) o2 b2.size (by omega) (by unfold maxLen; omega) [.string x.path] rfl (by simp [Value.oneCell'])
        have b3 := b2.trans hb3
        rw [show (wr.alloc (.cells #[.string x.path, .bool x.has, .string x.data, .int .i64 x.l, .int .i64 x.r] 34)).heap.size = wr.heap.size + 1 by simp, hh] at HRUN
        clear o o2 b hb3 hgr hal2 b2 HB2 hh
        go_wp2_with (at_builtin; refine Lib.wpList_append_run _ rfl _ _ _ _ rfl _ _ rfl rfl _ _ HRUN.out ?_)
        go_roundw
        case rel => exact ⟨j + 1, by omega, by go_num, hid (by rw [HT2.out, List.length_append, List.length_singleton]; omega), by rw [HT2.out, List.length_append, List.length_singleton, strV_append]; exact o3, b3⟩
        case measure => simp [intOf]; omega
    · have HE := hid (show j = n by omega)
      have hnlt : ¬ (j : Int) < n := by omega
      have HT : Hid (es.take j = es) := by show _ = _; rw [HE.out, ← HL.out, List.take_length]
      rw [HT.out] at o HJ
      obtain ⟨F, q, rfl⟩ := own_slice o
      have HFL := hid (fpaths_len es)
      have hfs : Hid (∀ p ∈ fpaths es, p.size < 4294967281) := fun p hp => by
        obtain ⟨f, hf, rfl⟩ := List.mem_map.1 hp
        obtain ⟨e, he, -, rfl⟩ := mem_files.1 hf
        exact (HS.out e he).1
      have HN : Hid (fitN es = if 32 < n ∨ 16 < (fpaths es).length then 2 else if Apt (fpaths es) then 0 else 6) := by show _ = _; rw [HFL.out, ← HL.out]; rfl
      generalize fpaths es = fp at *
      clear hr
      by_cases h32 : 32 < n ∨ 16 < fp.length
      · have HR : Hid (fitN es = 2) := by show _ = _; rw [HN.out, if_pos h32]
        clear HN
        by_cases h3 : 32 < n
        · have h3' : (32 : Int) < n := by omega
          clear h32
          go_wp2
          go_ret
          exact ⟨by rw [HR.out]; rfl, b⟩
        · have h3' : ¬ (32 : Int) < n := by omega
          have h4 : (16 : Int) < fp.length := by omega
          clear h32
          go_wp2
          go_ret
          exact ⟨by rw [HR.out]; rfl, b⟩
      · have HR : Hid (fitN es = if Apt fp then 0 else 6) := by show _ = _; rw [HN.out, if_neg h32]
        have h3' : ¬ (32 : Int) < n := by omega
        have h4 : ¬ (16 : Int) < fp.length := by omega
        have hf16 : fp.length ≤ 16 := by omega
        clear HN h32
        have rF : Rd wr F (strV fp) := Rd.of_own o
        have hq : fp.length ≤ q := by
          rcases o.2 with ⟨e1, e0⟩ | ⟨g, cap, cur, e1, _, _, h5, _⟩
          · omega
          · injection e1 with _ _ e3; omega
        clear o
        obtain ⟨W1, rfl⟩ : ∃ W1, W1 = wr := ⟨_, rfl⟩
        go_wp2_with fail
        go_loopw [32] (fun i w2 => ∃ k : Nat, k ≤ fp.length ∧ i = .int .i64 k ∧ Hid (Apt (fp.take k)) ∧ Below W1.heap.size W1 w2) (fun i _ => fp.length - (intOf i).toNat)
        case atStart => exact ⟨0, by omega, rfl, hid List.Pairwise.nil, Below.refl _ _⟩
        case round =>
          obtain ⟨k, hk, rfl, HA, b2⟩ := hrel
          by_cases hkn : k < fp.length
          · have hz : (0 : Int) ≤ k := by omega
            have hlt : (k : Int) < fp.length := by omega
            obtain ⟨g, og, hF, x0, lg⟩ := str_at (rF.below b2) hkn
            obtain ⟨B1, B2, hcut, -, r1, -⟩ := cuts ((rF.below b2).below (hal wr (.cells #[.string fp[k]] 9))) hq hk
            have cc := contC_any wr.heap.size B1 q (fp.take k) fp[k] (wr.alloc (.cells #[.string fp[k]] 9)) (Boxed.new wr 9 (.string fp[k])).cell r1 (by simp; omega) (hfs.out _ (List.getElem_mem hkn)) (fun b hb => hfs.out b (List.mem_of_mem_take hb))
            rw [List.length_take, Nat.min_eq_left hk] at cc
            have HM := hid (apt_more hkn)
            have HNO := hid (fun h => @apt_no fp k hkn h)
            generalize fp[k] = x at *
            subst hF
            have bb := below2 b (below2 b2 (hal wr (.cells #[.string x] 9)))
            have bd := below2 b2 (hal wr (.cells #[.string x] 9))
            clear r1 rF
            go_wp2_with fail
            refine cc.mono ?_
            rintro e w3 ⟨rfl, hb3⟩
            have b3 := below2 bd hb3
            have b4 := below2 bb hb3
            clear cc hb3 bb bd
            cases hq2 : (fp.take k).any (clB x) with
            | true =>
              have HR2 : Hid (fitN es = 6) := by show _ = _; rw [HR.out, if_neg (HNO.out hq2)]
              clear HM HNO hq2
              go_wp2
              go_ret
              exact ⟨by rw [HR2.out]; rfl, b4⟩
            | false =>
              have HA2 := hid (HM.out.2 ⟨HA.out, hq2⟩)
              clear HM HNO hq2
              go_wp2
              go_roundw
              case rel => exact ⟨k + 1, by omega, by go_num, HA2, b3⟩
              case measure => simp [intOf]; omega
          · have HE2 := hid (show k = fp.length by omega)
            have hknl : ¬ (k : Int) < fp.length := by omega
            have HR2 : Hid (fitN es = 0) := by
              show _ = _
              have := HA.out
              rw [HE2.out, List.take_length] at this
              rw [HR.out, if_pos this]
            go_wp2
            go_ret
            exact ⟨by rw [HR2.out]; rfl, below2 b b2⟩
end Go.Proofs.YtlmccjdpmhancaaGreatDoor
namespace Go.Proofs.YtlmccjdpmhancaaGreatDoor
open Go.RowKit

/-- Two rows of the call's own: what is out, what changed. -/
structure RSt (base : Nat) (v u : Value) (out : List Ent) (ch : List ByteArray) (W : World) : Prop where
  o : W.ownsRow base 34 5 v out.length (entV out)
  c : W.ownsRow base 9 1 u ch.length (strV ch)
theorem RSt.below {base : Nat} {v u : Value} {out : List Ent} {ch : List ByteArray} {W W' : World} (h : RSt base v u out ch W) (hb : Below W.heap.size W W') : RSt base v u out ch W' := ⟨own_below h.o hb, own_below h.c hb⟩
theorem RSt.set {base : Nat} {v u : Value} {out : List Ent} {ch : List ByteArray} {W : World} (h : RSt base v u out ch W) {g : Nat} (hv : some g ≠ v.ownBlock) (hu : some g ≠ u.ownBlock) (i : Nat) (x : Value) : RSt base v u out ch (W.setCell ⟨g, i, none⟩ x) := ⟨h.o.kept (grown_set i x) (.inr (Ne.symm hv)), h.c.kept (grown_set i x) (.inr (Ne.symm hu))⟩
theorem RSt.apart {base : Nat} {v u : Value} {out : List Ent} {ch : List ByteArray} {W : World} (h : RSt base v u out ch W) {g : Nat} (hg : W.heap.size ≤ g) : some g ≠ v.ownBlock ∧ some g ≠ u.ownBlock := ⟨fun e => by have := (h.o.lt g e.symm).2; omega, fun e => by have := (h.c.lt g e.symm).2; omega⟩
/-- One more is out. -/
theorem RSt.app {base : Nat} {v u : Value} {out : List Ent} {ch : List ByteArray} {W : World} (h : RSt base v u out ch W) (hn : base ≤ W.heap.size) (hk : out.length ≤ 1000000) (z : Ent) :
    ∃ A' c' w1, Hid ((Builtin.append_ #[22, 22] 22 #[v, .slice (some ⟨W.heap.size, 0, none⟩) 1 1]).run Tryz.prog (W.alloc (.cells #[.string z.path, .bool z.has, .string z.data, .int .i64 z.l, .int .i64 z.r] 34)) = .ok (.slice A' (out.length + 1) c') w1) ∧ RSt base (.slice A' (out.length + 1) c') u (out ++ [z]) ch w1 ∧ Below base W w1 := by
  obtain ⟨A', c', w1, h1, h2, h3, h4⟩ := app_own2 (n₀ := base) Tryz.underlying22 Tryz.infoE rfl (by decide) h.o hn (by omega) (by unfold maxLen; omega) (eV z) rfl (by intro u hu; exact entV_one [z] u (by simpa [entV] using hu))
  refine ⟨A', c', w1, h1, ⟨by simpa [entV] using h2, ?_⟩, h4⟩
  exact (h.c.alloc (.cells (eV z).toArray 34)).kept h3 ((rows_apart h.c h.o (by decide)).imp id id)
/-- One more changed. -/
theorem RSt.appS {base : Nat} {v u : Value} {out : List Ent} {ch : List ByteArray} {W : World} (h : RSt base v u out ch W) (hn : base ≤ W.heap.size) (hk : ch.length ≤ 1000000) (z : ByteArray) :
    ∃ A' c' w1, Hid ((Builtin.append_ #[25, 25] 25 #[u, .slice (some ⟨W.heap.size, 0, none⟩) 1 1]).run Tryz.prog (W.alloc (.cells #[.string z] 9)) = .ok (.slice A' (ch.length + 1) c') w1) ∧ RSt base v (.slice A' (ch.length + 1) c') out (ch ++ [z]) w1 ∧ Below base W w1 ∧ (∀ g cs t, t ≠ 9 → Blk W g cs t → Blk w1 g cs t) := by
  obtain ⟨A', c', w1, h1, h2, h3, h4⟩ := app_own2 (n₀ := base) Tryz.underlying25 Tryz.infoS rfl (by decide) h.c hn (by omega) (by unfold maxLen; omega) [.string z] rfl (by simp [Value.oneCell'])
  refine ⟨A', c', w1, h1, ⟨?_, by simpa [strV] using h2⟩, h4, fun g cs t ht hb => ?_⟩
  · exact (h.o.alloc (.cells [Value.string z].toArray 9)).kept h3 ((rows_apart h.o h.c (by decide)).imp id id)
  · exact (h3.block g (by have := hb.lt; simp; omega) (blk_row h.c hb ht)).trans (Blk.below hb ((Below.refl _ _).alloc (Nat.le_refl _) _))
end Go.Proofs.YtlmccjdpmhancaaGreatDoor
namespace Go.Proofs.YtlmccjdpmhancaaGreatDoor
open Go.RowKit

def mrgN (es fs : List Ent) : Nat := if archR es && archR fs then fitN (mA es fs) else 1
def mrgA (es fs : List Ent) : List Ent := if mrgN es fs = 0 then mA es fs else []
def mrgC (es fs : List Ent) : List ByteArray := if mrgN es fs = 0 then mC es fs else []
def MergePost (w : World) (es fs : List Ent) (e : Ending) (w' : World) : Prop :=
  ∃ A' c' B' d', e = .returned (.tuple #[.slice A' (mrgA es fs).length c', .slice B' (mrgC es fs).length d', .int .i64 (mrgN es fs : Nat)]) ∧
    w'.ownsRow w.heap.size 34 5 (.slice A' (mrgA es fs).length c') (mrgA es fs).length (entV (mrgA es fs)) ∧
    w'.ownsRow w.heap.size 9 1 (.slice B' (mrgC es fs).length d') (mrgC es fs).length (strV (mrgC es fs)) ∧ Below w.heap.size w w'
theorem merge_err {w w' : World} {es fs : List Ent} (k : Nat) (hk : mrgN es fs = k) (h0 : k ≠ 0) (hb : Below w.heap.size w w') : MergePost w es fs (.returned (.tuple #[.slice none 0 0, .slice none 0 0, .int .i64 (k : Nat)])) w' := by
  have e1 : mrgA es fs = [] := by unfold mrgA; rw [hk, if_neg h0]
  have e2 : mrgC es fs = [] := by unfold mrgC; rw [hk, if_neg h0]
  refine ⟨none, 0, none, 0, ?_, ?_, ?_, hb⟩
  · rw [e1, e2, hk]; rfl
  · rw [e1]; exact World.ownsRow_nil _ _ _ _
  · rw [e2]; exact World.ownsRow_nil _ _ _ _
theorem mrgN_arg {es fs : List Ent} (h : (archR es && archR fs) = false) : mrgN es fs = 1 := by unfold mrgN; rw [h]; rfl
theorem mrgN_fit {es fs : List Ent} (h : archR es = true) (k : archR fs = true) : mrgN es fs = fitN (mA es fs) := by unfold mrgN; rw [h, k]; rfl
theorem blk_own {w : World} {g base : Nat} {es : List Ent} (h : Blk w g (entV es) 34) (hb : base ≤ g) (hn : es.length ≤ 1000000) : w.ownsRow base 34 5 (.slice (some ⟨g, 0, none⟩) es.length es.length) es.length (entV es) := by
  refine ⟨entV_length es, .inr ⟨g, es.length, (entV es).toArray, rfl, hb, h, Nat.le_refl _, by unfold maxLen; omega, by simp [entV_length], ?_⟩⟩
  rw [← entV_length]
  simp
def mAp (M : List (Ent × Bool)) : List Ent := M.map (·.1)
def mCp (M : List (Ent × Bool)) : List ByteArray := (M.filter (·.2)).map (·.1.path)
theorem mAp_more (M : List (Ent × Bool)) (j : Nat) (h : j < M.length) : mAp (M.take (j + 1)) = mAp (M.take j) ++ [M[j].1] := by
  rw [mAp, List.take_add_one, List.getElem?_eq_getElem h, List.map_append]; rfl
theorem mCp_more (M : List (Ent × Bool)) (j : Nat) (h : j < M.length) : mCp (M.take (j + 1)) = mCp (M.take j) ++ (if M[j].2 then [M[j].1.path] else []) := by
  rw [mCp, List.take_add_one, List.getElem?_eq_getElem h, List.filter_append, List.map_append, mCp]
  congr 1
  simp only [Option.toList_some, List.filter_cons, List.filter_nil]
  split <;> rfl
theorem mCp_len (M : List (Ent × Bool)) : (mCp M).length ≤ M.length := by rw [mCp, List.length_map]; exact List.length_filter_le _ _
/-- What comes of two archives is of the size of theirs. -/
theorem come_sz {a b : Ent} (ha : SzE a) (hb : SzE b) : SzE (comeE a b).1 := by
  unfold comeE
  split
  · exact hb
  · split
    · exact ha
    · split
      · simp only []; split
        · exact ha
        · exact ha
      · exact ha
theorem mrg_sz (l m : List Ent) (hl : ∀ e ∈ l, SzE e) (hm : ∀ e ∈ m, SzE e) : ∀ x ∈ mrgL l m, SzE x.1 := by
  fun_induction mrgL l m with
  | case1 => simp
  | case2 a l ih => intro x hx; exact (List.mem_cons.1 hx).elim (fun e => by subst e; exact hl _ List.mem_cons_self) (fun h => ih (fun e he => hl e (List.mem_cons_of_mem _ he)) hm x h)
  | case3 b m ih => intro x hx; exact (List.mem_cons.1 hx).elim (fun e => by subst e; exact hm _ List.mem_cons_self) (fun h => ih hl (fun e he => hm e (List.mem_cons_of_mem _ he)) x h)
  | case4 a l b m h ih => intro x hx; exact (List.mem_cons.1 hx).elim (fun e => by subst e; exact come_sz (hl _ List.mem_cons_self) (hm _ List.mem_cons_self)) (fun h => ih (fun e he => hl e (List.mem_cons_of_mem _ he)) (fun e he => hm e (List.mem_cons_of_mem _ he)) x h)
  | case5 a l b m h h2 ih => intro x hx; exact (List.mem_cons.1 hx).elim (fun e => by subst e; exact hl _ List.mem_cons_self) (fun h => ih (fun e he => hl e (List.mem_cons_of_mem _ he)) hm x h)
  | case6 a l b m h h2 ih => intro x hx; exact (List.mem_cons.1 hx).elim (fun e => by subst e; exact hm _ List.mem_cons_self) (fun h => ih hl (fun e he => hm e (List.mem_cons_of_mem _ he)) x h)
theorem mA_sz {l m : List Ent} (hl : ∀ e ∈ l, SzE e) (hm : ∀ e ∈ m, SzE e) : ∀ e ∈ mA l m, SzE e := fun e he => by
  obtain ⟨x, hx, rfl⟩ := List.mem_map.1 he
  exact mrg_sz l m hl hm x hx

set_option maxHeartbeats 4000000 in
theorem merge_any {w : World} {A B : Option Addr} {n c m d : Nat} {es fs : List Ent} (h : Et w A n c es) (k : Et w B m d fs) :
    Calls Tryz.prog 11 #[.slice A n c, .slice B m d] w (MergePost w es fs) := by
  have eg := enters_of Tryz.func66 (by kernel_rfl) rfl
  have hal : ∀ (W : World) (o : Obj), Below W.heap.size W (W.alloc o) := fun W o => (Below.refl _ _).alloc (Nat.le_refl _) o
  go_enter Tryz.func11, Tryz.ntmps11
  go_wp2_with fail
  refine (archR_any h).mono ?_
  rintro e w1 ⟨rfl, b1⟩
  have h1 := h.below b1
  have k1 := k.below b1
  cases hR : archR es with
  | false =>
    have HN := hid (mrgN_arg (es := es) (fs := fs) (by rw [hR]; rfl))
    clear hR
    go_wp2
    exact bodyPost_ret (v := .tuple #[.slice none 0 0, .slice none 0 0, .int .i64 1]) (by simp [results, Tryz.results11, go_sem]) rfl (merge_err 1 HN.out (by decide) b1)
  | true =>
    go_wp2_with fail
    refine (archR_any k1).mono ?_
    rintro e w2 ⟨rfl, hb2⟩
    have b2 := below2 b1 hb2
    have h2 := h1.below hb2
    have k2 := k1.below hb2
    clear hb2 b1 h1 k1
    cases hR2 : archR fs with
    | false =>
      have HN := hid (mrgN_arg (es := es) (fs := fs) (by rw [hR2, Bool.and_false]))
      clear hR hR2
      go_wp2
      exact bodyPost_ret (v := .tuple #[.slice none 0 0, .slice none 0 0, .int .i64 1]) (by simp [results, Tryz.results11, go_sem]) rfl (merge_err 1 HN.out (by decide) b2)
    | true =>
      have HN := hid (mrgN_fit hR hR2)
      have hA := (archR_iff es).1 hR
      have hB := (archR_iff fs).1 hR2
      have hn : n ≤ 32 := by have := hA.few; rw [h.len] at this; exact this
      have hm : m ≤ 32 := by have := hB.few; rw [k.len] at this; exact this
      have HK := hid (known_is hA.srt hB.srt)
      have HAT := hid (mrg_at es fs hA.srt hB.srt)
      have HSZ := hid (mrg_sz es fs h.sz k.sz)
      have HML : Hid ((mrgL es fs).length ≤ 64) := by have := mrg_len es fs; rw [h.len, k.len] at this; show _ ≤ _; omega
      clear hR hR2 hA hB
      go_wp2_with fail
      refine (coming_any A B n c m d w2).mono ?_
      rintro e w3 ⟨rfl, x1, x2, -, hb3⟩
      have b3 := below2 b2 hb3
      have h3 := h2.below hb3
      have k3 := k2.below hb3
      clear hb3 b2 h2 k2 h k
      go_wp2_with fail
      refine (known_any h3 k3 (by omega) (by omega)).mono ?_
      rintro e w4 ⟨C, q, rfl, r4, hb4⟩
      rw [HK.out] at r4
      have z1 := World.block_lt_of_cell? _ _ x1
      have z2 := World.block_lt_of_cell? _ _ x2
      have y1 := (hb4.cell (p := ⟨w2.heap.size, 0, none⟩) z1).trans x1
      have y2 := (hb4.cell (p := ⟨w2.heap.size + 1, 0, none⟩) z2).trans x2
      have b4 := below2 b3 hb4
      have h4 := h3.below hb4
      have k4 := k3.below hb4
      have l1 : w2.heap.size < w4.heap.size := by have := hb4.size; dsimp only at z1; omega
      have l2 : w2.heap.size + 1 < w4.heap.size := by have := hb4.size; dsimp only at z2; omega
      have HKL : Hid ((knownL ((es ++ fs).map epth)).length = (mrgL es fs).length) := by have := congrArg List.length HK.out; rw [List.length_map, List.length_map] at this; exact this
      rw [HKL.out]
      clear hb4 b3 h3 k3 x1 x2 z1 z2 HK HKL
      have HMA : Hid (mA es fs = mAp (mrgL es fs)) := rfl
      have HMC : Hid (mC es fs = mCp (mrgL es fs)) := rfl
      generalize mrgL es fs = M at *
      have hML := HML.out
      generalize w2.heap.size = q1 at *
      go_wp2_with fail
      go_loopw [7, 8, 30] (fun v u i wr => ∃ j : Nat, j ≤ M.length ∧ i = .int .i64 j ∧ RSt w4.heap.size v u (mAp (M.take j)) (mCp (M.take j)) wr ∧ Below w4.heap.size w4 wr) (fun _ _ i _ => M.length - (intOf i).toNat)
      case atStart => exact ⟨0, by omega, rfl, ⟨World.ownsRow_nil _ _ _ _, World.ownsRow_nil _ _ _ _⟩, Below.refl _ _⟩
      case round =>
        obtain ⟨j, hj, rfl, R, b⟩ := hrel
        by_cases hjn : j < M.length
        · have hz : (0 : Int) ≤ j := by omega
          have hlt : (j : Int) < M.length := by omega
          obtain ⟨g, og, rfl, p0, -⟩ := str_at (r4.below b) (j := j) (by rw [List.length_map]; exact hjn)
          rw [List.getElem_map] at p0
          have HT1 := hid (mAp_more M j hjn)
          have HT2 := hid (mCp_more M j hjn)
          have cc := coming1_any (h4.below b) (k4.below b) ((b.cell (p := ⟨q1, 0, none⟩) l1).trans y1) ((b.cell (p := ⟨q1 + 1, 0, none⟩) l2).trans y2) M[j].1.path M[j] (HAT.out _ (List.getElem_mem hjn))
          have hpz : M[j].1.path.size ≤ 281474976710656 := by have := (HSZ.out _ (List.getElem_mem hjn)).1; omega
          have hl1 : (mAp (M.take j)).length ≤ 64 := by rw [mAp, List.length_map, List.length_take]; omega
          have hl2 : (mCp (M.take j)).length ≤ 64 := by have := mCp_len (M.take j); rw [List.length_take] at this; omega
          generalize mAp (M.take j) = out at *
          generalize mCp (M.take j) = ch at *
          generalize M[j] = x at *
          obtain ⟨x, cf⟩ := x
          dsimp only at p0 cc hpz HT1 HT2
          go_wp2_with fail
          refine cc.mono ?_
          rintro e w5 ⟨rfl, hb5⟩
          clear cc
          have R5 := (R.below hb5).below (hal w5 (.cells #[.string x.path, .bool x.has, .string x.data, .int .i64 x.l, .int .i64 x.r] 34))
          have b5 := below2 (below2 b hb5) (hal w5 (.cells #[.string x.path, .bool x.has, .string x.data, .int .i64 x.l, .int .i64 x.r] 34))
          obtain ⟨A6, c6, w6, HRUN6, R6, e6⟩ := R5.app b5.size (by omega) x
          rw [show (w5.alloc (.cells #[.string x.path, .bool x.has, .string x.data, .int .i64 x.l, .int .i64 x.r] 34)).heap.size = w5.heap.size + 1 by simp] at HRUN6
          have b6 := b5.trans e6
          clear R R5 b5 e6
          cases cf with
          | false =>
            have HT3 : Hid (mCp (M.take (j + 1)) = ch) := by show _ = _; rw [HT2.out]; simp
            go_wp2_with (at_builtin; refine Lib.wpList_append_run _ rfl _ _ _ _ rfl _ _ rfl rfl _ _ HRUN6.out ?_)
            go_roundw
            case rel => exact ⟨j + 1, by omega, by go_num, by rw [HT1.out, HT3.out]; exact R6, b6⟩
            case measure => simp [intOf]; omega
          | true =>
            have HT3 : Hid (mCp (M.take (j + 1)) = ch ++ [x.path]) := by show _ = _; rw [HT2.out]; simp
            go_wp2_with (at_builtin; refine Lib.wpList_append_run _ rfl _ _ _ _ rfl _ _ rfl rfl _ _ HRUN6.out ?_)
            refine (clone_any x.path _ hpz).mono ?_
            rintro e w7 ⟨rfl, hb7⟩
            have R7 := R6.below hb7
            have b7 := b6.trans (hb7.mono b6.size)
            obtain ⟨A8, c8, w8, HRUN8, R8, e8, -⟩ := R7.appS b7.size (by omega) x.path
            have b8 := b7.trans e8
            clear R6 R7 b6 b7 hb7 e8
            go_wp2_with (at_builtin; refine Lib.wpList_append_run _ rfl _ _ _ _ rfl _ _ rfl rfl _ _ HRUN8.out ?_)
            go_roundw
            case rel => exact ⟨j + 1, by omega, by go_num, by rw [HT1.out, HT3.out]; simpa using R8, b8⟩
            case measure => simp [intOf]; omega
        · have HE := hid (show j = M.length by omega)
          have hnlt : ¬ (j : Int) < M.length := by omega
          rw [HE.out, List.take_length, ← HMA.out, ← HMC.out] at R
          have HSZ2 : Hid (∀ e ∈ mA es fs, SzE e) := fun e he => by
            rw [HMA.out] at he
            obtain ⟨y, hy, rfl⟩ := List.mem_map.1 he
            exact HSZ.out y hy
          have hLA : (mA es fs).length ≤ 64 := by rw [HMA.out, mAp, List.length_map]; exact hML
          have b5 := below2 b4 b
          obtain ⟨A5, c5, rfl⟩ := own_slice R.o
          obtain ⟨B5, d5, rfl⟩ := own_slice R.c
          have E5 := own5_et R.o (by omega) HSZ2.out
          have o5 := own_low R.c b4.size
          clear r4 y1 y2 h4 k4 R b HMA HAT HSZ
          go_wp2_with fail
          refine (fits_any E5).mono ?_
          rintro e w6 ⟨rfl, hb6⟩
          have E6 := E5.below hb6
          have o6 := own_below o5 hb6
          have b6 := below2 b5 hb6
          clear E5 o5 b5 hb6
          rw [← HN.out]
          by_cases h0 : mrgN es fs = 0
          · have HA : Hid (mrgA es fs = mA es fs) := by show _ = _; rw [mrgA, if_pos h0]
            have HC : Hid (mrgC es fs = mC es fs) := by show _ = _; rw [mrgC, if_pos h0]
            have HZ := hid h0
            rw [h0]
            clear h0
            go_wp2_with fail
            refine (copy_any E6).mono ?_
            rintro e w7 ⟨rfl, B7, hb7⟩
            have o7 := own_below o6 hb7
            have b7 := below2 b6 hb7
            have w67 := b6.size
            clear E6 o6
            go_wp2
            refine bodyPost_ret (v := .tuple #[.slice (some ⟨w6.heap.size, 0, none⟩) (mA es fs).length (mA es fs).length, .slice B5 (mC es fs).length d5, .int .i64 0]) (by simp [results, Tryz.results11, go_sem]) rfl ?_
            unfold MergePost
            rw [HA.out, HC.out, HZ.out]
            exact ⟨_, _, _, _, rfl, blk_own B7 w67 (by omega), o7, b7⟩
          · have h0' : ¬ ((mrgN es fs : Nat) : Int) = 0 := by omega
            have HZ := hid h0
            clear h0
            generalize hk : mrgN es fs = kk at *
            go_wp2
            exact bodyPost_ret (v := .tuple #[.slice none 0 0, .slice none 0 0, .int .i64 (kk : Int)]) (by simp [results, Tryz.results11, go_sem]) rfl (merge_err kk hk HZ.out b6)
end Go.Proofs.YtlmccjdpmhancaaGreatDoor
namespace Go.Proofs.YtlmccjdpmhancaaGreatDoor
open Go.RowKit

def inB (p : ByteArray) (l : List ByteArray) : Bool := l.any fun s => decide (p = s)
theorem inB_iff {p : ByteArray} {l : List ByteArray} : inB p l = true ↔ p ∈ l := by
  unfold inB
  rw [List.any_eq_true]
  constructor
  · rintro ⟨x, hx, h⟩
    have := of_decide_eq_true h
    subst this
    exact hx
  · exact fun h => ⟨p, h, by simp⟩
theorem inB_no {p : ByteArray} {l : List ByteArray} (h : ¬ p ∈ l) : inB p l = false := not_true fun e => h (inB_iff.1 e)
def setE (x y : Ent) (tk : Bool) (a : Int) : Ent := ⟨x.path, if tk then y.has else x.has, if tk then y.data else x.data, (tickL (joinC x y).1 (joinC x y).2 a).1, (tickL (joinC x y).1 (joinC x y).2 a).2⟩
def setN (es fs : List Ent) (p : ByteArray) (tk : Bool) (a : Int) : Nat :=
  if mrgN es fs ≠ 0 then mrgN es fs else if inB p (mC es fs) then
    match atE es p, atE fs p with
    | some x, some y => if tickL (joinC x y).1 (joinC x y).2 a = joinC x y then 2 else fitN (es.set (idxE es p).toNat (setE x y tk a))
    | _, _ => 3
  else 3
def setA (es fs : List Ent) (p : ByteArray) (tk : Bool) (a : Int) : List Ent :=
  if setN es fs p tk a = 0 then match atE es p, atE fs p with
    | some x, some y => es.set (idxE es p).toNat (setE x y tk a)
    | _, _ => []
  else []
def SettlePost (w : World) (es fs : List Ent) (p : ByteArray) (tk : Bool) (a : Int) (e : Ending) (w' : World) : Prop :=
  ∃ A' c', e = .returned (.tuple #[.slice A' (setA es fs p tk a).length c', .int .i64 (setN es fs p tk a : Nat)]) ∧
    w'.ownsRow w.heap.size 34 5 (.slice A' (setA es fs p tk a).length c') (setA es fs p tk a).length (entV (setA es fs p tk a)) ∧ Below w.heap.size w w'
theorem settle_err {w w' : World} {es fs : List Ent} {p : ByteArray} {tk : Bool} {a : Int} (k : Nat) (hk : setN es fs p tk a = k) (h0 : k ≠ 0) (hb : Below w.heap.size w w') : SettlePost w es fs p tk a (.returned (.tuple #[.slice none 0 0, .int .i64 (k : Nat)])) w' := by
  have e1 : setA es fs p tk a = [] := by unfold setA; rw [hk, if_neg h0]
  refine ⟨none, 0, ?_, ?_, hb⟩
  · rw [e1, hk]; rfl
  · rw [e1]; exact World.ownsRow_nil _ _ _ _
theorem setN_mrg {es fs : List Ent} {p : ByteArray} {tk : Bool} {a : Int} (h : mrgN es fs ≠ 0) : setN es fs p tk a = mrgN es fs := by unfold setN; rw [if_pos h]
theorem setN_no {es fs : List Ent} {p : ByteArray} {tk : Bool} {a : Int} (h : mrgN es fs = 0) (hp : ¬ p ∈ mC es fs) : setN es fs p tk a = 3 := by unfold setN; rw [if_neg (by rw [h]; exact fun h => h rfl), inB_no hp]; rfl
theorem setN_at {es fs : List Ent} {p : ByteArray} {tk : Bool} {a : Int} (h : mrgN es fs = 0) (hp : p ∈ mC es fs) {i j : Nat} (hi : i < es.length) (hj : j < fs.length) (e1 : idxE es p = i) (e2 : idxE fs p = j) :
    setN es fs p tk a = if tickL (joinC es[i] fs[j]).1 (joinC es[i] fs[j]).2 a = joinC es[i] fs[j] then 2 else fitN (es.set i (setE es[i] fs[j] tk a)) := by
  unfold setN; rw [if_neg (by rw [h]; exact fun h => h rfl), if_pos (inB_iff.2 hp), atE_yes hi e1, atE_yes hj e2, e1]; rfl
theorem setA_at {es fs : List Ent} {p : ByteArray} {tk : Bool} {a : Int} (h : setN es fs p tk a = 0) {i j : Nat} (hi : i < es.length) (hj : j < fs.length) (e1 : idxE es p = i) (e2 : idxE fs p = j) :
    setA es fs p tk a = es.set i (setE es[i] fs[j] tk a) := by
  unfold setA; rw [if_pos h, atE_yes hi e1, atE_yes hj e2, e1]; rfl
theorem clk_set : ∀ (es : List Ent) (j : Nat) (h : j < es.length) (l r : Int), ((entV es).set (j * 5 + 3) (.int .i64 l)).set (j * 5 + 4) (.int .i64 r) = entV (es.set j ⟨es[j].path, es[j].has, es[j].data, l, r⟩)
  | x :: es, 0, _, l, r => rfl
  | x :: es, j + 1, h, l, r => by
    have ih := clk_set es j (by simpa using h) l r
    have e0 : (j + 1) * 5 + 3 = (j * 5 + 3) + 1 + 1 + 1 + 1 + 1 := by omega
    have e1 : (j + 1) * 5 + 4 = (j * 5 + 4) + 1 + 1 + 1 + 1 + 1 := by omega
    rw [List.set_cons_succ, entV_cons, entV_cons, e0, e1]
    simp only [eV, List.cons_append, List.nil_append, List.set_cons_succ, List.getElem_cons_succ, ih]
theorem val_set : ∀ (es : List Ent) (j : Nat) (h : j < es.length) (b : Bool) (d : ByteArray), ((entV es).set (j * 5 + 1) (.bool b)).set (j * 5 + 2) (.string d) = entV (es.set j ⟨es[j].path, b, d, es[j].l, es[j].r⟩)
  | x :: es, 0, _, b, d => rfl
  | x :: es, j + 1, h, b, d => by
    have ih := val_set es j (by simpa using h) b d
    have e0 : (j + 1) * 5 + 1 = (j * 5 + 1) + 1 + 1 + 1 + 1 + 1 := by omega
    have e1 : (j + 1) * 5 + 2 = (j * 5 + 2) + 1 + 1 + 1 + 1 + 1 := by omega
    rw [List.set_cons_succ, entV_cons, entV_cons, e0, e1]
    simp only [eV, List.cons_append, List.nil_append, List.set_cons_succ, List.getElem_cons_succ, ih]
/-- A conflict is of both. -/
theorem conf_both {es fs : List Ent} (hl : SrtE es) (hm : SrtE fs) {p : ByteArray} (h : p ∈ mC es fs) : ∃ (i j : Nat) (hi : i < es.length) (hj : j < fs.length), idxE es p = i ∧ idxE fs p = j ∧ es[i].path = p ∧ fs[j].path = p := by
  obtain ⟨e, he⟩ := (mC_mem hl hm p).1 h
  rcases idxE_cases es p with ⟨e1, -⟩ | ⟨i, hi, e1, p1⟩
  · rw [atE_no e1] at he
    rcases idxE_cases fs p with ⟨e2, -⟩ | ⟨j, hj, e2, -⟩
    · rw [atE_no e2] at he; cases he
    · rw [atE_yes hj e2] at he; cases he
  · rcases idxE_cases fs p with ⟨e2, -⟩ | ⟨j, hj, e2, p2⟩
    · rw [atE_no e2, atE_yes hi e1] at he; cases he
    · exact ⟨i, j, hi, hj, e1, e2, p1, p2⟩
theorem mrg_right {es fs : List Ent} (h : mrgN es fs = 0) : RightA es ∧ RightA fs := by
  unfold mrgN at h
  cases h1 : archR es with
  | false => rw [h1] at h; simp at h
  | true =>
    cases h2 : archR fs with
    | false => rw [h1, h2] at h; simp at h
    | true => exact ⟨(archR_iff _).1 h1, (archR_iff _).1 h2⟩

set_option maxHeartbeats 1500000 in
set_option maxRecDepth 100000 in
theorem settle_any {w : World} {A B : Option Addr} {n c m d : Nat} {es fs : List Ent} (h : Et w A n c es) (k : Et w B m d fs) (p : ByteArray) (tk : Bool) (a : Int) :
    Calls Tryz.prog 20 #[.slice A n c, .slice B m d, .string p, .bool tk, .int .i64 a] w (SettlePost w es fs p tk a) := by
  have hal : ∀ (W : World) (o : Obj), Below W.heap.size W (W.alloc o) := fun W o => (Below.refl _ _).alloc (Nat.le_refl _) o
  go_enter Tryz.func20, Tryz.ntmps20
  go_wp2_with fail
  refine (merge_any h k).mono ?_
  rintro e w1 ⟨A1, c1, B1, d1, rfl, o1, q1, b1⟩
  have rC : Rd w1 B1 (strV (mrgC es fs)) := Rd.of_own q1
  clear o1 q1
  by_cases h0 : mrgN es fs = 0
  · have HZ := hid h0
    have HC : Hid (mrgC es fs = mC es fs) := by show _ = _; rw [mrgC, if_pos h0]
    have hR := mrg_right h0
    have HR := hid hR
    have hn : n ≤ 32 := by have := hR.1.few; rw [h.len] at this; exact this
    have hm : m ≤ 32 := by have := hR.2.few; rw [k.len] at this; exact this
    have hcl : (mC es fs).length ≤ 1000000 := by have h1 := mCp_len (mrgL es fs); have h2 := mrg_len es fs; rw [h.len, k.len] at h2; have h3 : (mC es fs).length = (mCp (mrgL es fs)).length := rfl; omega
    rw [HC.out] at rC
    rw [h0, HC.out]
    have h1 := h.below b1
    have k1 := k.below b1
    clear h0 h k hR
    go_wp2_with fail
    refine (contT_any B1 d1 (mC es fs) p w1 rC hcl).mono ?_
    rintro e w2 ⟨rfl, hb2⟩
    have b2 := below2 b1 hb2
    have h2 := h1.below hb2
    have k2 := k1.below hb2
    clear hb2 b1 h1 k1 rC hcl
    by_cases hp : p ∈ mC es fs
    · have hany : ((mC es fs).any fun s => decide (p = s)) = true := List.any_eq_true.2 ⟨p, hp, by simp⟩
      rw [hany]
      obtain ⟨i, j, hi, hj, e1, e2, -, -⟩ := conf_both HR.out.1.srt HR.out.2.srt hp
      have HN := hid (setN_at (tk := tk) (a := a) HZ.out hp hi hj e1 e2)
      have HA := hid (fun h => setA_at (tk := tk) (a := a) h hi hj e1 e2)
      have HSZ := hid h2.sz
      have HSZ2 := hid k2.sz
      clear hany hp
      go_wp2_with fail
      refine (copy_any h2).mono ?_
      rintro e w3 ⟨rfl, P3, hb3⟩
      have b3 := below2 b2 hb3
      have h3 := h2.below hb3
      have k3 := k2.below hb3
      have w23 := b2.size
      have e1' := hid e1
      have e2' := hid e2
      have hiz : (0 : Int) ≤ i := by omega
      have hin : (i : Int) < n := by have := h3.len; omega
      have hjz : (0 : Int) ≤ j := by omega
      have hjm : (j : Int) < m := by have := k3.len; omega
      clear b2 h2 k2 hb3 e1 e2
      obtain ⟨g', og', rfl, d0, d1, d2, d3, d4, lg'⟩ := k3.rd.ent hj
      have HP3 := hid P3
      have hwg : w.heap.size ≤ w2.heap.size := w23
      have hg3 : w2.heap.size < w3.heap.size := P3.lt
      generalize w2.heap.size = g at *
      clear w23
      go_upto_region 7 with (fail)
      go_cut [16, 17] (fun v16 v17 wx => ∃ r : Nat, v16 = .pointer (some ⟨g, i * 5, none⟩) ∧ v17 = .pointer (some ⟨r, 0, none⟩) ∧ Blk wx r [.string fs[j].path, .bool fs[j].has, .string fs[j].data, .int .i64 fs[j].l, .int .i64 fs[j].r] 34 ∧ w3.heap.size ≤ r ∧ Below w3.heap.size w3 wx)
      case first =>
        go_wp2_with fail
        have HS : Hid (∀ W, Below w3.heap.size w3 W → (fun w' => w'.cell? ⟨g', og' + j * 5, none⟩ = some (.string fs[j].path) ∧ w'.cell? ⟨g', og' + j * 5 + 1, none⟩ = some (.bool fs[j].has) ∧ w'.cell? ⟨g', og' + j * 5 + 2, none⟩ = some (.string fs[j].data) ∧ w'.cell? ⟨g', og' + j * 5 + 3, none⟩ = some (.int .i64 fs[j].l) ∧ w'.cell? ⟨g', og' + j * 5 + 4, none⟩ = some (.int .i64 fs[j].r)) W) := fun W hb => by
          dsimp only
          rw [hb.cell (p := ⟨g', og' + j * 5, none⟩) lg']
          rw [hb.cell (p := ⟨g', og' + j * 5 + 1, none⟩) lg']
          rw [hb.cell (p := ⟨g', og' + j * 5 + 2, none⟩) lg']
          rw [hb.cell (p := ⟨g', og' + j * 5 + 3, none⟩) lg']
          rw [hb.cell (p := ⟨g', og' + j * 5 + 4, none⟩) lg']
          exact ⟨d0, d1, d2, d3, d4⟩
        refine wp_region_held_drew (S := fun w' => w'.cell? ⟨g', og' + j * 5, none⟩ = some (.string fs[j].path) ∧ w'.cell? ⟨g', og' + j * 5 + 1, none⟩ = some (.bool fs[j].has) ∧ w'.cell? ⟨g', og' + j * 5 + 2, none⟩ = some (.string fs[j].data) ∧ w'.cell? ⟨g', og' + j * 5 + 3, none⟩ = some (.int .i64 fs[j].l) ∧ w'.cell? ⟨g', og' + j * 5 + 4, none⟩ = some (.int .i64 fs[j].r)) (by kernel_rfl) (HS.out _ (Below.refl _ _).drew) (fun hHeld => ?_)
        refine wpAnyH_take (i := 0) (oi := ⟨_, _, _, _, _, _⟩) (v := ?_) rfl (by kernel_rfl) (by kernel_rfl) (by kernel_rfl) (fun _ _ _ h => h) (Or.inl ⟨by rfl, ?_⟩) (by assumption) ?_
        rotate_left
        · intro w hSw; (try dsimp only at hSw); go_simp; (try (with_reducible rfl))
        try simp only [Act.put, List.setIfInBounds_toArray, List.set_cons_zero, List.set_cons_succ]
        refine wpAnyH_take (i := 1) (oi := ⟨_, _, _, _, _, _⟩) (v := ?_) rfl (by kernel_rfl) (by kernel_rfl) (by kernel_rfl) (fun _ _ _ h => h) (Or.inl ⟨by rfl, ?_⟩) (by assumption) ?_
        rotate_left
        · intro w hSw; (try dsimp only at hSw); go_simp; (try (with_reducible rfl))
        try simp only [Act.put, List.setIfInBounds_toArray, List.set_cons_zero, List.set_cons_succ]
        refine wpAnyH_take (i := 2) (oi := ⟨_, _, _, _, _, _⟩) (v := ?_) rfl (by kernel_rfl) (by kernel_rfl) (by kernel_rfl) (fun _ _ _ h => h) (Or.inl ⟨by rfl, ?_⟩) (by assumption) ?_
        rotate_left
        · intro w hSw; (try dsimp only at hSw); go_simp; (try (with_reducible rfl))
        try simp only [Act.put, List.setIfInBounds_toArray, List.set_cons_zero, List.set_cons_succ]
        refine wpAnyH_take (i := 5) (oi := ⟨_, _, _, _, _, _⟩) (v := ?_) rfl (by kernel_rfl) (by kernel_rfl) (by kernel_rfl) (fun _ _ _ h => h) (Or.inl ⟨by rfl, ?_⟩) (by assumption) ?_
        rotate_left
        · intro w hSw; (try dsimp only at hSw); go_simp; (try (with_reducible rfl))
        try simp only [Act.put, List.setIfInBounds_toArray, List.set_cons_zero, List.set_cons_succ]
        refine wpAnyH_take (i := 6) (oi := ⟨_, _, _, _, _, _⟩) (v := ?_) rfl (by kernel_rfl) (by kernel_rfl) (by kernel_rfl) (fun _ _ _ h => h) (Or.inl ⟨by rfl, ?_⟩) (by assumption) ?_
        rotate_left
        · intro w hSw; (try dsimp only at hSw); go_simp; (try (with_reducible rfl))
        try simp only [Act.put, List.setIfInBounds_toArray, List.set_cons_zero, List.set_cons_succ]
        refine wpAnyH_take (i := 7) (oi := ⟨_, _, _, _, _, _⟩) (v := ?_) rfl (by kernel_rfl) (by kernel_rfl) (by kernel_rfl) (fun _ _ _ h => h) (Or.inl ⟨by rfl, ?_⟩) (by assumption) ?_
        rotate_left
        · intro w hSw; (try dsimp only at hSw); go_simp; (try (with_reducible rfl))
        try simp only [Act.put, List.setIfInBounds_toArray, List.set_cons_zero, List.set_cons_succ]
        refine wpAnyH_ready (rs := [3, 11]) (by kernel_rfl) (by simp) ?_
        refine AllReadyH.cons (o := ⟨_, _, _, _, _, _⟩) rfl (fun K hK => ?_) (AllReadyH.cons (o := ⟨_, _, _, _, _, _⟩) rfl (fun K hK => ?_) (AllReadyH.nil))
        · go_simp
          clear hHeld
          refine (plc_any (w := w3.drew) (es := es) h3.len (h3.rd.below (show Below w3.heap.size w3 w3.drew from (Below.refl _ _).drew)) h3.big p).mono ?_
          rintro e w4 ⟨rfl, hb4⟩
          rw [e1'.out]
          have c4 : Below w3.heap.size w3 w4 := below2 (show Below w3.heap.size w3 w3.drew from (Below.refl _ _).drew) hb4
          refine hK.out _ _ (HS.out _ c4) (fun hHeld => ?_)
          clear hK K
          try simp only [Act.put, List.setIfInBounds_toArray, List.set_cons_zero, List.set_cons_succ]
          refine wpAnyH_take (i := 4) (oi := ⟨_, _, _, _, _, _⟩) (v := ?_) rfl (by kernel_rfl) (by kernel_rfl) (by kernel_rfl) (fun _ _ _ h => h) (Or.inl ⟨by rfl, ?_⟩) (by assumption) ?_
          rotate_left
          · intro w hSw; (try dsimp only at hSw); go_simp; (try (with_reducible rfl))
          try simp only [Act.put, List.setIfInBounds_toArray, List.set_cons_zero, List.set_cons_succ]
          refine wpAnyH_ready (rs := [8, 11]) (by kernel_rfl) (by simp) ?_
          refine AllReadyH.cons (o := ⟨_, _, _, _, _, _⟩) rfl (fun K hK => ?_) (AllReadyH.cons (o := ⟨_, _, _, _, _, _⟩) rfl (fun K hK => ?_) (AllReadyH.nil))
          · go_simp
            clear hHeld
            refine (plc_any (w := w4) (es := fs) k3.len (k3.rd.below c4) k3.big p).mono ?_
            rintro e w5 ⟨rfl, hb5⟩
            rw [e2'.out]
            have c5 : Below w3.heap.size w3 w5 := below2 c4 hb5
            refine hK.out _ _ (HS.out _ c5) (fun hHeld => ?_)
            clear hK K
            try simp only [Act.put, List.setIfInBounds_toArray, List.set_cons_zero, List.set_cons_succ]
            refine wpAnyH_take (i := 9) (oi := ⟨_, _, _, _, _, _⟩) (v := ?_) rfl (by kernel_rfl) (by kernel_rfl) (by kernel_rfl) (fun _ _ _ h => h) (Or.inl ⟨by rfl, ?_⟩) (by assumption) ?_
            rotate_left
            · intro w hSw; (try dsimp only at hSw); go_simp; (try (with_reducible rfl))
            try simp only [Act.put, List.setIfInBounds_toArray, List.set_cons_zero, List.set_cons_succ]
            refine wpAnyH_take (i := 10) (oi := ⟨_, _, _, _, _, _⟩) (v := ?_) rfl (by kernel_rfl) (by kernel_rfl) (by kernel_rfl) (fun _ _ _ h => h) (Or.inl ⟨by rfl, ?_⟩) (by assumption) ?_
            rotate_left
            · intro w hSw; (try dsimp only at hSw); go_simp; (try (with_reducible rfl))
            try simp only [Act.put, List.setIfInBounds_toArray, List.set_cons_zero, List.set_cons_succ]
            refine wpAnyH_ready (rs := [11]) (by kernel_rfl) (by simp) ?_
            refine AllReadyH.cons (o := ⟨_, _, _, _, _, _⟩) rfl (fun K hK => ?_) (AllReadyH.nil)
            go_simp
            clear hHeld
            have Pz : Blk ((w5).alloc (.cells #[.string ⟨#[]⟩, .bool false, .string ⟨#[]⟩, .int .i64 0, .int .i64 0] 34)) w5.heap.size [.string ⟨#[]⟩, .bool false, .string ⟨#[]⟩, .int .i64 0, .int .i64 0] 34 := Blk.new (w5) [.string ⟨#[]⟩, .bool false, .string ⟨#[]⟩, .int .i64 0, .int .i64 0] 34
            have cz := c5.alloc c5.size (.cells #[.string ⟨#[]⟩, .bool false, .string ⟨#[]⟩, .int .i64 0, .int .i64 0] 34)
            have hrz : w3.heap.size ≤ w5.heap.size := c5.size
            refine hK.out _ _ (HS.out _ cz) (fun hHeld => ?_)
            clear hK K
            try simp only [Act.put, List.setIfInBounds_toArray, List.set_cons_zero, List.set_cons_succ]
            generalize w5.alloc (.cells #[.string ⟨#[]⟩, .bool false, .string ⟨#[]⟩, .int .i64 0, .int .i64 0] 34) = wz at *
            refine wpAnyH_take (i := 12) (oi := ⟨_, _, _, _, _, _⟩) (v := ?_) rfl (by kernel_rfl) (by kernel_rfl) (by kernel_rfl) (fun _ _ _ h => h) (Or.inl ⟨by rfl, ?_⟩) (by assumption) ?_
            rotate_left
            · intro w hSw; (try dsimp only at hSw); go_simp; (try (with_reducible rfl))
            try simp only [Act.put, List.setIfInBounds_toArray, List.set_cons_zero, List.set_cons_succ]
            have u0 := Pz.cell 0
            have u1 := Pz.cell 1
            have u2 := Pz.cell 2
            have u3 := Pz.cell 3
            have u4 := Pz.cell 4
            have uf0 := Pz.frozen 0
            have uf1 := Pz.frozen 1
            have uf2 := Pz.frozen 2
            have uf3 := Pz.frozen 3
            have uf4 := Pz.frozen 4
            simp only [List.getElem?_cons_zero, List.getElem?_cons_succ] at u0 u1 u2 u3 u4
            have P9 := (((((Pz.set_ 0 (.string fs[j].path)).set_ 1 (.bool fs[j].has)).set_ 2 (.string fs[j].data)).set_ 3 (.int .i64 fs[j].l)).set_ 4 (.int .i64 fs[j].r))
            have c9 := (((((cz.setCell (p := ⟨w5.heap.size, 0, none⟩) hrz (.string fs[j].path)).setCell (p := ⟨w5.heap.size, 1, none⟩) hrz (.bool fs[j].has)).setCell (p := ⟨w5.heap.size, 2, none⟩) hrz (.string fs[j].data)).setCell (p := ⟨w5.heap.size, 3, none⟩) hrz (.int .i64 fs[j].l)).setCell (p := ⟨w5.heap.size, 4, none⟩) hrz (.int .i64 fs[j].r))
            simp only [List.set_cons_zero, List.set_cons_succ] at P9
            refine wpAnyH_ready (rs := [13]) (by kernel_rfl) (by simp) ?_
            refine AllReadyH.cons (o := ⟨_, _, _, _, _, _⟩) rfl (fun K hK => ?_) AllReadyH.nil
            go_simp
            clear hHeld
            refine hK.out _ _ (HS.out _ c9) (fun hHeld => ?_)
            clear hK K
            try simp only [Act.put, List.setIfInBounds_toArray, List.set_cons_zero, List.set_cons_succ]
            refine wpAnyH_done (by kernel_rfl) ?_ _
            go_wp2_with fail
            go_meet
            case rel => exact ⟨_, rfl, rfl, P9, hrz, c9⟩
          · go_simp
            clear hHeld
            have Pz : Blk ((w4).alloc (.cells #[.string ⟨#[]⟩, .bool false, .string ⟨#[]⟩, .int .i64 0, .int .i64 0] 34)) w4.heap.size [.string ⟨#[]⟩, .bool false, .string ⟨#[]⟩, .int .i64 0, .int .i64 0] 34 := Blk.new (w4) [.string ⟨#[]⟩, .bool false, .string ⟨#[]⟩, .int .i64 0, .int .i64 0] 34
            have cz := c4.alloc c4.size (.cells #[.string ⟨#[]⟩, .bool false, .string ⟨#[]⟩, .int .i64 0, .int .i64 0] 34)
            have hrz : w3.heap.size ≤ w4.heap.size := c4.size
            refine hK.out _ _ (HS.out _ cz) (fun hHeld => ?_)
            clear hK K
            try simp only [Act.put, List.setIfInBounds_toArray, List.set_cons_zero, List.set_cons_succ]
            generalize w4.alloc (.cells #[.string ⟨#[]⟩, .bool false, .string ⟨#[]⟩, .int .i64 0, .int .i64 0] 34) = wz at *
            refine wpAnyH_ready (rs := [8]) (by kernel_rfl) (by simp) ?_
            refine AllReadyH.cons (o := ⟨_, _, _, _, _, _⟩) rfl (fun K hK => ?_) (AllReadyH.nil)
            go_simp
            clear hHeld
            refine (plc_any (w := wz) (es := fs) k3.len (k3.rd.below cz) k3.big p).mono ?_
            rintro e w5 ⟨rfl, hb5⟩
            rw [e2'.out]
            have c5 : Below w3.heap.size w3 w5 := below2 cz hb5
            have P5 := Pz.below hb5
            refine hK.out _ _ (HS.out _ c5) (fun hHeld => ?_)
            clear hK K
            try simp only [Act.put, List.setIfInBounds_toArray, List.set_cons_zero, List.set_cons_succ]
            refine wpAnyH_take (i := 9) (oi := ⟨_, _, _, _, _, _⟩) (v := ?_) rfl (by kernel_rfl) (by kernel_rfl) (by kernel_rfl) (fun _ _ _ h => h) (Or.inl ⟨by rfl, ?_⟩) (by assumption) ?_
            rotate_left
            · intro w hSw; (try dsimp only at hSw); go_simp; (try (with_reducible rfl))
            try simp only [Act.put, List.setIfInBounds_toArray, List.set_cons_zero, List.set_cons_succ]
            refine wpAnyH_take (i := 10) (oi := ⟨_, _, _, _, _, _⟩) (v := ?_) rfl (by kernel_rfl) (by kernel_rfl) (by kernel_rfl) (fun _ _ _ h => h) (Or.inl ⟨by rfl, ?_⟩) (by assumption) ?_
            rotate_left
            · intro w hSw; (try dsimp only at hSw); go_simp; (try (with_reducible rfl))
            try simp only [Act.put, List.setIfInBounds_toArray, List.set_cons_zero, List.set_cons_succ]
            refine wpAnyH_take (i := 12) (oi := ⟨_, _, _, _, _, _⟩) (v := ?_) rfl (by kernel_rfl) (by kernel_rfl) (by kernel_rfl) (fun _ _ _ h => h) (Or.inl ⟨by rfl, ?_⟩) (by assumption) ?_
            rotate_left
            · intro w hSw; (try dsimp only at hSw); go_simp; (try (with_reducible rfl))
            try simp only [Act.put, List.setIfInBounds_toArray, List.set_cons_zero, List.set_cons_succ]
            have u0 := P5.cell 0
            have u1 := P5.cell 1
            have u2 := P5.cell 2
            have u3 := P5.cell 3
            have u4 := P5.cell 4
            have uf0 := P5.frozen 0
            have uf1 := P5.frozen 1
            have uf2 := P5.frozen 2
            have uf3 := P5.frozen 3
            have uf4 := P5.frozen 4
            simp only [List.getElem?_cons_zero, List.getElem?_cons_succ] at u0 u1 u2 u3 u4
            have P9 := (((((P5.set_ 0 (.string fs[j].path)).set_ 1 (.bool fs[j].has)).set_ 2 (.string fs[j].data)).set_ 3 (.int .i64 fs[j].l)).set_ 4 (.int .i64 fs[j].r))
            have c9 := (((((c5.setCell (p := ⟨w4.heap.size, 0, none⟩) hrz (.string fs[j].path)).setCell (p := ⟨w4.heap.size, 1, none⟩) hrz (.bool fs[j].has)).setCell (p := ⟨w4.heap.size, 2, none⟩) hrz (.string fs[j].data)).setCell (p := ⟨w4.heap.size, 3, none⟩) hrz (.int .i64 fs[j].l)).setCell (p := ⟨w4.heap.size, 4, none⟩) hrz (.int .i64 fs[j].r))
            simp only [List.set_cons_zero, List.set_cons_succ] at P9
            refine wpAnyH_ready (rs := [13]) (by kernel_rfl) (by simp) ?_
            refine AllReadyH.cons (o := ⟨_, _, _, _, _, _⟩) rfl (fun K hK => ?_) AllReadyH.nil
            go_simp
            clear hHeld
            refine hK.out _ _ (HS.out _ c9) (fun hHeld => ?_)
            clear hK K
            try simp only [Act.put, List.setIfInBounds_toArray, List.set_cons_zero, List.set_cons_succ]
            refine wpAnyH_done (by kernel_rfl) ?_ _
            go_wp2_with fail
            go_meet
            case rel => exact ⟨_, rfl, rfl, P9, hrz, c9⟩
        · go_simp
          clear hHeld
          have Pz : Blk ((w3.drew).alloc (.cells #[.string ⟨#[]⟩, .bool false, .string ⟨#[]⟩, .int .i64 0, .int .i64 0] 34)) w3.heap.size [.string ⟨#[]⟩, .bool false, .string ⟨#[]⟩, .int .i64 0, .int .i64 0] 34 := Blk.new (w3.drew) [.string ⟨#[]⟩, .bool false, .string ⟨#[]⟩, .int .i64 0, .int .i64 0] 34
          have cz := (show Below w3.heap.size w3 w3.drew from (Below.refl _ _).drew).alloc (show Below w3.heap.size w3 w3.drew from (Below.refl _ _).drew).size (.cells #[.string ⟨#[]⟩, .bool false, .string ⟨#[]⟩, .int .i64 0, .int .i64 0] 34)
          have hrz : w3.heap.size ≤ w3.heap.size := (show Below w3.heap.size w3 w3.drew from (Below.refl _ _).drew).size
          refine hK.out _ _ (HS.out _ cz) (fun hHeld => ?_)
          clear hK K
          try simp only [Act.put, List.setIfInBounds_toArray, List.set_cons_zero, List.set_cons_succ]
          refine wpAnyH_ready (rs := [3]) (by kernel_rfl) (by simp) ?_
          refine AllReadyH.cons (o := ⟨_, _, _, _, _, _⟩) rfl (fun K hK => ?_) (AllReadyH.nil)
          go_simp
          clear hHeld
          refine (plc_any (w := w3.drew.alloc (.cells #[.string ⟨#[]⟩, .bool false, .string ⟨#[]⟩, .int .i64 0, .int .i64 0] 34)) (es := es) h3.len (h3.rd.below cz) h3.big p).mono ?_
          rintro e w4 ⟨rfl, hb4⟩
          rw [e1'.out]
          have c4 : Below w3.heap.size w3 w4 := below2 cz hb4
          have P4 := Pz.below hb4
          refine hK.out _ _ (HS.out _ c4) (fun hHeld => ?_)
          clear hK K
          try simp only [Act.put, List.setIfInBounds_toArray, List.set_cons_zero, List.set_cons_succ]
          refine wpAnyH_take (i := 4) (oi := ⟨_, _, _, _, _, _⟩) (v := ?_) rfl (by kernel_rfl) (by kernel_rfl) (by kernel_rfl) (fun _ _ _ h => h) (Or.inl ⟨by rfl, ?_⟩) (by assumption) ?_
          rotate_left
          · intro w hSw; (try dsimp only at hSw); go_simp; (try (with_reducible rfl))
          try simp only [Act.put, List.setIfInBounds_toArray, List.set_cons_zero, List.set_cons_succ]
          refine wpAnyH_ready (rs := [8]) (by kernel_rfl) (by simp) ?_
          refine AllReadyH.cons (o := ⟨_, _, _, _, _, _⟩) rfl (fun K hK => ?_) (AllReadyH.nil)
          go_simp
          clear hHeld
          refine (plc_any (w := w4) (es := fs) k3.len (k3.rd.below c4) k3.big p).mono ?_
          rintro e w5 ⟨rfl, hb5⟩
          rw [e2'.out]
          have c5 : Below w3.heap.size w3 w5 := below2 c4 hb5
          have P5 := P4.below hb5
          refine hK.out _ _ (HS.out _ c5) (fun hHeld => ?_)
          clear hK K
          try simp only [Act.put, List.setIfInBounds_toArray, List.set_cons_zero, List.set_cons_succ]
          refine wpAnyH_take (i := 9) (oi := ⟨_, _, _, _, _, _⟩) (v := ?_) rfl (by kernel_rfl) (by kernel_rfl) (by kernel_rfl) (fun _ _ _ h => h) (Or.inl ⟨by rfl, ?_⟩) (by assumption) ?_
          rotate_left
          · intro w hSw; (try dsimp only at hSw); go_simp; (try (with_reducible rfl))
          try simp only [Act.put, List.setIfInBounds_toArray, List.set_cons_zero, List.set_cons_succ]
          refine wpAnyH_take (i := 10) (oi := ⟨_, _, _, _, _, _⟩) (v := ?_) rfl (by kernel_rfl) (by kernel_rfl) (by kernel_rfl) (fun _ _ _ h => h) (Or.inl ⟨by rfl, ?_⟩) (by assumption) ?_
          rotate_left
          · intro w hSw; (try dsimp only at hSw); go_simp; (try (with_reducible rfl))
          try simp only [Act.put, List.setIfInBounds_toArray, List.set_cons_zero, List.set_cons_succ]
          refine wpAnyH_take (i := 12) (oi := ⟨_, _, _, _, _, _⟩) (v := ?_) rfl (by kernel_rfl) (by kernel_rfl) (by kernel_rfl) (fun _ _ _ h => h) (Or.inl ⟨by rfl, ?_⟩) (by assumption) ?_
          rotate_left
          · intro w hSw; (try dsimp only at hSw); go_simp; (try (with_reducible rfl))
          try simp only [Act.put, List.setIfInBounds_toArray, List.set_cons_zero, List.set_cons_succ]
          have u0 := P5.cell 0
          have u1 := P5.cell 1
          have u2 := P5.cell 2
          have u3 := P5.cell 3
          have u4 := P5.cell 4
          have uf0 := P5.frozen 0
          have uf1 := P5.frozen 1
          have uf2 := P5.frozen 2
          have uf3 := P5.frozen 3
          have uf4 := P5.frozen 4
          simp only [List.getElem?_cons_zero, List.getElem?_cons_succ] at u0 u1 u2 u3 u4
          have P9 := (((((P5.set_ 0 (.string fs[j].path)).set_ 1 (.bool fs[j].has)).set_ 2 (.string fs[j].data)).set_ 3 (.int .i64 fs[j].l)).set_ 4 (.int .i64 fs[j].r))
          have c9 := (((((c5.setCell (p := ⟨w3.heap.size, 0, none⟩) hrz (.string fs[j].path)).setCell (p := ⟨w3.heap.size, 1, none⟩) hrz (.bool fs[j].has)).setCell (p := ⟨w3.heap.size, 2, none⟩) hrz (.string fs[j].data)).setCell (p := ⟨w3.heap.size, 3, none⟩) hrz (.int .i64 fs[j].l)).setCell (p := ⟨w3.heap.size, 4, none⟩) hrz (.int .i64 fs[j].r))
          simp only [List.set_cons_zero, List.set_cons_succ] at P9
          refine wpAnyH_ready (rs := [13]) (by kernel_rfl) (by simp) ?_
          refine AllReadyH.cons (o := ⟨_, _, _, _, _, _⟩) rfl (fun K hK => ?_) AllReadyH.nil
          go_simp
          clear hHeld
          refine hK.out _ _ (HS.out _ c9) (fun hHeld => ?_)
          clear hK K
          try simp only [Act.put, List.setIfInBounds_toArray, List.set_cons_zero, List.set_cons_succ]
          refine wpAnyH_done (by kernel_rfl) ?_ _
          go_wp2_with fail
          go_meet
          case rel => exact ⟨_, rfl, rfl, P9, hrz, c9⟩
      case rest =>
      obtain ⟨r, rfl, rfl, O5, hr5, c5⟩ := hcut
      have P5 := P3.below c5
      have b5 := below2 b3 c5
      have hgr : g ≠ r := by omega
      have hwr : w.heap.size ≤ r := by omega
      have HPZ := hid (HSZ.out _ (List.getElem_mem hi))
      have HDZ := hid (HSZ2.out _ (List.getElem_mem hj))
      have HLN := hid h3.len
      clear P3 c5 b3 h3 k3 d0 d1 d2 d3 d4 lg' HP3 hg3 hr5
      have hpe := P5.ent hi
      obtain ⟨a0, a1, a2, a3, a4⟩ := hpe
      have HX : Hid (∀ z, (es.set i z).length = n) := fun z => by rw [List.length_set]; exact HLN.out
      have HCS := hid (clk_set es i hi)
      have hil : i < n := by omega
      have HVS := hid (fun (z : Ent) => val_set (es.set i z) i (by rw [List.length_set]; exact hi))
      have HSS : Hid (∀ z (h : i < (es.set i z).length), (es.set i z)[i] = z) := fun z h => List.getElem_set_self ..
      have HS2 : Hid (∀ z z', (es.set i z).set i z' = es.set i z') := fun z z' => List.set_set ..
      have HEZ : Hid (∀ z : Ent, SzE z → ∀ e ∈ es.set i z, SzE e) := fun z hz e he => by
        rcases List.mem_or_eq_of_mem_set he with h | h
        · exact HSZ.out e h
        · subst h; exact hz
      generalize es[i] = x at *
      generalize fs[j] = y at *
      obtain ⟨W5, rfl⟩ : ∃ W5, W5 = wc := ⟨_, rfl⟩
      go_upto_region 8 with (fail)
      go_cut [18] (fun v wx => ∃ s : Nat, v = .pointer (some ⟨s, 0, none⟩) ∧ Blk wx s [.int .i64 (joinC x y).1, .int .i64 (joinC x y).2] 32 ∧ W5.heap.size ≤ s ∧ Below W5.heap.size W5 wx)
      case first =>
        have o0 := O5.cell 0
        have o1 := O5.cell 1
        have o2 := O5.cell 2
        have o3 := O5.cell 3
        have o4 := O5.cell 4
        simp only [List.getElem?_cons_zero, List.getElem?_cons_succ] at o0 o1 o2 o3 o4
        have lg := World.block_lt_of_cell? _ _ a0
        have lr := O5.lt
        go_wp2_with fail
        have HS : Hid (∀ W, Below W5.heap.size W5 W → (fun w' => (w'.cell? ⟨g, i * 5, none⟩ = some (.string x.path) ∧ w'.cell? ⟨g, i * 5 + 1, none⟩ = some (.bool x.has) ∧ w'.cell? ⟨g, i * 5 + 2, none⟩ = some (.string x.data) ∧ w'.cell? ⟨g, i * 5 + 3, none⟩ = some (.int .i64 x.l) ∧ w'.cell? ⟨g, i * 5 + 4, none⟩ = some (.int .i64 x.r)) ∧ w'.cell? ⟨r, 0, none⟩ = some (.string y.path) ∧ w'.cell? ⟨r, 1, none⟩ = some (.bool y.has) ∧ w'.cell? ⟨r, 2, none⟩ = some (.string y.data) ∧ w'.cell? ⟨r, 3, none⟩ = some (.int .i64 y.l) ∧ w'.cell? ⟨r, 4, none⟩ = some (.int .i64 y.r)) W) := fun W hb => by
          dsimp only
          rw [hb.cell (p := ⟨g, i * 5, none⟩) lg]
          rw [hb.cell (p := ⟨g, i * 5 + 1, none⟩) lg]
          rw [hb.cell (p := ⟨g, i * 5 + 2, none⟩) lg]
          rw [hb.cell (p := ⟨g, i * 5 + 3, none⟩) lg]
          rw [hb.cell (p := ⟨g, i * 5 + 4, none⟩) lg]
          rw [hb.cell (p := ⟨r, 0, none⟩) lr]
          rw [hb.cell (p := ⟨r, 1, none⟩) lr]
          rw [hb.cell (p := ⟨r, 2, none⟩) lr]
          rw [hb.cell (p := ⟨r, 3, none⟩) lr]
          rw [hb.cell (p := ⟨r, 4, none⟩) lr]
          exact ⟨⟨a0, a1, a2, a3, a4⟩, o0, o1, o2, o3, o4⟩
        refine wp_region_held_drew (S := fun w' => (w'.cell? ⟨g, i * 5, none⟩ = some (.string x.path) ∧ w'.cell? ⟨g, i * 5 + 1, none⟩ = some (.bool x.has) ∧ w'.cell? ⟨g, i * 5 + 2, none⟩ = some (.string x.data) ∧ w'.cell? ⟨g, i * 5 + 3, none⟩ = some (.int .i64 x.l) ∧ w'.cell? ⟨g, i * 5 + 4, none⟩ = some (.int .i64 x.r)) ∧ w'.cell? ⟨r, 0, none⟩ = some (.string y.path) ∧ w'.cell? ⟨r, 1, none⟩ = some (.bool y.has) ∧ w'.cell? ⟨r, 2, none⟩ = some (.string y.data) ∧ w'.cell? ⟨r, 3, none⟩ = some (.int .i64 y.l) ∧ w'.cell? ⟨r, 4, none⟩ = some (.int .i64 y.r)) (by kernel_rfl) (HS.out _ (Below.refl _ _).drew) (fun hHeld => ?_)
        refine wpAnyH_take (i := 0) (oi := ⟨_, _, _, _, _, _⟩) (v := ?_) rfl (by kernel_rfl) (by kernel_rfl) (by kernel_rfl) (fun _ _ _ h => h) (Or.inl ⟨by rfl, ?_⟩) (by assumption) ?_
        rotate_left
        · intro w hSw; (try dsimp only at hSw); go_simp; (try (with_reducible rfl))
        try simp only [Act.put, List.setIfInBounds_toArray, List.set_cons_zero, List.set_cons_succ]
        refine wpAnyH_take (i := 1) (oi := ⟨_, _, _, _, _, _⟩) (v := ?_) rfl (by kernel_rfl) (by kernel_rfl) (by kernel_rfl) (fun _ _ _ h => h) (Or.inl ⟨by rfl, ?_⟩) (by assumption) ?_
        rotate_left
        · intro w hSw; (try dsimp only at hSw); go_simp; (try (with_reducible rfl))
        try simp only [Act.put, List.setIfInBounds_toArray, List.set_cons_zero, List.set_cons_succ]
        refine wpAnyH_take (i := 2) (oi := ⟨_, _, _, _, _, _⟩) (v := ?_) rfl (by kernel_rfl) (by kernel_rfl) (by kernel_rfl) (fun _ _ _ h => h) (Or.inl ⟨by rfl, ?_⟩) (by assumption) ?_
        rotate_left
        · intro w hSw; (try dsimp only at hSw); go_simp; (try (with_reducible rfl))
        try simp only [Act.put, List.setIfInBounds_toArray, List.set_cons_zero, List.set_cons_succ]
        refine wpAnyH_take (i := 3) (oi := ⟨_, _, _, _, _, _⟩) (v := ?_) rfl (by kernel_rfl) (by kernel_rfl) (by kernel_rfl) (fun _ _ _ h => h) (Or.inl ⟨by rfl, ?_⟩) (by assumption) ?_
        rotate_left
        · intro w hSw; (try dsimp only at hSw); go_simp; (try (with_reducible rfl))
        try simp only [Act.put, List.setIfInBounds_toArray, List.set_cons_zero, List.set_cons_succ]
        refine wpAnyH_ready (rs := [4, 5]) (by kernel_rfl) (by simp) ?_
        refine AllReadyH.cons (o := ⟨_, _, _, _, _, _⟩) rfl (fun K hK => ?_) (AllReadyH.cons (o := ⟨_, _, _, _, _, _⟩) rfl (fun K hK => ?_) (AllReadyH.nil))
        · go_simp
          clear hHeld
          refine (joined_any x y (W5.drew)).mono ?_
          rintro e w6 ⟨rfl, hb6⟩
          have c6 : Below W5.heap.size W5 w6 := below2 (show Below W5.heap.size W5 W5.drew from (Below.refl _ _).drew) hb6
          refine hK.out _ _ (HS.out _ c6) (fun hHeld => ?_)
          clear hK K
          try simp only [Act.put, List.setIfInBounds_toArray, List.set_cons_zero, List.set_cons_succ]
          refine wpAnyH_ready (rs := [5]) (by kernel_rfl) (by simp) ?_
          refine AllReadyH.cons (o := ⟨_, _, _, _, _, _⟩) rfl (fun K hK => ?_) (AllReadyH.nil)
          go_simp
          clear hHeld
          have Pz : Blk (w6.alloc (.cells #[.int .i64 0, .int .i64 0] 32)) w6.heap.size [.int .i64 0, .int .i64 0] 32 := Blk.new w6 [.int .i64 0, .int .i64 0] 32
          have cz := c6.alloc c6.size (.cells #[.int .i64 0, .int .i64 0] 32)
          have hrz : W5.heap.size ≤ w6.heap.size := c6.size
          refine hK.out _ _ (HS.out _ cz) (fun hHeld => ?_)
          clear hK K
          try simp only [Act.put, List.setIfInBounds_toArray, List.set_cons_zero, List.set_cons_succ]
          generalize w6.alloc (.cells #[.int .i64 0, .int .i64 0] 32) = wz at *
          have u0 := Pz.cell 0
          have u1 := Pz.cell 1
          have uf0 := Pz.frozen 0
          have uf1 := Pz.frozen 1
          simp only [List.getElem?_cons_zero, List.getElem?_cons_succ] at u0 u1
          have P9 := ((Pz.set_ 0 (.int .i64 (joinC x y).1)).set_ 1 (.int .i64 (joinC x y).2))
          have c9 := ((cz.setCell (p := ⟨w6.heap.size, 0, none⟩) hrz (.int .i64 (joinC x y).1)).setCell (p := ⟨w6.heap.size, 1, none⟩) hrz (.int .i64 (joinC x y).2))
          simp only [List.set_cons_zero, List.set_cons_succ] at P9
          refine wpAnyH_ready (rs := [6]) (by kernel_rfl) (by simp) ?_
          refine AllReadyH.cons (o := ⟨_, _, _, _, _, _⟩) rfl (fun K hK => ?_) AllReadyH.nil
          go_simp
          clear hHeld
          refine hK.out _ _ (HS.out _ c9) (fun hHeld => ?_)
          clear hK K
          try simp only [Act.put, List.setIfInBounds_toArray, List.set_cons_zero, List.set_cons_succ]
          refine wpAnyH_done (by kernel_rfl) ?_ _
          go_wp2_with fail
          go_meet
          case rel => exact ⟨_, rfl, P9, hrz, c9⟩
        · go_simp
          clear hHeld
          have Pz : Blk (W5.drew.alloc (.cells #[.int .i64 0, .int .i64 0] 32)) W5.heap.size [.int .i64 0, .int .i64 0] 32 := Blk.new W5.drew [.int .i64 0, .int .i64 0] 32
          have cz := (show Below W5.heap.size W5 W5.drew from (Below.refl _ _).drew).alloc (show Below W5.heap.size W5 W5.drew from (Below.refl _ _).drew).size (.cells #[.int .i64 0, .int .i64 0] 32)
          have hrz : W5.heap.size ≤ W5.heap.size := (show Below W5.heap.size W5 W5.drew from (Below.refl _ _).drew).size
          refine hK.out _ _ (HS.out _ cz) (fun hHeld => ?_)
          clear hK K
          try simp only [Act.put, List.setIfInBounds_toArray, List.set_cons_zero, List.set_cons_succ]
          refine wpAnyH_ready (rs := [4]) (by kernel_rfl) (by simp) ?_
          refine AllReadyH.cons (o := ⟨_, _, _, _, _, _⟩) rfl (fun K hK => ?_) (AllReadyH.nil)
          go_simp
          clear hHeld
          refine (joined_any x y (W5.drew.alloc (.cells #[.int .i64 0, .int .i64 0] 32))).mono ?_
          rintro e w6 ⟨rfl, hb6⟩
          have c6 : Below W5.heap.size W5 w6 := below2 cz hb6
          have P6 := Pz.below hb6
          refine hK.out _ _ (HS.out _ c6) (fun hHeld => ?_)
          clear hK K
          try simp only [Act.put, List.setIfInBounds_toArray, List.set_cons_zero, List.set_cons_succ]
          have u0 := P6.cell 0
          have u1 := P6.cell 1
          have uf0 := P6.frozen 0
          have uf1 := P6.frozen 1
          simp only [List.getElem?_cons_zero, List.getElem?_cons_succ] at u0 u1
          have P9 := ((P6.set_ 0 (.int .i64 (joinC x y).1)).set_ 1 (.int .i64 (joinC x y).2))
          have c9 := ((c6.setCell (p := ⟨W5.heap.size, 0, none⟩) hrz (.int .i64 (joinC x y).1)).setCell (p := ⟨W5.heap.size, 1, none⟩) hrz (.int .i64 (joinC x y).2))
          simp only [List.set_cons_zero, List.set_cons_succ] at P9
          refine wpAnyH_ready (rs := [6]) (by kernel_rfl) (by simp) ?_
          refine AllReadyH.cons (o := ⟨_, _, _, _, _, _⟩) rfl (fun K hK => ?_) AllReadyH.nil
          go_simp
          clear hHeld
          refine hK.out _ _ (HS.out _ c9) (fun hHeld => ?_)
          clear hK K
          try simp only [Act.put, List.setIfInBounds_toArray, List.set_cons_zero, List.set_cons_succ]
          refine wpAnyH_done (by kernel_rfl) ?_ _
          go_wp2_with fail
          go_meet
          case rel => exact ⟨_, rfl, P9, hrz, c9⟩
      case rest =>
      obtain ⟨s, rfl, J6, hs6, c6⟩ := hcut
      have P6 := P5.below c6
      have O6 := O5.below c6
      have b6 := below2 b5 c6
      have hsg : s ≠ g := by have := P5.lt; omega
      have hsr : s ≠ r := by have := O5.lt; omega
      have hws : w.heap.size ≤ s := by have := b5.size; omega
      clear P5 O5 b5 c6 hs6 a0 a1 a2 a3 a4
      obtain ⟨t1, t2, ht⟩ : ∃ t1 t2, tkc (joinC x y).1 (joinC x y).2 a = (t1, t2) := ⟨_, _, rfl⟩
      have kt := tick_any (joinC x y).1 (joinC x y).2 a
      have hle := tkc_le (joinC x y).1 (joinC x y).2 a
      rw [ht] at kt hle
      have HTK : Hid (tickL (joinC x y).1 (joinC x y).2 a = ((t1 : Int), (t2 : Int))) := by show _ = _; rw [tickL_eq, ht]
      have HSE : Hid (setE x y tk a = ⟨x.path, if tk then y.has else x.has, if tk then y.data else x.data, t1, t2⟩) := by show _ = _; unfold setE; rw [HTK.out]
      rw [HTK.out] at HN
      clear ht HTK
      generalize joinC x y = jj at *
      obtain ⟨j1, j2⟩ := jj
      dsimp only at J6 kt hle HN
      obtain ⟨hle1, hle2⟩ := hle
      have z0 := J6.cell 0
      have z1 := J6.cell 1
      simp only [List.getElem?_cons_zero, List.getElem?_cons_succ] at z0 z1
      go_wp2_with fail
      refine (of_any _ _ _).mono ?_
      rintro e w7 ⟨rfl, hb7⟩
      go_wp2_with fail
      refine (kt _).mono ?_
      rintro e w8 ⟨rfl, hb8⟩
      go_wp2_with fail
      refine (pair_clk hle1 hle2 _).mono ?_
      rintro e w9 ⟨rfl, hb9⟩
      have P9 := ((P6.below hb7).below hb8).below hb9
      have O9 := ((O6.below hb7).below hb8).below hb9
      have J9 := ((J6.below hb7).below hb8).below hb9
      have b9 := below2 (below2 (below2 b6 hb7) hb8) hb9
      clear P6 O6 J6 b6 hb7 hb8 hb9 kt z0 z1
      obtain ⟨a0, a1, a2, a3, a4⟩ := P9.ent hi
      have n3 := P9.frozen (i * 5 + 3)
      have n4 := P9.frozen (i * 5 + 4)
      have P10 := (P9.set_ (i * 5 + 3) (.int .i64 (t1 : Int))).set_ (i * 5 + 4) (.int .i64 (t2 : Int))
      have O10 := (O9.other (Ne.symm hgr) (i * 5 + 3) (.int .i64 (t1 : Int))).other (Ne.symm hgr) (i * 5 + 4) (.int .i64 (t2 : Int))
      have J10 := (J9.other hsg (i * 5 + 3) (.int .i64 (t1 : Int))).other hsg (i * 5 + 4) (.int .i64 (t2 : Int))
      have b10 := (b9.setCell (p := ⟨g, i * 5 + 3, none⟩) hwg (.int .i64 (t1 : Int))).setCell (p := ⟨g, i * 5 + 4, none⟩) hwg (.int .i64 (t2 : Int))
      rw [HCS.out] at P10
      go_wp2_with fail
      generalize (w9.setCell ⟨g, i * 5 + 3, none⟩ (.int .i64 (t1 : Int))).setCell ⟨g, i * 5 + 4, none⟩ (.int .i64 (t2 : Int)) = W10 at *
      clear P9 O9 J9 b9 a0 a1 a2 a3 a4 n3 n4 HCS
      obtain ⟨a0, a1, a2, a3, a4⟩ := P10.ent (j := i) (by rw [List.length_set]; exact hi)
      rw [HSS.out] at a0 a1 a2 a3 a4
      dsimp only at a0 a1 a2 a3 a4
      have z0 := J10.cell 0
      have z1 := J10.cell 1
      simp only [List.getElem?_cons_zero, List.getElem?_cons_succ] at z0 z1
      have hep := eqP (t1 : Int) (t2 : Int) j1 j2
      by_cases hst : (t1 : Int) = j1 ∧ (t2 : Int) = j2
      · rw [decide_eq_true hst.1, decide_eq_true hst.2] at hep
        have HR2 : Hid (setN es fs p tk a = 2) := by show _ = _; rw [HN.out, if_pos (by rw [hst.1, hst.2])]
        clear HN hst
        refine wp_region_held_drew (S := fun w' => w'.cell? ⟨g, i * 5 + 3, none⟩ = some (.int .i64 (t1 : Int)) ∧ w'.cell? ⟨g, i * 5 + 4, none⟩ = some (.int .i64 (t2 : Int)) ∧ w'.cell? ⟨s, 0, none⟩ = some (.int .i64 j1) ∧ w'.cell? ⟨s, 1, none⟩ = some (.int .i64 j2)) (by kernel_rfl) ⟨a3, a4, z0, z1⟩ (fun hHeld => ?_)
        refine wpAnyH_take (i := 0) (oi := ⟨_, _, _, _, _, _⟩) (v := ?_) rfl (by kernel_rfl) (by kernel_rfl) (by kernel_rfl) (fun _ _ _ h => h) (Or.inl ⟨by rfl, ?_⟩) (by assumption) ?_
        rotate_left
        · intro w hSw; (try dsimp only at hSw); go_simp; (try (with_reducible rfl))
        try simp only [Act.put, List.setIfInBounds_toArray, List.set_cons_zero, List.set_cons_succ]
        refine wpAnyH_take (i := 1) (oi := ⟨_, _, _, _, _, _⟩) (v := ?_) rfl (by kernel_rfl) (by kernel_rfl) (by kernel_rfl) (fun _ _ _ h => h) (Or.inl ⟨by rfl, ?_⟩) (by assumption) ?_
        rotate_left
        · intro w hSw; (try dsimp only at hSw); go_simp; (try (with_reducible rfl))
        try simp only [Act.put, List.setIfInBounds_toArray, List.set_cons_zero, List.set_cons_succ]
        refine wpAnyH_take (i := 2) (oi := ⟨_, _, _, _, _, _⟩) (v := ?_) rfl (by kernel_rfl) (by kernel_rfl) (by kernel_rfl) (fun _ _ _ h => h) (Or.inl ⟨by rfl, ?_⟩) (by assumption) ?_
        rotate_left
        · intro w hSw; (try dsimp only at hSw); go_simp; (try (with_reducible rfl))
        try simp only [Act.put, List.setIfInBounds_toArray, List.set_cons_zero, List.set_cons_succ]
        refine wpAnyH_take (i := 3) (oi := ⟨_, _, _, _, _, _⟩) (v := ?_) rfl (by kernel_rfl) (by kernel_rfl) (by kernel_rfl) (fun _ _ _ h => h) (Or.inl ⟨by rfl, ?_⟩) (by assumption) ?_
        rotate_left
        · intro w hSw; (try dsimp only at hSw); go_simp; (try (with_reducible rfl))
        try simp only [Act.put, List.setIfInBounds_toArray, List.set_cons_zero, List.set_cons_succ]
        refine wpAnyH_take (i := 4) (oi := ⟨_, _, _, _, _, _⟩) (v := ?_) rfl (by kernel_rfl) (by kernel_rfl) (by kernel_rfl) (fun _ _ _ h => h) (Or.inl ⟨by rfl, ?_⟩) (by assumption) ?_
        rotate_left
        · intro w hSw; (try dsimp only at hSw); go_simp; (try (with_reducible rfl))
        try simp only [Act.put, List.setIfInBounds_toArray, List.set_cons_zero, List.set_cons_succ]
        refine wpAnyH_take (i := 5) (oi := ⟨_, _, _, _, _, _⟩) (v := ?_) rfl (by kernel_rfl) (by kernel_rfl) (by kernel_rfl) (fun _ _ _ h => h) (Or.inl ⟨by rfl, ?_⟩) (by assumption) ?_
        rotate_left
        · intro w hSw; (try dsimp only at hSw); go_simp; (try (with_reducible rfl))
        try simp only [Act.put, List.setIfInBounds_toArray, List.set_cons_zero, List.set_cons_succ]
        refine wpAnyH_done (by kernel_rfl) ?_ _
        clear hHeld hep z0 z1
        go_wp2
        exact bodyPost_ret (v := .tuple #[.slice none 0 0, .int .i64 2]) (by simp [results, Tryz.results20, go_sem]) rfl (settle_err 2 HR2.out (by decide) b10.drew)
      · have hstb : (decide ((t1 : Int) = j1) && decide ((t2 : Int) = j2)) = false := by by_cases h1 : (t1 : Int) = j1 <;> by_cases h2 : (t2 : Int) = j2 <;> simp [h1, h2] <;> exact hst ⟨h1, h2⟩
        rw [hstb] at hep
        have HN1 : Hid (setN es fs p tk a = fitN (es.set i (setE x y tk a))) := by show _ = _; rw [HN.out, if_neg (fun e => hst ⟨congrArg Prod.fst e, congrArg Prod.snd e⟩)]
        clear HN hst hstb
        refine wp_region_held_drew (S := fun w' => w'.cell? ⟨g, i * 5 + 3, none⟩ = some (.int .i64 (t1 : Int)) ∧ w'.cell? ⟨g, i * 5 + 4, none⟩ = some (.int .i64 (t2 : Int)) ∧ w'.cell? ⟨s, 0, none⟩ = some (.int .i64 j1) ∧ w'.cell? ⟨s, 1, none⟩ = some (.int .i64 j2)) (by kernel_rfl) ⟨a3, a4, z0, z1⟩ (fun hHeld => ?_)
        refine wpAnyH_take (i := 0) (oi := ⟨_, _, _, _, _, _⟩) (v := ?_) rfl (by kernel_rfl) (by kernel_rfl) (by kernel_rfl) (fun _ _ _ h => h) (Or.inl ⟨by rfl, ?_⟩) (by assumption) ?_
        rotate_left
        · intro w hSw; (try dsimp only at hSw); go_simp; (try (with_reducible rfl))
        try simp only [Act.put, List.setIfInBounds_toArray, List.set_cons_zero, List.set_cons_succ]
        refine wpAnyH_take (i := 1) (oi := ⟨_, _, _, _, _, _⟩) (v := ?_) rfl (by kernel_rfl) (by kernel_rfl) (by kernel_rfl) (fun _ _ _ h => h) (Or.inl ⟨by rfl, ?_⟩) (by assumption) ?_
        rotate_left
        · intro w hSw; (try dsimp only at hSw); go_simp; (try (with_reducible rfl))
        try simp only [Act.put, List.setIfInBounds_toArray, List.set_cons_zero, List.set_cons_succ]
        refine wpAnyH_take (i := 2) (oi := ⟨_, _, _, _, _, _⟩) (v := ?_) rfl (by kernel_rfl) (by kernel_rfl) (by kernel_rfl) (fun _ _ _ h => h) (Or.inl ⟨by rfl, ?_⟩) (by assumption) ?_
        rotate_left
        · intro w hSw; (try dsimp only at hSw); go_simp; (try (with_reducible rfl))
        try simp only [Act.put, List.setIfInBounds_toArray, List.set_cons_zero, List.set_cons_succ]
        refine wpAnyH_take (i := 3) (oi := ⟨_, _, _, _, _, _⟩) (v := ?_) rfl (by kernel_rfl) (by kernel_rfl) (by kernel_rfl) (fun _ _ _ h => h) (Or.inl ⟨by rfl, ?_⟩) (by assumption) ?_
        rotate_left
        · intro w hSw; (try dsimp only at hSw); go_simp; (try (with_reducible rfl))
        try simp only [Act.put, List.setIfInBounds_toArray, List.set_cons_zero, List.set_cons_succ]
        refine wpAnyH_take (i := 4) (oi := ⟨_, _, _, _, _, _⟩) (v := ?_) rfl (by kernel_rfl) (by kernel_rfl) (by kernel_rfl) (fun _ _ _ h => h) (Or.inl ⟨by rfl, ?_⟩) (by assumption) ?_
        rotate_left
        · intro w hSw; (try dsimp only at hSw); go_simp; (try (with_reducible rfl))
        try simp only [Act.put, List.setIfInBounds_toArray, List.set_cons_zero, List.set_cons_succ]
        refine wpAnyH_take (i := 5) (oi := ⟨_, _, _, _, _, _⟩) (v := ?_) rfl (by kernel_rfl) (by kernel_rfl) (by kernel_rfl) (fun _ _ _ h => h) (Or.inl ⟨by rfl, ?_⟩) (by assumption) ?_
        rotate_left
        · intro w hSw; (try dsimp only at hSw); go_simp; (try (with_reducible rfl))
        try simp only [Act.put, List.setIfInBounds_toArray, List.set_cons_zero, List.set_cons_succ]
        refine wpAnyH_done (by kernel_rfl) ?_ _
        clear hHeld hep z0 z1
        have P11 := P10.drew
        have O11 := O10.drew
        have b11 := b10.drew
        clear P10 O10 J10 b10
        cases tk with
        | false =>
          have HL2 : Hid (es.set i (setE x y false a) = es.set i ⟨x.path, x.has, x.data, (t1 : Int), (t2 : Int)⟩) := by show _ = _; rw [HSE.out]; rfl
          have HN2 : Hid (setN es fs p false a = fitN (es.set i ⟨x.path, x.has, x.data, (t1 : Int), (t2 : Int)⟩)) := by show _ = _; rw [HN1.out, HL2.out]
          have HA2 : Hid (setN es fs p false a = 0 → setA es fs p false a = es.set i ⟨x.path, x.has, x.data, (t1 : Int), (t2 : Int)⟩) := fun h => by rw [HA.out h, HL2.out]
          have hX := HX.out ⟨x.path, x.has, x.data, (t1 : Int), (t2 : Int)⟩
          have hEZ := HEZ.out ⟨x.path, x.has, x.data, (t1 : Int), (t2 : Int)⟩ ⟨HPZ.out.1, HPZ.out.2⟩
          clear HN1 HA HX HEZ HSE HL2 HSZ HSZ2 HVS HSS HS2
          generalize es.set i ⟨x.path, x.has, x.data, (t1 : Int), (t2 : Int)⟩ = LL at *
          have hLL : LL.length ≤ 1000000 := by omega
          have EE : Et _ (some ⟨g, 0, none⟩) n n LL := ⟨hX, P11.rd, Nat.le_refl _, by omega, by omega, hEZ⟩
          go_wp2_with fail
          refine (fits_any EE).mono ?_
          rintro e w12 ⟨rfl, hb12⟩
          have P12 := P11.below hb12
          have b12 := below2 b11 hb12
          clear EE P11 b11 hb12 hEZ
          rw [← HN2.out]
          by_cases h0 : setN es fs p false a = 0
          · have HZ2 := hid h0
            have hA := HA2.out h0
            rw [h0]
            clear h0
            go_wp2
            refine bodyPost_ret (v := .tuple #[.slice (some ⟨g, 0, none⟩) n n, .int .i64 0]) (by simp [results, Tryz.results20, go_sem]) rfl ?_
            exact ⟨some ⟨g, 0, none⟩, LL.length, by rw [hA, hX, HZ2.out]; rfl, by rw [hA]; exact blk_own P12 hwg hLL, b12⟩
          · have HZ2 := hid h0
            have h0' : ¬ ((setN es fs p false a : Nat) : Int) = 0 := by omega
            clear h0 HA2 HN2
            generalize hk : setN es fs p false a = kk at *
            go_wp2
            exact bodyPost_ret (v := .tuple #[.slice none 0 0, .int .i64 (kk : Int)]) (by simp [results, Tryz.results20, go_sem]) rfl (settle_err kk hk HZ2.out b12)
        | true =>
          have o1 := O11.cell 1
          have o2 := O11.cell 2
          simp only [List.getElem?_cons_zero, List.getElem?_cons_succ] at o1 o2
          have hdz : y.data.size ≤ 281474976710656 := by have := HDZ.out.2; omega
          go_wp2_with fail
          refine wp_region_held_drew (S := fun w' => w'.cell? ⟨r, 1, none⟩ = some (.bool y.has) ∧ w'.cell? ⟨r, 2, none⟩ = some (.string y.data)) (by kernel_rfl) ⟨o1, o2⟩ (fun hHeld => ?_)
          refine wpAnyH_take (i := 0) (oi := ⟨_, _, _, _, _, _⟩) (v := ?_) rfl (by kernel_rfl) (by kernel_rfl) (by kernel_rfl) (fun _ _ _ h => h) (Or.inl ⟨by rfl, ?_⟩) (by assumption) ?_
          rotate_left
          · intro w hSw; (try dsimp only at hSw); go_simp; (try (with_reducible rfl))
          try simp only [Act.put, List.setIfInBounds_toArray, List.set_cons_zero, List.set_cons_succ]
          refine wpAnyH_take (i := 1) (oi := ⟨_, _, _, _, _, _⟩) (v := ?_) rfl (by kernel_rfl) (by kernel_rfl) (by kernel_rfl) (fun _ _ _ h => h) (Or.inl ⟨by rfl, ?_⟩) (by assumption) ?_
          rotate_left
          · intro w hSw; (try dsimp only at hSw); go_simp; (try (with_reducible rfl))
          try simp only [Act.put, List.setIfInBounds_toArray, List.set_cons_zero, List.set_cons_succ]
          refine wpAnyH_take (i := 2) (oi := ⟨_, _, _, _, _, _⟩) (v := ?_) rfl (by kernel_rfl) (by kernel_rfl) (by kernel_rfl) (fun _ _ _ h => h) (Or.inl ⟨by rfl, ?_⟩) (by assumption) ?_
          rotate_left
          · intro w hSw; (try dsimp only at hSw); go_simp; (try (with_reducible rfl))
          try simp only [Act.put, List.setIfInBounds_toArray, List.set_cons_zero, List.set_cons_succ]
          refine wpAnyH_take (i := 3) (oi := ⟨_, _, _, _, _, _⟩) (v := ?_) rfl (by kernel_rfl) (by kernel_rfl) (by kernel_rfl) (fun _ _ _ h => h) (Or.inl ⟨by rfl, ?_⟩) (by assumption) ?_
          rotate_left
          · intro w hSw; (try dsimp only at hSw); go_simp; (try (with_reducible rfl))
          try simp only [Act.put, List.setIfInBounds_toArray, List.set_cons_zero, List.set_cons_succ]
          refine wpAnyH_take (i := 4) (oi := ⟨_, _, _, _, _, _⟩) (v := ?_) rfl (by kernel_rfl) (by kernel_rfl) (by kernel_rfl) (fun _ _ _ h => h) (Or.inl ⟨by rfl, ?_⟩) (by assumption) ?_
          rotate_left
          · intro w hSw; (try dsimp only at hSw); go_simp; (try (with_reducible rfl))
          try simp only [Act.put, List.setIfInBounds_toArray, List.set_cons_zero, List.set_cons_succ]
          refine wpAnyH_take (i := 5) (oi := ⟨_, _, _, _, _, _⟩) (v := ?_) rfl (by kernel_rfl) (by kernel_rfl) (by kernel_rfl) (fun _ _ _ h => h) (Or.inl ⟨by rfl, ?_⟩) (by assumption) ?_
          rotate_left
          · intro w hSw; (try dsimp only at hSw); go_simp; (try (with_reducible rfl))
          try simp only [Act.put, List.setIfInBounds_toArray, List.set_cons_zero, List.set_cons_succ]
          refine wpAnyH_ready (rs := [6]) (by kernel_rfl) (by simp) ?_
          refine AllReadyH.cons (o := ⟨_, _, _, _, _, _⟩) rfl (fun K hK => ?_) AllReadyH.nil
          go_simp
          clear hHeld
          refine (clone_any y.data _ hdz).mono ?_
          rintro e w12 ⟨rfl, hb12⟩
          have P12 := P11.drew.below hb12
          have O12 := O11.drew.below hb12
          have b12 := below2 b11.drew hb12
          clear hb12 P11 O11 b11 a0 a1 a2 a3 a4
          refine hK.out _ _ ⟨O12.cell 1, O12.cell 2⟩ (fun hHeld => ?_)
          clear hK K
          try simp only [Act.put, List.setIfInBounds_toArray, List.set_cons_zero, List.set_cons_succ]
          refine wpAnyH_take (i := 7) (oi := ⟨_, _, _, _, _, _⟩) (v := ?_) rfl (by kernel_rfl) (by kernel_rfl) (by kernel_rfl) (fun _ _ _ h => h) (Or.inl ⟨by rfl, ?_⟩) (by assumption) ?_
          rotate_left
          · intro w hSw; (try dsimp only at hSw); go_simp; (try (with_reducible rfl))
          try simp only [Act.put, List.setIfInBounds_toArray, List.set_cons_zero, List.set_cons_succ]
          refine wpAnyH_take (i := 8) (oi := ⟨_, _, _, _, _, _⟩) (v := ?_) rfl (by kernel_rfl) (by kernel_rfl) (by kernel_rfl) (fun _ _ _ h => h) (Or.inl ⟨by rfl, ?_⟩) (by assumption) ?_
          rotate_left
          · intro w hSw; (try dsimp only at hSw); go_simp; (try (with_reducible rfl))
          try simp only [Act.put, List.setIfInBounds_toArray, List.set_cons_zero, List.set_cons_succ]
          obtain ⟨a0, a1, a2, a3, a4⟩ := P12.ent (j := i) (by rw [List.length_set]; exact hi)
          rw [HSS.out] at a0 a1 a2 a3 a4
          dsimp only at a0 a1 a2 a3 a4
          have n1 := P12.frozen (i * 5 + 1)
          have P13 := P12.set_ (i * 5 + 1) (.bool y.has)
          have O13 := O12.other (Ne.symm hgr) (i * 5 + 1) (.bool y.has)
          have b13 := b12.setCell (p := ⟨g, i * 5 + 1, none⟩) hwg (.bool y.has)
          refine wpAnyH_ready (rs := [9]) (by kernel_rfl) (by simp) ?_
          refine AllReadyH.cons (o := ⟨_, _, _, _, _, _⟩) rfl (fun K hK => ?_) AllReadyH.nil
          go_simp
          clear hHeld
          generalize w12.setCell ⟨g, i * 5 + 1, none⟩ (.bool y.has) = w13 at *
          refine hK.out _ _ ⟨O13.cell 1, O13.cell 2⟩ (fun hHeld => ?_)
          clear hK K
          try simp only [Act.put, List.setIfInBounds_toArray, List.set_cons_zero, List.set_cons_succ]
          refine wpAnyH_take (i := 10) (oi := ⟨_, _, _, _, _, _⟩) (v := ?_) rfl (by kernel_rfl) (by kernel_rfl) (by kernel_rfl) (fun _ _ _ h => h) (Or.inl ⟨by rfl, ?_⟩) (by assumption) ?_
          rotate_left
          · intro w hSw; (try dsimp only at hSw); go_simp; (try (with_reducible rfl))
          try simp only [Act.put, List.setIfInBounds_toArray, List.set_cons_zero, List.set_cons_succ]
          refine wpAnyH_take (i := 11) (oi := ⟨_, _, _, _, _, _⟩) (v := ?_) rfl (by kernel_rfl) (by kernel_rfl) (by kernel_rfl) (fun _ _ _ h => h) (Or.inl ⟨by rfl, ?_⟩) (by assumption) ?_
          rotate_left
          · intro w hSw; (try dsimp only at hSw); go_simp; (try (with_reducible rfl))
          try simp only [Act.put, List.setIfInBounds_toArray, List.set_cons_zero, List.set_cons_succ]
          have c2 : w13.cell? ⟨g, i * 5 + 2, none⟩ = some (.string x.data) := by rw [P13.cell, List.getElem?_set_ne (by omega), ← P12.cell]; exact a2
          have n2 := P13.frozen (i * 5 + 2)
          have P14 := P13.set_ (i * 5 + 2) (.string y.data)
          have O14 := O13.other (Ne.symm hgr) (i * 5 + 2) (.string y.data)
          have b14 := b13.setCell (p := ⟨g, i * 5 + 2, none⟩) hwg (.string y.data)
          rw [HVS.out, HS2.out, HSS.out] at P14
          refine wpAnyH_ready (rs := [12]) (by kernel_rfl) (by simp) ?_
          refine AllReadyH.cons (o := ⟨_, _, _, _, _, _⟩) rfl (fun K hK => ?_) AllReadyH.nil
          go_simp
          clear hHeld
          generalize w13.setCell ⟨g, i * 5 + 2, none⟩ (.string y.data) = w14 at *
          refine hK.out _ _ ⟨O14.cell 1, O14.cell 2⟩ (fun hHeld => ?_)
          clear hK K
          try simp only [Act.put, List.setIfInBounds_toArray, List.set_cons_zero, List.set_cons_succ]
          refine wpAnyH_done (by kernel_rfl) ?_ _
          dsimp only at P14
          clear hHeld P12 P13 O12 O13 O14 b12 b13 a0 a1 a2 a3 a4 n1 n2 c2 o1 o2
          have HL2 : Hid (es.set i (setE x y true a) = es.set i ⟨x.path, y.has, y.data, (t1 : Int), (t2 : Int)⟩) := by show _ = _; rw [HSE.out]; rfl
          have HN2 : Hid (setN es fs p true a = fitN (es.set i ⟨x.path, y.has, y.data, (t1 : Int), (t2 : Int)⟩)) := by show _ = _; rw [HN1.out, HL2.out]
          have HA2 : Hid (setN es fs p true a = 0 → setA es fs p true a = es.set i ⟨x.path, y.has, y.data, (t1 : Int), (t2 : Int)⟩) := fun h => by rw [HA.out h, HL2.out]
          have hX := HX.out ⟨x.path, y.has, y.data, (t1 : Int), (t2 : Int)⟩
          have hEZ := HEZ.out ⟨x.path, y.has, y.data, (t1 : Int), (t2 : Int)⟩ ⟨HPZ.out.1, HDZ.out.2⟩
          clear HN1 HA HX HEZ HSE HL2 HSZ HSZ2 HVS HSS HS2
          generalize es.set i ⟨x.path, y.has, y.data, (t1 : Int), (t2 : Int)⟩ = LL at *
          have hLL : LL.length ≤ 1000000 := by omega
          have EE : Et _ (some ⟨g, 0, none⟩) n n LL := ⟨hX, P14.rd, Nat.le_refl _, by omega, by omega, hEZ⟩
          go_wp2_with fail
          refine (fits_any EE).mono ?_
          rintro e w12 ⟨rfl, hb12⟩
          have P12 := P14.below hb12
          have b12 := below2 b14 hb12
          clear EE P14 b14 hb12 hEZ
          rw [← HN2.out]
          by_cases h0 : setN es fs p true a = 0
          · have HZ2 := hid h0
            have hA := HA2.out h0
            rw [h0]
            clear h0
            go_wp2
            refine bodyPost_ret (v := .tuple #[.slice (some ⟨g, 0, none⟩) n n, .int .i64 0]) (by simp [results, Tryz.results20, go_sem]) rfl ?_
            exact ⟨some ⟨g, 0, none⟩, LL.length, by rw [hA, hX, HZ2.out]; rfl, by rw [hA]; exact blk_own P12 hwg hLL, b12⟩
          · have HZ2 := hid h0
            have h0' : ¬ ((setN es fs p true a : Nat) : Int) = 0 := by omega
            clear h0 HA2 HN2
            generalize hk : setN es fs p true a = kk at *
            go_wp2
            exact bodyPost_ret (v := .tuple #[.slice none 0 0, .int .i64 (kk : Int)]) (by simp [results, Tryz.results20, go_sem]) rfl (settle_err kk hk HZ2.out b12)
    · have hany : ((mC es fs).any fun s => decide (p = s)) = false := inB_no hp
      rw [hany]
      have HR2 := hid (setN_no (tk := tk) (a := a) HZ.out hp)
      clear hany hp
      go_wp2
      exact bodyPost_ret (v := .tuple #[.slice none 0 0, .int .i64 3]) (by simp [results, Tryz.results20, go_sem]) rfl (settle_err 3 HR2.out (by decide) b2)
  · have h0' : ¬ ((mrgN es fs : Nat) : Int) = 0 := by omega
    have HZ := hid h0
    have HR2 := hid (setN_mrg (p := p) (tk := tk) (a := a) h0)
    clear h0 rC h k
    generalize hk : mrgN es fs = kk at *
    go_wp2
    exact bodyPost_ret (v := .tuple #[.slice none 0 0, .int .i64 (kk : Int)]) (by simp [results, Tryz.results20, go_sem]) rfl (settle_err kk HR2.out HZ.out b1)
end Go.Proofs.YtlmccjdpmhancaaGreatDoor
namespace Go.Proofs.YtlmccjdpmhancaaGreatDoor
open Go.RowKit

/-! ### What is told, to be read -/
theorem mrgA_sz {es fs : List Ent} (h : ∀ e ∈ es, SzE e) (k : ∀ e ∈ fs, SzE e) : ∀ e ∈ mrgA es fs, SzE e := by
  unfold mrgA
  split
  · exact mA_sz h k
  · simp
theorem fit_len {es : List Ent} (h : fitN es = 0) : es.length ≤ 32 := by
  unfold fitN at h
  split at h
  · cases h
  · omega
theorem mrgA_len (es fs : List Ent) : (mrgA es fs).length ≤ 32 := by
  unfold mrgA
  split
  · rename_i h
    unfold mrgN at h
    split at h
    · exact fit_len h
    · cases h
  · simp
theorem mrgC_len (es fs : List Ent) : (mrgC es fs).length ≤ 32 := by
  have h1 := mrgA_len es fs
  unfold mrgA at h1
  unfold mrgC
  split
  · rename_i h
    rw [if_pos h] at h1
    have h2 := mCp_len (mrgL es fs)
    have h3 : (mC es fs).length = (mCp (mrgL es fs)).length := rfl
    have h4 : (mA es fs).length = (mrgL es fs).length := List.length_map ..
    omega
  · simp
theorem merge_out {w : World} {A B : Option Addr} {n c m d : Nat} {es fs : List Ent} (h : Et w A n c es) (k : Et w B m d fs) :
    Calls Tryz.prog 11 #[.slice A n c, .slice B m d] w fun e w' => ∃ A' c' B' d', e = .returned (.tuple #[.slice A' (mrgA es fs).length c', .slice B' (mrgC es fs).length d', .int .i64 (mrgN es fs : Nat)]) ∧ Et w' A' (mrgA es fs).length c' (mrgA es fs) ∧ Rd w' B' (strV (mrgC es fs)) ∧ Below w.heap.size w w' :=
  (merge_any h k).mono fun e w' ⟨A', c', B', d', he, o, q, b⟩ => ⟨A', c', B', d', he, own5_et o (by have := mrgA_len es fs; omega) (mrgA_sz h.sz k.sz), Rd.of_own q, b⟩
theorem merge_val {w : World} {A B : Option Addr} {n c m d : Nat} {es fs : List Ent} (h : Et w A n c es) (k : Et w B m d fs) {la : List Ent} {lc : List ByteArray} {nA nC : Nat} {z : Int} (hA : mrgA es fs = la) (hC : mrgC es fs = lc) (ha : la.length = nA) (hc : lc.length = nC) (hz : ((mrgN es fs : Nat) : Int) = z) :
    Calls Tryz.prog 11 #[.slice A n c, .slice B m d] w fun e w' => ∃ A' c' B' d', e = .returned (.tuple #[.slice A' nA c', .slice B' nC d', .int .i64 z]) ∧ Et w' A' nA c' la ∧ Rd w' B' (strV lc) ∧ Below w.heap.size w w' := by
  have := merge_out h k
  rw [hA, hC, ha, hc, hz] at this
  exact this
theorem setE_sz {x y : Ent} (hx : SzE x) (hy : SzE y) (tk : Bool) (a : Int) : SzE (setE x y tk a) := by
  unfold setE SzE
  cases tk
  · exact hx
  · exact ⟨hx.1, hy.2⟩
theorem setA_sz {es fs : List Ent} {p : ByteArray} {tk : Bool} {a : Int} (h : ∀ e ∈ es, SzE e) (k : ∀ e ∈ fs, SzE e) : ∀ e ∈ setA es fs p tk a, SzE e := by
  intro e he
  unfold setA at he
  split at he
  · split at he
    · rename_i x y h1 h2
      rcases List.mem_or_eq_of_mem_set he with h3 | h3
      · exact h e h3
      · subst h3; exact setE_sz (h x (atE_mem h1).1) (k y (atE_mem h2).1) tk a
    · cases he
  · cases he
theorem setA_len {es fs : List Ent} {p : ByteArray} {tk : Bool} {a : Int} : (setA es fs p tk a).length ≤ es.length := by
  unfold setA
  split
  · split
    · rw [List.length_set]; exact Nat.le_refl _
    · simp
  · simp
theorem settle_out {w : World} {A B : Option Addr} {n c m d : Nat} {es fs : List Ent} (h : Et w A n c es) (k : Et w B m d fs) (p : ByteArray) (tk : Bool) (a : Int) :
    Calls Tryz.prog 20 #[.slice A n c, .slice B m d, .string p, .bool tk, .int .i64 a] w fun e w' => ∃ A' c', e = .returned (.tuple #[.slice A' (setA es fs p tk a).length c', .int .i64 (setN es fs p tk a : Nat)]) ∧ Et w' A' (setA es fs p tk a).length c' (setA es fs p tk a) ∧ Below w.heap.size w w' :=
  (settle_any h k p tk a).mono fun e w' ⟨A', c', he, o, b⟩ => ⟨A', c', he, own5_et o (by have := @setA_len es fs p tk a; have := h.len; have := h.big; omega) (setA_sz h.sz k.sz), b⟩
theorem settle_val {w : World} {A B : Option Addr} {n c m d : Nat} {es fs : List Ent} (h : Et w A n c es) (k : Et w B m d fs) (p : ByteArray) (tk : Bool) (a : Int) {la : List Ent} {nA : Nat} {z : Int} (hA : setA es fs p tk a = la) (ha : la.length = nA) (hz : ((setN es fs p tk a : Nat) : Int) = z) :
    Calls Tryz.prog 20 #[.slice A n c, .slice B m d, .string p, .bool tk, .int .i64 a] w fun e w' => ∃ A' c', e = .returned (.tuple #[.slice A' nA c', .int .i64 z]) ∧ Et w' A' nA c' la ∧ Below w.heap.size w w' := by
  have := settle_out h k p tk a
  rw [hA, ha, hz] at this
  exact this
theorem plan_val {w : World} {A B : Option Addr} {n c m d : Nat} {t : List Fil} {es : List Ent} (h : Ft w A n c t) (k : Et w B m d es) (hn : n ≤ 100000) (hm : m ≤ 100000) {la : List Ac} {nA : Nat} {z : Int} (hA : planA t es = la) (ha : la.length = nA) (hz : ((planN t es : Nat) : Int) = z) :
    Calls Tryz.prog 18 #[.slice A n c, .slice B m d] w fun e w' => ∃ A' c', e = .returned (.tuple #[.slice A' nA c', .int .i64 z]) ∧ Rd w' A' (actV la) ∧ Below w.heap.size w w' := by
  refine (plan_any h k hn hm).mono fun e w' ⟨A', c', he, o, b⟩ => ⟨A', c', by rw [hA, ha, hz] at he; exact he, ?_, b⟩
  rw [hA] at o
  rcases o.2 with ⟨e1, e0⟩ | ⟨g, cap, cur, e1, _⟩
  · have : la = [] := List.eq_nil_of_length_eq_zero e0
    subst this; exact .inl rfl
  · injection e1 with e1 e2 e3
    subst e1
    exact .inr ⟨_, rfl, o.cells (g := g) rfl⟩

/-! ### Actions alike -/
abbrev acA (a : Ac) : Value := .agg #[.string a.1, .bool a.2.1, .string a.2.2]
theorem eqAc (f g : Ac) (w : World) : (binOp .eql 55 (acA f) (acA g)).run Tryz.prog w = .ok (.bool (decide (f = g))) w := by
  have u9 := Tryz.underlying9
  have a9 := Tryz.isAgg9
  have z9 := Tryz.sizeOf9
  have u4 := Tryz.underlying4
  have a4 := Tryz.isAgg4
  have z4 := Tryz.sizeOf4
  have hS : Tryz.prog.underlying 55 = some (.struct (Tryz.prog.fieldsOf 55)) := by kernel_rfl
  have hp : Tryz.prog.stoodInHeld 55 = false := by kernel_rfl
  obtain ⟨f1, f2, f3⟩ := f
  obtain ⟨g1, g2, g3⟩ := g
  rw [run_eql_struct, show (10000 : Nat) = 9999 + 1 from rfl, run_equalIn_agg w 9999 55 _ _ hS hp]
  simp only [Program.fieldsOf, Tryz.underlying55]
  go_simp
  have inj : ∀ {a b : ByteArray}, a.toList = b.toList → a = b := fun h => data_inj (by rw [← Lib.toList_data, ← Lib.toList_data]; exact h)
  by_cases h1 : f1.toList = g1.toList
  · by_cases h2 : f2 = g2
    · by_cases h3 : f3.toList = g3.toList
      · rw [if_pos h1, if_pos h2, if_pos h3, decide_eq_true (inj h1), decide_eq_true h2, decide_eq_true (inj h3)]; rfl
      · rw [if_pos h1, if_pos h2, if_neg h3, decide_eq_true (inj h1), decide_eq_true h2, decide_eq_false (fun e => h3 (congrArg ByteArray.toList e))]; rfl
    · rw [if_pos h1, if_neg h2, decide_eq_true (inj h1), decide_eq_false h2]; rfl
  · rw [if_neg h1, decide_eq_false (fun e => h1 (congrArg ByteArray.toList e))]; rfl
theorem Rd.act {w : World} {A : Option Addr} {l : List Ac} (h : Rd w A (actV l)) {j : Nat} (hj : j < l.length) :
    ∃ b off, A = some ⟨b, off, none⟩ ∧ w.cell? ⟨b, off + j * 3, none⟩ = some (.string l[j].1) ∧ w.cell? ⟨b, off + j * 3 + 1, none⟩ = some (.bool l[j].2.1) ∧ w.cell? ⟨b, off + j * 3 + 2, none⟩ = some (.string l[j].2.2) ∧ b < w.heap.size := by
  have hl := actV_length l
  obtain ⟨b, off, rfl, -, hb⟩ := h.at_ (k := j * 3) (by omega)
  have at3 : ∀ (l : List Ac) (j : Nat) (h : j < l.length) (q : Nat), q < 3 → (actV l)[j * 3 + q]? = (aV l[j])[q]? := by
    intro l
    induction l with
    | nil => intro j h; simp at h
    | cons a l ih =>
      intro j h q hq
      rw [show actV (a :: l) = aV a ++ actV l from rfl]
      cases j with
      | zero => rw [Nat.zero_mul, Nat.zero_add, List.getElem?_append_left (by simp [aV]; exact hq)]; rfl
      | succ j => rw [List.getElem?_append_right (by simp [aV]; omega), show (j + 1) * 3 + q - (aV a).length = j * 3 + q by simp [aV]; omega, ih j (by simpa using h) q hq]; rfl
  have g : ∀ q, q < 3 → w.cell? ⟨b, off + j * 3 + q, none⟩ = (aV l[j])[q]? := by
    intro q hq
    rw [Nat.add_assoc]
    obtain ⟨b', off', e, hc, -⟩ := h.at_ (k := j * 3 + q) (by omega)
    injection e with e; injection e with e1 e2; subst e1 e2
    rw [hc, ← List.getElem?_eq_getElem, at3 l j hj q hq]
  exact ⟨b, off, rfl, g 0 (by omega), g 1 (by omega), g 2 (by omega), hb⟩

/-! ### The small case's lists -/
abbrev tf : ByteArray := ⟨#[102]⟩
abbrev tg : ByteArray := ⟨#[103]⟩
abbrev th : ByteArray := ⟨#[104]⟩
abbrev tx : ByteArray := ⟨#[120]⟩
abbrev t1s : ByteArray := ⟨#[49]⟩
abbrev t2s : ByteArray := ⟨#[50]⟩
abbrev e1f : Ent := ⟨tf, true, t1s, 2, 0⟩
abbrev e1g : Ent := ⟨tg, true, t1s, 1, 0⟩
abbrev e2f : Ent := ⟨tf, true, t2s, 1, 1⟩
abbrev e2g : Ent := ⟨tg, false, noS, 1, 1⟩
abbrev e2h : Ent := ⟨th, true, noS, 0, 1⟩
abbrev e3f : Ent := ⟨tf, true, t2s, 3, 1⟩
abbrev SA : List Ent := [e1f, e1g]
abbrev SB : List Ent := [e2f, e2g, e2h]
abbrev SL : List Ent := [e1f, e2g, e2h]
abbrev SS : List Ent := [e3f, e2g, e2h]
theorem sm1 : mrgL SA SB = [(e1f, true), (e2g, false), (e2h, false)] := by
  rw [mrgL, if_pos rfl, mrgL, if_pos rfl, mrgL, mrgL, show comeE e1f e2f = (e1f, true) by decide +kernel, show comeE e1g e2g = (e2g, false) by decide +kernel]
theorem sm2 : mrgL SL SB = [(e1f, true), (e2g, false), (e2h, false)] := by
  rw [mrgL, if_pos rfl, mrgL, if_pos rfl, mrgL, if_pos rfl, mrgL, show comeE e1f e2f = (e1f, true) by decide +kernel, show comeE e2g e2g = (e2g, false) by decide +kernel, show comeE e2h e2h = (e2h, false) by decide +kernel]
theorem sm_fit : fitN SL = 0 := by decide +kernel
theorem sm_mN : mrgN SA SB = 0 := by
  rw [mrgN_fit (by decide +kernel) (by decide +kernel), mA, sm1]; exact sm_fit
theorem sm_mA : mrgA SA SB = SL := by rw [mrgA, if_pos sm_mN, mA, sm1]; rfl
theorem sm_mC : mrgC SA SB = [tf] := by rw [mrgC, if_pos sm_mN, mC, sm1]; rfl
theorem sm_mN2 : mrgN SL SB = 0 := by
  rw [mrgN_fit (by decide +kernel) (by decide +kernel), mA, sm2]; exact sm_fit
theorem sm_mC2 : mC SL SB = [tf] := by rw [mC, sm2]; rfl
theorem sm_sN : setN SL SB tf true 0 = 0 := by
  rw [setN_at (i := 0) (j := 0) sm_mN2 (by rw [sm_mC2]; exact List.mem_singleton.2 rfl) (by decide) (by decide) (by decide +kernel) (by decide +kernel)]
  decide +kernel
theorem sm_sA : setA SL SB tf true 0 = SS := by
  rw [setA_at (i := 0) (j := 0) sm_sN (by decide) (by decide) (by decide +kernel) (by decide +kernel)]
  decide +kernel
theorem sm_sN2 : setN SL SB tg true 0 = 3 := setN_no sm_mN2 (by rw [sm_mC2, List.mem_singleton]; decide +kernel)
theorem sm_sA2 : setA SL SB tg true 0 = [] := by unfold setA; rw [sm_sN2]; rfl
theorem sm_t : treeE SA = [(tf, t1s), (tg, t1s)] := by decide +kernel
theorem sm_pN : planN [(tf, t1s), (tg, t1s)] SL = 0 := by decide +kernel
theorem sm_pA : planA [(tf, t1s), (tg, t1s)] SL = [(tg, false, noS), (th, true, noS)] := by decide +kernel
theorem sm_a1 : agreeB SL SB tg = true := by decide +kernel
theorem sm_a2 : agreeB SL SB tf = false := by decide +kernel
theorem sm_a3 : agreeB SL SB tx = true := by decide +kernel
end Go.Proofs.YtlmccjdpmhancaaGreatDoor
