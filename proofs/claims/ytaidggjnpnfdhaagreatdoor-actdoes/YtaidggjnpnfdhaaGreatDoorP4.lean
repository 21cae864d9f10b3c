/- The texts Jj, ArgL, Jb, Jh, Jf, Rst, Jg, Jk, Jm, Jn, Sm, Jo, Jp, Jr, Jv, Na, Nb, Nc, Nd, Oa, in one. -/
import Derived.Test.YtaidggjnpnfdhaaGreatDoorP3
import Derived.Deep.Slices
import Derived.Lib.SmallJoins
import Derived.Deep.RegionHeld3
import Derived.Deep.DeepCutAuto
namespace Go.Proofs.YtaidggjnpnfdhaaGreatDoor
open Go.RowKit

/-! ### Actions -/
abbrev Ac := ByteArray × Bool × ByteArray
def aV (a : Ac) : List Value := [.string a.1, .bool a.2.1, .string a.2.2]
def actV (l : List Ac) : List Value := l.flatMap aV
theorem actV_append (a b : List Ac) : actV (a ++ b) = actV a ++ actV b := by simp [actV]
theorem actV_one (l : List Ac) : ∀ u ∈ actV l, u.oneCell' = true := by
  intro u hu
  obtain ⟨a, -, ha⟩ := List.mem_flatMap.1 hu
  simp only [aV, List.mem_cons, List.not_mem_nil, or_false] at ha
  rcases ha with rfl | rfl | rfl <;> rfl
theorem actV_length (l : List Ac) : (actV l).length = l.length * 3 := by
  induction l with
  | nil => rfl
  | cons a l ih => rw [show actV (a :: l) = aV a ++ actV l from rfl, List.length_append, ih, List.length_cons]; simp [aV]; omega
theorem Tryz.infoA : (Tryz.prog.info? 47).map (fun i => (i.zero, i.size, i.bytes)) = some (some (.agg #[zS, .bool false, zS]), 3, 40) := by kernel_rfl
def dropsL (t u : List Fil) : List Ac := (t.filter fun f => !(u.any fun g => decide (g.1 = f.1))).map fun f => (f.1, false, noS)
def putsL (t u : List Fil) : List Ac := (u.filter fun f => !(t.any fun g => decide (f = g))).map fun f => (f.1, true, f.2)
def planL (t u : List Fil) : List Ac := dropsL t u ++ putsL t u
theorem drops_more (t u : List Fil) (j : Nat) (h : j < t.length) : dropsL (t.take (j + 1)) u = dropsL (t.take j) u ++ (if u.any (fun g => decide (g.1 = t[j].1)) then [] else [(t[j].1, false, noS)]) := by
  rw [dropsL, List.take_add_one, List.getElem?_eq_getElem h, List.filter_append, List.map_append, dropsL]
  congr 1
  simp only [Option.toList_some, List.filter_cons, List.filter_nil]
  cases u.any (fun g => decide (g.1 = t[j].1)) <;> rfl
theorem puts_more (t u : List Fil) (j : Nat) (h : j < u.length) : putsL t (u.take (j + 1)) = putsL t (u.take j) ++ (if t.any (fun g => decide (u[j] = g)) then [] else [(u[j].1, true, u[j].2)]) := by
  rw [putsL, List.take_add_one, List.getElem?_eq_getElem h, List.filter_append, List.map_append, putsL]
  congr 1
  simp only [Option.toList_some, List.filter_cons, List.filter_nil]
  cases t.any (fun g => decide (u[j] = g)) <;> rfl
theorem drops_len (t u : List Fil) : (dropsL t u).length ≤ t.length := by rw [dropsL, List.length_map]; exact List.length_filter_le _ _
theorem puts_len (t u : List Fil) : (putsL t u).length ≤ u.length := by rw [putsL, List.length_map]; exact List.length_filter_le _ _
def planN (t : List Fil) (es : List Ent) : Nat := if treeR t && archR es then 0 else 1
def planA (t : List Fil) (es : List Ent) : List Ac := if planN t es = 0 then planL t (treeE es) else []
def PlanPost (w : World) (t : List Fil) (es : List Ent) (e : Ending) (w' : World) : Prop :=
  ∃ A' c', e = .returned (.tuple #[.slice A' (planA t es).length c', .int .i64 (planN t es : Nat)]) ∧
    w'.ownsRow w.heap.size 47 3 (.slice A' (planA t es).length c') (planA t es).length (actV (planA t es)) ∧ Below w.heap.size w w'
theorem plan_err {w w' : World} {t : List Fil} {es : List Ent} (h : (treeR t && archR es) = false) (hb : Below w.heap.size w w') : PlanPost w t es (.returned (.tuple #[.slice none 0 0, .int .i64 1])) w' := by
  have e0 : planN t es = 1 := by unfold planN; rw [h]; rfl
  have e1 : planA t es = [] := by unfold planA; rw [e0, if_neg (by decide)]
  refine ⟨none, 0, ?_, ?_, hb⟩
  · rw [e1, e0]; rfl
  · rw [e1]; exact World.ownsRow_nil _ _ _ _
/-- One more action. -/
theorem app_act {W : World} {n₀ : Nat} {v : Value} {xs : List Ac} (hrow : W.ownsRow n₀ 47 3 v xs.length (actV xs)) (hn : n₀ ≤ W.heap.size) (hk : xs.length ≤ 1000000) (a : Ac) :
    ∃ A' c' w1, Hid ((Builtin.append_ #[23, 23] 23 #[v, .slice (some ⟨W.heap.size, 0, none⟩) 1 1]).run Tryz.prog (W.alloc (.cells #[.string a.1, .bool a.2.1, .string a.2.2] 47)) = .ok (.slice A' (xs ++ [a]).length c') w1) ∧ w1.ownsRow n₀ 47 3 (.slice A' (xs ++ [a]).length c') (xs ++ [a]).length (actV (xs ++ [a])) ∧ Below n₀ W w1 := by
  obtain ⟨A', c', w1, h1, h2, -, h4⟩ := app_own2 (n₀ := n₀) Tryz.underlying23 Tryz.infoA rfl (by decide) hrow hn (by omega) (by unfold maxLen; omega) (aV a) rfl (by intro u hu; exact actV_one [a] u (by simpa [actV] using hu))
  refine ⟨A', c', w1, ?_, ?_, h4⟩
  · rw [List.length_append, List.length_singleton]; exact h1
  · rw [List.length_append, List.length_singleton, actV_append]
    simpa [actV] using h2

theorem rd_own3 {w : World} {base : Nat} {A : Option Addr} {n c : Nat} {l : List Ac} (hl : l.length = n) (h : w.ownsRow base 47 3 (.slice A n c) n (actV l)) : Rd w A (actV l) := by
  rcases h.2 with ⟨e1, e0⟩ | ⟨g, cap, cur, e1, _⟩
  · have : l = [] := List.eq_nil_of_length_eq_zero (by rw [hl, e0])
    subst this; exact .inl rfl
  · injection e1 with e1 e2 e3
    subst e1
    exact .inr ⟨_, rfl, h.cells (g := g) rfl⟩

set_option maxHeartbeats 4000000 in
theorem plan_any {w : World} {A B : Option Addr} {n c m d : Nat} {t : List Fil} {es : List Ent} (h : Ft w A n c t) (k : Et w B m d es) (hn : n ≤ 100000) (hme : m ≤ 100000) :
    Calls Tryz.prog 20 #[.slice A n c, .slice B m d] w (PlanPost w t es) := by
  have hmf : ∀ (fn : Fn) (first cap : Array Value) (w : World), (Instr.makeFunc fn first cap).run Tryz.prog w = .ok (.func fn first cap) w := fun _ _ _ _ => rfl
  have hal : ∀ (W : World) (o : Obj), Below W.heap.size W (W.alloc o) := fun W o => (Below.refl _ _).alloc (Nat.le_refl _) o
  go_enter Tryz.func20, Tryz.ntmps20
  go_wp2_with fail
  refine (tree_any h).mono ?_
  rintro e w1 ⟨rfl, b1⟩
  have h1 := h.below b1
  have k1 := k.below b1
  cases hR : treeR t with
  | false =>
    have HN : Hid ((treeR t && archR es) = false) := by show _ = _; rw [hR]; rfl
    clear hR
    go_wp2
    exact bodyPost_ret (v := .tuple #[.slice none 0 0, .int .i64 1]) (by simp [results, Tryz.results20, go_sem]) rfl (plan_err HN.out b1)
  | true =>
    go_wp2_with fail
    refine (archR_any k1).mono ?_
    rintro e w2 ⟨rfl, hb2⟩
    have b2 := below2 b1 hb2
    have h2 := h1.below hb2
    have k2 := k1.below hb2
    clear hb2 b1 h1 k1 h k
    cases hR2 : archR es with
    | false =>
      have HN : Hid ((treeR t && archR es) = false) := by show _ = _; rw [hR, hR2]; rfl
      clear hR hR2
      go_wp2
      exact bodyPost_ret (v := .tuple #[.slice none 0 0, .int .i64 1]) (by simp [results, Tryz.results20, go_sem]) rfl (plan_err HN.out b2)
    | true =>
      have HN : Hid (planN t es = 0) := by show _ = _; unfold planN; rw [hR, hR2]; rfl
      have HA : Hid (planA t es = planL t (treeE es)) := by show _ = _; unfold planA; rw [HN.out, if_pos rfl]
      have hfl : (treeE es).length ≤ m := by rw [treeE, hR2, if_pos rfl, ← k2.len]; exact filesOf_len es
      have hm : m ≤ 100000 := hme
      clear hR hR2
      go_wp2_with fail
      refine (treeE_any k2).mono ?_
      rintro e w3 ⟨U, du, rfl, u3, hb3⟩
      have b3 := below2 b2 hb3
      have h3 := h2.below hb3
      clear hb3 b2 h2 k2
      generalize treeE es = u at *
      have HL := hid h3.len
      have HSZ := hid h3.sz
      have HW := hid b3.size
      go_wp2_with fail
      go_loopw [6, 24] (fun v i wr => ∃ j : Nat, j ≤ n ∧ i = .int .i64 j ∧ wr.ownsRow w3.heap.size 47 3 v (dropsL (t.take j) u).length (actV (dropsL (t.take j) u)) ∧ Below w3.heap.size w3 wr) (fun _ i _ => n - (intOf i).toNat)
      case atStart => exact ⟨0, by omega, rfl, World.ownsRow_nil _ _ _ _, Below.refl _ _⟩
      case round =>
        obtain ⟨j, hj, rfl, o, b⟩ := hrel
        by_cases hjn : j < n
        · have hjl : j < t.length := by rw [HL.out]; exact hjn
          have hz : (0 : Int) ≤ j := by omega
          have hlt : (j : Int) < n := by omega
          obtain ⟨g, og, rfl, x1, x2, -⟩ := (h3.rd.below b).fil hjl
          have HT := hid (drops_more t u j hjl)
          have hpz : t[j].1.size ≤ 281474976710656 := by have := (HSZ.out _ (List.getElem_mem hjl)).1; omega
          have hdl : (dropsL (t.take j) u).length ≤ 100000 := by have := drops_len (t.take j) u; rw [List.length_take] at this; omega
          generalize dropsL (t.take j) u = out at *
          generalize t[j] = f at *
          have hal2 := hal wr (.cells #[.string f.1, .string f.2] 38)
          have pf := Blk.new wr [.string f.1, .string f.2] 38
          have o2 := own_below o hal2
          have b2 := b.trans (hal2.mono b.size)
          have u2 := (u3.below b).below hal2
          have cc := contQ_any wr.heap.size U u.length du u f.1 _ rfl (pf.cell 0) u2.rd (by omega)
          clear o hal2
          go_wp2_with fail
          refine cc.mono ?_
          rintro e w4 ⟨rfl, hb4⟩
          clear cc u2
          have pf4 := pf.below hb4
          have o4 := own_below o2 hb4
          have b4 := b2.trans (hb4.mono b2.size)
          have p0 := pf4.cell 0
          simp only [List.getElem?_cons_zero] at p0
          clear pf pf4 o2 b2 hb4 x1 x2
          cases hq : u.any (fun g => decide (g.1 = f.1)) with
          | true =>
            have HT2 : Hid (dropsL (t.take (j + 1)) u = out) := by show _ = _; rw [HT.out, hq]; simp
            clear HT hq
            go_wp2
            go_roundw
            case rel => exact ⟨j + 1, by omega, by go_num, by rw [HT2.out]; exact o4, b4⟩
            case measure => simp [intOf]; omega
          | false =>
            have HT2 : Hid (dropsL (t.take (j + 1)) u = out ++ [(f.1, false, noS)]) := by show _ = _; rw [HT.out, hq]; simp
            clear HT hq
            go_wp2_with fail
            refine (clone_any f.1 _ hpz).mono ?_
            rintro e w5 ⟨rfl, hb5⟩
            have o5 := own_below o4 hb5
            have b5 := b4.trans (hb5.mono b4.size)
            obtain ⟨A6, c6, w6, HRUN, o6, e6⟩ := app_act o5 b5.size (by omega) (f.1, false, noS)
            have b6 := b5.trans e6
            clear o4 o5 b4 b5 hb5 e6 p0
            go_wp2_with (at_builtin; refine Lib.wpList_append_run _ rfl _ _ _ _ rfl _ _ rfl rfl _ _ HRUN.out ?_)
            go_roundw
            case rel => exact ⟨j + 1, by omega, by go_num, by rw [HT2.out]; simpa using o6, b6⟩
            case measure => simp [intOf]; omega
        · have HE := hid (show j = n by omega)
          have hnlt : ¬ (j : Int) < n := by omega
          rw [HE.out, ← HL.out, List.take_length] at o
          have hdl : (dropsL t u).length ≤ 100000 := by have := drops_len t u; rw [HL.out] at this; omega
          have HA2 : Hid (planL t u = dropsL t u ++ putsL t u) := rfl
          obtain ⟨W1, rfl⟩ : ∃ W1, W1 = wr := ⟨_, rfl⟩
          generalize dropsL t u = ds at *
          go_wp2_with fail
          go_loopw [6, 42] (fun v i wr => ∃ k : Nat, k ≤ u.length ∧ i = .int .i64 k ∧ wr.ownsRow w3.heap.size 47 3 v (ds ++ putsL t (u.take k)).length (actV (ds ++ putsL t (u.take k))) ∧ Below w3.heap.size w3 wr) (fun _ i _ => u.length - (intOf i).toNat)
          case atStart => exact ⟨0, by omega, rfl, by rw [List.take_zero, show putsL t [] = [] from rfl, List.append_nil]; exact o, b⟩
          case round =>
            clear o b
            obtain ⟨k, hk, rfl, o, b⟩ := hrel
            by_cases hkn : k < u.length
            · have hz : (0 : Int) ≤ k := by omega
              have hlt : (k : Int) < u.length := by omega
              obtain ⟨g, og, rfl, x1, x2, -⟩ := (u3.rd.below b).fil hkn
              have HT := hid (puts_more t u k hkn)
              have hdl : (ds ++ putsL t (u.take k)).length ≤ 1000000 := by have := puts_len t (u.take k); rw [List.length_take] at this; rw [List.length_append]; omega
              have HT2 : Hid (ds ++ putsL t (u.take (k + 1)) = (ds ++ putsL t (u.take k)) ++ (if t.any (fun g => decide (u[k] = g)) then [] else [(u[k].1, true, u[k].2)])) := by show _ = _; rw [HT.out, List.append_assoc]
              clear HT
              generalize ds ++ putsL t (u.take k) = out at *
              generalize u[k] = f at *
              have hal2 := hal wr (.cells #[.string f.1, .string f.2] 38)
              have pf := Blk.new wr [.string f.1, .string f.2] 38
              have o2 := own_below o hal2
              have b2 := b.trans (hal2.mono b.size)
              have t2 := (h3.below b).below hal2
              have cc := contV_any A n c t f _ t2.len t2.rd t2.big
              clear o hal2
              go_wp2_with fail
              refine cc.mono ?_
              rintro e w4 ⟨rfl, hb4⟩
              clear cc t2
              have pf4 := pf.below hb4
              have o4 := own_below o2 hb4
              have b4 := b2.trans (hb4.mono b2.size)
              have p0 := pf4.cell 0
              have p1 := pf4.cell 1
              simp only [List.getElem?_cons_zero, List.getElem?_cons_succ] at p0 p1
              clear pf pf4 o2 b2 hb4 x1 x2
              cases hq : t.any (fun g => decide (f = g)) with
              | true =>
                have HT3 : Hid (ds ++ putsL t (u.take (k + 1)) = out) := by show _ = _; rw [HT2.out, hq]; simp
                clear HT2 hq
                go_wp2
                go_roundw
                case rel => exact ⟨k + 1, by omega, by go_num, by rw [HT3.out]; exact o4, b4⟩
                case measure => simp [intOf]; omega
              | false =>
                have HT3 : Hid (ds ++ putsL t (u.take (k + 1)) = out ++ [(f.1, true, f.2)]) := by show _ = _; rw [HT2.out, hq]; simp
                clear HT2 hq
                obtain ⟨A6, c6, w6, HRUN, o6, e6⟩ := app_act o4 b4.size (by omega) (f.1, true, f.2)
                have b6 := b4.trans e6
                clear o4 b4 e6
                go_wp2_with (at_builtin; refine Lib.wpList_append_run _ rfl _ _ _ _ rfl _ _ rfl rfl _ _ HRUN.out ?_)
                go_roundw
                case rel => exact ⟨k + 1, by omega, by go_num, by rw [HT3.out]; simpa using o6, b6⟩
                case measure => simp [intOf]; omega
            · have HE2 := hid (show k = u.length by omega)
              have hknl : ¬ (k : Int) < u.length := by omega
              rw [HE2.out, List.take_length, ← HA2.out, ← HA.out] at o
              obtain ⟨A5, c5, rfl⟩ := own_slice o
              have b5 := below2 b3 b
              have o5 := own_low o HW.out
              go_wp2
              refine bodyPost_ret (v := .tuple #[.slice A5 (planA t es).length c5, .int .i64 0]) (by simp [results, Tryz.results20, go_sem]) rfl ?_
              exact ⟨_, _, by rw [HN.out]; rfl, o5, b5⟩
end Go.Proofs.YtaidggjnpnfdhaaGreatDoor
namespace Go.Proofs.YtaidggjnpnfdhaaGreatDoor
open Go.ChangeShapes Go.WideShapes Go.ChangeAt Go.RowKit Go.Deep

theorem list3 {α : Type} {l : List α} (h : l.length = 3) : ∃ a b c, l = [a, b, c] := by
  match l, h with
  | [a, b, c], _ => exact ⟨a, b, c, rfl⟩
theorem actV_at : ∀ (l : List Ac) (j : Nat) (h : j < l.length) (q : Nat), q < 3 → (actV l)[j * 3 + q]? = (aV l[j])[q]? := by
  intro l
  induction l with
  | nil => intro j h; simp at h
  | cons a l ih =>
    intro j h q hq
    rw [show actV (a :: l) = aV a ++ actV l from rfl]
    cases j with
    | zero => rw [Nat.zero_mul, Nat.zero_add, List.getElem?_append_left (by simp [aV]; exact hq)]; rfl
    | succ j => rw [List.getElem?_append_right (by simp [aV]; omega), show (j + 1) * 3 + q - (aV a).length = j * 3 + q by simp [aV]; omega, ih j (by simpa using h) q hq]; rfl
theorem trod_ac {H : Type} {enc : TypeId × Value → H} {W : World} {base : Nat} {sp : Nat → Bool} {hd : Bool} {fuel : Nat} {cs : List Value} {y : DataW H × List MemPlace} (h : DataW.trod enc Tryz.prog W base sp hd fuel 47 cs = some y) : ∃ x : Ac, cs = aV x := by
  have hct : Tryz.prog.cellsOf 47 = 3 := by kernel_rfl
  have hcs : Tryz.prog.cellsOf 9 = 1 := by kernel_rfl
  have hcb : Tryz.prog.cellsOf 4 = 1 := by kernel_rfl
  obtain ⟨xs, n, -, -, hl, hlen, hf⟩ := DataW.trod_struct Tryz.underlying47 h
  rw [hct] at hl
  obtain ⟨u0, u1, u2, rfl⟩ := list3 hl
  obtain ⟨y0, y1, y2, rfl⟩ := list3 (hlen.trans rfl)
  have h0 := hf 0 _ rfl
  have h1 := hf 1 _ rfl
  have h2 := hf 2 _ rfl
  simp only [List.getElem?_cons_zero, List.getElem?_cons_succ] at h0 h1 h2
  obtain ⟨z0, e0, -⟩ := DataW.trod_string Tryz.underlying9 h0
  obtain ⟨z1, e1, -⟩ := DataW.trod_bool Tryz.underlying4 h1
  obtain ⟨z2, e2, -⟩ := DataW.trod_string Tryz.underlying9 h2
  simp [hcs] at e0 e2
  simp [hcb] at e1
  exact ⟨(z0, z1, z2), by rw [e0, e1, e2]; rfl⟩
set_option maxRecDepth 100000 in
theorem arg__api_Action {H : Type} {enc : TypeId × Value → H} {W : World} {base : Nat} {v : Value} {d : DataW H} {p : List MemPlace} (hv : Value.okWide Tryz.prog W .any base 23 v)
    (h : DataW.Trod enc Tryz.prog W 0 (fun _ => true) true 23 v d p) (_ : ∀ elems spare, d = .slice elems spare → (elems.length + spare.length) * Tryz.prog.bytesOf 47 ≤ reachBytes) :
    ∃ (A : Option Addr) (c : Nat) (ps : List Ac), v = .slice A ps.length c ∧ Rd W A (actV ps) ∧ ps.length ≤ c ∧ c ≤ maxLen ∧ True := by
  have hct : Tryz.prog.cellsOf 47 = 3 := by kernel_rfl
  obtain ⟨a, len, cap, rfl⟩ := okWide_slice Tryz.underlying23 hv
  obtain ⟨fuel, hf⟩ := h
  rcases open_slice Tryz.underlying23 hf with ⟨hcs, _⟩ | ⟨x, l, c, m, n, D, Pl, hcs, _, hl, hm, hmm, hx, hcell⟩
  · simp [Value.cells] at hcs
    obtain ⟨rfl, rfl, rfl⟩ := hcs
    exact ⟨none, 0, [], rfl, .inl rfl, Nat.le_refl _, by unfold maxLen; omega, trivial⟩
  · simp [Value.cells] at hcs
    obtain ⟨rfl, rfl, rfl⟩ := hcs
    have hmm' : m = cap := by simpa using hmm
    have one : ∀ i, ∃ z : Ac, i < len → ∀ k, k < 3 → W.cell? (x.add (i * 3 + k)) = (aV z)[k]? := by
      intro i
      by_cases hi : i < len
      · obtain ⟨cs', hc1, hc2⟩ := hcell i (by omega)
        rw [hct] at hc1
        obtain ⟨-, hl2, hg⟩ := World.cells?_some hc1
        obtain ⟨z, rfl⟩ := trod_ac hc2
        refine ⟨z, fun _ k hk => ?_⟩
        have := hg k (by simpa [aV] using hk)
        rw [add_assoc'] at this
        exact this
      · exact ⟨(noS, false, noS), fun h => absurd h hi⟩
    obtain ⟨B, hB⟩ := Classical.axiomOfChoice one
    refine ⟨some x, cap, (List.range len).map B, by simp, ?_, by simpa using hl, hm, trivial⟩
    refine .inr ⟨x, rfl, fun j u hu => ?_⟩
    have hjl := (List.getElem?_eq_some_iff.1 hu).1
    rw [actV_length, List.length_map, List.length_range] at hjl
    have hi' : j / 3 < len := by omega
    have hi2 : j / 3 < ((List.range len).map B).length := by simpa using hi'
    have eB : ((List.range len).map B)[j / 3] = B (j / 3) := by simp
    have e := actV_at _ _ hi2 (j % 3) (by omega)
    rw [eB, show j / 3 * 3 + j % 3 = j by omega, hu] at e
    have := hB (j / 3) hi' (j % 3) (by omega)
    rw [show j / 3 * 3 + j % 3 = j by omega] at this
    rw [this, ← e]
end Go.Proofs.YtaidggjnpnfdhaaGreatDoor
namespace Go.Proofs.YtaidggjnpnfdhaaGreatDoor
open Go.RowKit

/-! ### place -/
/-! ### joined -/
/-! ### What comes of a path -/
end Go.Proofs.YtaidggjnpnfdhaaGreatDoor
namespace Go.Proofs.YtaidggjnpnfdhaaGreatDoor
open Go.RowKit

def agreeB (es fs : List Ent) (p : ByteArray) : Bool := archR es && archR fs && decide (atE es p = atE fs p)

end Go.Proofs.YtaidggjnpnfdhaaGreatDoor
namespace Go.Proofs.YtaidggjnpnfdhaaGreatDoor
open Go.RowKit

end Go.Proofs.YtaidggjnpnfdhaaGreatDoor
namespace Go.Proofs.YtaidggjnpnfdhaaGreatDoor
open Go.RowKit

/-- Two rows of the call's own: what is out, what changed. -/
structure RSt (base : Nat) (v u : Value) (out : List Ent) (ch : List ByteArray) (W : World) : Prop where
  o : W.ownsRow base 66 5 v out.length (entV out)
  c : W.ownsRow base 9 1 u ch.length (strV ch)
theorem RSt.below {base : Nat} {v u : Value} {out : List Ent} {ch : List ByteArray} {W W' : World} (h : RSt base v u out ch W) (hb : Below W.heap.size W W') : RSt base v u out ch W' := ⟨own_below h.o hb, own_below h.c hb⟩
theorem RSt.set {base : Nat} {v u : Value} {out : List Ent} {ch : List ByteArray} {W : World} (h : RSt base v u out ch W) {g : Nat} (hv : some g ≠ v.ownBlock) (hu : some g ≠ u.ownBlock) (i : Nat) (x : Value) : RSt base v u out ch (W.setCell ⟨g, i, none⟩ x) := ⟨h.o.kept (grown_set i x) (.inr (Ne.symm hv)), h.c.kept (grown_set i x) (.inr (Ne.symm hu))⟩
theorem RSt.apart {base : Nat} {v u : Value} {out : List Ent} {ch : List ByteArray} {W : World} (h : RSt base v u out ch W) {g : Nat} (hg : W.heap.size ≤ g) : some g ≠ v.ownBlock ∧ some g ≠ u.ownBlock := ⟨fun e => by have := (h.o.lt g e.symm).2; omega, fun e => by have := (h.c.lt g e.symm).2; omega⟩
/-- One more is out. -/
theorem RSt.app {base : Nat} {v u : Value} {out : List Ent} {ch : List ByteArray} {W : World} (h : RSt base v u out ch W) (hn : base ≤ W.heap.size) (hk : out.length ≤ 1000000) (z : Ent) :
    ∃ A' c' w1, Hid ((Builtin.append_ #[40, 40] 40 #[v, .slice (some ⟨W.heap.size, 0, none⟩) 1 1]).run Tryz.prog (W.alloc (.cells #[.string z.path, .bool z.has, .string z.data, .int .i64 z.l, .int .i64 z.r] 66)) = .ok (.slice A' (out.length + 1) c') w1) ∧ RSt base (.slice A' (out.length + 1) c') u (out ++ [z]) ch w1 ∧ Below base W w1 := by
  obtain ⟨A', c', w1, h1, h2, h3, h4⟩ := app_own2 (n₀ := base) Tryz.underlying40 Tryz.infoE rfl (by decide) h.o hn (by omega) (by unfold maxLen; omega) (eV z) rfl (by intro u hu; exact entV_one [z] u (by simpa [entV] using hu))
  refine ⟨A', c', w1, h1, ⟨by simpa [entV] using h2, ?_⟩, h4⟩
  exact (h.c.alloc (.cells (eV z).toArray 66)).kept h3 ((rows_apart h.c h.o (by decide)).imp id id)
/-- One more changed. -/
theorem RSt.appS {base : Nat} {v u : Value} {out : List Ent} {ch : List ByteArray} {W : World} (h : RSt base v u out ch W) (hn : base ≤ W.heap.size) (hk : ch.length ≤ 1000000) (z : ByteArray) :
    ∃ A' c' w1, Hid ((Builtin.append_ #[35, 35] 35 #[u, .slice (some ⟨W.heap.size, 0, none⟩) 1 1]).run Tryz.prog (W.alloc (.cells #[.string z] 9)) = .ok (.slice A' (ch.length + 1) c') w1) ∧ RSt base v (.slice A' (ch.length + 1) c') out (ch ++ [z]) w1 ∧ Below base W w1 ∧ (∀ g cs t, t ≠ 9 → Blk W g cs t → Blk w1 g cs t) := by
  obtain ⟨A', c', w1, h1, h2, h3, h4⟩ := app_own2 (n₀ := base) Tryz.underlying35 Tryz.infoS rfl (by decide) h.c hn (by omega) (by unfold maxLen; omega) [.string z] rfl (by simp [Value.oneCell'])
  refine ⟨A', c', w1, h1, ⟨?_, by simpa [strV] using h2⟩, h4, fun g cs t ht hb => ?_⟩
  · exact (h.o.alloc (.cells [Value.string z].toArray 9)).kept h3 ((rows_apart h.o h.c (by decide)).imp id id)
  · exact (h3.block g (by have := hb.lt; simp; omega) (blk_row h.c hb ht)).trans (Blk.below hb ((Below.refl _ _).alloc (Nat.le_refl _) _))
end Go.Proofs.YtaidggjnpnfdhaaGreatDoor
namespace Go.Proofs.YtaidggjnpnfdhaaGreatDoor
open Go.RowKit

def mrgN (es fs : List Ent) : Nat := if archR es && archR fs then fitN (mA es fs) else 1
def mrgA (es fs : List Ent) : List Ent := if mrgN es fs = 0 then mA es fs else []
def mrgC (es fs : List Ent) : List ByteArray := if mrgN es fs = 0 then mC es fs else []
def MergePost (w : World) (es fs : List Ent) (e : Ending) (w' : World) : Prop :=
  ∃ A' c' B' d', e = .returned (.tuple #[.slice A' (mrgA es fs).length c', .slice B' (mrgC es fs).length d', .int .i64 (mrgN es fs : Nat)]) ∧
    w'.ownsRow w.heap.size 66 5 (.slice A' (mrgA es fs).length c') (mrgA es fs).length (entV (mrgA es fs)) ∧
    w'.ownsRow w.heap.size 9 1 (.slice B' (mrgC es fs).length d') (mrgC es fs).length (strV (mrgC es fs)) ∧ Below w.heap.size w w'
theorem merge_err {w w' : World} {es fs : List Ent} (k : Nat) (hk : mrgN es fs = k) (h0 : k ≠ 0) (hb : Below w.heap.size w w') : MergePost w es fs (.returned (.tuple #[.slice none 0 0, .slice none 0 0, .int .i64 (k : Nat)])) w' := by
  have e1 : mrgA es fs = [] := by unfold mrgA; rw [hk, if_neg h0]
  have e2 : mrgC es fs = [] := by unfold mrgC; rw [hk, if_neg h0]
  refine ⟨none, 0, none, 0, ?_, ?_, ?_, hb⟩
  · rw [e1, e2, hk]; rfl
  · rw [e1]; exact World.ownsRow_nil _ _ _ _
  · rw [e2]; exact World.ownsRow_nil _ _ _ _
theorem mrgN_arg {es fs : List Ent} (h : (archR es && archR fs) = false) : mrgN es fs = 1 := by unfold mrgN; rw [h]; rfl
theorem mrgN_fit {es fs : List Ent} (h : archR es = true) (k : archR fs = true) : mrgN es fs = fitN (mA es fs) := by unfold mrgN; rw [h, k]; rfl
theorem blk_own {w : World} {g base : Nat} {es : List Ent} (h : Blk w g (entV es) 66) (hb : base ≤ g) (hn : es.length ≤ 1000000) : w.ownsRow base 66 5 (.slice (some ⟨g, 0, none⟩) es.length es.length) es.length (entV es) := by
  refine ⟨entV_length es, .inr ⟨g, es.length, (entV es).toArray, rfl, hb, h, Nat.le_refl _, by unfold maxLen; omega, by simp [entV_length], ?_⟩⟩
  rw [← entV_length]
  simp
def mAp (M : List (Ent × Bool)) : List Ent := M.map (·.1)
def mCp (M : List (Ent × Bool)) : List ByteArray := (M.filter (·.2)).map (·.1.path)
theorem mAp_more (M : List (Ent × Bool)) (j : Nat) (h : j < M.length) : mAp (M.take (j + 1)) = mAp (M.take j) ++ [M[j].1] := by
  rw [mAp, List.take_add_one, List.getElem?_eq_getElem h, List.map_append]; rfl
theorem mCp_more (M : List (Ent × Bool)) (j : Nat) (h : j < M.length) : mCp (M.take (j + 1)) = mCp (M.take j) ++ (if M[j].2 then [M[j].1.path] else []) := by
  rw [mCp, List.take_add_one, List.getElem?_eq_getElem h, List.filter_append, List.map_append, mCp]
  congr 1
  simp only [Option.toList_some, List.filter_cons, List.filter_nil]
  split <;> rfl
theorem mCp_len (M : List (Ent × Bool)) : (mCp M).length ≤ M.length := by rw [mCp, List.length_map]; exact List.length_filter_le _ _
/-- What comes of two archives is of the size of theirs. -/
theorem come_sz {a b : Ent} (ha : SzE a) (hb : SzE b) : SzE (comeE a b).1 := by
  unfold comeE
  split
  · exact hb
  · split
    · exact ha
    · split
      · simp only []; split
        · exact ha
        · exact ha
      · exact ha
theorem mrg_sz (l m : List Ent) (hl : ∀ e ∈ l, SzE e) (hm : ∀ e ∈ m, SzE e) : ∀ x ∈ mrgL l m, SzE x.1 := by
  fun_induction mrgL l m with
  | case1 => simp
  | case2 a l ih => intro x hx; exact (List.mem_cons.1 hx).elim (fun e => by subst e; exact hl _ List.mem_cons_self) (fun h => ih (fun e he => hl e (List.mem_cons_of_mem _ he)) hm x h)
  | case3 b m ih => intro x hx; exact (List.mem_cons.1 hx).elim (fun e => by subst e; exact hm _ List.mem_cons_self) (fun h => ih hl (fun e he => hm e (List.mem_cons_of_mem _ he)) x h)
  | case4 a l b m h ih => intro x hx; exact (List.mem_cons.1 hx).elim (fun e => by subst e; exact come_sz (hl _ List.mem_cons_self) (hm _ List.mem_cons_self)) (fun h => ih (fun e he => hl e (List.mem_cons_of_mem _ he)) (fun e he => hm e (List.mem_cons_of_mem _ he)) x h)
  | case5 a l b m h h2 ih => intro x hx; exact (List.mem_cons.1 hx).elim (fun e => by subst e; exact hl _ List.mem_cons_self) (fun h => ih (fun e he => hl e (List.mem_cons_of_mem _ he)) hm x h)
  | case6 a l b m h h2 ih => intro x hx; exact (List.mem_cons.1 hx).elim (fun e => by subst e; exact hm _ List.mem_cons_self) (fun h => ih hl (fun e he => hm e (List.mem_cons_of_mem _ he)) x h)
theorem mA_sz {l m : List Ent} (hl : ∀ e ∈ l, SzE e) (hm : ∀ e ∈ m, SzE e) : ∀ e ∈ mA l m, SzE e := fun e he => by
  obtain ⟨x, hx, rfl⟩ := List.mem_map.1 he
  exact mrg_sz l m hl hm x hx

end Go.Proofs.YtaidggjnpnfdhaaGreatDoor
namespace Go.Proofs.YtaidggjnpnfdhaaGreatDoor
open Go.RowKit

def inB (p : ByteArray) (l : List ByteArray) : Bool := l.any fun s => decide (p = s)
theorem inB_iff {p : ByteArray} {l : List ByteArray} : inB p l = true ↔ p ∈ l := by
  unfold inB
  rw [List.any_eq_true]
  constructor
  · rintro ⟨x, hx, h⟩
    have := of_decide_eq_true h
    subst this
    exact hx
  · exact fun h => ⟨p, h, by simp⟩
theorem inB_no {p : ByteArray} {l : List ByteArray} (h : ¬ p ∈ l) : inB p l = false := not_true fun e => h (inB_iff.1 e)
def setE (x y : Ent) (tk : Bool) (a : Int) : Ent := ⟨x.path, if tk then y.has else x.has, if tk then y.data else x.data, (tickL (joinC x y).1 (joinC x y).2 a).1, (tickL (joinC x y).1 (joinC x y).2 a).2⟩
def setN (es fs : List Ent) (p : ByteArray) (tk : Bool) (a : Int) : Nat :=
  if mrgN es fs ≠ 0 then mrgN es fs else if inB p (mC es fs) then
    match atE es p, atE fs p with
    | some x, some y => if tickL (joinC x y).1 (joinC x y).2 a = joinC x y then 2 else fitN (es.set (idxE es p).toNat (setE x y tk a))
    | _, _ => 3
  else 3
def setA (es fs : List Ent) (p : ByteArray) (tk : Bool) (a : Int) : List Ent :=
  if setN es fs p tk a = 0 then match atE es p, atE fs p with
    | some x, some y => es.set (idxE es p).toNat (setE x y tk a)
    | _, _ => []
  else []
def SettlePost (w : World) (es fs : List Ent) (p : ByteArray) (tk : Bool) (a : Int) (e : Ending) (w' : World) : Prop :=
  ∃ A' c', e = .returned (.tuple #[.slice A' (setA es fs p tk a).length c', .int .i64 (setN es fs p tk a : Nat)]) ∧
    w'.ownsRow w.heap.size 66 5 (.slice A' (setA es fs p tk a).length c') (setA es fs p tk a).length (entV (setA es fs p tk a)) ∧ Below w.heap.size w w'
theorem settle_err {w w' : World} {es fs : List Ent} {p : ByteArray} {tk : Bool} {a : Int} (k : Nat) (hk : setN es fs p tk a = k) (h0 : k ≠ 0) (hb : Below w.heap.size w w') : SettlePost w es fs p tk a (.returned (.tuple #[.slice none 0 0, .int .i64 (k : Nat)])) w' := by
  have e1 : setA es fs p tk a = [] := by unfold setA; rw [hk, if_neg h0]
  refine ⟨none, 0, ?_, ?_, hb⟩
  · rw [e1, hk]; rfl
  · rw [e1]; exact World.ownsRow_nil _ _ _ _
theorem setN_mrg {es fs : List Ent} {p : ByteArray} {tk : Bool} {a : Int} (h : mrgN es fs ≠ 0) : setN es fs p tk a = mrgN es fs := by unfold setN; rw [if_pos h]
theorem setN_no {es fs : List Ent} {p : ByteArray} {tk : Bool} {a : Int} (h : mrgN es fs = 0) (hp : ¬ p ∈ mC es fs) : setN es fs p tk a = 3 := by unfold setN; rw [if_neg (by rw [h]; exact fun h => h rfl), inB_no hp]; rfl
theorem setN_at {es fs : List Ent} {p : ByteArray} {tk : Bool} {a : Int} (h : mrgN es fs = 0) (hp : p ∈ mC es fs) {i j : Nat} (hi : i < es.length) (hj : j < fs.length) (e1 : idxE es p = i) (e2 : idxE fs p = j) :
    setN es fs p tk a = if tickL (joinC es[i] fs[j]).1 (joinC es[i] fs[j]).2 a = joinC es[i] fs[j] then 2 else fitN (es.set i (setE es[i] fs[j] tk a)) := by
  unfold setN; rw [if_neg (by rw [h]; exact fun h => h rfl), if_pos (inB_iff.2 hp), atE_yes hi e1, atE_yes hj e2, e1]; rfl
theorem setA_at {es fs : List Ent} {p : ByteArray} {tk : Bool} {a : Int} (h : setN es fs p tk a = 0) {i j : Nat} (hi : i < es.length) (hj : j < fs.length) (e1 : idxE es p = i) (e2 : idxE fs p = j) :
    setA es fs p tk a = es.set i (setE es[i] fs[j] tk a) := by
  unfold setA; rw [if_pos h, atE_yes hi e1, atE_yes hj e2, e1]; rfl
theorem clk_set : ∀ (es : List Ent) (j : Nat) (h : j < es.length) (l r : Int), ((entV es).set (j * 5 + 3) (.int .i64 l)).set (j * 5 + 4) (.int .i64 r) = entV (es.set j ⟨es[j].path, es[j].has, es[j].data, l, r⟩)
  | x :: es, 0, _, l, r => rfl
  | x :: es, j + 1, h, l, r => by
    have ih := clk_set es j (by simpa using h) l r
    have e0 : (j + 1) * 5 + 3 = (j * 5 + 3) + 1 + 1 + 1 + 1 + 1 := by omega
    have e1 : (j + 1) * 5 + 4 = (j * 5 + 4) + 1 + 1 + 1 + 1 + 1 := by omega
    rw [List.set_cons_succ, entV_cons, entV_cons, e0, e1]
    simp only [eV, List.cons_append, List.nil_append, List.set_cons_succ, List.getElem_cons_succ, ih]
theorem val_set : ∀ (es : List Ent) (j : Nat) (h : j < es.length) (b : Bool) (d : ByteArray), ((entV es).set (j * 5 + 1) (.bool b)).set (j * 5 + 2) (.string d) = entV (es.set j ⟨es[j].path, b, d, es[j].l, es[j].r⟩)
  | x :: es, 0, _, b, d => rfl
  | x :: es, j + 1, h, b, d => by
    have ih := val_set es j (by simpa using h) b d
    have e0 : (j + 1) * 5 + 1 = (j * 5 + 1) + 1 + 1 + 1 + 1 + 1 := by omega
    have e1 : (j + 1) * 5 + 2 = (j * 5 + 2) + 1 + 1 + 1 + 1 + 1 := by omega
    rw [List.set_cons_succ, entV_cons, entV_cons, e0, e1]
    simp only [eV, List.cons_append, List.nil_append, List.set_cons_succ, List.getElem_cons_succ, ih]
/-- A conflict is of both. -/
theorem conf_both {es fs : List Ent} (hl : SrtE es) (hm : SrtE fs) {p : ByteArray} (h : p ∈ mC es fs) : ∃ (i j : Nat) (hi : i < es.length) (hj : j < fs.length), idxE es p = i ∧ idxE fs p = j ∧ es[i].path = p ∧ fs[j].path = p := by
  obtain ⟨e, he⟩ := (mC_mem hl hm p).1 h
  rcases idxE_cases es p with ⟨e1, -⟩ | ⟨i, hi, e1, p1⟩
  · rw [atE_no e1] at he
    rcases idxE_cases fs p with ⟨e2, -⟩ | ⟨j, hj, e2, -⟩
    · rw [atE_no e2] at he; cases he
    · rw [atE_yes hj e2] at he; cases he
  · rcases idxE_cases fs p with ⟨e2, -⟩ | ⟨j, hj, e2, p2⟩
    · rw [atE_no e2, atE_yes hi e1] at he; cases he
    · exact ⟨i, j, hi, hj, e1, e2, p1, p2⟩
theorem mrg_right {es fs : List Ent} (h : mrgN es fs = 0) : RightA es ∧ RightA fs := by
  unfold mrgN at h
  cases h1 : archR es with
  | false => rw [h1] at h; simp at h
  | true =>
    cases h2 : archR fs with
    | false => rw [h1, h2] at h; simp at h
    | true => exact ⟨(archR_iff _).1 h1, (archR_iff _).1 h2⟩

end Go.Proofs.YtaidggjnpnfdhaaGreatDoor
namespace Go.Proofs.YtaidggjnpnfdhaaGreatDoor
open Go.RowKit

/-! ### What is told, to be read -/
theorem mrgA_sz {es fs : List Ent} (h : ∀ e ∈ es, SzE e) (k : ∀ e ∈ fs, SzE e) : ∀ e ∈ mrgA es fs, SzE e := by
  unfold mrgA
  split
  · exact mA_sz h k
  · simp
theorem fit_len {es : List Ent} (h : fitN es = 0) : es.length ≤ 32 := by
  unfold fitN at h
  split at h
  · cases h
  · omega
theorem mrgA_len (es fs : List Ent) : (mrgA es fs).length ≤ 32 := by
  unfold mrgA
  split
  · rename_i h
    unfold mrgN at h
    split at h
    · exact fit_len h
    · cases h
  · simp
theorem mrgC_len (es fs : List Ent) : (mrgC es fs).length ≤ 32 := by
  have h1 := mrgA_len es fs
  unfold mrgA at h1
  unfold mrgC
  split
  · rename_i h
    rw [if_pos h] at h1
    have h2 := mCp_len (mrgL es fs)
    have h3 : (mC es fs).length = (mCp (mrgL es fs)).length := rfl
    have h4 : (mA es fs).length = (mrgL es fs).length := List.length_map ..
    omega
  · simp
theorem setE_sz {x y : Ent} (hx : SzE x) (hy : SzE y) (tk : Bool) (a : Int) : SzE (setE x y tk a) := by
  unfold setE SzE
  cases tk
  · exact hx
  · exact ⟨hx.1, hy.2⟩
theorem setA_sz {es fs : List Ent} {p : ByteArray} {tk : Bool} {a : Int} (h : ∀ e ∈ es, SzE e) (k : ∀ e ∈ fs, SzE e) : ∀ e ∈ setA es fs p tk a, SzE e := by
  intro e he
  unfold setA at he
  split at he
  · split at he
    · rename_i x y h1 h2
      rcases List.mem_or_eq_of_mem_set he with h3 | h3
      · exact h e h3
      · subst h3; exact setE_sz (h x (atE_mem h1).1) (k y (atE_mem h2).1) tk a
    · cases he
  · cases he
theorem setA_len {es fs : List Ent} {p : ByteArray} {tk : Bool} {a : Int} : (setA es fs p tk a).length ≤ es.length := by
  unfold setA
  split
  · split
    · rw [List.length_set]; exact Nat.le_refl _
    · simp
  · simp
theorem plan_val {w : World} {A B : Option Addr} {n c m d : Nat} {t : List Fil} {es : List Ent} (h : Ft w A n c t) (k : Et w B m d es) (hn : n ≤ 100000) (hm : m ≤ 100000) {la : List Ac} {nA : Nat} {z : Int} (hA : planA t es = la) (ha : la.length = nA) (hz : ((planN t es : Nat) : Int) = z) :
    Calls Tryz.prog 20 #[.slice A n c, .slice B m d] w fun e w' => ∃ A' c', e = .returned (.tuple #[.slice A' nA c', .int .i64 z]) ∧ Rd w' A' (actV la) ∧ Below w.heap.size w w' := by
  refine (plan_any h k hn hm).mono fun e w' ⟨A', c', he, o, b⟩ => ⟨A', c', by rw [hA, ha, hz] at he; exact he, ?_, b⟩
  rw [hA] at o
  rcases o.2 with ⟨e1, e0⟩ | ⟨g, cap, cur, e1, _⟩
  · have : la = [] := List.eq_nil_of_length_eq_zero e0
    subst this; exact .inl rfl
  · injection e1 with e1 e2 e3
    subst e1
    exact .inr ⟨_, rfl, o.cells (g := g) rfl⟩

/-! ### Actions alike -/
abbrev acA (a : Ac) : Value := .agg #[.string a.1, .bool a.2.1, .string a.2.2]
theorem eqAc (f g : Ac) (w : World) : (binOp .eql 47 (acA f) (acA g)).run Tryz.prog w = .ok (.bool (decide (f = g))) w := by
  have u9 := Tryz.underlying9
  have a9 := Tryz.isAgg9
  have z9 := Tryz.sizeOf9
  have u4 := Tryz.underlying4
  have a4 := Tryz.isAgg4
  have z4 := Tryz.sizeOf4
  have hS : Tryz.prog.underlying 47 = some (.struct (Tryz.prog.fieldsOf 47)) := by kernel_rfl
  have hp : Tryz.prog.stoodInHeld 47 = false := by kernel_rfl
  obtain ⟨f1, f2, f3⟩ := f
  obtain ⟨g1, g2, g3⟩ := g
  rw [run_eql_struct, show (10000 : Nat) = 9999 + 1 from rfl, run_equalIn_agg w 9999 47 _ _ hS hp]
  simp only [Program.fieldsOf, Tryz.underlying47]
  go_simp
  have inj : ∀ {a b : ByteArray}, a.toList = b.toList → a = b := fun h => data_inj (by rw [← Lib.toList_data, ← Lib.toList_data]; exact h)
  by_cases h1 : f1.toList = g1.toList
  · by_cases h2 : f2 = g2
    · by_cases h3 : f3.toList = g3.toList
      · rw [if_pos h1, if_pos h2, if_pos h3, decide_eq_true (inj h1), decide_eq_true h2, decide_eq_true (inj h3)]; rfl
      · rw [if_pos h1, if_pos h2, if_neg h3, decide_eq_true (inj h1), decide_eq_true h2, decide_eq_false (fun e => h3 (congrArg ByteArray.toList e))]; rfl
    · rw [if_pos h1, if_neg h2, decide_eq_true (inj h1), decide_eq_false h2]; rfl
  · rw [if_neg h1, decide_eq_false (fun e => h1 (congrArg ByteArray.toList e))]; rfl
theorem Rd.act {w : World} {A : Option Addr} {l : List Ac} (h : Rd w A (actV l)) {j : Nat} (hj : j < l.length) :
    ∃ b off, A = some ⟨b, off, none⟩ ∧ w.cell? ⟨b, off + j * 3, none⟩ = some (.string l[j].1) ∧ w.cell? ⟨b, off + j * 3 + 1, none⟩ = some (.bool l[j].2.1) ∧ w.cell? ⟨b, off + j * 3 + 2, none⟩ = some (.string l[j].2.2) ∧ b < w.heap.size := by
  have hl := actV_length l
  obtain ⟨b, off, rfl, -, hb⟩ := h.at_ (k := j * 3) (by omega)
  have at3 : ∀ (l : List Ac) (j : Nat) (h : j < l.length) (q : Nat), q < 3 → (actV l)[j * 3 + q]? = (aV l[j])[q]? := by
    intro l
    induction l with
    | nil => intro j h; simp at h
    | cons a l ih =>
      intro j h q hq
      rw [show actV (a :: l) = aV a ++ actV l from rfl]
      cases j with
      | zero => rw [Nat.zero_mul, Nat.zero_add, List.getElem?_append_left (by simp [aV]; exact hq)]; rfl
      | succ j => rw [List.getElem?_append_right (by simp [aV]; omega), show (j + 1) * 3 + q - (aV a).length = j * 3 + q by simp [aV]; omega, ih j (by simpa using h) q hq]; rfl
  have g : ∀ q, q < 3 → w.cell? ⟨b, off + j * 3 + q, none⟩ = (aV l[j])[q]? := by
    intro q hq
    rw [Nat.add_assoc]
    obtain ⟨b', off', e, hc, -⟩ := h.at_ (k := j * 3 + q) (by omega)
    injection e with e; injection e with e1 e2; subst e1 e2
    rw [hc, ← List.getElem?_eq_getElem, at3 l j hj q hq]
  exact ⟨b, off, rfl, g 0 (by omega), g 1 (by omega), g 2 (by omega), hb⟩

/-! ### The small case's lists -/
abbrev tf : ByteArray := ⟨#[102]⟩
abbrev tg : ByteArray := ⟨#[103]⟩
abbrev th : ByteArray := ⟨#[104]⟩
abbrev tx : ByteArray := ⟨#[120]⟩
abbrev t1s : ByteArray := ⟨#[49]⟩
abbrev t2s : ByteArray := ⟨#[50]⟩
abbrev e1f : Ent := ⟨tf, true, t1s, 2, 0⟩
abbrev e1g : Ent := ⟨tg, true, t1s, 1, 0⟩
abbrev e2f : Ent := ⟨tf, true, t2s, 1, 1⟩
abbrev e2g : Ent := ⟨tg, false, noS, 1, 1⟩
abbrev e2h : Ent := ⟨th, true, noS, 0, 1⟩
abbrev e3f : Ent := ⟨tf, true, t2s, 3, 1⟩
abbrev SA : List Ent := [e1f, e1g]
abbrev SB : List Ent := [e2f, e2g, e2h]
abbrev SL : List Ent := [e1f, e2g, e2h]
abbrev SS : List Ent := [e3f, e2g, e2h]
theorem sm1 : mrgL SA SB = [(e1f, true), (e2g, false), (e2h, false)] := by
  rw [mrgL, if_pos rfl, mrgL, if_pos rfl, mrgL, mrgL, show comeE e1f e2f = (e1f, true) by decide +kernel, show comeE e1g e2g = (e2g, false) by decide +kernel]
theorem sm2 : mrgL SL SB = [(e1f, true), (e2g, false), (e2h, false)] := by
  rw [mrgL, if_pos rfl, mrgL, if_pos rfl, mrgL, if_pos rfl, mrgL, show comeE e1f e2f = (e1f, true) by decide +kernel, show comeE e2g e2g = (e2g, false) by decide +kernel, show comeE e2h e2h = (e2h, false) by decide +kernel]
theorem sm_fit : fitN SL = 0 := by decide +kernel
theorem sm_mN : mrgN SA SB = 0 := by
  rw [mrgN_fit (by decide +kernel) (by decide +kernel), mA, sm1]; exact sm_fit
theorem sm_mA : mrgA SA SB = SL := by rw [mrgA, if_pos sm_mN, mA, sm1]; rfl
theorem sm_mC : mrgC SA SB = [tf] := by rw [mrgC, if_pos sm_mN, mC, sm1]; rfl
theorem sm_mN2 : mrgN SL SB = 0 := by
  rw [mrgN_fit (by decide +kernel) (by decide +kernel), mA, sm2]; exact sm_fit
theorem sm_mC2 : mC SL SB = [tf] := by rw [mC, sm2]; rfl
theorem sm_sN : setN SL SB tf true 0 = 0 := by
  rw [setN_at (i := 0) (j := 0) sm_mN2 (by rw [sm_mC2]; exact List.mem_singleton.2 rfl) (by decide) (by decide) (by decide +kernel) (by decide +kernel)]
  decide +kernel
theorem sm_sA : setA SL SB tf true 0 = SS := by
  rw [setA_at (i := 0) (j := 0) sm_sN (by decide) (by decide) (by decide +kernel) (by decide +kernel)]
  decide +kernel
theorem sm_sN2 : setN SL SB tg true 0 = 3 := setN_no sm_mN2 (by rw [sm_mC2, List.mem_singleton]; decide +kernel)
theorem sm_sA2 : setA SL SB tg true 0 = [] := by unfold setA; rw [sm_sN2]; rfl
theorem sm_t : treeE SA = [(tf, t1s), (tg, t1s)] := by decide +kernel
theorem sm_pN : planN [(tf, t1s), (tg, t1s)] SL = 0 := by decide +kernel
theorem sm_pA : planA [(tf, t1s), (tg, t1s)] SL = [(tg, false, noS), (th, true, noS)] := by decide +kernel
theorem sm_a1 : agreeB SL SB tg = true := by decide +kernel
theorem sm_a2 : agreeB SL SB tf = false := by decide +kernel
theorem sm_a3 : agreeB SL SB tx = true := by decide +kernel
end Go.Proofs.YtaidggjnpnfdhaaGreatDoor
namespace Go.Proofs.YtaidggjnpnfdhaaGreatDoor
open Go.RowKit

end Go.Proofs.YtaidggjnpnfdhaaGreatDoor
namespace Go.Proofs.YtaidggjnpnfdhaaGreatDoor
open Go.RowKit

theorem gone_same {e : Ent} (h1 : e.has = false) (h2 : e.data = noS) : gone e = e := Ent.same rfl h1.symm h2.symm rfl rfl
theorem kept_same {e : Ent} (h1 : e.has = true) : kept e e.data = e := Ent.same rfl h1.symm rfl rfl rfl
theorem both_same : ∀ {es : List Ent}, SrtE es → (∀ e ∈ es, e.has = true ∨ e.data = noS) → bothL es (filesOf es) = es.map fun e => (e, e)
  | [], _, _ => bothL_nil
  | e :: es, hs, hd => by
    have hs' := List.pairwise_cons.1 hs
    have ih := both_same hs'.2 fun x hx => hd x (List.mem_cons_of_mem _ hx)
    rw [filesOf_cons, List.map_cons]
    cases hh : e.has with
    | true => rw [if_pos rfl, bothL_eq rfl, ih, kept_same hh]
    | false =>
      have hg : gone e = e := gone_same hh ((hd e (by simp)).resolve_left (by simp [hh]))
      rw [if_neg (by simp)]
      cases hf : filesOf es with
      | nil => rw [hf] at ih; rw [bothL_l, ih, hg]
      | cons f t =>
        have hm : f ∈ filesOf es := by rw [hf]; simp
        obtain ⟨x, hx, -, rfl⟩ := mem_files.1 hm
        have hlt := hs'.1 x hx
        rw [hf] at ih
        have h1 : ¬ e.path = ((x.path, x.data) : Fil).1 := fun h => by
          have e1 : epth e = epth x := epth_inj.2 h
          rw [e1] at hlt; exact List.lt_irrefl _ hlt
        have h2 : Op.bytesLess (pth (x.path, x.data)) (epth e) = false := less_no fun h => List.lt_asymm hlt h
        rw [bothL_gt h1 h2, ih, hg]
theorem fine_data {es : List Ent} (h : RightA es) : ∀ e ∈ es, e.has = true ∨ e.data = noS := fun e he => ((fineE_iff e).1 (h.fine e he)).2.2
theorem scan_self {es : List Ent} (h : RightA es) (a : Int) : scanN es (filesOf es) a = 0 ∧ scanA es (filesOf es) a = es ∧ scanC es (filesOf es) a = [] := by
  have hb := both_same h.srt (fine_data h)
  have hn : scanN es (filesOf es) a = 0 := by
    refine scanN_ok.2 ⟨h, (treeR_iff _).1 h.tree, ?_⟩
    rw [hb, okP, List.length_map, decide_eq_true h.few, Bool.true_and, List.all_eq_true]
    intro p hp
    obtain ⟨e, -, rfl⟩ := List.mem_map.1 hp
    simp [stuck]
  refine ⟨hn, ?_, ?_⟩
  · rw [scanA, if_pos hn, hb, outP, List.map_map]
    conv => rhs; rw [← List.map_id es]
    refine List.map_congr_left fun e _ => ?_
    simp [newE]
  · rw [scanC, if_pos hn, hb, chgP, List.map_eq_nil_iff, List.filter_eq_nil_iff]
    intro p hp
    obtain ⟨e, -, rfl⟩ := List.mem_map.1 hp
    simp

/-! ### What was scanned is right -/
theorem newE_files (a : Int) (ps : List (Ent × Ent)) : filesOf (outP a ps) = filesOf (ps.map (·.2)) := by
  induction ps with
  | nil => rfl
  | cons p ps ih =>
    rw [outP, List.map_cons, List.map_cons, filesOf_cons, filesOf_cons, newE_has, newE_path, newE_data]
    rw [outP] at ih
    rw [ih]
theorem tick_rt (l r a : Int) : 0 ≤ (tickL l r a).1 ∧ (tickL l r a).1 ≤ 1073741824 ∧ 0 ≤ (tickL l r a).2 ∧ (tickL l r a).2 ≤ 1073741824 := by
  have := tkc_le l r a
  rw [tickL_eq]
  simp only
  omega
theorem tick_pos (l r a : Int) : ¬ ((tickL l r a).1 = 0 ∧ (tickL l r a).2 = 0) := by
  unfold tickL up
  split <;> simp only <;> omega
/-- What a pair is, of a right archive and a right tree. -/
theorem pair_right {es : List Ent} {fs : List Fil} (h : RightA es) (k : RightT fs) {p : Ent × Ent} (hp : p ∈ bothL es fs) : rightL (epth p.2) = true := by
  have hP := both_pair es fs p hp
  have hpath := (both_path (x := p.2.path)).1 (List.mem_map.2 ⟨p, hp, rfl⟩)
  rcases hpath with h1 | h1
  · obtain ⟨e, he, h2⟩ := List.mem_map.1 h1
    have := h.paths e he
    unfold epth at this ⊢
    rw [← h2]; exact this
  · obtain ⟨f, hf, h2⟩ := List.mem_map.1 h1
    have := k.paths f hf
    unfold pth at this
    unfold epth
    rw [← h2]; exact this
theorem pair_new {es : List Ent} {fs : List Fil} {p : Ent × Ent} (hp : p ∈ bothL es fs) (he : p.2 = p.1) : p.1 ∈ es := by
  have hP := both_pair es fs p hp
  rcases hP.was with h | ⟨h, h2⟩
  · exact h
  · rw [he, h] at h2; cases h2
theorem scan_right {es : List Ent} {fs : List Fil} {a : Int} (hn : scanN es fs a = 0) : RightA (scanA es fs a) := by
  obtain ⟨h, k, ho⟩ := scanN_ok.1 hn
  rw [scanA, if_pos hn]
  have hsrt := both_srt es fs h.srt k.srt
  refine ⟨?_, ?_, ?_, ?_, ?_⟩
  · rw [outP, List.length_map]; exact okP_len ho
  · refine List.pairwise_map.2 (hsrt.imp fun {p q} hpq => ?_)
    unfold epth
    rw [newE_path, newE_path]; exact hpq
  · intro e he
    obtain ⟨p, hp, rfl⟩ := List.mem_map.1 he
    have := pair_right h k hp
    unfold epth at this ⊢
    rw [newE_path]; exact this
  · intro e he
    obtain ⟨p, hp, rfl⟩ := List.mem_map.1 he
    have hP := both_pair es fs p hp
    by_cases heq : p.2 = p.1
    · rw [newE_eq heq, heq]
      exact h.fine _ (pair_new hp heq)
    · rw [fineE_iff]
      have h1 := tick_rt p.1.l p.1.r a
      have h2 := tick_pos p.1.l p.1.r a
      unfold newE
      rw [if_neg heq]
      refine ⟨h1, h2, ?_⟩
      cases hh : p.2.has with
      | true => exact .inl rfl
      | false => exact .inr (hP.none hh)
  · rw [newE_files, both_files]
    exact (treeR_iff _).2 k
theorem scan_files {es : List Ent} {fs : List Fil} {a : Int} (hn : scanN es fs a = 0) : filesOf (scanA es fs a) = fs := by rw [scanA, if_pos hn, newE_files, both_files]
theorem scan_tree {es : List Ent} {fs : List Fil} {a : Int} (hn : scanN es fs a = 0) : treeE (scanA es fs a) = fs := by rw [treeE, (archR_iff _).2 (scan_right hn), if_pos rfl, scan_files hn]
/-- Scanned again nothing changed. -/
theorem scan_again {es : List Ent} {fs : List Fil} {a : Int} (hn : scanN es fs a = 0) (b : Int) : scanN (scanA es fs a) fs b = 0 ∧ scanA (scanA es fs a) fs b = scanA es fs a ∧ scanC (scanA es fs a) fs b = [] := by
  have := scan_self (scan_right hn) b
  rw [scan_files hn] at this
  exact this
theorem scan_none {es : List Ent} {fs : List Fil} {a : Int} (hn : scanN es fs a ≠ 0) : scanA es fs a = [] ∧ scanC es fs a = [] := ⟨by rw [scanA, if_neg hn], by rw [scanC, if_neg hn]⟩
end Go.Proofs.YtaidggjnpnfdhaaGreatDoor
namespace Go.Proofs.YtaidggjnpnfdhaaGreatDoor
open Go.RowKit

theorem ord_self (a : Ent) : ordE a a = 0 := by unfold ordE ordI; rw [if_pos ⟨rfl, rfl⟩]
theorem like_self (a : Ent) : likeE a a = true := by unfold likeE; simp
theorem come_self (a : Ent) : comeE a a = (a, false) := by
  unfold comeE
  rw [ord_self, like_self, if_neg (by decide), if_neg (by decide), if_pos rfl, if_neg (by decide)]
theorem mrg_self : ∀ (a : List Ent), mrgL a a = a.map fun e => (e, false)
  | [] => by rw [mrgL]; rfl
  | x :: a => by rw [mrgL, if_pos rfl, come_self, mrg_self a]; rfl
theorem mrg_l : ∀ (a : List Ent), mrgL a [] = a.map fun e => (e, false)
  | [] => by rw [mrgL]; rfl
  | x :: a => by rw [mrgL, mrg_l a]; rfl
theorem mrg_r : ∀ (a : List Ent), mrgL [] a = a.map fun e => (e, false)
  | [] => by rw [mrgL]; rfl
  | x :: a => by rw [mrgL, mrg_r a]; rfl
theorem own_A {l m a : List Ent} (h : mrgL l m = a.map fun e => (e, false)) : mA l m = a ∧ mC l m = [] := by
  unfold mA mC
  rw [h]
  constructor
  · rw [List.map_map]; exact List.map_id a
  · have : ((a.map fun e => ((e, false) : Ent × Bool)).filter (·.2)) = [] := List.filter_eq_nil_iff.2 (by simp)
    rw [this]; rfl
theorem apt_tree {fs : List Fil} (h : RightT fs) : Apt (fs.map (·.1)) := by
  have key : ∀ (l : List Fil), (∀ f ∈ l, f ∈ fs) → Apt (l.map (·.1)) := by
    intro l
    induction l with
    | nil => intro _; exact List.Pairwise.nil
    | cons a l ih =>
      intro hl
      refine List.pairwise_cons.2 ⟨fun x hx => ?_, ih fun f hf => hl f (List.mem_cons_of_mem _ hf)⟩
      obtain ⟨g, hg, rfl⟩ := List.mem_map.1 hx
      have h1 := h.apart g (hl g (List.mem_cons_of_mem _ hg)) a (hl a List.mem_cons_self)
      have h2 := h.apart a (hl a List.mem_cons_self) g (hl g (List.mem_cons_of_mem _ hg))
      show clashL (pth g) (pth a) = false
      unfold clashL
      rw [h1, h2]; rfl
  exact key fs fun _ h => h
theorem fit_right {es : List Ent} (h : RightA es) : fitN es = 0 := by
  have ht := (treeR_iff _).1 h.tree
  unfold fitN
  rw [if_neg (by have h1 := h.few; have h2 := ht.few; omega), if_pos (show Apt (fpaths es) from apt_tree ht)]
theorem right_none : RightA ([] : List Ent) := (archR_iff _).1 (by decide +kernel)
theorem own_any {l m a : List Ent} (hl : RightA l) (hm : RightA m) (ha : RightA a) (h : mrgL l m = a.map fun e => (e, false)) : mrgN l m = 0 ∧ mrgA l m = a ∧ mrgC l m = [] := by
  have h1 := own_A h
  have h0 : mrgN l m = 0 := by rw [mrgN_fit ((archR_iff _).2 hl) ((archR_iff _).2 hm), h1.1]; exact fit_right ha
  exact ⟨h0, by rw [mrgA, if_pos h0, h1.1], by rw [mrgC, if_pos h0, h1.2]⟩

end Go.Proofs.YtaidggjnpnfdhaaGreatDoor
namespace Go.Proofs.YtaidggjnpnfdhaaGreatDoor
open Go.RowKit

/-! ### One path: counts, and values -/
def leE (a b : Ent) : Prop := cl a.l ≤ cl b.l ∧ cl a.r ≤ cl b.r
instance (a b : Ent) : Decidable (leE a b) := by unfold leE; exact inferInstance
def vlE (e : Ent) : Bool × ByteArray := (e.has, e.data)
def FnE (e : Ent) : Prop := ((cl e.l : Nat) : Int) = e.l ∧ ((cl e.r : Nat) : Int) = e.r
theorem fn_of {e : Ent} (h : fineE e = true) : FnE e := by
  have := ((fineE_iff e).1 h).1
  unfold FnE cl
  omega
theorem like_iff {a b : Ent} : likeE a b = true ↔ vlE a = vlE b := by
  unfold likeE vlE
  rw [Bool.and_eq_true, decide_eq_true_eq, decide_eq_true_eq, Prod.mk.injEq]
theorem ord0 {a b : Ent} : ordE a b = 0 ↔ leE a b ∧ leE b a := by
  unfold ordE ordI leE
  split
  · constructor
    · intro _; omega
    · intro _; rfl
  · split
    · constructor
      · intro h; cases h
      · intro _; omega
    · split
      · constructor
        · intro h; cases h
        · intro _; omega
      · constructor
        · intro h; cases h
        · intro _; omega
theorem ord1 {a b : Ent} : ordE a b = 1 ↔ leE a b ∧ ¬ leE b a := by
  unfold ordE ordI leE
  split
  · constructor
    · intro h; cases h
    · intro _; omega
  · split
    · constructor
      · intro _; omega
      · intro _; rfl
    · split
      · constructor
        · intro h; cases h
        · intro _; omega
      · constructor
        · intro h; cases h
        · intro _; omega
theorem ord2 {a b : Ent} : ordE a b = 2 ↔ ¬ leE a b ∧ leE b a := by
  unfold ordE ordI leE
  split
  · constructor
    · intro h; cases h
    · intro _; omega
  · split
    · constructor
      · intro h; cases h
      · intro _; omega
    · split
      · constructor
        · intro _; omega
        · intro _; rfl
      · constructor
        · intro h; cases h
        · intro _; omega
theorem come_1 {a b : Ent} (h : leE a b) (k : ¬ leE b a) : comeE a b = (b, false) := by unfold comeE; rw [if_pos (ord1.2 ⟨h, k⟩)]
theorem come_2 {a b : Ent} (h : ¬ leE a b) (k : leE b a) : comeE a b = (a, false) := by
  unfold comeE; rw [if_neg (fun e => h (ord1.1 e).1), if_pos (ord2.2 ⟨h, k⟩)]
theorem come_0 {a b : Ent} (h : leE a b) (k : leE b a) : comeE a b = (a, !likeE a b) := by
  have h0 := ord0.2 ⟨h, k⟩
  unfold comeE; rw [h0, if_neg (by decide), if_neg (by decide)]
  cases likeE a b <;> rfl
theorem come_3 {a b : Ent} (h : ¬ leE a b) (k : ¬ leE b a) : comeE a b = (if likeE a b then joinE a b else a, !likeE a b) := by
  have h1 : ordE a b ≠ 1 := fun e => h (ord1.1 e).1
  have h2 : ordE a b ≠ 2 := fun e => k (ord2.1 e).2
  have h3 : ordE a b = 3 := by
    have h0 : ordE a b ≠ 0 := fun e => h (ord0.1 e).1
    rcases ord_cases (cl a.l) (cl a.r) (cl b.l) (cl b.r) with e | e | e | e
    · exact absurd e h0
    · exact absurd e h1
    · exact absurd e h2
    · exact e
  unfold comeE; rw [if_neg h1, if_neg h2, h3]
  cases likeE a b <;> rfl
/-- Is it no conflict? -/
def ncE (a b : Ent) : Prop := (comeE a b).2 = false
theorem nc_iff {a b : Ent} : ncE a b ↔ vlE a = vlE b ∨ (leE a b ∧ ¬ leE b a) ∨ (leE b a ∧ ¬ leE a b) := by
  unfold ncE
  rw [← like_iff]
  by_cases h : leE a b <;> by_cases k : leE b a
  · rw [come_0 h k]; simp [h, k]
  · rw [come_1 h k]; simp [h, k]
  · rw [come_2 h k]; simp [h, k]
  · rw [come_3 h k]; simp [h, k]
theorem nc_flip {a b : Ent} : ncE a b ↔ ncE b a := by
  rw [nc_iff, nc_iff]
  constructor
  · rintro (h | h | h)
    · exact .inl h.symm
    · exact .inr (.inr h)
    · exact .inr (.inl h)
  · rintro (h | h | h)
    · exact .inl h.symm
    · exact .inr (.inr h)
    · exact .inr (.inl h)
theorem cl_cast {n : Nat} (h : n ≤ 1073741824) : cl (n : Int) = n := by unfold cl; omega
theorem come_val {a b : Ent} (ha : FnE a) (hb : FnE b) (hn : ncE a b) :
    vlE (comeE a b).1 = (if leE a b then vlE b else vlE a) ∧ (comeE a b).1.l = ((max (cl a.l) (cl b.l) : Nat) : Int) ∧ (comeE a b).1.r = ((max (cl a.r) (cl b.r) : Nat) : Int) := by
  obtain ⟨a1, a2⟩ := ha
  obtain ⟨b1, b2⟩ := hb
  by_cases h : leE a b <;> by_cases k : leE b a
  · rw [if_pos h, come_0 h k]
    have hl : vlE a = vlE b := by
      rcases nc_iff.1 hn with e | e | e
      · exact e
      · exact absurd k e.2
      · exact absurd h e.2
    unfold leE at h k
    exact ⟨hl, by simp only []; omega, by simp only []; omega⟩
  · rw [if_pos h, come_1 h k]
    unfold leE at h k
    exact ⟨rfl, by simp only []; omega, by simp only []; omega⟩
  · rw [if_neg h, come_2 h k]
    unfold leE at h k
    exact ⟨rfl, by simp only []; omega, by simp only []; omega⟩
  · have hl : vlE a = vlE b := by
      rcases nc_iff.1 hn with e | e | e
      · exact e
      · exact absurd e.1 h
      · exact absurd e.1 k
    rw [if_neg h, come_3 h k, if_pos (like_iff.2 hl)]
    exact ⟨rfl, rfl, rfl⟩
theorem come_cl {a b : Ent} (ha : FnE a) (hb : FnE b) (hn : ncE a b) : cl (comeE a b).1.l = max (cl a.l) (cl b.l) ∧ cl (comeE a b).1.r = max (cl a.r) (cl b.r) := by
  obtain ⟨-, h1, h2⟩ := come_val ha hb hn
  rw [h1, h2]
  exact ⟨cl_cast (by have := cl_le a.l; have := cl_le b.l; omega), cl_cast (by have := cl_le a.r; have := cl_le b.r; omega)⟩
theorem come_fn {a b : Ent} (ha : FnE a) (hb : FnE b) (hn : ncE a b) : FnE (comeE a b).1 := by
  have h := come_cl ha hb hn
  have k := come_val ha hb hn
  exact ⟨by rw [h.1, k.2.1], by rw [h.2, k.2.2]⟩
set_option maxHeartbeats 2000000 in
theorem come_assoc {a b c : Ent} (ha : FnE a) (hb : FnE b) (hc : FnE c) (hp : a.path = b.path) (hq : b.path = c.path) (n1 : ncE a b) (n2 : ncE b c) (n3 : ncE a c) (n4 : ncE (comeE a b).1 c) (n5 : ncE a (comeE b c).1) :
    (comeE (comeE a b).1 c).1 = (comeE a (comeE b c).1).1 := by
  have v1 := come_val ha hb n1
  have v2 := come_val hb hc n2
  have c1 := come_cl ha hb n1
  have c2 := come_cl hb hc n2
  have v3 := come_val (come_fn ha hb n1) hc n4
  have v4 := come_val ha (come_fn hb hc n2) n5
  have p1 : (comeE a b).1.path = c.path := by rw [comeE_path hp, hp, hq]
  have p2 : a.path = (comeE b c).1.path := by rw [comeE_path hq, hp]
  have hv : vlE (comeE (comeE a b).1 c).1 = vlE (comeE a (comeE b c).1).1 := by
    have L1 : leE (comeE a b).1 c ↔ (max (cl a.l) (cl b.l) ≤ cl c.l ∧ max (cl a.r) (cl b.r) ≤ cl c.r) := by unfold leE; rw [c1.1, c1.2]
    have L2 : leE a (comeE b c).1 ↔ (cl a.l ≤ max (cl b.l) (cl c.l) ∧ cl a.r ≤ max (cl b.r) (cl c.r)) := by unfold leE; rw [c2.1, c2.2]
    have L3 : leE (comeE b c).1 a ↔ (max (cl b.l) (cl c.l) ≤ cl a.l ∧ max (cl b.r) (cl c.r) ≤ cl a.r) := by unfold leE; rw [c2.1, c2.2]
    have L4 : ∀ x y : Ent, leE x y ↔ (cl x.l ≤ cl y.l ∧ cl x.r ≤ cl y.r) := fun _ _ => Iff.rfl
    have m1 := nc_iff.1 n1
    have m2 := nc_iff.1 n2
    have m3 := nc_iff.1 n3
    have m5 := nc_iff.1 n5
    rw [v2.1, L2, L3] at m5
    rw [L4 a b, L4 b a] at m1
    rw [L4 b c, L4 c b] at m2
    rw [L4 a c, L4 c a] at m3
    rw [v3.1, v4.1, v1.1, v2.1]
    clear v1 v2 v3 v4 c1 c2 p1 p2 n1 n2 n3 n4 n5 ha hb hc hp hq
    by_cases hT : leE (comeE a b).1 c
    · have hT' := L1.1 hT
      rw [if_pos hT, if_pos (L2.2 (by clear m1 m2 m3 m5; omega)), if_pos ((L4 b c).2 (by clear m1 m2 m3 m5; omega))]
    · have hT' : ¬ (max (cl a.l) (cl b.l) ≤ cl c.l ∧ max (cl a.r) (cl b.r) ≤ cl c.r) := fun e => hT (L1.2 e)
      by_cases hP : leE a b
      · have hP' := (L4 a b).1 hP
        rw [if_neg hT, if_pos hP, if_pos (L2.2 (by clear m1 m2 m3 m5; omega)), if_neg (fun e => by have := (L4 b c).1 e; clear m1 m2 m3 m5; omega)]
      · have hP' : ¬ (cl a.l ≤ cl b.l ∧ cl a.r ≤ cl b.r) := fun e => hP ((L4 a b).2 e)
        by_cases hS : leE a (comeE b c).1
        · have hS' := L2.1 hS
          have hQ' : ¬ (cl b.l ≤ cl c.l ∧ cl b.r ≤ cl c.r) := by clear m1 m2 m3 m5; omega
          have hQ : ¬ leE b c := fun e => hQ' ((L4 b c).1 e)
          rw [if_neg hT, if_neg hP, if_pos hS, if_neg hQ]
          rw [if_neg hQ] at m5
          rcases m1 with e | e | e
          · exact e
          · exact absurd e.1 hP'
          · rcases m5 with f | f | f
            · exact f
            · rcases m3 with g | g | g
              · rcases m2 with k | k | k
                · rw [g, k]
                · exact absurd k.1 hQ'
                · exfalso; omega
              · exfalso; omega
              · exfalso; omega
            · exact absurd hS' f.2
        · rw [if_neg hT, if_neg hP, if_neg hS]
  have h1 : (comeE (comeE a b).1 c).1.has = (comeE a (comeE b c).1).1.has := congrArg Prod.fst hv
  have h2 : (comeE (comeE a b).1 c).1.data = (comeE a (comeE b c).1).1.data := congrArg Prod.snd hv
  refine Ent.same ?_ h1 h2 ?_ ?_
  · rw [comeE_path p1, comeE_path p2, comeE_path hp]
  · rw [v3.2.1, v4.2.1, c1.1, c2.1]; omega
  · rw [v3.2.2, v4.2.2, c1.2, c2.2]; omega

/-! ### Archives -/
theorem cm_path {l m : List Ent} {p : ByteArray} {x : Ent × Bool} (h : cm (atE l p) (atE m p) = some x) : x.1.path = p := by
  cases h1 : atE l p with
  | some a =>
    have pa := (atE_mem h1).2
    cases h2 : atE m p with
    | some b =>
      have pb := (atE_mem h2).2
      rw [h1, h2] at h
      injection h with h
      rw [← h, comeE_path (by rw [pa, pb]), pa]
    | none => rw [h1, h2] at h; injection h with h; rw [← h]; exact pa
  | none =>
    cases h2 : atE m p with
    | some b => rw [h1, h2] at h; injection h with h; rw [← h]; exact (atE_mem h2).2
    | none => rw [h1, h2] at h; cases h
theorem right_fn {l : List Ent} (h : RightA l) {p : ByteArray} {e : Ent} (he : atE l p = some e) : FnE e := fn_of (h.fine e (atE_mem he).1)
theorem mC_nil {l m : List Ent} (hl : SrtE l) (hm : SrtE m) (h : mC l m = []) {p : ByteArray} {a b : Ent} (ha : atE l p = some a) (hb : atE m p = some b) : ncE a b := by
  unfold ncE
  cases hc : (comeE a b).2 with
  | false => rfl
  | true =>
    have : p ∈ mC l m := (mC_mem hl hm p).2 ⟨(comeE a b).1, by rw [ha, hb]; show some (comeE a b) = _; rw [← hc]⟩
    rw [h] at this
    cases this
theorem mrg_mA {l m : List Ent} (h : mrgN l m = 0) : mrgA l m = mA l m ∧ mrgC l m = mC l m := by
  unfold mrgA mrgC; rw [if_pos h, if_pos h]; exact ⟨rfl, rfl⟩
theorem three_same {a b c : List Ent} (h1 : mrgN a b = 0) (h2 : mrgN b c = 0) (h3 : mrgN a c = 0) (c1 : mrgC a b = []) (c2 : mrgC b c = []) (c3 : mrgC a c = [])
    (h4 : mrgN (mrgA a b) c = 0) (h5 : mrgN a (mrgA b c) = 0) (c4 : mrgC (mrgA a b) c = []) (c5 : mrgC a (mrgA b c) = []) : mrgA (mrgA a b) c = mrgA a (mrgA b c) := by
  have ra := (mrg_right h1).1
  have rb := (mrg_right h1).2
  have rc := (mrg_right h2).2
  have rx := (mrg_right h4).1
  have ry := (mrg_right h5).2
  rw [(mrg_mA h1).2] at c1
  rw [(mrg_mA h2).2] at c2
  rw [(mrg_mA h3).2] at c3
  rw [(mrg_mA h4).2] at c4
  rw [(mrg_mA h5).2] at c5
  rw [(mrg_mA h4).1, (mrg_mA h5).1]
  have sx : SrtE (mrgA a b) := rx.srt
  have sy : SrtE (mrgA b c) := ry.srt
  refine srtE_one (mA_srt sx rc.srt) (mA_srt ra.srt sy) fun p => ?_
  rw [mA_at sx rc.srt, mA_at ra.srt sy]
  have ex : atE (mrgA a b) p = (cm (atE a p) (atE b p)).map (·.1) := by rw [(mrg_mA h1).1, mA_at ra.srt rb.srt]
  have ey : atE (mrgA b c) p = (cm (atE b p) (atE c p)).map (·.1) := by rw [(mrg_mA h2).1, mA_at rb.srt rc.srt]
  cases e1 : atE a p with
  | none =>
    rw [e1] at ex
    cases e2 : atE b p with
    | none =>
      rw [e2] at ex ey
      cases e3 : atE c p with
      | none => rw [e3] at ey; rw [ex, ey]; rfl
      | some z => rw [e3] at ey; rw [ex, ey]; rfl
    | some y =>
      rw [e2] at ex ey
      cases e3 : atE c p with
      | none => rw [e3] at ey; rw [ex, ey]; rfl
      | some z => rw [e3] at ey; rw [ex, ey]; rfl
  | some x =>
    rw [e1] at ex
    cases e2 : atE b p with
    | none =>
      rw [e2] at ex ey
      cases e3 : atE c p with
      | none => rw [e3] at ey; rw [ex, ey]; rfl
      | some z => rw [e3] at ey; rw [ex, ey]; rfl
    | some y =>
      rw [e2] at ex ey
      cases e3 : atE c p with
      | none => rw [e3] at ey; rw [ex, ey]; rfl
      | some z =>
        rw [e3] at ey
        have fx := right_fn ra e1
        have fy := right_fn rb e2
        have fz := right_fn rc e3
        have px := (atE_mem e1).2
        have py := (atE_mem e2).2
        have pz := (atE_mem e3).2
        have k := come_assoc fx fy fz (by rw [px, py]) (by rw [py, pz]) (mC_nil ra.srt rb.srt c1 e1 e2) (mC_nil rb.srt rc.srt c2 e2 e3) (mC_nil ra.srt rc.srt c3 e1 e3) (mC_nil sx rc.srt c4 ex e3) (mC_nil ra.srt sy c5 e1 ey)
        rw [ex, ey]
        exact congrArg some k
end Go.Proofs.YtaidggjnpnfdhaaGreatDoor
namespace Go.Proofs.YtaidggjnpnfdhaaGreatDoor
open Go.RowKit

theorem le_join {x y : Ent} : leE x (joinE x y) ∧ leE y (joinE x y) := by
  have h1 := cl_le x.l
  have h2 := cl_le x.r
  have h3 := cl_le y.l
  have h4 := cl_le y.r
  have e1 : cl (joinE x y).l = max (cl x.l) (cl y.l) := cl_cast (by omega)
  have e2 : cl (joinE x y).r = max (cl x.r) (cl y.r) := cl_cast (by omega)
  unfold leE
  rw [e1, e2]
  omega
theorem join_le {x y z : Ent} (h : leE (joinE x y) z) : leE x z ∧ leE y z := by
  have h1 := (le_join (x := x) (y := y)).1
  have h2 := (le_join (x := x) (y := y)).2
  unfold leE at *
  omega
theorem come_again (x y : Ent) : comeE (comeE x y).1 y = comeE x y := by
  by_cases h : leE x y <;> by_cases k : leE y x
  · rw [come_0 h k]; exact come_0 h k
  · rw [come_1 h k]; exact come_self y
  · rw [come_2 h k]; exact come_2 h k
  · rw [come_3 h k]
    cases hl : likeE x y with
    | false => rw [if_neg (by decide)]; show comeE x y = _; rw [come_3 h k, hl, if_neg (by decide)]
    | true => rw [if_pos rfl]; exact come_2 (fun e => h (join_le e).1) le_join.2
theorem come_mine (x y : Ent) : comeE (comeE x y).1 x = ((comeE x y).1, false) := by
  by_cases h : leE x y <;> by_cases k : leE y x
  · rw [come_0 h k]; exact come_self x
  · rw [come_1 h k]; exact come_2 k h
  · rw [come_2 h k]; exact come_self x
  · rw [come_3 h k]
    cases hl : likeE x y with
    | false => rw [if_neg (by decide)]; exact come_self x
    | true => rw [if_pos rfl]; exact come_2 (fun e => k (join_le e).2) le_join.1
theorem come_turn {x y : Ent} (hx : FnE x) (hy : FnE y) (hp : x.path = y.path) (hn : ncE x y) : (comeE x y).1 = (comeE y x).1 := by
  have v1 := come_val hx hy hn
  have v2 := come_val hy hx (nc_flip.1 hn)
  have hv : vlE (comeE x y).1 = vlE (comeE y x).1 := by
    rw [v1.1, v2.1]
    by_cases h : leE x y <;> by_cases k : leE y x
    · rw [if_pos h, if_pos k]
      rcases nc_iff.1 hn with e | e | e
      · exact e.symm
      · exact absurd k e.2
      · exact absurd h e.2
    · rw [if_pos h, if_neg k]
    · rw [if_neg h, if_pos k]
    · rw [if_neg h, if_neg k]
      rcases nc_iff.1 hn with e | e | e
      · exact e
      · exact absurd e.1 h
      · exact absurd e.1 k
  refine Ent.same (by rw [comeE_path hp, comeE_path hp.symm, hp]) (congrArg Prod.fst hv) (congrArg Prod.snd hv) ?_ ?_
  · rw [v1.2.1, v2.2.1]; omega
  · rw [v1.2.2, v2.2.2]; omega
theorem cm_again (x y : Option Ent) : cm ((cm x y).map (·.1)) y = cm x y := by
  cases x with
  | none => cases y with
    | none => rfl
    | some y => show some (comeE y y) = some (y, false); rw [come_self]
  | some x => cases y with
    | none => rfl
    | some y => exact congrArg some (come_again x y)
theorem cm_mine (x y : Option Ent) : cm ((cm x y).map (·.1)) x = (cm x y).map fun z => (z.1, false) := by
  cases x with
  | none => cases y with
    | none => rfl
    | some y => rfl
  | some x => cases y with
    | none => show some (comeE x x) = some (x, false); rw [come_self]
    | some y => exact congrArg some (come_mine x y)

/-! ### What comes of two right archives is right -/
theorem come_of (a b : Ent) : vlE (comeE a b).1 = vlE a ∨ vlE (comeE a b).1 = vlE b := by
  by_cases h : leE a b <;> by_cases k : leE b a
  · rw [come_0 h k]; exact .inl rfl
  · rw [come_1 h k]; exact .inr rfl
  · rw [come_2 h k]; exact .inl rfl
  · rw [come_3 h k]; split <;> exact .inl rfl
theorem come_fine {a b : Ent} (ha : fineE a = true) (hb : fineE b = true) : fineE (comeE a b).1 = true := by
  by_cases h : leE a b <;> by_cases k : leE b a
  · rw [come_0 h k]; exact ha
  · rw [come_1 h k]; exact hb
  · rw [come_2 h k]; exact ha
  · rw [come_3 h k]
    split
    · have h1 := (fineE_iff a).1 ha
      have e1 := (fn_of ha).1
      have e2 := (fn_of ha).2
      have c1 := cl_le a.l
      have c2 := cl_le a.r
      have c3 := cl_le b.l
      have c4 := cl_le b.r
      refine (fineE_iff _).2 ⟨⟨?_, ?_, ?_, ?_⟩, ?_, h1.2.2⟩
      · show (0 : Int) ≤ ((max (cl a.l) (cl b.l) : Nat) : Int); omega
      · show ((max (cl a.l) (cl b.l) : Nat) : Int) ≤ 1073741824; omega
      · show (0 : Int) ≤ ((max (cl a.r) (cl b.r) : Nat) : Int); omega
      · show ((max (cl a.r) (cl b.r) : Nat) : Int) ≤ 1073741824; omega
      · have := h1.2.1
        show ¬ (((max (cl a.l) (cl b.l) : Nat) : Int) = 0 ∧ ((max (cl a.r) (cl b.r) : Nat) : Int) = 0)
        omega
    · exact ha
/-- Of each that comes: it is fine, its path is right, and its file is one of theirs. -/
theorem cm_each {l m : List Ent} (hl : RightA l) (hm : RightA m) {e : Ent} (he : e ∈ mA l m) : fineE e = true ∧ rightL (epth e) = true ∧ (e.has = true → e.data.size ≤ 600) := by
  have hat := (atE_iff (mA_srt hl.srt hm.srt)).1 he
  rw [mA_at hl.srt hm.srt] at hat
  have dl : ∀ x ∈ l, x.has = true → x.data.size ≤ 600 := fun x hx hh => ((treeR_iff _).1 hl.tree).datas (x.path, x.data) (mem_files.2 ⟨x, hx, hh, rfl⟩)
  have dm : ∀ x ∈ m, x.has = true → x.data.size ≤ 600 := fun x hx hh => ((treeR_iff _).1 hm.tree).datas (x.path, x.data) (mem_files.2 ⟨x, hx, hh, rfl⟩)
  cases h1 : atE l e.path with
  | none =>
    cases h2 : atE m e.path with
    | none => rw [h1, h2] at hat; cases hat
    | some y => rw [h1, h2] at hat; injection hat with hat; have hy := (atE_mem h2).1; have hat' : y = e := hat; subst hat'; exact ⟨hm.fine _ hy, hm.paths _ hy, dm _ hy⟩
  | some x =>
    have hx := (atE_mem h1).1
    cases h2 : atE m e.path with
    | none => rw [h1, h2] at hat; injection hat with hat; have hat' : x = e := hat; subst hat'; exact ⟨hl.fine _ hx, hl.paths _ hx, dl _ hx⟩
    | some y =>
      have hy := (atE_mem h2).1
      rw [h1, h2] at hat
      injection hat with hat
      have hat' : (comeE x y).1 = e := hat
      subst hat'
      have hp : x.path = y.path := by rw [(atE_mem h1).2, (atE_mem h2).2]
      refine ⟨come_fine (hl.fine _ hx) (hm.fine _ hy), ?_, fun hh => ?_⟩
      · have := hl.paths _ hx
        rw [epth, ← comeE_path hp] at this
        exact this
      · rcases come_of x y with e | e
        · have e1 : (comeE x y).1.has = x.has := congrArg Prod.fst e
          have e2 : (comeE x y).1.data = x.data := congrArg Prod.snd e
          rw [e2]; exact dl x hx (by rw [← e1]; exact hh)
        · have e1 : (comeE x y).1.has = y.has := congrArg Prod.fst e
          have e2 : (comeE x y).1.data = y.data := congrArg Prod.snd e
          rw [e2]; exact dm y hy (by rw [← e1]; exact hh)
theorem apt_under {l : List ByteArray} (h : Apt l) : ∀ a ∈ l, ∀ b ∈ l, underL a.data.toList b.data.toList = false := by
  induction l with
  | nil => intro a ha; cases ha
  | cons x l ih =>
    have hc := List.pairwise_cons.1 h
    have key : ∀ y ∈ l, underL y.data.toList x.data.toList = false ∧ underL x.data.toList y.data.toList = false := fun y hy => by
      have := hc.1 y hy
      unfold clB clashL at this
      simpa using this
    intro a ha b hb
    rcases List.mem_cons.1 ha with rfl | ha' <;> rcases List.mem_cons.1 hb with rfl | hb'
    · exact under_self _
    · exact (key b hb').2
    · exact (key a ha').1
    · exact ih hc.2 a ha' b hb'
theorem files_srt {l : List Ent} (h : SrtE l) : Srt (filesOf l) := by
  unfold filesOf Srt
  rw [List.pairwise_map]
  exact (h.filter _).imp fun h => h
theorem arch_of {l : List Ent} (hs : SrtE l) (hf : fitN l = 0) (h : ∀ e ∈ l, fineE e = true ∧ rightL (epth e) = true ∧ (e.has = true → e.data.size ≤ 600)) : RightA l := by
  have h1 : ¬ (32 < l.length ∨ 16 < (filesOf l).length) := fun e => by unfold fitN at hf; rw [if_pos e] at hf; cases hf
  have h2 : Apt (fpaths l) := by
    unfold fitN at hf
    rw [if_neg h1] at hf
    by_cases e : Apt (fpaths l)
    · exact e
    · rw [if_neg e] at hf; cases hf
  refine ⟨by omega, hs, fun e he => (h e he).2.1, fun e he => (h e he).1, (treeR_iff _).2 ⟨by omega, files_srt hs, ?_, ?_, ?_⟩⟩
  · intro f hf'
    obtain ⟨e, he, -, rfl⟩ := mem_files.1 hf'
    exact (h e he).2.1
  · intro f hf'
    obtain ⟨e, he, hh, rfl⟩ := mem_files.1 hf'
    exact (h e he).2.2 hh
  · intro f hf' g hg'
    exact apt_under h2 f.1 (List.mem_map.2 ⟨f, hf', rfl⟩) g.1 (List.mem_map.2 ⟨g, hg', rfl⟩)
theorem merge_right {l m : List Ent} (h : mrgN l m = 0) : RightA (mrgA l m) := by
  obtain ⟨hl, hm⟩ := mrg_right h
  rw [(mrg_mA h).1]
  refine arch_of (mA_srt hl.srt hm.srt) ?_ fun e he => cm_each hl hm he
  rw [mrgN_fit ((archR_iff _).2 hl) ((archR_iff _).2 hm)] at h
  exact h

/-! ### Turned, and again -/
theorem mC_turn {l m : List Ent} (hl : SrtE l) (hm : SrtE m) : mC l m = mC m l := by
  refine srtB_one (mC_srt hl hm) (mC_srt hm hl) fun p => ?_
  rw [mC_mem hl hm, mC_mem hm hl]
  have key : ∀ x y : Option Ent, (∃ e, cm x y = some (e, true)) → ∃ e, cm y x = some (e, true) := by
    intro x y
    rintro ⟨e, he⟩
    cases x with
    | none => cases y <;> cases he
    | some x => cases y with
      | none => cases he
      | some y =>
        have he' : comeE x y = (e, true) := Option.some.inj he
        refine ⟨(comeE y x).1, congrArg some ?_⟩
        have : (comeE y x).2 = true := by
          cases hc : (comeE y x).2 with
          | true => rfl
          | false => have := nc_flip.1 (show ncE y x from hc); unfold ncE at this; rw [he'] at this; cases this
        rw [← this]
  exact ⟨key _ _, key _ _⟩
theorem mA_paths {l m : List Ent} (hl : SrtE l) (hm : SrtE m) : (mA l m).map (·.path) = (mA m l).map (·.path) := by
  have e1 : (mA l m).map (·.path) = (mrgL l m).map (·.1.path) := by rw [mA, List.map_map]; rfl
  have e2 : (mA m l).map (·.path) = (mrgL m l).map (·.1.path) := by rw [mA, List.map_map]; rfl
  rw [e1, e2]
  refine mrg_paths hm hl (List.pairwise_map.2 (mrg_srt l m hl hm)) fun x => ?_
  rw [mrg_mem]; exact Or.comm
theorem mA_turn {l m : List Ent} (hl : RightA l) (hm : RightA m) {p : ByteArray} (h : ¬ p ∈ mC l m) : atE (mA l m) p = atE (mA m l) p := by
  rw [mA_at hl.srt hm.srt, mA_at hm.srt hl.srt]
  cases h1 : atE l p with
  | none => cases h2 : atE m p <;> rfl
  | some x => cases h2 : atE m p with
    | none => rfl
    | some y =>
      have hn : ncE x y := by
        unfold ncE
        cases hc : (comeE x y).2 with
        | false => rfl
        | true => exact absurd ((mC_mem hl.srt hm.srt p).2 ⟨(comeE x y).1, by rw [h1, h2]; show some (comeE x y) = _; rw [← hc]⟩) h
      exact congrArg some (come_turn (right_fn hl h1) (right_fn hm h2) (by rw [(atE_mem h1).2, (atE_mem h2).2]) hn)
theorem merge_again {l m : List Ent} (h : mrgN l m = 0) : mrgN (mrgA l m) m = 0 ∧ mrgA (mrgA l m) m = mrgA l m ∧ mrgC (mrgA l m) m = mrgC l m := by
  obtain ⟨hl, hm⟩ := mrg_right h
  have hR := merge_right h
  have hat : ∀ p, atE (mrgA l m) p = (cm (atE l p) (atE m p)).map (·.1) := fun p => by rw [(mrg_mA h).1, mA_at hl.srt hm.srt]
  have e1 : mA (mrgA l m) m = mrgA l m := srtE_one (mA_srt hR.srt hm.srt) hR.srt fun p => by rw [mA_at hR.srt hm.srt, hat, cm_again]
  have e2 : mC (mrgA l m) m = mC l m := srtB_one (mC_srt hR.srt hm.srt) (mC_srt hl.srt hm.srt) fun p => by rw [mC_mem hR.srt hm.srt, mC_mem hl.srt hm.srt, hat, cm_again]
  have h0 : mrgN (mrgA l m) m = 0 := by rw [mrgN_fit ((archR_iff _).2 hR) ((archR_iff _).2 hm), e1]; exact fit_right hR
  exact ⟨h0, by rw [(mrg_mA h0).1, e1], by rw [(mrg_mA h0).2, (mrg_mA h).2, e2]⟩
theorem merge_mine {l m : List Ent} (h : mrgN l m = 0) : mrgN (mrgA l m) l = 0 ∧ mrgA (mrgA l m) l = mrgA l m ∧ mrgC (mrgA l m) l = [] := by
  obtain ⟨hl, hm⟩ := mrg_right h
  have hR := merge_right h
  have hat : ∀ p, atE (mrgA l m) p = (cm (atE l p) (atE m p)).map (·.1) := fun p => by rw [(mrg_mA h).1, mA_at hl.srt hm.srt]
  have e1 : mA (mrgA l m) l = mrgA l m := srtE_one (mA_srt hR.srt hl.srt) hR.srt fun p => by
    rw [mA_at hR.srt hl.srt, hat, cm_mine, Option.map_map]
    rfl
  have e2 : mC (mrgA l m) l = [] := by
    cases hc : mC (mrgA l m) l with
    | nil => rfl
    | cons p ps =>
      have : p ∈ mC (mrgA l m) l := by rw [hc]; exact List.mem_cons_self
      obtain ⟨e, he⟩ := (mC_mem hR.srt hl.srt p).1 this
      rw [hat, cm_mine] at he
      cases hx : cm (atE l p) (atE m p) with
      | none => rw [hx] at he; cases he
      | some z => rw [hx] at he; injection he with he; injection he with he1 he2; cases he2
  have h0 : mrgN (mrgA l m) l = 0 := by rw [mrgN_fit ((archR_iff _).2 hR) ((archR_iff _).2 hl), e1]; exact fit_right hR
  exact ⟨h0, by rw [(mrg_mA h0).1, e1], by rw [(mrg_mA h0).2, e2]⟩
/-- One is told not to be right just if the other is. -/
theorem merge_arg (l m : List Ent) : (mrgN l m = 1) ↔ (mrgN m l = 1) := by
  have key : ∀ l m : List Ent, mrgN l m = 1 → mrgN m l = 1 := by
    intro l m h
    unfold mrgN at h ⊢
    rw [Bool.and_comm]
    split at h
    · exfalso
      unfold fitN at h
      split at h
      · cases h
      · split at h <;> cases h
    · rename_i hn
      rw [if_neg hn]
  exact ⟨key l m, key m l⟩
end Go.Proofs.YtaidggjnpnfdhaaGreatDoor
namespace Go.Proofs.YtaidggjnpnfdhaaGreatDoor
open Go.RowKit

theorem plan_mem {t u : List Fil} {x : Ac} : x ∈ planL t u ↔ (∃ f ∈ t, (∀ g ∈ u, g.1 ≠ f.1) ∧ x = (f.1, false, noS)) ∨ (∃ g ∈ u, ¬ g ∈ t ∧ x = (g.1, true, g.2)) := by
  unfold planL dropsL putsL
  rw [List.mem_append, List.mem_map, List.mem_map]
  constructor
  · rintro (⟨f, hf, rfl⟩ | ⟨g, hg, rfl⟩)
    · obtain ⟨h1, h2⟩ := List.mem_filter.1 hf
      refine .inl ⟨f, h1, fun g hg e => ?_, rfl⟩
      have : (u.any fun g => decide (g.1 = f.1)) = true := List.any_eq_true.2 ⟨g, hg, by simp [e]⟩
      rw [this] at h2
      cases h2
    · obtain ⟨h1, h2⟩ := List.mem_filter.1 hg
      refine .inr ⟨g, h1, fun e => ?_, rfl⟩
      have : (t.any fun f => decide (g = f)) = true := List.any_eq_true.2 ⟨g, e, by simp⟩
      rw [this] at h2
      cases h2
  · rintro (⟨f, hf, hn, rfl⟩ | ⟨g, hg, hn, rfl⟩)
    · refine .inl ⟨f, List.mem_filter.2 ⟨hf, ?_⟩, rfl⟩
      have : (u.any fun g => decide (g.1 = f.1)) = false := List.any_eq_false.2 fun g hg => by simp [hn g hg]
      rw [this]; rfl
    · refine .inr ⟨g, List.mem_filter.2 ⟨hg, ?_⟩, rfl⟩
      have : (t.any fun f => decide (g = f)) = false := List.any_eq_false.2 fun f hf => by
        have : g ≠ f := fun e => by subst e; exact hn hf
        simp [this]
      rw [this]; rfl
/-- What stands ahead of what. -/
def AhA (a b : Ac) : Prop := (a.2.1 = false ∧ b.2.1 = true) ∨ (a.2.1 = b.2.1 ∧ a.1.data.toList < b.1.data.toList)
theorem plan_srt {t u : List Fil} (ht : Srt t) (hu : Srt u) : (planL t u).Pairwise AhA := by
  unfold planL dropsL putsL
  rw [List.pairwise_append]
  refine ⟨?_, ?_, ?_⟩
  · rw [List.pairwise_map]; exact (ht.filter _).imp fun h => .inr ⟨rfl, h⟩
  · rw [List.pairwise_map]; exact (hu.filter _).imp fun h => .inr ⟨rfl, h⟩
  · intro a ha b hb
    obtain ⟨f, -, rfl⟩ := List.mem_map.1 ha
    obtain ⟨g, -, rfl⟩ := List.mem_map.1 hb
    exact .inl ⟨rfl, rfl⟩

/-! ### How many there are -/
def inF (l : List Fil) (p : ByteArray) : Bool := l.any fun g => decide (g.1 = p)
def hasF (l : List Fil) (f : Fil) : Bool := l.any fun g => decide (f = g)
theorem inF_iff {l : List Fil} {p : ByteArray} : inF l p = true ↔ ∃ g ∈ l, g.1 = p := by unfold inF; rw [List.any_eq_true]; simp
theorem hasF_iff {l : List Fil} {f : Fil} : hasF l f = true ↔ f ∈ l := by
  unfold hasF
  rw [List.any_eq_true]
  constructor
  · rintro ⟨x, hx, h⟩
    have := of_decide_eq_true h
    subst this
    exact hx
  · exact fun h => ⟨f, h, by simp⟩
theorem srt_one {l : List Fil} (h : Srt l) {f g : Fil} (hf : f ∈ l) (hg : g ∈ l) (e : f.1 = g.1) : f = g := by
  obtain ⟨i, hi, rfl⟩ := List.mem_iff_getElem.1 hf
  obtain ⟨j, hj, rfl⟩ := List.mem_iff_getElem.1 hg
  have key : ∀ a b (ha : a < l.length) (hb : b < l.length), a < b → l[a].1 ≠ l[b].1 := fun a b ha hb hab e => by
    have := List.pairwise_iff_getElem.1 h a b ha hb hab
    rw [show pth l[a] = pth l[b] by unfold pth; rw [e]] at this
    exact absurd this (List.lt_irrefl _)
  rcases Nat.lt_trichotomy i j with h1 | h1 | h1
  · exact absurd e (key i j hi hj h1)
  · subst h1; rfl
  · exact absurd e.symm (key j i hj hi h1)
theorem cnt_split (u : List Fil) : ∀ (t : List Fil), (t.filter fun f => !hasF u f).length = (t.filter fun f => !inF u f.1).length + (t.filter fun f => inF u f.1 && !hasF u f).length
  | [] => rfl
  | f :: t => by
    have ih := cnt_split u t
    have himp : hasF u f = true → inF u f.1 = true := fun h => inF_iff.2 ⟨f, hasF_iff.1 h, rfl⟩
    rw [List.filter_cons, List.filter_cons, List.filter_cons]
    cases h1 : hasF u f <;> cases h2 : inF u f.1 <;> simp [ih]
    · omega
    · omega
    · have := himp h1; rw [h2] at this; cases this
theorem cnt_same {t u : List Fil} (ht : Srt t) (hu : Srt u) : (t.filter fun f => inF u f.1 && !hasF u f).length = (u.filter fun g => inF t g.1 && !hasF t g).length := by
  have key : (t.filter fun f => inF u f.1 && !hasF u f).map (·.1) = (u.filter fun g => inF t g.1 && !hasF t g).map (·.1) := by
    have half : ∀ {t u : List Fil}, Srt t → ∀ x : ByteArray, x ∈ (t.filter fun f => inF u f.1 && !hasF u f).map (·.1) → x ∈ (u.filter fun g => inF t g.1 && !hasF t g).map (·.1) := by
      intro t u ht x hx
      obtain ⟨f, hf, rfl⟩ := List.mem_map.1 hx
      obtain ⟨h1, h2⟩ := List.mem_filter.1 hf
      rw [Bool.and_eq_true, Bool.not_eq_true'] at h2
      obtain ⟨g, hg, e⟩ := inF_iff.1 h2.1
      refine List.mem_map.2 ⟨g, List.mem_filter.2 ⟨hg, ?_⟩, e⟩
      rw [Bool.and_eq_true, Bool.not_eq_true']
      refine ⟨inF_iff.2 ⟨f, h1, e.symm⟩, not_true fun h3 => ?_⟩
      have := srt_one ht h1 (hasF_iff.1 h3) e.symm
      subst this
      rw [hasF_iff.2 hg] at h2
      cases h2.2
    refine srtB_one ?_ ?_ fun x => ⟨half ht x, half hu x⟩
    · exact List.pairwise_map.2 ((ht.filter _).imp fun h => h)
    · exact List.pairwise_map.2 ((hu.filter _).imp fun h => h)
  have := congrArg List.length key
  rwa [List.length_map, List.length_map] at this
theorem plan_count {t u : List Fil} (ht : Srt t) (hu : Srt u) : (t.filter fun f => !hasF u f).length + (u.filter fun g => !inF t g.1).length = (planL t u).length := by
  have e1 := cnt_split u t
  have e2 := cnt_split t u
  have e3 := cnt_same ht hu
  have e4 : (planL t u).length = (t.filter fun f => !inF u f.1).length + (u.filter fun g => !hasF t g).length := by
    unfold planL dropsL putsL
    rw [List.length_append, List.length_map, List.length_map]
    rfl
  omega

/-! ### What tree and archive have there -/
theorem gT_some {fs : List Fil} (h : RightT fs) {f : Fil} (hf : f ∈ fs) : getT fs f.1.data.toList = some f.2 := by
  have ht : thereT fs f.1.data.toList = true := there_iff.2 ⟨f, hf, rfl⟩
  obtain ⟨hl, e⟩ := get_of (p := f.1) ((treeR_iff fs).2 h) ht
  rw [e]
  obtain ⟨hl2, e2⟩ := (there_at h.srt).1 ht
  have : fs[(lowT fs f.1.data.toList).length] = f := h.srt.inj (List.getElem_mem _) hf e2
  rw [this]
theorem gT_none {fs : List Fil} {p : ByteArray} (h : ∀ f ∈ fs, f.1 ≠ p) : getT fs p.data.toList = none := by
  have ht : thereT fs p.data.toList = false := there_no.2 fun f hf e => h f hf (data_inj e)
  exact get_none (by rw [ht, Bool.and_false])
theorem gT_iff {fs : List Fil} (h : RightT fs) (f : Fil) : getT fs f.1.data.toList = some f.2 ↔ f ∈ fs := by
  constructor
  · intro e
    by_cases k : ∃ g ∈ fs, g.1 = f.1
    · obtain ⟨g, hg, hp⟩ := k
      have := gT_some h hg
      rw [hp, e] at this
      have hf : f = g := Prod.ext hp.symm (Option.some.inj this)
      rw [hf]; exact hg
    · rw [gT_none fun g hg hp => k ⟨g, hg, hp⟩] at e; cases e
  · exact gT_some h
theorem gT_in {fs : List Fil} (h : RightT fs) (p : ByteArray) : (getT fs p.data.toList).isSome = inF fs p := by
  cases k : inF fs p with
  | true => obtain ⟨g, hg, rfl⟩ := inF_iff.1 k; rw [gT_some h hg]; rfl
  | false =>
    rw [gT_none fun g hg hp => ?_]
    · rfl
    · rw [inF_iff.2 ⟨g, hg, hp⟩] at k; cases k
theorem find_in {fs : List Fil} (h : RightT fs) (p : ByteArray) : decide (findT fs p.data.toList < 0) = !inF fs p := by
  unfold findT
  rw [(treeR_iff fs).2 h, Bool.true_and]
  have e : thereT fs p.data.toList = inF fs p := by
    cases k : inF fs p with
    | true => obtain ⟨g, hg, rfl⟩ := inF_iff.1 k; exact there_iff.2 ⟨g, hg, rfl⟩
    | false => exact there_no.2 fun f hf e => by rw [inF_iff.2 ⟨f, hf, data_inj e⟩] at k; cases k
  rw [e]
  cases inF fs p
  · rfl
  · rw [if_pos rfl]; simp
/-- What a plan says of a path. -/
theorem plan_at {t u : List Fil} (ht : RightT t) (hu : RightT u) {x : Ac} (hx : x ∈ planL t u) :
    getT t x.1.data.toList ≠ getT u x.1.data.toList ∧ x.2.1 = (getT u x.1.data.toList).isSome ∧ x.2.2 = (getT u x.1.data.toList).getD noS := by
  rcases plan_mem.1 hx with ⟨f, hf, hn, rfl⟩ | ⟨g, hg, hn, rfl⟩
  · dsimp only
    rw [gT_some ht hf, gT_none hn]
    exact ⟨by simp, rfl, rfl⟩
  · dsimp only
    rw [gT_some hu hg]
    exact ⟨fun e => hn ((gT_iff ht g).1 e), rfl, rfl⟩
end Go.Proofs.YtaidggjnpnfdhaaGreatDoor
namespace Go.Proofs.YtaidggjnpnfdhaaGreatDoor
open Go.RowKit

/-! ### One action, and many -/
def actE (t : List Fil) (a : Ac) : Nat := if a.2.1 then putE t a.1 a.2.2 else dropE t a.1.data.toList
def actT (t : List Fil) (a : Ac) : List Fil := if a.2.1 then putL t a.1 a.2.2 else dropL t a.1.data.toList
def doE : List Fil → List Ac → Nat
  | _, [] => 0
  | t, a :: l => if actE t a = 0 then doE (actT t a) l else actE t a
def doL : List Fil → List Ac → List Fil
  | t, [] => t
  | t, a :: l => doL (actT t a) l
def doN (t : List Fil) (l : List Ac) (room : Int) : Nat := if treeR t then (if doE t l = 0 then (if room < (sizeT (doL t l) : Nat) then 2 else 0) else doE t l) else 1
def doT (t : List Fil) (l : List Ac) (room : Int) : List Fil := if doN t l room = 0 then doL t l else []
theorem doE_snoc : ∀ (t : List Fil) (l : List Ac) (a : Ac), doE t (l ++ [a]) = if doE t l = 0 then actE (doL t l) a else doE t l
  | t, [], a => by simp only [List.nil_append, doE, doL]; split <;> simp_all
  | t, b :: l, a => by
    rw [List.cons_append, doE, doE, doL]
    split
    · exact doE_snoc _ l a
    · rfl
theorem doL_snoc : ∀ (t : List Fil) (l : List Ac) (a : Ac), doL t (l ++ [a]) = actT (doL t l) a
  | t, [], a => rfl
  | t, b :: l, a => by rw [List.cons_append, doL, doL]; exact doL_snoc _ l a
theorem doE_app : ∀ (t : List Fil) (l m : List Ac), doE t (l ++ m) = if doE t l = 0 then doE (doL t l) m else doE t l
  | t, [], m => by simp only [List.nil_append, doE, doL, if_true]
  | t, b :: l, m => by
    rw [List.cons_append, doE, doE, doL]
    split
    · exact doE_app _ l m
    · rfl
theorem doL_app : ∀ (t : List Fil) (l m : List Ac), doL t (l ++ m) = doL (doL t l) m
  | t, [], m => rfl
  | t, b :: l, m => by rw [List.cons_append, doL, doL]; exact doL_app _ l m
theorem do_more (t : List Fil) (l : List Ac) (j : Nat) (h : j < l.length) : doE t (l.take (j + 1)) = (if doE t (l.take j) = 0 then actE (doL t (l.take j)) l[j] else doE t (l.take j)) ∧ doL t (l.take (j + 1)) = actT (doL t (l.take j)) l[j] := by
  rw [List.take_add_one, List.getElem?_eq_getElem h]
  exact ⟨doE_snoc _ _ _, doL_snoc _ _ _⟩
/-- Where one is told on the way, that one is told in the end. -/
theorem do_stop {t : List Fil} {l : List Ac} {j : Nat} (h : doE t (l.take j) ≠ 0) : doE t l = doE t (l.take j) := by
  conv => lhs; rw [← List.take_append_drop j l]
  rw [doE_app, if_neg h]
theorem act_right {t : List Fil} {a : Ac} (h : actE t a = 0) : RightT (actT t a) := by
  unfold actE at h
  unfold actT
  cases hp : a.2.1 with
  | true => rw [hp, if_pos rfl] at h; exact right_putT h
  | false => rw [hp, if_neg (by simp)] at h; exact right_drop (dropE_zero.1 h).1 _
theorem do_right : ∀ {t : List Fil} {l : List Ac}, RightT t → doE t l = 0 → RightT (doL t l)
  | t, [], h, _ => h
  | t, a :: l, h, k => by
    rw [doE] at k
    split at k
    · rename_i h0; exact do_right (t := actT t a) (act_right h0) k
    · rename_i h0; exact absurd k h0

/-! ### What a tree has, once an action is done -/
theorem getT_mem {t : List Fil} (h : RightT t) {p x : ByteArray} : getT t p.data.toList = some x ↔ (p, x) ∈ t := by
  unfold getT
  rw [(treeR_iff t).2 h, if_pos rfl]
  exact data_iff h.srt
theorem getT_ext {t u : List Fil} (ht : RightT t) (hu : RightT u) (h : ∀ p : ByteArray, getT t p.data.toList = getT u p.data.toList) : t = u :=
  Srt.unique ht.srt hu.srt fun f => by
    obtain ⟨p, x⟩ := f
    rw [← getT_mem ht, h, getT_mem hu]
theorem opt_ext {a b : Option ByteArray} (h : ∀ x, a = some x ↔ b = some x) : a = b := by
  cases a with
  | none => cases b with
    | none => rfl
    | some y => exact (by have := (h y).2 rfl; cases this)
  | some x => exact ((h x).1 rfl).symm
def lastV (a : Ac) : Option ByteArray := if a.2.1 then some a.2.2 else none
theorem act_get {t : List Fil} {a : Ac} (h : actE t a = 0) (q : ByteArray) : getT (actT t a) q.data.toList = if a.1 = q then lastV a else getT t q.data.toList := by
  have hR := act_right h
  have ht : RightT t := by
    unfold actE at h
    split at h
    · exact (putE_zero.1 h).1
    · exact (dropE_zero.1 h).1
  refine opt_ext fun x => ?_
  rw [getT_mem hR]
  unfold actT lastV
  cases hp : a.2.1 with
  | true =>
    simp only [if_true]
    rw [mem_put]
    by_cases e : a.1 = q
    · subst e
      rw [if_pos rfl]
      constructor
      · rintro (k | ⟨-, k⟩)
        · rw [(Prod.mk.inj k).2]
        · exact absurd rfl k
      · intro k; rw [Option.some.inj k]; exact .inl rfl
    · rw [if_neg e, getT_mem ht]
      constructor
      · rintro (k | ⟨k, -⟩)
        · exact absurd (Prod.mk.inj k).1.symm e
        · exact k
      · exact fun k => .inr ⟨k, fun k2 => e (data_inj k2.symm)⟩
  | false =>
    simp only [Bool.false_eq_true, if_false]
    rw [mem_drop]
    by_cases e : a.1 = q
    · subst e
      rw [if_pos rfl]
      exact ⟨fun k => absurd rfl k.2, fun k => by cases k⟩
    · rw [if_neg e, getT_mem ht]
      exact ⟨fun k => k.1, fun k => ⟨k, fun k2 => e (data_inj k2.symm)⟩⟩
/-- What the last one says of a path, or what was there. -/
def saysA (l : List Ac) (q : ByteArray) (g : Option ByteArray) : Option ByteArray := l.foldl (fun g a => if a.1 = q then lastV a else g) g
theorem do_get : ∀ {t : List Fil} {l : List Ac}, doE t l = 0 → ∀ q : ByteArray, getT (doL t l) q.data.toList = saysA l q (getT t q.data.toList)
  | t, [], _, q => rfl
  | t, a :: l, k, q => by
    rw [doE] at k
    split at k
    · rename_i h0
      rw [doL, do_get k q, act_get h0 q]; rfl
    · rename_i h0; exact absurd k h0
theorem says_more (l : List Ac) (q : ByteArray) (g : Option ByteArray) (j : Nat) (h : j < l.length) : saysA (l.take (j + 1)) q g = if l[j].1 = q then lastV l[j] else saysA (l.take j) q g := by
  unfold saysA
  rw [List.take_add_one, List.getElem?_eq_getElem h, List.foldl_append]; rfl
theorem says_no {l : List Ac} {q : ByteArray} {g : Option ByteArray} (h : ∀ a ∈ l, a.1 ≠ q) : saysA l q g = g := by
  induction l generalizing g with
  | nil => rfl
  | cons a l ih =>
    show saysA l q (if a.1 = q then lastV a else g) = g
    rw [if_neg (h a List.mem_cons_self)]
    exact ih fun b hb => h b (List.mem_cons_of_mem _ hb)
theorem size_le {t : List Fil} (h : RightT t) : sizeT t ≤ 9600 := by
  have key : ∀ l : List Fil, (∀ f ∈ l, f.2.size ≤ 600) → (l.map fun f => f.2.size).sum ≤ l.length * 600 := by
    intro l
    induction l with
    | nil => intro _; simp
    | cons a l ih =>
      intro hl
      have h1 := hl a List.mem_cons_self
      have h2 := ih fun f hf => hl f (List.mem_cons_of_mem _ hf)
      rw [List.map_cons, List.sum_cons, List.length_cons]
      omega
  have h1 := key t h.datas
  have h2 := h.few
  unfold sizeT
  omega
end Go.Proofs.YtaidggjnpnfdhaaGreatDoor
namespace Go.Proofs.YtaidggjnpnfdhaaGreatDoor
open Go.RowKit

theorem srt_len {a b : List ByteArray} (ha : SrtB a) (hb : SrtB b) (h : ∀ x ∈ a, x ∈ b) : a.length ≤ b.length := by
  have e : a = b.filter fun x => inB x a := srtB_one ha (hb.filter _) fun x => by
    rw [List.mem_filter, inB_iff]
    exact ⟨fun hx => ⟨h x hx, hx⟩, fun hx => hx.2⟩
  rw [e]
  exact List.length_filter_le _ _
theorem srt_paths {t : List Fil} (h : Srt t) : SrtB (t.map (·.1)) := List.pairwise_map.2 h
theorem drops_do : ∀ {t : List Fil} (ps : List Fil), RightT t → (ps.Pairwise fun a b => a.1 ≠ b.1) → (∀ f ∈ ps, thereT t f.1.data.toList = true) → doE t (ps.map fun f => (f.1, false, noS)) = 0
  | t, [], _, _, _ => rfl
  | t, f :: ps, h, hp, hx => by
    obtain ⟨h1, h2⟩ := List.pairwise_cons.1 hp
    have h0 : actE t (f.1, false, noS) = 0 := by
      unfold actE
      simp only [Bool.false_eq_true, if_false]
      exact dropE_zero.2 ⟨h, hx f List.mem_cons_self⟩
    rw [List.map_cons, doE, if_pos h0]
    refine drops_do ps (act_right h0) h2 fun g hg => ?_
    obtain ⟨e, he, hpe⟩ := there_iff.1 (hx g (List.mem_cons_of_mem _ hg))
    refine there_iff.2 ⟨e, ?_, hpe⟩
    unfold actT
    simp only [Bool.false_eq_true, if_false]
    refine mem_drop.2 ⟨he, fun k => h1 g hg ?_⟩
    exact data_inj (k.symm.trans hpe)
theorem puts_do {u : List Fil} (hu : RightT u) : ∀ {s : List Fil} (gs : List Fil), RightT s → (∀ f ∈ s, f.1 ∈ u.map (·.1)) → (∀ g ∈ gs, g ∈ u) → doE s (gs.map fun g => (g.1, true, g.2)) = 0
  | s, [], _, _, _ => rfl
  | s, g :: gs, h, hs, hg => by
    have hgu := hg g List.mem_cons_self
    have h0 : actE s (g.1, true, g.2) = 0 := by
      unfold actE
      simp only [if_true]
      refine putE_zero.2 ⟨h, hu.paths g hgu, clash_no.2 fun f hf => ?_, hu.datas g hgu, ?_⟩
      · obtain ⟨e, he, hp⟩ := List.mem_map.1 (hs f hf)
        have e1 : pth f = pth e := by unfold pth; rw [hp]
        rw [e1]
        exact ⟨hu.apart e he g hgu, hu.apart g hgu e he⟩
      · cases ht : thereT s g.1.data.toList with
        | true => exact .inl rfl
        | false =>
          refine .inr ?_
          have hno := there_no.1 ht
          have hl : (putL s g.1 g.2).length = s.length + 1 := by
            rcases split_tree g.1.data.toList h.srt with ⟨-, e⟩ | ⟨d, e, -⟩
            · have := congrArg List.length e
              rw [List.length_append] at this
              rw [putL, List.length_append, List.length_cons]
              omega
            · rw [ht] at e; cases e
          have h1 := srt_len (srt_paths (srt_put h.srt g.1 g.2)) (srt_paths hu.srt) fun x hx => by
            obtain ⟨f, hf, rfl⟩ := List.mem_map.1 hx
            rcases mem_put.1 hf with rfl | ⟨hf, -⟩
            · exact List.mem_map.2 ⟨g, hgu, rfl⟩
            · exact hs f hf
          rw [List.length_map, List.length_map, hl] at h1
          have := hu.few
          omega
    rw [List.map_cons, doE, if_pos h0]
    refine puts_do hu gs (act_right h0) (fun f hf => ?_) fun x hx => hg x (List.mem_cons_of_mem _ hx)
    unfold actT at hf
    simp only [if_true] at hf
    rcases mem_put.1 hf with rfl | ⟨hf, -⟩
    · exact List.mem_map.2 ⟨g, hgu, rfl⟩
    · exact hs f hf
theorem says_drops {ps : List Fil} {q : ByteArray} {g : Option ByteArray} : saysA (ps.map fun f => (f.1, false, noS)) q g = if inF ps q then none else g := by
  induction ps generalizing g with
  | nil => rfl
  | cons f ps ih =>
    show saysA (ps.map fun f => (f.1, false, noS)) q (if f.1 = q then none else g) = _
    rw [ih]
    unfold inF
    rw [List.any_cons]
    by_cases e : f.1 = q
    · simp [e]
    · rw [if_neg e, decide_eq_false e, Bool.false_or]
theorem says_puts : ∀ {ps : List Fil} {q : ByteArray} {g : Option ByteArray}, RightT ps → saysA (ps.map fun f => (f.1, true, f.2)) q g = if inF ps q then getT ps q.data.toList else g := by
  have key : ∀ (ps : List Fil) (q : ByteArray) (g : Option ByteArray) (x : ByteArray), (ps.Pairwise fun a b => a.1 ≠ b.1) → (q, x) ∈ ps → saysA (ps.map fun f => (f.1, true, f.2)) q g = some x := by
    intro ps
    induction ps with
    | nil => intro q g x _ h; cases h
    | cons f ps ih =>
      intro q g x hp hx
      obtain ⟨h1, h2⟩ := List.pairwise_cons.1 hp
      show saysA (ps.map fun f => (f.1, true, f.2)) q (if f.1 = q then some f.2 else g) = _
      rcases List.mem_cons.1 hx with e | e
      · subst e
        rw [if_pos rfl]
        exact says_no fun a ha k => by
          obtain ⟨b, hb, rfl⟩ := List.mem_map.1 ha
          exact h1 b hb k.symm
      · exact ih q _ x h2 e
  intro ps q g h
  have hne : ps.Pairwise fun a b => a.1 ≠ b.1 := h.srt.imp fun {a b} k e => by
    have k2 : pth a < pth b := k
    rw [show pth a = pth b by unfold pth; rw [e]] at k2
    exact List.lt_irrefl _ k2
  cases hi : inF ps q with
  | true =>
    obtain ⟨f, hf, rfl⟩ := inF_iff.1 hi
    rw [if_pos rfl, key ps f.1 g f.2 hne hf, (getT_mem h).2 hf]
  | false =>
    rw [if_neg (by simp)]
    refine says_no fun a ha k => ?_
    obtain ⟨b, hb, rfl⟩ := List.mem_map.1 ha
    rw [inF_iff.2 ⟨b, hb, k⟩] at hi
    cases hi
/-- A plan, done, leads there. -/
theorem plan_do {t u : List Fil} (ht : RightT t) (hu : RightT u) : doE t (planL t u) = 0 ∧ doL t (planL t u) = u := by
  have hd : doE t (dropsL t u) = 0 := by
    refine drops_do _ ht ((ht.srt.filter _).imp fun {a b} k e => ?_) fun f hf => there_iff.2 ⟨f, (List.mem_filter.1 hf).1, rfl⟩
    have k2 : pth a < pth b := k
    rw [show pth a = pth b by unfold pth; rw [e]] at k2
    exact List.lt_irrefl _ k2
  have hR := do_right ht hd
  have hin : ∀ q, inF (t.filter fun f => !(u.any fun g => decide (g.1 = f.1))) q = (inF t q && !inF u q) := fun q => by
    cases h1 : inF u q with
    | true =>
      rw [Bool.not_true, Bool.and_false]
      refine not_true fun k => ?_
      obtain ⟨f, hf, rfl⟩ := inF_iff.1 k
      have h2 := (List.mem_filter.1 hf).2
      rw [show (u.any fun g => decide (g.1 = f.1)) = true from h1] at h2
      cases h2
    | false =>
      rw [Bool.not_false, Bool.and_true]
      cases h2 : inF t q with
      | true =>
        obtain ⟨f, hf, rfl⟩ := inF_iff.1 h2
        refine inF_iff.2 ⟨f, List.mem_filter.2 ⟨hf, ?_⟩, rfl⟩
        rw [show (u.any fun g => decide (g.1 = f.1)) = false from h1]; rfl
      | false =>
        refine not_true fun k => ?_
        obtain ⟨f, hf, rfl⟩ := inF_iff.1 k
        rw [inF_iff.2 ⟨f, (List.mem_filter.1 hf).1, rfl⟩] at h2
        cases h2
  have hgd : ∀ q : ByteArray, getT (doL t (dropsL t u)) q.data.toList = if inF t q && !inF u q then none else getT t q.data.toList := fun q => by
    rw [do_get hd, dropsL, says_drops, hin]
  have hp : doE (doL t (dropsL t u)) (putsL t u) = 0 := by
    refine puts_do hu _ hR (fun f hf => ?_) fun g hg => (List.mem_filter.1 hg).1
    have h1 := (getT_mem hR).2 (show (f.1, f.2) ∈ doL t (dropsL t u) from hf)
    rw [hgd] at h1
    split at h1
    · cases h1
    · rename_i hc
      have h2 : inF t f.1 = true := inF_iff.2 ⟨(f.1, f.2), (getT_mem ht).1 h1, rfl⟩
      rw [h2, Bool.true_and, Bool.not_eq_true', Bool.not_eq_false] at hc
      obtain ⟨g, hg, e⟩ := inF_iff.1 hc
      exact List.mem_map.2 ⟨g, hg, e⟩
  have hE : doE t (planL t u) = 0 := by unfold planL; rw [doE_app, hd]; exact hp
  refine ⟨hE, getT_ext (do_right ht hE) hu fun q => ?_⟩
  have hpr : RightT (u.filter fun f => !(t.any fun g => decide (f = g))) := ⟨Nat.le_trans (List.length_filter_le _ _) hu.few, hu.srt.filter _, fun f hf => hu.paths f (List.mem_filter.1 hf).1, fun f hf => hu.datas f (List.mem_filter.1 hf).1, fun f hf g hg => hu.apart f (List.mem_filter.1 hf).1 g (List.mem_filter.1 hg).1⟩
  unfold planL
  rw [doL_app, do_get hp, hgd, putsL, says_puts hpr]
  refine opt_ext fun x => ?_
  constructor
  · intro h
    split at h
    · rw [getT_mem hpr] at h
      exact (getT_mem hu).2 (List.mem_filter.1 h).1
    · rename_i hn
      split at h
      · cases h
      · rename_i hc
        have hm := (getT_mem ht).1 h
        have h2 : inF t q = true := inF_iff.2 ⟨_, hm, rfl⟩
        rw [h2, Bool.true_and, Bool.not_eq_true', Bool.not_eq_false] at hc
        obtain ⟨g, hg, e⟩ := inF_iff.1 hc
        by_cases hgt : g ∈ t
        · have := srt_one ht.srt hm hgt e.symm
          rw [getT_mem hu, this]; exact hg
        · refine absurd (inF_iff.2 ⟨g, List.mem_filter.2 ⟨hg, ?_⟩, e⟩) hn
          rw [show (t.any fun f => decide (g = f)) = false from not_true fun k => hgt (hasF_iff.1 k)]; rfl
  · intro h
    have hm := (getT_mem hu).1 h
    by_cases hgt : (q, x) ∈ t
    · rw [if_neg, if_neg]
      · exact (getT_mem ht).2 hgt
      · rw [inF_iff.2 ⟨_, hm, rfl⟩]; simp
      · intro k
        obtain ⟨g, hg, e⟩ := inF_iff.1 k
        obtain ⟨h1, h2⟩ := List.mem_filter.1 hg
        have := srt_one hu.srt h1 hm e
        subst this
        rw [show (t.any fun f => decide ((q, x) = f)) = true from hasF_iff.2 hgt] at h2
        cases h2
    · have hmf : (q, x) ∈ u.filter fun f => !(t.any fun g => decide (f = g)) := List.mem_filter.2 ⟨hm, by
        rw [show (t.any fun f => decide ((q, x) = f)) = false from not_true fun k => hgt (hasF_iff.1 k)]; rfl⟩
      rw [if_pos (inF_iff.2 ⟨_, hmf, rfl⟩), getT_mem hpr]
      exact hmf
end Go.Proofs.YtaidggjnpnfdhaaGreatDoor
namespace Go.Proofs.YtaidggjnpnfdhaaGreatDoor
open Go.RowKit

def pathsA (l : List Ac) : List ByteArray := (l.map (·.1)).foldl insP []
def lastA (l : List Ac) (p : ByteArray) : Ac := l.foldl (fun b a => if a.1 = p then a else b) (noS, false, noS)
def pickA (l : List Ac) : List Ac := (pathsA l).map (lastA l)
def netL (l : List Ac) : List Ac := ((pickA l).filter fun a => !a.2.1) ++ (pickA l).filter fun a => a.2.1
def wasA (t : List Fil) (p : ByteArray) : Ac := (p, (getT t p.data.toList).isSome, (getT t p.data.toList).getD noS)
def undoL (t : List Fil) (l : List Ac) : List Ac := if treeR t then netL ((pathsA l).map (wasA t)) else []
theorem paths_srt (l : List Ac) : SrtB (pathsA l) := (fold_ins (l.map fun a : Ac => a.1) [] List.Pairwise.nil).1
theorem paths_mem {l : List Ac} {x : ByteArray} : x ∈ pathsA l ↔ ∃ a ∈ l, a.1 = x := by
  unfold pathsA
  rw [(fold_ins (l.map fun a : Ac => a.1) [] List.Pairwise.nil).2 x, List.mem_map]
  simp
theorem paths_len (l : List Ac) : (pathsA l).length ≤ l.length := by
  have := fold_len (l.map fun a : Ac => a.1) []
  rw [List.length_map, List.length_nil, Nat.zero_add] at this
  exact this
theorem last_more (l : List Ac) (p : ByteArray) (j : Nat) (h : j < l.length) : lastA (l.take (j + 1)) p = if l[j].1 = p then l[j] else lastA (l.take j) p := by
  unfold lastA
  rw [List.take_add_one, List.getElem?_eq_getElem h, List.foldl_append]; rfl
theorem last_go : ∀ (l : List Ac) (p : ByteArray) (b : Ac), (l.foldl (fun b a => if a.1 = p then a else b) b = b ∧ ∀ a ∈ l, a.1 ≠ p) ∨ (l.foldl (fun b a => if a.1 = p then a else b) b ∈ l ∧ (l.foldl (fun b a => if a.1 = p then a else b) b).1 = p)
  | [], p, b => .inl ⟨rfl, by simp⟩
  | x :: l, p, b => by
    rw [List.foldl_cons]
    by_cases e : x.1 = p
    · rw [if_pos e]
      rcases last_go l p x with ⟨h, -⟩ | ⟨h, k⟩
      · exact .inr ⟨by rw [h]; exact List.mem_cons_self, by rw [h]; exact e⟩
      · exact .inr ⟨List.mem_cons_of_mem _ h, k⟩
    · rw [if_neg e]
      rcases last_go l p b with ⟨h, k⟩ | ⟨h, k⟩
      · exact .inl ⟨h, fun a ha => (List.mem_cons.1 ha).elim (fun e2 => by rw [e2]; exact e) (k a)⟩
      · exact .inr ⟨List.mem_cons_of_mem _ h, k⟩
theorem last_in {l : List Ac} {p : ByteArray} (h : ∃ a ∈ l, a.1 = p) : lastA l p ∈ l ∧ (lastA l p).1 = p := by
  rcases last_go l p (noS, false, noS) with ⟨-, k⟩ | k
  · obtain ⟨a, ha, e⟩ := h; exact absurd e (k a ha)
  · exact k
/-- Each path once: the last one is the only one. -/
theorem ac_one {l : List Ac} (h : l.Pairwise fun a b => a.1 ≠ b.1) {a b : Ac} (ha : a ∈ l) (hb : b ∈ l) (e : a.1 = b.1) : a = b := by
  obtain ⟨i, hi, rfl⟩ := List.mem_iff_getElem.1 ha
  obtain ⟨j, hj, rfl⟩ := List.mem_iff_getElem.1 hb
  have hh := List.pairwise_iff_getElem.1 h
  rcases Nat.lt_trichotomy i j with k | k | k
  · exact absurd e (hh i j hi hj k)
  · subst k; rfl
  · exact absurd e.symm (hh j i hj hi k)
theorem pick_mem {l : List Ac} (h : l.Pairwise fun a b => a.1 ≠ b.1) {a : Ac} : a ∈ pickA l ↔ a ∈ l := by
  unfold pickA
  rw [List.mem_map]
  constructor
  · rintro ⟨p, hp, rfl⟩
    exact (last_in (paths_mem.1 hp)).1
  · intro ha
    have hx : ∃ b ∈ l, b.1 = a.1 := ⟨a, ha, rfl⟩
    exact ⟨a.1, paths_mem.2 hx, ac_one h (last_in hx).1 ha (last_in hx).2⟩
def SrtAc (l : List Ac) : Prop := l.Pairwise fun a b => a.1.data.toList < b.1.data.toList
theorem srtAc_ne {l : List Ac} (h : SrtAc l) : l.Pairwise fun a b => a.1 ≠ b.1 := h.imp fun {a b} k e => by rw [e] at k; exact List.lt_irrefl _ k
theorem pick_srt (l : List Ac) : SrtAc (pickA l) := by
  refine List.pairwise_map.2 ?_
  refine (paths_srt l).imp_of_mem fun {a b} ha hb k => ?_
  rw [(last_in (paths_mem.1 ha)).2, (last_in (paths_mem.1 hb)).2]
  exact k
theorem srtAc_one {a b : List Ac} (ha : SrtAc a) (hb : SrtAc b) (h : ∀ x, x ∈ a ↔ x ∈ b) : a = b :=
  pw_one (fun _ _ h1 h2 => absurd h2 (List.lt_asymm h1)) ha hb h
theorem pick_self {l : List Ac} (h : SrtAc l) : pickA l = l := srtAc_one (pick_srt l) h fun _ => pick_mem (srtAc_ne h)
theorem net_srt {l : List Ac} (h : SrtAc l) : netL l = (l.filter fun a => !a.2.1) ++ l.filter fun a => a.2.1 := by unfold netL; rw [pick_self h]
/-- What stands ahead, rising, of what stands behind, rising: the net is the same. -/
theorem net_self {l : List Ac} (h : l.Pairwise AhA) (hne : l.Pairwise fun a b => a.1 ≠ b.1) : netL l = l := by
  have hahead : ∀ (l : List Ac), l.Pairwise AhA → l = (l.filter fun a => !a.2.1) ++ l.filter fun a => a.2.1 := by
    intro l
    induction l with
    | nil => intro _; rfl
    | cons a l ih =>
      intro h
      obtain ⟨h1, h2⟩ := List.pairwise_cons.1 h
      cases ha : a.2.1 with
      | false =>
        rw [List.filter_cons_of_pos (by rw [ha]; rfl), List.filter_cons_of_neg (by rw [ha]; simp), List.cons_append, ← ih h2]
      | true =>
        have hall : ∀ b ∈ l, b.2.1 = true := fun b hb => by
          rcases h1 b hb with ⟨k, -⟩ | ⟨k, -⟩
          · rw [ha] at k; cases k
          · rw [← k]; exact ha
        have e1 : (l.filter fun a => !a.2.1) = [] := List.filter_eq_nil_iff.2 fun b hb => by rw [hall b hb]; simp
        have e2 : (l.filter fun a => a.2.1) = l := List.filter_eq_self.2 fun b hb => hall b hb
        rw [List.filter_cons_of_neg (by rw [ha]; simp), List.filter_cons_of_pos (by rw [ha]), e1, e2]; rfl
  have hpart : ∀ (v : Bool), ((pickA l).filter fun a => a.2.1 == v) = l.filter fun a => a.2.1 == v := fun v => by
    refine srtAc_one ((pick_srt l).filter _) ?_ fun x => by rw [List.mem_filter, List.mem_filter, pick_mem hne]
    have : (l.filter fun a => a.2.1 == v).Pairwise AhA := h.filter _
    refine this.imp_of_mem fun {a b} ha hb k => ?_
    have e1 := (List.mem_filter.1 ha).2
    have e2 := (List.mem_filter.1 hb).2
    rw [beq_iff_eq] at e1 e2
    rcases k with ⟨k1, k2⟩ | ⟨-, k⟩
    · rw [k1] at e1; rw [k2] at e2; rw [← e1] at e2; cases e2
    · exact k
  have hb1 : ∀ a : Ac, (a.2.1 == false) = !a.2.1 := fun a => by cases a.2.1 <;> rfl
  have hb2 : ∀ a : Ac, (a.2.1 == true) = a.2.1 := fun a => by cases a.2.1 <;> rfl
  have p1 := hpart false
  have p2 := hpart true
  simp only [hb1, hb2] at p1 p2
  unfold netL
  rw [p1, p2, ← hahead l h]
theorem plan_ne {t u : List Fil} (ht : Srt t) (hu : Srt u) : (planL t u).Pairwise fun a b => a.1 ≠ b.1 := by
  refine (plan_srt ht hu).imp_of_mem fun {a b} ha hb k e => ?_
  rcases k with ⟨k1, k2⟩ | ⟨-, k⟩
  · rcases plan_mem.1 ha with ⟨f, hf, hn, rfl⟩ | ⟨g, hg, hn, rfl⟩
    · rcases plan_mem.1 hb with ⟨f', hf', hn', rfl⟩ | ⟨g', hg', hn', rfl⟩
      · cases k2
      · exact hn g' hg' e.symm
    · cases k1
  · rw [e] at k; exact List.lt_irrefl _ k
theorem paths_once {l : List Ac} (h : l.Pairwise fun a b => a.1 ≠ b.1) : (pathsA l).length = l.length := by
  refine Nat.le_antisymm (paths_len l) ?_
  have key : ∀ (l : List Ac) (s : List ByteArray), (l.Pairwise fun a b => a.1 ≠ b.1) → SrtS s → (∀ a ∈ l, a.1 ∈ s) → l.length ≤ s.length := by
    intro l
    induction l with
    | nil => intro s _ _ _; simp
    | cons a l ih =>
      intro s hl hs hx
      obtain ⟨h1, h2⟩ := List.pairwise_cons.1 hl
      have hm := hx a List.mem_cons_self
      have := ih (s.filter fun x => decide (x ≠ a.1)) h2 (hs.filter _) fun b hb => List.mem_filter.2 ⟨hx b (List.mem_cons_of_mem _ hb), by simpa using (h1 b hb).symm⟩
      have hlt : (s.filter fun x => decide (x ≠ a.1)).length < s.length := by
        refine List.length_filter_lt_length_iff_exists.2 ⟨a.1, hm, by simp⟩
      rw [List.length_cons]
      omega
  exact key l (pathsA l) h (paths_srt l) fun a ha => paths_mem.2 ⟨a, ha, rfl⟩
end Go.Proofs.YtaidggjnpnfdhaaGreatDoor
namespace Go.Proofs.YtaidggjnpnfdhaaGreatDoor
open Go.RowKit

theorem dl_map {l : List Ac} (h : ∀ a ∈ l, a.2.1 = false ∧ a.2.2 = noS) : l = (l.map fun a => ((a.1, a.2.2) : Fil)).map fun f => (f.1, false, noS) := by
  rw [List.map_map]
  conv => lhs; rw [← List.map_id l]
  refine List.map_congr_left fun a ha => ?_
  obtain ⟨p, b, d⟩ := a
  obtain ⟨h1, h2⟩ := h _ ha
  dsimp only at h1 h2
  subst h1 h2
  rfl
theorem pl_map {l : List Ac} (h : ∀ a ∈ l, a.2.1 = true) : l = (l.map fun a => ((a.1, a.2.2) : Fil)).map fun f => (f.1, true, f.2) := by
  rw [List.map_map]
  conv => lhs; rw [← List.map_id l]
  refine List.map_congr_left fun a ha => ?_
  obtain ⟨p, b, d⟩ := a
  have h1 := h _ ha
  dsimp only at h1
  subst h1
  rfl
theorem says_one : ∀ {l : List Ac} {a : Ac} {g : Option ByteArray}, (l.Pairwise fun a b => a.1 ≠ b.1) → a ∈ l → saysA l a.1 g = lastV a
  | b :: l, a, g, h, ha => by
    obtain ⟨h1, h2⟩ := List.pairwise_cons.1 h
    show saysA l a.1 (if b.1 = a.1 then lastV b else g) = _
    rcases List.mem_cons.1 ha with e | e
    · subst e
      rw [if_pos rfl]
      exact says_no fun c hc k => h1 c hc k.symm
    · exact says_one h2 e
theorem was_last (t : List Fil) (p : ByteArray) : lastV (wasA t p) = getT t p.data.toList := by
  unfold lastV wasA
  dsimp only
  cases getT t p.data.toList <;> rfl
theorem getT_isSome {t : List Fil} (h : RightT t) (p : ByteArray) : (getT t p.data.toList).isSome = inF t p := gT_in h p
theorem getT_no {t : List Fil} (h : RightT t) {p : ByteArray} (k : inF t p = false) : getT t p.data.toList = none := by
  have := gT_in h p
  rw [k] at this
  exact Option.isSome_eq_false_iff.1 this |> Option.isNone_iff_eq_none.1
def backL (t x : List Fil) (l : List Ac) : List Ac := (undoL t l).filter fun a => a.2.1 || inF x a.1
theorem undo_mem {t : List Fil} (ht : RightT t) {l : List Ac} {a : Ac} : a ∈ undoL t l ↔ ∃ p ∈ pathsA l, a = wasA t p := by
  have hs : SrtAc ((pathsA l).map (wasA t)) := List.pairwise_map.2 (paths_srt l)
  unfold undoL
  rw [(treeR_iff t).2 ht, if_pos rfl, net_srt hs, List.mem_append, List.mem_filter, List.mem_filter, List.mem_map]
  constructor
  · rintro (⟨⟨p, hp, rfl⟩, -⟩ | ⟨⟨p, hp, rfl⟩, -⟩)
    · exact ⟨p, hp, rfl⟩
    · exact ⟨p, hp, rfl⟩
  · rintro ⟨p, hp, rfl⟩
    cases h : (wasA t p).2.1 with
    | true => exact .inr ⟨⟨p, hp, rfl⟩, rfl⟩
    | false => exact .inl ⟨⟨p, hp, rfl⟩, rfl⟩
theorem undo_split {t : List Fil} (ht : RightT t) (l : List Ac) : undoL t l = ((undoL t l).filter fun a => !a.2.1) ++ (undoL t l).filter fun a => a.2.1 := by
  have hs : SrtAc ((pathsA l).map (wasA t)) := List.pairwise_map.2 (paths_srt l)
  unfold undoL
  rw [(treeR_iff t).2 ht, if_pos rfl, net_srt hs]
  have e0 : List.filter (fun _ : Ac => false) ((pathsA l).map (wasA t)) = [] := List.filter_eq_nil_iff.2 (by simp)
  simp [List.filter_append, List.filter_filter, e0]
theorem undo_ne {t : List Fil} (ht : RightT t) (l : List Ac) : (undoL t l).Pairwise fun a b => a.1 ≠ b.1 := by
  have hs : SrtAc ((pathsA l).map (wasA t)) := List.pairwise_map.2 (paths_srt l)
  unfold undoL
  rw [(treeR_iff t).2 ht, if_pos rfl, net_srt hs]
  refine List.pairwise_append.2 ⟨srtAc_ne (hs.filter _), srtAc_ne (hs.filter _), fun a ha b hb e => ?_⟩
  obtain ⟨a1, a2⟩ := List.mem_filter.1 ha
  obtain ⟨b1, b2⟩ := List.mem_filter.1 hb
  have := ac_one (srtAc_ne hs) a1 b1 e
  subst this
  rw [b2] at a2
  cases a2
theorem undo_do {t : List Fil} {l : List Ac} (ht : RightT t) (h : doE t l = 0) : doE (doL t l) (backL t (doL t l) l) = 0 ∧ doL (doL t l) (backL t (doL t l) l) = t := by
  have hx := do_right ht h
  have hget := do_get h
  generalize doL t l = x at *
  have hne : (backL t x l).Pairwise fun a b => a.1 ≠ b.1 := (undo_ne ht l).filter _
  have hbm : ∀ a, a ∈ backL t x l ↔ (∃ p ∈ pathsA l, a = wasA t p) ∧ (a.2.1 || inF x a.1) = true := fun a => by unfold backL; rw [List.mem_filter, undo_mem ht]
  have hsplit : backL t x l = ((backL t x l).filter fun a => !a.2.1) ++ (backL t x l).filter fun a => a.2.1 := by
    unfold backL
    conv => lhs; rw [undo_split ht l]
    rw [List.filter_append, List.filter_filter, List.filter_filter, List.filter_filter, List.filter_filter]
    congr 1
    · refine List.filter_congr fun a _ => ?_; cases a.2.1 <;> cases inF x a.1 <;> rfl
    · refine List.filter_congr fun a _ => ?_; cases a.2.1 <;> cases inF x a.1 <;> rfl
  have hout : ∀ q : ByteArray, (∀ a ∈ backL t x l, a.1 ≠ q) → getT x q.data.toList = getT t q.data.toList := fun q hq => by
    by_cases hp : q ∈ pathsA l
    · have hn : ¬ wasA t q ∈ backL t x l := fun k => hq _ k rfl
      rw [hbm] at hn
      have hf : ((wasA t q).2.1 || inF x q) = false := not_true fun k => hn ⟨⟨q, hp, rfl⟩, k⟩
      rw [Bool.or_eq_false_iff] at hf
      have h1 : inF t q = false := by rw [← gT_in ht]; exact hf.1
      rw [getT_no ht h1, getT_no hx hf.2]
    · rw [hget]
      exact says_no fun a ha k => hp (paths_mem.2 ⟨a, ha, k⟩)
  have hdl : ∀ a ∈ (backL t x l).filter fun a => !a.2.1, a.2.1 = false ∧ a.2.2 = noS := fun a ha => by
    obtain ⟨h1, h2⟩ := List.mem_filter.1 ha
    rw [Bool.not_eq_true'] at h2
    refine ⟨h2, ?_⟩
    obtain ⟨⟨p, -, rfl⟩, -⟩ := (hbm a).1 h1
    unfold wasA at h2 ⊢
    dsimp only at h2 ⊢
    cases hg : getT t p.data.toList with
    | none => rfl
    | some y => rw [hg] at h2; cases h2
  have hpl : ∀ a ∈ (backL t x l).filter fun a => a.2.1, a.2.1 = true := fun a ha => (List.mem_filter.1 ha).2
  have hD : doE x ((backL t x l).filter fun a => !a.2.1) = 0 := by
    rw [dl_map hdl]
    refine drops_do _ hx (List.pairwise_map.2 (hne.filter _)) fun f hf => ?_
    obtain ⟨a, ha, rfl⟩ := List.mem_map.1 hf
    obtain ⟨h1, h2⟩ := List.mem_filter.1 ha
    have h3 := ((hbm a).1 h1).2
    rw [(hdl a ha).1, Bool.false_or] at h3
    obtain ⟨g, hg, e⟩ := inF_iff.1 h3
    exact there_iff.2 ⟨g, hg, by unfold pth; rw [e]⟩
  have hR := do_right hx hD
  have hP : doE (doL x ((backL t x l).filter fun a => !a.2.1)) ((backL t x l).filter fun a => a.2.1) = 0 := by
    rw [pl_map hpl]
    refine puts_do ht _ hR (fun f hf => ?_) fun g hg => ?_
    · have h1 := (getT_mem hR).2 (show (f.1, f.2) ∈ _ from hf)
      rw [do_get hD] at h1
      by_cases hd : ∃ a ∈ (backL t x l).filter (fun a => !a.2.1), a.1 = f.1
      · obtain ⟨a, ha, e⟩ := hd
        rw [← e, says_one (hne.filter _) ha] at h1
        unfold lastV at h1
        rw [(hdl a ha).1] at h1
        cases h1
      · rw [says_no fun a ha k => hd ⟨a, ha, k⟩] at h1
        by_cases hb : ∃ a ∈ backL t x l, a.1 = f.1
        · obtain ⟨a, ha, e⟩ := hb
          have hput : a.2.1 = true := by
            cases hp : a.2.1 with
            | true => rfl
            | false => exact absurd ⟨a, List.mem_filter.2 ⟨ha, by rw [hp]; rfl⟩, e⟩ hd
          obtain ⟨⟨p, -, rfl⟩, -⟩ := (hbm a).1 ha
          have h2 : inF t p = true := by rw [← gT_in ht]; exact hput
          obtain ⟨g, hg, e2⟩ := inF_iff.1 h2
          exact List.mem_map.2 ⟨g, hg, e2.trans e⟩
        · rw [hout f.1 fun a ha k => hb ⟨a, ha, k⟩] at h1
          exact List.mem_map.2 ⟨_, (getT_mem ht).1 h1, rfl⟩
    · obtain ⟨a, ha, rfl⟩ := List.mem_map.1 hg
      obtain ⟨h1, h2⟩ := List.mem_filter.1 ha
      obtain ⟨⟨p, -, rfl⟩, -⟩ := (hbm a).1 h1
      refine (getT_mem ht).1 ?_
      unfold wasA at h2 ⊢
      dsimp only at h2 ⊢
      cases hg : getT t p.data.toList with
      | none => rw [hg] at h2; cases h2
      | some y => rfl
  have hE : doE x (backL t x l) = 0 := by rw [hsplit, doE_app, hD]; exact hP
  refine ⟨hE, getT_ext (do_right hx hE) ht fun q => ?_⟩
  rw [do_get hE]
  by_cases hb : ∃ a ∈ backL t x l, a.1 = q
  · obtain ⟨a, ha, rfl⟩ := hb
    rw [says_one hne ha]
    obtain ⟨⟨p, -, rfl⟩, -⟩ := (hbm a).1 ha
    exact was_last t p
  · rw [says_no fun a ha k => hb ⟨a, ha, k⟩]
    exact hout q fun a ha k => hb ⟨a, ha, k⟩
end Go.Proofs.YtaidggjnpnfdhaaGreatDoor
namespace Go.Proofs.YtaidggjnpnfdhaaGreatDoor
open Go.RowKit

theorem act_P {P : Fil → Prop} {t : List Fil} {a : Ac} (ht : ∀ f ∈ t, P f) (ha : P (a.1, a.2.2)) : ∀ f ∈ actT t a, P f := by
  intro f hf
  unfold actT at hf
  split at hf
  · rcases mem_put.1 hf with rfl | ⟨hf, -⟩
    · exact ha
    · exact ht f hf
  · exact ht f (mem_drop.1 hf).1
theorem do_P {P : Fil → Prop} : ∀ {t : List Fil} {l : List Ac}, (∀ f ∈ t, P f) → (∀ a ∈ l, P (a.1, a.2.2)) → ∀ f ∈ doL t l, P f
  | _, [], ht, _ => ht
  | t, a :: _, ht, hl => do_P (t := actT t a) (act_P ht (hl a List.mem_cons_self)) fun b hb => hl b (List.mem_cons_of_mem _ hb)
theorem doT_P {P : Fil → Prop} {t : List Fil} {l : List Ac} {r : Int} (ht : ∀ f ∈ t, P f) (hl : ∀ a ∈ l, P (a.1, a.2.2)) : ∀ f ∈ doT t l r, P f := by
  unfold doT
  split
  · exact do_P ht hl
  · intro f hf; cases hf
theorem doN_zero {t : List Fil} {l : List Ac} {r : Int} : doN t l r = 0 ↔ RightT t ∧ doE t l = 0 ∧ ((sizeT (doL t l) : Nat) : Int) ≤ r := by
  unfold doN
  rw [← treeR_iff]
  by_cases h1 : treeR t = true
  · rw [if_pos h1]
    by_cases h2 : doE t l = 0
    · rw [if_pos h2]
      by_cases h3 : r < ((sizeT (doL t l) : Nat) : Int)
      · rw [if_pos h3]; constructor
        · intro h; cases h
        · rintro ⟨-, -, h⟩; omega
      · rw [if_neg h3]; exact ⟨fun _ => ⟨h1, h2, by omega⟩, fun _ => rfl⟩
    · rw [if_neg h2]; exact ⟨fun h => absurd h h2, fun h => absurd h.2.1 h2⟩
  · rw [if_neg h1]; constructor
    · intro h; cases h
    · exact fun h => absurd h.1 h1
theorem doT_zero {t : List Fil} {l : List Ac} {r : Int} (h : doN t l r = 0) : doT t l r = doL t l := by unfold doT; rw [if_pos h]
theorem doT_not {t : List Fil} {l : List Ac} {r : Int} (h : doN t l r ≠ 0) : doT t l r = [] := by unfold doT; rw [if_neg h]
theorem doT_right {t : List Fil} {l : List Ac} {r : Int} (h : doN t l r = 0) : RightT (doT t l r) := by
  rw [doT_zero h]
  obtain ⟨h1, h2, -⟩ := doN_zero.1 h
  exact do_right h1 h2
theorem doN_big (t : List Fil) (l : List Ac) {r : Int} (h : 9600 ≤ r) : doN t l r = if treeR t then doE t l else 1 := by
  unfold doN
  by_cases h1 : treeR t = true
  · rw [if_pos h1, if_pos h1]
    by_cases h2 : doE t l = 0
    · have := size_le (do_right ((treeR_iff t).1 h1) h2)
      rw [if_pos h2, if_neg (by omega), h2]
    · rw [if_neg h2]
  · rw [if_neg h1, if_neg h1]

/-! ### Room -/
theorem room_yes {t : List Fil} {l : List Ac} {r m : Int} (h : doN t l r = 0) (hm : 0 ≤ m) : doN t l (r + m) = 0 ∧ doT t l (r + m) = doT t l r ∧ ((sizeT (doT t l r) : Nat) : Int) ≤ r := by
  obtain ⟨h1, h2, h3⟩ := doN_zero.1 h
  have h4 : doN t l (r + m) = 0 := doN_zero.2 ⟨h1, h2, by omega⟩
  rw [doT_zero h4, doT_zero h]
  exact ⟨h4, rfl, h3⟩
theorem room_no {t : List Fil} {l : List Ac} {r m : Int} (h : doN t l r ≠ 0) : doN t l (r + m) = doN t l r ∨ (doN t l r = 2 ∧ doN t l (r + m) = 0 ∧ r < ((sizeT (doT t l (r + m)) : Nat) : Int)) := by
  by_cases h1 : treeR t = true
  · by_cases h2 : doE t l = 0
    · have h3 : r < ((sizeT (doL t l) : Nat) : Int) := by
        refine Int.not_le.1 fun k => h (doN_zero.2 ⟨(treeR_iff t).1 h1, h2, k⟩)
      have e1 : doN t l r = 2 := by unfold doN; rw [if_pos h1, if_pos h2, if_pos h3]
      by_cases h4 : doN t l (r + m) = 0
      · exact .inr ⟨e1, h4, by rw [doT_zero h4]; exact h3⟩
      · refine .inl ?_
        have h5 : r + m < ((sizeT (doL t l) : Nat) : Int) := by
          refine Int.not_le.1 fun k => h4 (doN_zero.2 ⟨(treeR_iff t).1 h1, h2, k⟩)
        rw [e1]; unfold doN; rw [if_pos h1, if_pos h2, if_pos h5]
    · refine .inl ?_
      unfold doN; rw [if_pos h1, if_neg h2, if_pos h1, if_neg h2]
  · refine .inl ?_
    unfold doN; rw [if_neg h1, if_neg h1]

/-! ### Two parts -/
theorem parts_no {t : List Fil} {l : List Ac} {k : Nat} {r : Int} (hr : 9600 ≤ r) (h : doN t (l.take k) r ≠ 0) : doN t l r = doN t (l.take k) r ∧ doT t l r = [] := by
  have e : doN t l r = doN t (l.take k) r := by
    rw [doN_big _ _ hr, doN_big _ _ hr] at *
    by_cases h1 : treeR t = true
    · rw [if_pos h1] at *
      rw [if_pos h1]
      exact do_stop h
    · rw [if_neg h1, if_neg h1]
  exact ⟨e, doT_not (by rw [e]; exact h)⟩
theorem parts_yes {t : List Fil} {l : List Ac} {k : Nat} {r : Int} (hr : 9600 ≤ r) (h : doN t (l.take k) r = 0) : doN (doT t (l.take k) r) (l.drop k) r = doN t l r ∧ doT (doT t (l.take k) r) (l.drop k) r = doT t l r := by
  have hR := doT_right h
  obtain ⟨h1, h2, -⟩ := doN_zero.1 h
  have e1 := doE_app t (l.take k) (l.drop k)
  have e2 := doL_app t (l.take k) (l.drop k)
  rw [List.take_append_drop] at e1 e2
  rw [if_pos h2] at e1
  have e3 : doN (doT t (l.take k) r) (l.drop k) r = doN t l r := by
    rw [doN_big _ _ hr, doN_big _ _ hr, (treeR_iff _).2 hR, (treeR_iff _).2 h1, if_pos rfl, if_pos rfl, doT_zero h, e1]
  refine ⟨e3, ?_⟩
  by_cases h0 : doN t l r = 0
  · rw [doT_zero h0, doT_zero (by rw [e3]; exact h0), doT_zero h, e2]
  · rw [doT_not h0, doT_not (by rw [e3]; exact h0)]

/-! ### A plan, done -/
theorem plan_self (u : List Fil) : planL u u = [] := by
  have h1 : dropsL u u = [] := by
    unfold dropsL
    rw [List.filter_eq_nil_iff.2 ?_]; rfl
    intro f hf
    have : (u.any fun g => decide (g.1 = f.1)) = true := List.any_eq_true.2 ⟨f, hf, by simp⟩
    rw [this]; simp
  have h2 : putsL u u = [] := by
    unfold putsL
    rw [List.filter_eq_nil_iff.2 ?_]; rfl
    intro f hf
    have : (u.any fun g => decide (f = g)) = true := List.any_eq_true.2 ⟨f, hf, by simp⟩
    rw [this]; simp
  unfold planL; rw [h1, h2]; rfl
theorem plan_zero {t : List Fil} {es : List Ent} (h : planN t es = 0) : RightT t ∧ archR es = true ∧ RightT (treeE es) := by
  unfold planN at h
  split at h
  · rename_i hk
    rw [Bool.and_eq_true] at hk
    refine ⟨(treeR_iff t).1 hk.1, hk.2, ?_⟩
    rw [treeE, hk.2, if_pos rfl]
    exact (treeR_iff _).1 ((archR_iff es).1 hk.2).tree
  · cases h
theorem plan_done {t : List Fil} {es : List Ent} {r : Int} (hr : 9600 ≤ r) (h : planN t es = 0) : doN t (planA t es) r = 0 ∧ doT t (planA t es) r = treeE es ∧ planN (treeE es) es = 0 ∧ planA (treeE es) es = [] ∧ (pathsA (planA t es)).length = (planA t es).length ∧ netL (planA t es) = planA t es := by
  obtain ⟨h1, h2, h3⟩ := plan_zero h
  have hA : planA t es = planL t (treeE es) := by unfold planA; rw [if_pos h]
  obtain ⟨p1, p2⟩ := plan_do h1 h3
  have h0 : doN t (planA t es) r = 0 := by rw [doN_big _ _ hr, (treeR_iff t).2 h1, if_pos rfl, hA]; exact p1
  have h4 : planN (treeE es) es = 0 := by unfold planN; rw [(treeR_iff _).2 h3, h2]; rfl
  have hne := plan_ne h1.srt h3.srt
  refine ⟨h0, ?_, h4, ?_, ?_, ?_⟩
  · rw [doT_zero h0, hA]; exact p2
  · unfold planA; rw [if_pos h4]; exact plan_self _
  · rw [hA]; exact paths_once hne
  · rw [hA]; exact net_self (plan_srt h1.srt h3.srt) hne

/-! ### Undone -/
theorem undone {t : List Fil} {l : List Ac} {r : Int} (hr : 9600 ≤ r) (h : doN t l r = 0) : doN (doT t l r) (backL t (doT t l r) l) r = 0 ∧ doT (doT t l r) (backL t (doT t l r) l) r = t := by
  obtain ⟨h1, h2, -⟩ := doN_zero.1 h
  obtain ⟨u1, u2⟩ := undo_do h1 h2
  have hR := doT_right h
  rw [doT_zero h] at hR ⊢
  have h0 : doN (doL t l) (backL t (doL t l) l) r = 0 := by rw [doN_big _ _ hr, (treeR_iff _).2 hR, if_pos rfl]; exact u1
  exact ⟨h0, by rw [doT_zero h0]; exact u2⟩
theorem act_path {t : List Fil} {a : Ac} (h : actE t a = 0) : rightL a.1.data.toList = true := by
  unfold actE at h
  split at h
  · exact (putE_zero.1 h).2.1
  · obtain ⟨h1, h2⟩ := dropE_zero.1 h
    obtain ⟨f, hf, e⟩ := there_iff.1 h2
    rw [← e]
    exact h1.paths f hf
theorem do_paths : ∀ {t : List Fil} {l : List Ac}, doE t l = 0 → ∀ a ∈ l, rightL a.1.data.toList = true
  | t, b :: l, h, a, ha => by
    rw [doE] at h
    split at h
    · rename_i h0
      rcases List.mem_cons.1 ha with rfl | ha
      · exact act_path h0
      · exact do_paths h a ha
    · rename_i h0; exact absurd h h0
theorem paths_sorted {t : List Fil} {l : List Ac} {r : Int} (h : doN t l r = 0) : sortedL (lst (pathsA l)) = true := by
  obtain ⟨h1, h2, -⟩ := doN_zero.1 h
  refine srt_mk ?_ ?_
  · intro s hs
    obtain ⟨c, hc, rfl⟩ := List.mem_map.1 hs
    obtain ⟨a, ha, rfl⟩ := paths_mem.1 hc
    exact do_paths h2 a ha
  · exact List.pairwise_map.2 (paths_srt l)
/-- Of those that lead back: the first j. -/
theorem back_more (u : List Ac) (x : List Fil) (j : Nat) (h : j < u.length) : (u.take (j + 1)).filter (fun a => a.2.1 || inF x a.1) = (u.take j).filter (fun a => a.2.1 || inF x a.1) ++ (if u[j].2.1 || inF x u[j].1 then [u[j]] else []) := by
  rw [List.take_add_one, List.getElem?_eq_getElem h, List.filter_append]
  congr 1
  simp only [Option.toList_some, List.filter_cons, List.filter_nil]
theorem findT_in {x : List Fil} (h : RightT x) (p : ByteArray) : decide ((0 : Int) ≤ findT x p.data.toList) = inF x p := by
  unfold findT
  rw [(treeR_iff x).2 h, Bool.true_and]
  cases ht : thereT x p.data.toList with
  | true =>
    rw [if_pos rfl]
    obtain ⟨f, hf, e⟩ := there_iff.1 ht
    rw [inF_iff.2 ⟨f, hf, data_inj e⟩]
    exact decide_eq_true (by omega)
  | false =>
    rw [if_neg (by simp)]
    have : inF x p = false := not_true fun k => by
      obtain ⟨f, hf, e⟩ := inF_iff.1 k
      have h2 : thereT x p.data.toList = true := there_iff.2 ⟨f, hf, by unfold pth; rw [e]⟩
      rw [ht] at h2; cases h2
    rw [this]; rfl
theorem undo_len (t : List Fil) (l : List Ac) : (undoL t l).length ≤ l.length := by
  unfold undoL
  split
  · unfold netL
    have e : ∀ (m : List Ac), (m.filter fun a => !a.2.1).length + (m.filter fun a => a.2.1).length = m.length := by
      intro m
      induction m with
      | nil => rfl
      | cons a m ih => cases h : a.2.1 <;> simp [h] <;> omega
    rw [List.length_append, e]
    unfold pickA
    rw [List.length_map]
    have h1 := paths_len ((pathsA l).map (wasA t))
    rw [List.length_map] at h1
    have h2 := paths_len l
    omega
  · simp
theorem net_len (l : List Ac) : (netL l).length ≤ l.length := by
  unfold netL
  have e : ∀ (m : List Ac), (m.filter fun a => !a.2.1).length + (m.filter fun a => a.2.1).length = m.length := by
    intro m
    induction m with
    | nil => rfl
    | cons a m ih => cases h : a.2.1 <;> simp [h] <;> omega
  rw [List.length_append, e]
  unfold pickA
  rw [List.length_map]
  exact paths_len l

/-! ### Kept -/
theorem keptA {t : List Fil} {l : List Ac} {r : Int} (h : doN t l r = 0) (p : ByteArray) : getT (doT t l r) p.data.toList = saysA l p (getT t p.data.toList) ∧ ((sizeT (doT t l r) : Nat) : Int) ≤ r := by
  obtain ⟨-, h2, h3⟩ := doN_zero.1 h
  rw [doT_zero h]
  exact ⟨do_get h2 p, h3⟩
end Go.Proofs.YtaidggjnpnfdhaaGreatDoor
