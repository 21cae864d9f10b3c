/- The texts Jm, Jn, Sm, in one. -/
import Derived.Test.YtlmccjdpmhancaaDoorK6
namespace Go.Proofs.YtlmccjdpmhancaaDoor
open Go.RowKit

/-! ### What is told, to be read -/
theorem mrgA_sz {es fs : List Ent} (h : ∀ e ∈ es, SzE e) (k : ∀ e ∈ fs, SzE e) : ∀ e ∈ mrgA es fs, SzE e := by
  unfold mrgA
  split
  · exact mA_sz h k
  · simp
theorem fit_len {es : List Ent} (h : fitN es = 0) : es.length ≤ 32 := by
  unfold fitN at h
  split at h
  · cases h
  · omega
theorem mrgA_len (es fs : List Ent) : (mrgA es fs).length ≤ 32 := by
  unfold mrgA
  split
  · rename_i h
    unfold mrgN at h
    split at h
    · exact fit_len h
    · cases h
  · simp
theorem mrgC_len (es fs : List Ent) : (mrgC es fs).length ≤ 32 := by
  have h1 := mrgA_len es fs
  unfold mrgA at h1
  unfold mrgC
  split
  · rename_i h
    rw [if_pos h] at h1
    have h2 := mCp_len (mrgL es fs)
    have h3 : (mC es fs).length = (mCp (mrgL es fs)).length := rfl
    have h4 : (mA es fs).length = (mrgL es fs).length := List.length_map ..
    omega
  · simp
theorem merge_out {w : World} {A B : Option Addr} {n c m d : Nat} {es fs : List Ent} (h : Et w A n c es) (k : Et w B m d fs) :
    Calls Tryd.prog 8 #[.slice A n c, .slice B m d] w fun e w' => ∃ A' c' B' d', e = .returned (.tuple #[.slice A' (mrgA es fs).length c', .slice B' (mrgC es fs).length d', .int .i64 (mrgN es fs : Nat)]) ∧ Et w' A' (mrgA es fs).length c' (mrgA es fs) ∧ Rd w' B' (strV (mrgC es fs)) ∧ Below w.heap.size w w' :=
  (merge_any h k).mono fun e w' ⟨A', c', B', d', he, o, q, b⟩ => ⟨A', c', B', d', he, own5_et o (by have := mrgA_len es fs; omega) (mrgA_sz h.sz k.sz), Rd.of_own q, b⟩
theorem merge_val {w : World} {A B : Option Addr} {n c m d : Nat} {es fs : List Ent} (h : Et w A n c es) (k : Et w B m d fs) {la : List Ent} {lc : List ByteArray} {nA nC : Nat} {z : Int} (hA : mrgA es fs = la) (hC : mrgC es fs = lc) (ha : la.length = nA) (hc : lc.length = nC) (hz : ((mrgN es fs : Nat) : Int) = z) :
    Calls Tryd.prog 8 #[.slice A n c, .slice B m d] w fun e w' => ∃ A' c' B' d', e = .returned (.tuple #[.slice A' nA c', .slice B' nC d', .int .i64 z]) ∧ Et w' A' nA c' la ∧ Rd w' B' (strV lc) ∧ Below w.heap.size w w' := by
  have := merge_out h k
  rw [hA, hC, ha, hc, hz] at this
  exact this
theorem setE_sz {x y : Ent} (hx : SzE x) (hy : SzE y) (tk : Bool) (a : Int) : SzE (setE x y tk a) := by
  unfold setE SzE
  cases tk
  · exact hx
  · exact ⟨hx.1, hy.2⟩
theorem setA_sz {es fs : List Ent} {p : ByteArray} {tk : Bool} {a : Int} (h : ∀ e ∈ es, SzE e) (k : ∀ e ∈ fs, SzE e) : ∀ e ∈ setA es fs p tk a, SzE e := by
  intro e he
  unfold setA at he
  split at he
  · split at he
    · rename_i x y h1 h2
      rcases List.mem_or_eq_of_mem_set he with h3 | h3
      · exact h e h3
      · subst h3; exact setE_sz (h x (atE_mem h1).1) (k y (atE_mem h2).1) tk a
    · cases he
  · cases he
theorem setA_len {es fs : List Ent} {p : ByteArray} {tk : Bool} {a : Int} : (setA es fs p tk a).length ≤ es.length := by
  unfold setA
  split
  · split
    · rw [List.length_set]; exact Nat.le_refl _
    · simp
  · simp
theorem settle_out {w : World} {A B : Option Addr} {n c m d : Nat} {es fs : List Ent} (h : Et w A n c es) (k : Et w B m d fs) (p : ByteArray) (tk : Bool) (a : Int) :
    Calls Tryd.prog 12 #[.slice A n c, .slice B m d, .string p, .bool tk, .int .i64 a] w fun e w' => ∃ A' c', e = .returned (.tuple #[.slice A' (setA es fs p tk a).length c', .int .i64 (setN es fs p tk a : Nat)]) ∧ Et w' A' (setA es fs p tk a).length c' (setA es fs p tk a) ∧ Below w.heap.size w w' :=
  (settle_any h k p tk a).mono fun e w' ⟨A', c', he, o, b⟩ => ⟨A', c', he, own5_et o (by have := @setA_len es fs p tk a; have := h.len; have := h.big; omega) (setA_sz h.sz k.sz), b⟩
theorem settle_val {w : World} {A B : Option Addr} {n c m d : Nat} {es fs : List Ent} (h : Et w A n c es) (k : Et w B m d fs) (p : ByteArray) (tk : Bool) (a : Int) {la : List Ent} {nA : Nat} {z : Int} (hA : setA es fs p tk a = la) (ha : la.length = nA) (hz : ((setN es fs p tk a : Nat) : Int) = z) :
    Calls Tryd.prog 12 #[.slice A n c, .slice B m d, .string p, .bool tk, .int .i64 a] w fun e w' => ∃ A' c', e = .returned (.tuple #[.slice A' nA c', .int .i64 z]) ∧ Et w' A' nA c' la ∧ Below w.heap.size w w' := by
  have := settle_out h k p tk a
  rw [hA, ha, hz] at this
  exact this
theorem plan_val {w : World} {A B : Option Addr} {n c m d : Nat} {t : List Fil} {es : List Ent} (h : Ft w A n c t) (k : Et w B m d es) (hn : n ≤ 100000) (hm : m ≤ 100000) {la : List Ac} {nA : Nat} {z : Int} (hA : planA t es = la) (ha : la.length = nA) (hz : ((planN t es : Nat) : Int) = z) :
    Calls Tryd.prog 10 #[.slice A n c, .slice B m d] w fun e w' => ∃ A' c', e = .returned (.tuple #[.slice A' nA c', .int .i64 z]) ∧ Rd w' A' (actV la) ∧ Below w.heap.size w w' := by
  refine (plan_any h k hn hm).mono fun e w' ⟨A', c', he, o, b⟩ => ⟨A', c', by rw [hA, ha, hz] at he; exact he, ?_, b⟩
  rw [hA] at o
  rcases o.2 with ⟨e1, e0⟩ | ⟨g, cap, cur, e1, _⟩
  · have : la = [] := List.eq_nil_of_length_eq_zero e0
    subst this; exact .inl rfl
  · injection e1 with e1 e2 e3
    subst e1
    exact .inr ⟨_, rfl, o.cells (g := g) rfl⟩

/-! ### Actions alike -/
abbrev acA (a : Ac) : Value := .agg #[.string a.1, .bool a.2.1, .string a.2.2]
theorem eqAc (f g : Ac) (w : World) : (binOp .eql 43 (acA f) (acA g)).run Tryd.prog w = .ok (.bool (decide (f = g))) w := by
  have u9 := Tryd.underlying9
  have a9 := Tryd.isAgg9
  have z9 := Tryd.sizeOf9
  have u4 := Tryd.underlying4
  have a4 := Tryd.isAgg4
  have z4 := Tryd.sizeOf4
  have hS : Tryd.prog.underlying 43 = some (.struct (Tryd.prog.fieldsOf 43)) := by kernel_rfl
  have hp : Tryd.prog.stoodInHeld 43 = false := by kernel_rfl
  obtain ⟨f1, f2, f3⟩ := f
  obtain ⟨g1, g2, g3⟩ := g
  rw [run_eql_struct, show (10000 : Nat) = 9999 + 1 from rfl, run_equalIn_agg w 9999 43 _ _ hS hp]
  simp only [Program.fieldsOf, Tryd.underlying43]
  go_simp
  have inj : ∀ {a b : ByteArray}, a.toList = b.toList → a = b := fun h => data_inj (by rw [← Lib.toList_data, ← Lib.toList_data]; exact h)
  by_cases h1 : f1.toList = g1.toList
  · by_cases h2 : f2 = g2
    · by_cases h3 : f3.toList = g3.toList
      · rw [if_pos h1, if_pos h2, if_pos h3, decide_eq_true (inj h1), decide_eq_true h2, decide_eq_true (inj h3)]; rfl
      · rw [if_pos h1, if_pos h2, if_neg h3, decide_eq_true (inj h1), decide_eq_true h2, decide_eq_false (fun e => h3 (congrArg ByteArray.toList e))]; rfl
    · rw [if_pos h1, if_neg h2, decide_eq_true (inj h1), decide_eq_false h2]; rfl
  · rw [if_neg h1, decide_eq_false (fun e => h1 (congrArg ByteArray.toList e))]; rfl
theorem Rd.act {w : World} {A : Option Addr} {l : List Ac} (h : Rd w A (actV l)) {j : Nat} (hj : j < l.length) :
    ∃ b off, A = some ⟨b, off, none⟩ ∧ w.cell? ⟨b, off + j * 3, none⟩ = some (.string l[j].1) ∧ w.cell? ⟨b, off + j * 3 + 1, none⟩ = some (.bool l[j].2.1) ∧ w.cell? ⟨b, off + j * 3 + 2, none⟩ = some (.string l[j].2.2) ∧ b < w.heap.size := by
  have hl := actV_length l
  obtain ⟨b, off, rfl, -, hb⟩ := h.at_ (k := j * 3) (by omega)
  have at3 : ∀ (l : List Ac) (j : Nat) (h : j < l.length) (q : Nat), q < 3 → (actV l)[j * 3 + q]? = (aV l[j])[q]? := by
    intro l
    induction l with
    | nil => intro j h; simp at h
    | cons a l ih =>
      intro j h q hq
      rw [show actV (a :: l) = aV a ++ actV l from rfl]
      cases j with
      | zero => rw [Nat.zero_mul, Nat.zero_add, List.getElem?_append_left (by simp [aV]; exact hq)]; rfl
      | succ j => rw [List.getElem?_append_right (by simp [aV]; omega), show (j + 1) * 3 + q - (aV a).length = j * 3 + q by simp [aV]; omega, ih j (by simpa using h) q hq]; rfl
  have g : ∀ q, q < 3 → w.cell? ⟨b, off + j * 3 + q, none⟩ = (aV l[j])[q]? := by
    intro q hq
    rw [Nat.add_assoc]
    obtain ⟨b', off', e, hc, -⟩ := h.at_ (k := j * 3 + q) (by omega)
    injection e with e; injection e with e1 e2; subst e1 e2
    rw [hc, ← List.getElem?_eq_getElem, at3 l j hj q hq]
  exact ⟨b, off, rfl, g 0 (by omega), g 1 (by omega), g 2 (by omega), hb⟩

/-! ### The small case's lists -/
abbrev tf : ByteArray := ⟨#[102]⟩
abbrev tg : ByteArray := ⟨#[103]⟩
abbrev th : ByteArray := ⟨#[104]⟩
abbrev tx : ByteArray := ⟨#[120]⟩
abbrev t1s : ByteArray := ⟨#[49]⟩
abbrev t2s : ByteArray := ⟨#[50]⟩
abbrev e1f : Ent := ⟨tf, true, t1s, 2, 0⟩
abbrev e1g : Ent := ⟨tg, true, t1s, 1, 0⟩
abbrev e2f : Ent := ⟨tf, true, t2s, 1, 1⟩
abbrev e2g : Ent := ⟨tg, false, noS, 1, 1⟩
abbrev e2h : Ent := ⟨th, true, noS, 0, 1⟩
abbrev e3f : Ent := ⟨tf, true, t2s, 3, 1⟩
abbrev SA : List Ent := [e1f, e1g]
abbrev SB : List Ent := [e2f, e2g, e2h]
abbrev SL : List Ent := [e1f, e2g, e2h]
abbrev SS : List Ent := [e3f, e2g, e2h]
theorem sm1 : mrgL SA SB = [(e1f, true), (e2g, false), (e2h, false)] := by
  rw [mrgL, if_pos rfl, mrgL, if_pos rfl, mrgL, mrgL, show comeE e1f e2f = (e1f, true) by decide +kernel, show comeE e1g e2g = (e2g, false) by decide +kernel]
theorem sm2 : mrgL SL SB = [(e1f, true), (e2g, false), (e2h, false)] := by
  rw [mrgL, if_pos rfl, mrgL, if_pos rfl, mrgL, if_pos rfl, mrgL, show comeE e1f e2f = (e1f, true) by decide +kernel, show comeE e2g e2g = (e2g, false) by decide +kernel, show comeE e2h e2h = (e2h, false) by decide +kernel]
theorem sm_fit : fitN SL = 0 := by decide +kernel
theorem sm_mN : mrgN SA SB = 0 := by
  rw [mrgN_fit (by decide +kernel) (by decide +kernel), mA, sm1]; exact sm_fit
theorem sm_mA : mrgA SA SB = SL := by rw [mrgA, if_pos sm_mN, mA, sm1]; rfl
theorem sm_mC : mrgC SA SB = [tf] := by rw [mrgC, if_pos sm_mN, mC, sm1]; rfl
theorem sm_mN2 : mrgN SL SB = 0 := by
  rw [mrgN_fit (by decide +kernel) (by decide +kernel), mA, sm2]; exact sm_fit
theorem sm_mC2 : mC SL SB = [tf] := by rw [mC, sm2]; rfl
theorem sm_sN : setN SL SB tf true 0 = 0 := by
  rw [setN_at (i := 0) (j := 0) sm_mN2 (by rw [sm_mC2]; exact List.mem_singleton.2 rfl) (by decide) (by decide) (by decide +kernel) (by decide +kernel)]
  decide +kernel
theorem sm_sA : setA SL SB tf true 0 = SS := by
  rw [setA_at (i := 0) (j := 0) sm_sN (by decide) (by decide) (by decide +kernel) (by decide +kernel)]
  decide +kernel
theorem sm_sN2 : setN SL SB tg true 0 = 3 := setN_no sm_mN2 (by rw [sm_mC2, List.mem_singleton]; decide +kernel)
theorem sm_sA2 : setA SL SB tg true 0 = [] := by unfold setA; rw [sm_sN2]; rfl
theorem sm_t : treeE SA = [(tf, t1s), (tg, t1s)] := by decide +kernel
theorem sm_pN : planN [(tf, t1s), (tg, t1s)] SL = 0 := by decide +kernel
theorem sm_pA : planA [(tf, t1s), (tg, t1s)] SL = [(tg, false, noS), (th, true, noS)] := by decide +kernel
theorem sm_a1 : agreeB SL SB tg = true := by decide +kernel
theorem sm_a2 : agreeB SL SB tf = false := by decide +kernel
theorem sm_a3 : agreeB SL SB tx = true := by decide +kernel
end Go.Proofs.YtlmccjdpmhancaaDoor
namespace Go.Proofs.YtlmccjdpmhancaaDoor
open Go.RowKit

set_option maxRecDepth 20000 in
set_option maxHeartbeats 4000000 in
theorem small_any (w : World) : Calls Tryd.prog 5 #[] w fun e w' => e = .returned (.bool true) ∧ Below w.heap.size w w' := by
  have hal : ∀ (W : World) (o : Obj), Below W.heap.size W (W.alloc o) := fun W o => (Below.refl _ _).alloc (Nat.le_refl _) o
  have EA : Et ((w.alloc (.cells #[.string ⟨#[102]⟩, .bool true, .string ⟨#[49]⟩, .int .i64 2, .int .i64 0, .string ⟨#[103]⟩, .bool true, .string ⟨#[49]⟩, .int .i64 1, .int .i64 0] 34)).alloc (.cells #[.string ⟨#[102]⟩, .bool true, .string ⟨#[50]⟩, .int .i64 1, .int .i64 1, .string ⟨#[103]⟩, .bool false, .string ⟨#[]⟩, .int .i64 1, .int .i64 1, .string ⟨#[104]⟩, .bool true, .string ⟨#[]⟩, .int .i64 0, .int .i64 1] 34)) (some ⟨w.heap.size, 0, none⟩) 2 2 SA :=
    ⟨rfl, (Blk.below (Blk.new w (entV SA) 34) (hal _ _)).rd, Nat.le_refl _, by omega, by omega, by decide⟩
  have EB : Et ((w.alloc (.cells #[.string ⟨#[102]⟩, .bool true, .string ⟨#[49]⟩, .int .i64 2, .int .i64 0, .string ⟨#[103]⟩, .bool true, .string ⟨#[49]⟩, .int .i64 1, .int .i64 0] 34)).alloc (.cells #[.string ⟨#[102]⟩, .bool true, .string ⟨#[50]⟩, .int .i64 1, .int .i64 1, .string ⟨#[103]⟩, .bool false, .string ⟨#[]⟩, .int .i64 1, .int .i64 1, .string ⟨#[104]⟩, .bool true, .string ⟨#[]⟩, .int .i64 0, .int .i64 1] 34)) (some ⟨w.heap.size + 1, 0, none⟩) 3 3 SB := by
    have hs : (w.alloc (.cells #[.string ⟨#[102]⟩, .bool true, .string ⟨#[49]⟩, .int .i64 2, .int .i64 0, .string ⟨#[103]⟩, .bool true, .string ⟨#[49]⟩, .int .i64 1, .int .i64 0] 34)).heap.size = w.heap.size + 1 := by simp
    refine ⟨rfl, ?_, Nat.le_refl _, by omega, by omega, by decide⟩
    rw [← hs]
    exact (Blk.new (w.alloc (.cells #[.string ⟨#[102]⟩, .bool true, .string ⟨#[49]⟩, .int .i64 2, .int .i64 0, .string ⟨#[103]⟩, .bool true, .string ⟨#[49]⟩, .int .i64 1, .int .i64 0] 34)) (entV SB) 34).rd
  have b0 := below2 (hal w (.cells #[.string ⟨#[102]⟩, .bool true, .string ⟨#[49]⟩, .int .i64 2, .int .i64 0, .string ⟨#[103]⟩, .bool true, .string ⟨#[49]⟩, .int .i64 1, .int .i64 0] 34)) (hal _ (.cells #[.string ⟨#[102]⟩, .bool true, .string ⟨#[50]⟩, .int .i64 1, .int .i64 1, .string ⟨#[103]⟩, .bool false, .string ⟨#[]⟩, .int .i64 1, .int .i64 1, .string ⟨#[104]⟩, .bool true, .string ⟨#[]⟩, .int .i64 0, .int .i64 1] 34))
  go_enter Tryd.func5, Tryd.ntmps5
  go_wp2_with fail
  generalize (w.alloc (.cells #[.string ⟨#[102]⟩, .bool true, .string ⟨#[49]⟩, .int .i64 2, .int .i64 0, .string ⟨#[103]⟩, .bool true, .string ⟨#[49]⟩, .int .i64 1, .int .i64 0] 34)).alloc (.cells #[.string ⟨#[102]⟩, .bool true, .string ⟨#[50]⟩, .int .i64 1, .int .i64 1, .string ⟨#[103]⟩, .bool false, .string ⟨#[]⟩, .int .i64 1, .int .i64 1, .string ⟨#[104]⟩, .bool true, .string ⟨#[]⟩, .int .i64 0, .int .i64 1] 34) = W0 at *
  refine (merge_val EA EB sm_mA sm_mC (show _ = 3 from rfl) (show _ = 1 from rfl) (show _ = 0 by rw [sm_mN]; rfl)).mono ?_
  rintro e w1 ⟨A1, c1, B1, d1, rfl, E1, r1, hb1⟩
  have EA1 := EA.below hb1
  have EB1 := EB.below hb1
  have b1 := below2 b0 hb1
  clear EA EB b0 hb1
  have kt := treeE_any EA1
  rw [sm_t] at kt
  go_wp2_with fail
  refine kt.mono ?_
  rintro e w2 ⟨U, du, rfl, T2, hb2⟩
  have EA2 := EA1.below hb2
  have EB2 := EB1.below hb2
  have E2 := E1.below hb2
  have r2 := r1.below hb2
  have b2 := below2 b1 hb2
  clear EA1 EB1 E1 r1 b1 hb2 kt
  go_wp2_with fail
  refine (plan_val T2 E2 (by simp) (by omega) sm_pA (show _ = 2 from rfl) (show _ = 0 by rw [sm_pN]; rfl)).mono ?_
  rintro e w3 ⟨A3, c3, rfl, p3, hb3⟩
  have EA3 := EA2.below hb3
  have EB3 := EB2.below hb3
  have E3 := E2.below hb3
  have r3 := r2.below hb3
  have b3 := below2 b2 hb3
  clear EA2 EB2 E2 r2 b2 hb3 T2
  go_wp2_with fail
  refine (settle_val E3 EB3 tf true 0 sm_sA (show _ = 3 from rfl) (show _ = 0 by rw [sm_sN]; rfl)).mono ?_
  rintro e w4 ⟨A4, c4, rfl, S4, hb4⟩
  have EA4 := EA3.below hb4
  have EB4 := EB3.below hb4
  have E4 := E3.below hb4
  have r4 := r3.below hb4
  have p4 := p3.below hb4
  have b4 := below2 b3 hb4
  clear EA3 EB3 E3 r3 b3 hb4 p3
  go_wp2_with fail
  refine (settle_val E4 EB4 tg true 0 sm_sA2 (show _ = 0 from rfl) (show _ = 3 by rw [sm_sN2]; rfl)).mono ?_
  rintro e w5 ⟨A5, c5, rfl, -, hb5⟩
  have EA5 := EA4.below hb5
  have EB5 := EB4.below hb5
  have E5 := E4.below hb5
  have r5 := r4.below hb5
  have p5 := p4.below hb5
  have S5 := S4.below hb5
  have b5 := below2 b4 hb5
  clear EA4 EB4 E4 r4 b4 hb5 p4 S4
  obtain ⟨gc, oc, rfl, x0, -⟩ := str_at r5 (j := 0) (by decide)
  obtain ⟨gl, ol, rfl, l0, l1, l2, l3, l4, -⟩ := E5.rd.ent (j := 0) (by decide)
  obtain ⟨g, o, e0, m0, m1, m2, m3, m4, -⟩ := E5.rd.ent (j := 1) (by decide)
  injection e0 with e0; injection e0 with e0 e0'; subst e0 e0'
  obtain ⟨ga, oa, ea, a0, a1, a2, a3, a4, -⟩ := EA5.rd.ent (j := 0) (by decide)
  injection ea with ea; injection ea with ea ea'; subst ea ea'
  obtain ⟨ga, oa, ea, f0, f1, f2, f3, f4, -⟩ := EB5.rd.ent (j := 1) (by decide)
  injection ea with ea; injection ea with ea ea'; subst ea ea'
  obtain ⟨gs, os, rfl, s0, s1, s2, s3, s4, -⟩ := S5.rd.ent (j := 0) (by decide)
  obtain ⟨gp, op, rfl, q0, q1, q2, -⟩ := p5.act (j := 0) (by decide)
  obtain ⟨g, o, e0, q3, q4, q5, -⟩ := p5.act (j := 1) (by decide)
  injection e0 with e0; injection e0 with e0 e0'; subst e0 e0'
  simp only [List.getElem_cons_zero, List.getElem_cons_succ, Nat.zero_mul, Nat.one_mul, Nat.add_zero, Nat.zero_add, Nat.reduceAdd] at x0 l0 l1 l2 l3 l4 m0 m1 m2 m3 m4 a0 a1 a2 a3 a4 f0 f1 f2 f3 f4 s0 s1 s2 s3 s4 q0 q1 q2 q3 q4 q5
  have Q1 := eqE e1f e1f
  have Q2 := eqE e2g e2g
  have Q3 := eqAc (tg, false, noS) (tg, false, noS)
  have Q4 := eqAc (th, true, noS) (th, true, noS)
  have Q5 := eqE e3f e3f
  rw [decide_eq_true rfl] at Q1 Q2 Q3 Q4 Q5
  have HS : Hid (∀ W, Below w5.heap.size w5 W → (fun w' => w'.cell? ⟨gc, oc, none⟩ = some (.string ⟨#[102]⟩) ∧ w'.cell? ⟨gl, ol, none⟩ = some (.string ⟨#[102]⟩) ∧ w'.cell? ⟨gl, ol + 1, none⟩ = some (.bool true) ∧ w'.cell? ⟨gl, ol + 2, none⟩ = some (.string ⟨#[49]⟩) ∧ w'.cell? ⟨gl, ol + 3, none⟩ = some (.int .i64 2) ∧ w'.cell? ⟨gl, ol + 4, none⟩ = some (.int .i64 0) ∧ w'.cell? ⟨gl, ol + 5, none⟩ = some (.string ⟨#[103]⟩) ∧ w'.cell? ⟨gl, ol + 5 + 1, none⟩ = some (.bool false) ∧ w'.cell? ⟨gl, ol + 5 + 2, none⟩ = some (.string ⟨#[]⟩) ∧ w'.cell? ⟨gl, ol + 5 + 3, none⟩ = some (.int .i64 1) ∧ w'.cell? ⟨gl, ol + 5 + 4, none⟩ = some (.int .i64 1) ∧ w'.cell? ⟨w.heap.size, 0, none⟩ = some (.string ⟨#[102]⟩) ∧ w'.cell? ⟨w.heap.size, 1, none⟩ = some (.bool true) ∧ w'.cell? ⟨w.heap.size, 2, none⟩ = some (.string ⟨#[49]⟩) ∧ w'.cell? ⟨w.heap.size, 3, none⟩ = some (.int .i64 2) ∧ w'.cell? ⟨w.heap.size, 4, none⟩ = some (.int .i64 0) ∧ w'.cell? ⟨w.heap.size + 1, 5, none⟩ = some (.string ⟨#[103]⟩) ∧ w'.cell? ⟨w.heap.size + 1, 6, none⟩ = some (.bool false) ∧ w'.cell? ⟨w.heap.size + 1, 7, none⟩ = some (.string ⟨#[]⟩) ∧ w'.cell? ⟨w.heap.size + 1, 8, none⟩ = some (.int .i64 1) ∧ w'.cell? ⟨w.heap.size + 1, 9, none⟩ = some (.int .i64 1) ∧ w'.cell? ⟨gs, os, none⟩ = some (.string ⟨#[102]⟩) ∧ w'.cell? ⟨gs, os + 1, none⟩ = some (.bool true) ∧ w'.cell? ⟨gs, os + 2, none⟩ = some (.string ⟨#[50]⟩) ∧ w'.cell? ⟨gs, os + 3, none⟩ = some (.int .i64 3) ∧ w'.cell? ⟨gs, os + 4, none⟩ = some (.int .i64 1) ∧ w'.cell? ⟨gp, op, none⟩ = some (.string ⟨#[103]⟩) ∧ w'.cell? ⟨gp, op + 1, none⟩ = some (.bool false) ∧ w'.cell? ⟨gp, op + 2, none⟩ = some (.string ⟨#[]⟩) ∧ w'.cell? ⟨gp, op + 3, none⟩ = some (.string ⟨#[104]⟩) ∧ w'.cell? ⟨gp, op + 3 + 1, none⟩ = some (.bool true) ∧ w'.cell? ⟨gp, op + 3 + 2, none⟩ = some (.string ⟨#[]⟩)) W) := fun W hb => by
    refine ⟨?_, ?_, ?_, ?_, ?_, ?_, ?_, ?_, ?_, ?_, ?_, ?_, ?_, ?_, ?_, ?_, ?_, ?_, ?_, ?_, ?_, ?_, ?_, ?_, ?_, ?_, ?_, ?_, ?_, ?_, ?_, ?_⟩
    · exact (hb.cell (p := ⟨gc, oc, none⟩) (World.block_lt_of_cell? _ _ x0)).trans x0
    · exact (hb.cell (p := ⟨gl, ol, none⟩) (World.block_lt_of_cell? _ _ l0)).trans l0
    · exact (hb.cell (p := ⟨gl, ol + 1, none⟩) (World.block_lt_of_cell? _ _ l1)).trans l1
    · exact (hb.cell (p := ⟨gl, ol + 2, none⟩) (World.block_lt_of_cell? _ _ l2)).trans l2
    · exact (hb.cell (p := ⟨gl, ol + 3, none⟩) (World.block_lt_of_cell? _ _ l3)).trans l3
    · exact (hb.cell (p := ⟨gl, ol + 4, none⟩) (World.block_lt_of_cell? _ _ l4)).trans l4
    · exact (hb.cell (p := ⟨gl, ol + 5, none⟩) (World.block_lt_of_cell? _ _ m0)).trans m0
    · exact (hb.cell (p := ⟨gl, ol + 5 + 1, none⟩) (World.block_lt_of_cell? _ _ m1)).trans m1
    · exact (hb.cell (p := ⟨gl, ol + 5 + 2, none⟩) (World.block_lt_of_cell? _ _ m2)).trans m2
    · exact (hb.cell (p := ⟨gl, ol + 5 + 3, none⟩) (World.block_lt_of_cell? _ _ m3)).trans m3
    · exact (hb.cell (p := ⟨gl, ol + 5 + 4, none⟩) (World.block_lt_of_cell? _ _ m4)).trans m4
    · exact (hb.cell (p := ⟨w.heap.size, 0, none⟩) (World.block_lt_of_cell? _ _ a0)).trans a0
    · exact (hb.cell (p := ⟨w.heap.size, 1, none⟩) (World.block_lt_of_cell? _ _ a1)).trans a1
    · exact (hb.cell (p := ⟨w.heap.size, 2, none⟩) (World.block_lt_of_cell? _ _ a2)).trans a2
    · exact (hb.cell (p := ⟨w.heap.size, 3, none⟩) (World.block_lt_of_cell? _ _ a3)).trans a3
    · exact (hb.cell (p := ⟨w.heap.size, 4, none⟩) (World.block_lt_of_cell? _ _ a4)).trans a4
    · exact (hb.cell (p := ⟨w.heap.size + 1, 5, none⟩) (World.block_lt_of_cell? _ _ f0)).trans f0
    · exact (hb.cell (p := ⟨w.heap.size + 1, 6, none⟩) (World.block_lt_of_cell? _ _ f1)).trans f1
    · exact (hb.cell (p := ⟨w.heap.size + 1, 7, none⟩) (World.block_lt_of_cell? _ _ f2)).trans f2
    · exact (hb.cell (p := ⟨w.heap.size + 1, 8, none⟩) (World.block_lt_of_cell? _ _ f3)).trans f3
    · exact (hb.cell (p := ⟨w.heap.size + 1, 9, none⟩) (World.block_lt_of_cell? _ _ f4)).trans f4
    · exact (hb.cell (p := ⟨gs, os, none⟩) (World.block_lt_of_cell? _ _ s0)).trans s0
    · exact (hb.cell (p := ⟨gs, os + 1, none⟩) (World.block_lt_of_cell? _ _ s1)).trans s1
    · exact (hb.cell (p := ⟨gs, os + 2, none⟩) (World.block_lt_of_cell? _ _ s2)).trans s2
    · exact (hb.cell (p := ⟨gs, os + 3, none⟩) (World.block_lt_of_cell? _ _ s3)).trans s3
    · exact (hb.cell (p := ⟨gs, os + 4, none⟩) (World.block_lt_of_cell? _ _ s4)).trans s4
    · exact (hb.cell (p := ⟨gp, op, none⟩) (World.block_lt_of_cell? _ _ q0)).trans q0
    · exact (hb.cell (p := ⟨gp, op + 1, none⟩) (World.block_lt_of_cell? _ _ q1)).trans q1
    · exact (hb.cell (p := ⟨gp, op + 2, none⟩) (World.block_lt_of_cell? _ _ q2)).trans q2
    · exact (hb.cell (p := ⟨gp, op + 3, none⟩) (World.block_lt_of_cell? _ _ q3)).trans q3
    · exact (hb.cell (p := ⟨gp, op + 3 + 1, none⟩) (World.block_lt_of_cell? _ _ q4)).trans q4
    · exact (hb.cell (p := ⟨gp, op + 3 + 2, none⟩) (World.block_lt_of_cell? _ _ q5)).trans q5
  clear r5 p5 S5 EA5
  go_wp2_with fail
  refine wp_region_held_drew (S := fun w' => w'.cell? ⟨gc, oc, none⟩ = some (.string ⟨#[102]⟩) ∧ w'.cell? ⟨gl, ol, none⟩ = some (.string ⟨#[102]⟩) ∧ w'.cell? ⟨gl, ol + 1, none⟩ = some (.bool true) ∧ w'.cell? ⟨gl, ol + 2, none⟩ = some (.string ⟨#[49]⟩) ∧ w'.cell? ⟨gl, ol + 3, none⟩ = some (.int .i64 2) ∧ w'.cell? ⟨gl, ol + 4, none⟩ = some (.int .i64 0) ∧ w'.cell? ⟨gl, ol + 5, none⟩ = some (.string ⟨#[103]⟩) ∧ w'.cell? ⟨gl, ol + 5 + 1, none⟩ = some (.bool false) ∧ w'.cell? ⟨gl, ol + 5 + 2, none⟩ = some (.string ⟨#[]⟩) ∧ w'.cell? ⟨gl, ol + 5 + 3, none⟩ = some (.int .i64 1) ∧ w'.cell? ⟨gl, ol + 5 + 4, none⟩ = some (.int .i64 1) ∧ w'.cell? ⟨w.heap.size, 0, none⟩ = some (.string ⟨#[102]⟩) ∧ w'.cell? ⟨w.heap.size, 1, none⟩ = some (.bool true) ∧ w'.cell? ⟨w.heap.size, 2, none⟩ = some (.string ⟨#[49]⟩) ∧ w'.cell? ⟨w.heap.size, 3, none⟩ = some (.int .i64 2) ∧ w'.cell? ⟨w.heap.size, 4, none⟩ = some (.int .i64 0) ∧ w'.cell? ⟨w.heap.size + 1, 5, none⟩ = some (.string ⟨#[103]⟩) ∧ w'.cell? ⟨w.heap.size + 1, 6, none⟩ = some (.bool false) ∧ w'.cell? ⟨w.heap.size + 1, 7, none⟩ = some (.string ⟨#[]⟩) ∧ w'.cell? ⟨w.heap.size + 1, 8, none⟩ = some (.int .i64 1) ∧ w'.cell? ⟨w.heap.size + 1, 9, none⟩ = some (.int .i64 1) ∧ w'.cell? ⟨gs, os, none⟩ = some (.string ⟨#[102]⟩) ∧ w'.cell? ⟨gs, os + 1, none⟩ = some (.bool true) ∧ w'.cell? ⟨gs, os + 2, none⟩ = some (.string ⟨#[50]⟩) ∧ w'.cell? ⟨gs, os + 3, none⟩ = some (.int .i64 3) ∧ w'.cell? ⟨gs, os + 4, none⟩ = some (.int .i64 1) ∧ w'.cell? ⟨gp, op, none⟩ = some (.string ⟨#[103]⟩) ∧ w'.cell? ⟨gp, op + 1, none⟩ = some (.bool false) ∧ w'.cell? ⟨gp, op + 2, none⟩ = some (.string ⟨#[]⟩) ∧ w'.cell? ⟨gp, op + 3, none⟩ = some (.string ⟨#[104]⟩) ∧ w'.cell? ⟨gp, op + 3 + 1, none⟩ = some (.bool true) ∧ w'.cell? ⟨gp, op + 3 + 2, none⟩ = some (.string ⟨#[]⟩)) (by kernel_rfl) (HS.out _ (Below.refl _ _).drew) (fun hHeld => ?_)
  clear x0 l0 l1 l2 l3 l4 m0 m1 m2 m3 m4 a0 a1 a2 a3 a4 f0 f1 f2 f3 f4 s0 s1 s2 s3 s4 q0 q1 q2 q3 q4 q5
  refine wpAnyH_take (i := 0) (oi := ⟨_, _, _, _, _, _⟩) (v := ?_) rfl (by kernel_rfl) (by kernel_rfl) (by kernel_rfl) (fun _ _ _ h => h) (Or.inl ⟨by rfl, ?_⟩) (by assumption) ?_
  rotate_left
  · intro w hSw; (try dsimp only at hSw); go_simp; (try (with_reducible rfl))
  try simp only [Act.put, List.setIfInBounds_toArray, List.set_cons_zero, List.set_cons_succ]
  refine wpAnyH_take (i := 1) (oi := ⟨_, _, _, _, _, _⟩) (v := ?_) rfl (by kernel_rfl) (by kernel_rfl) (by kernel_rfl) (fun _ _ _ h => h) (Or.inl ⟨by rfl, ?_⟩) (by assumption) ?_
  rotate_left
  · intro w hSw; (try dsimp only at hSw); go_simp; (try (with_reducible rfl))
  try simp only [Act.put, List.setIfInBounds_toArray, List.set_cons_zero, List.set_cons_succ]
  refine wpAnyH_take (i := 2) (oi := ⟨_, _, _, _, _, _⟩) (v := ?_) rfl (by kernel_rfl) (by kernel_rfl) (by kernel_rfl) (fun _ _ _ h => h) (Or.inl ⟨by rfl, ?_⟩) (by assumption) ?_
  rotate_left
  · intro w hSw; (try dsimp only at hSw); go_simp; (try (with_reducible rfl))
  try simp only [Act.put, List.setIfInBounds_toArray, List.set_cons_zero, List.set_cons_succ]
  refine wpAnyH_take (i := 3) (oi := ⟨_, _, _, _, _, _⟩) (v := ?_) rfl (by kernel_rfl) (by kernel_rfl) (by kernel_rfl) (fun _ _ _ h => h) (Or.inl ⟨by rfl, ?_⟩) (by assumption) ?_
  rotate_left
  · intro w hSw; (try dsimp only at hSw); go_simp; (try (with_reducible rfl))
  try simp only [Act.put, List.setIfInBounds_toArray, List.set_cons_zero, List.set_cons_succ]
  refine wpAnyH_take (i := 4) (oi := ⟨_, _, _, _, _, _⟩) (v := ?_) rfl (by kernel_rfl) (by kernel_rfl) (by kernel_rfl) (fun _ _ _ h => h) (Or.inl ⟨by rfl, ?_⟩) (by assumption) ?_
  rotate_left
  · intro w hSw; (try dsimp only at hSw); go_simp; (try (with_reducible rfl))
  try simp only [Act.put, List.setIfInBounds_toArray, List.set_cons_zero, List.set_cons_succ]
  refine wpAnyH_take (i := 5) (oi := ⟨_, _, _, _, _, _⟩) (v := ?_) rfl (by kernel_rfl) (by kernel_rfl) (by kernel_rfl) (fun _ _ _ h => h) (Or.inl ⟨by rfl, ?_⟩) (by assumption) ?_
  rotate_left
  · intro w hSw; (try dsimp only at hSw); go_simp; (try (with_reducible rfl))
  try simp only [Act.put, List.setIfInBounds_toArray, List.set_cons_zero, List.set_cons_succ]
  refine wpAnyH_take (i := 6) (oi := ⟨_, _, _, _, _, _⟩) (v := ?_) rfl (by kernel_rfl) (by kernel_rfl) (by kernel_rfl) (fun _ _ _ h => h) (Or.inl ⟨by rfl, ?_⟩) (by assumption) ?_
  rotate_left
  · intro w hSw; (try dsimp only at hSw); go_simp; (try (with_reducible rfl))
  try simp only [Act.put, List.setIfInBounds_toArray, List.set_cons_zero, List.set_cons_succ]
  refine wpAnyH_take (i := 7) (oi := ⟨_, _, _, _, _, _⟩) (v := ?_) rfl (by kernel_rfl) (by kernel_rfl) (by kernel_rfl) (fun _ _ _ h => h) (Or.inl ⟨by rfl, ?_⟩) (by assumption) ?_
  rotate_left
  · intro w hSw; (try dsimp only at hSw); go_simp; (try (with_reducible rfl))
  try simp only [Act.put, List.setIfInBounds_toArray, List.set_cons_zero, List.set_cons_succ]
  refine wpAnyH_take (i := 8) (oi := ⟨_, _, _, _, _, _⟩) (v := ?_) rfl (by kernel_rfl) (by kernel_rfl) (by kernel_rfl) (fun _ _ _ h => h) (Or.inl ⟨by rfl, ?_⟩) (by assumption) ?_
  rotate_left
  · intro w hSw; (try dsimp only at hSw); go_simp; (try (with_reducible rfl))
  try simp only [Act.put, List.setIfInBounds_toArray, List.set_cons_zero, List.set_cons_succ]
  refine wpAnyH_take (i := 9) (oi := ⟨_, _, _, _, _, _⟩) (v := ?_) rfl (by kernel_rfl) (by kernel_rfl) (by kernel_rfl) (fun _ _ _ h => h) (Or.inl ⟨by rfl, ?_⟩) (by assumption) ?_
  rotate_left
  · intro w hSw; (try dsimp only at hSw); go_simp; (try (with_reducible rfl))
  try simp only [Act.put, List.setIfInBounds_toArray, List.set_cons_zero, List.set_cons_succ]
  refine wpAnyH_take (i := 10) (oi := ⟨_, _, _, _, _, _⟩) (v := ?_) rfl (by kernel_rfl) (by kernel_rfl) (by kernel_rfl) (fun _ _ _ h => h) (Or.inl ⟨by rfl, ?_⟩) (by assumption) ?_
  rotate_left
  · intro w hSw; (try dsimp only at hSw); go_simp; (try (with_reducible rfl))
  try simp only [Act.put, List.setIfInBounds_toArray, List.set_cons_zero, List.set_cons_succ]
  refine wpAnyH_take (i := 11) (oi := ⟨_, _, _, _, _, _⟩) (v := ?_) rfl (by kernel_rfl) (by kernel_rfl) (by kernel_rfl) (fun _ _ _ h => h) (Or.inl ⟨by rfl, ?_⟩) (by assumption) ?_
  rotate_left
  · intro w hSw; (try dsimp only at hSw); go_simp; (try (with_reducible rfl))
  try simp only [Act.put, List.setIfInBounds_toArray, List.set_cons_zero, List.set_cons_succ]
  refine wpAnyH_take (i := 12) (oi := ⟨_, _, _, _, _, _⟩) (v := ?_) rfl (by kernel_rfl) (by kernel_rfl) (by kernel_rfl) (fun _ _ _ h => h) (Or.inl ⟨by rfl, ?_⟩) (by assumption) ?_
  rotate_left
  · intro w hSw; (try dsimp only at hSw); go_simp; (try (with_reducible rfl))
  try simp only [Act.put, List.setIfInBounds_toArray, List.set_cons_zero, List.set_cons_succ]
  refine wpAnyH_take (i := 13) (oi := ⟨_, _, _, _, _, _⟩) (v := ?_) rfl (by kernel_rfl) (by kernel_rfl) (by kernel_rfl) (fun _ _ _ h => h) (Or.inl ⟨by rfl, ?_⟩) (by assumption) ?_
  rotate_left
  · intro w hSw; (try dsimp only at hSw); go_simp; (try (with_reducible rfl))
  try simp only [Act.put, List.setIfInBounds_toArray, List.set_cons_zero, List.set_cons_succ]
  refine wpAnyH_take (i := 14) (oi := ⟨_, _, _, _, _, _⟩) (v := ?_) rfl (by kernel_rfl) (by kernel_rfl) (by kernel_rfl) (fun _ _ _ h => h) (Or.inl ⟨by rfl, ?_⟩) (by assumption) ?_
  rotate_left
  · intro w hSw; (try dsimp only at hSw); go_simp; (try (with_reducible rfl))
  try simp only [Act.put, List.setIfInBounds_toArray, List.set_cons_zero, List.set_cons_succ]
  refine wpAnyH_take (i := 15) (oi := ⟨_, _, _, _, _, _⟩) (v := ?_) rfl (by kernel_rfl) (by kernel_rfl) (by kernel_rfl) (fun _ _ _ h => h) (Or.inl ⟨by rfl, ?_⟩) (by assumption) ?_
  rotate_left
  · intro w hSw; (try dsimp only at hSw); go_simp; (try (with_reducible rfl))
  try simp only [Act.put, List.setIfInBounds_toArray, List.set_cons_zero, List.set_cons_succ]
  refine wpAnyH_take (i := 16) (oi := ⟨_, _, _, _, _, _⟩) (v := ?_) rfl (by kernel_rfl) (by kernel_rfl) (by kernel_rfl) (fun _ _ _ h => h) (Or.inl ⟨by rfl, ?_⟩) (by assumption) ?_
  rotate_left
  · intro w hSw; (try dsimp only at hSw); go_simp; (try (with_reducible rfl))
  try simp only [Act.put, List.setIfInBounds_toArray, List.set_cons_zero, List.set_cons_succ]
  refine wpAnyH_take (i := 17) (oi := ⟨_, _, _, _, _, _⟩) (v := ?_) rfl (by kernel_rfl) (by kernel_rfl) (by kernel_rfl) (fun _ _ _ h => h) (Or.inl ⟨by rfl, ?_⟩) (by assumption) ?_
  rotate_left
  · intro w hSw; (try dsimp only at hSw); go_simp; (try (with_reducible rfl))
  try simp only [Act.put, List.setIfInBounds_toArray, List.set_cons_zero, List.set_cons_succ]
  refine wpAnyH_take (i := 18) (oi := ⟨_, _, _, _, _, _⟩) (v := ?_) rfl (by kernel_rfl) (by kernel_rfl) (by kernel_rfl) (fun _ _ _ h => h) (Or.inl ⟨by rfl, ?_⟩) (by assumption) ?_
  rotate_left
  · intro w hSw; (try dsimp only at hSw); go_simp; (try (with_reducible rfl))
  try simp only [Act.put, List.setIfInBounds_toArray, List.set_cons_zero, List.set_cons_succ]
  refine wpAnyH_take (i := 19) (oi := ⟨_, _, _, _, _, _⟩) (v := ?_) rfl (by kernel_rfl) (by kernel_rfl) (by kernel_rfl) (fun _ _ _ h => h) (Or.inl ⟨by rfl, ?_⟩) (by assumption) ?_
  rotate_left
  · intro w hSw; (try dsimp only at hSw); go_simp; (try (with_reducible rfl))
  try simp only [Act.put, List.setIfInBounds_toArray, List.set_cons_zero, List.set_cons_succ]
  refine wpAnyH_take (i := 20) (oi := ⟨_, _, _, _, _, _⟩) (v := ?_) rfl (by kernel_rfl) (by kernel_rfl) (by kernel_rfl) (fun _ _ _ h => h) (Or.inl ⟨by rfl, ?_⟩) (by assumption) ?_
  rotate_left
  · intro w hSw; (try dsimp only at hSw); go_simp; (try (with_reducible rfl))
  try simp only [Act.put, List.setIfInBounds_toArray, List.set_cons_zero, List.set_cons_succ]
  refine wpAnyH_take (i := 21) (oi := ⟨_, _, _, _, _, _⟩) (v := ?_) rfl (by kernel_rfl) (by kernel_rfl) (by kernel_rfl) (fun _ _ _ h => h) (Or.inl ⟨by rfl, ?_⟩) (by assumption) ?_
  rotate_left
  · intro w hSw; (try dsimp only at hSw); go_simp; (try (with_reducible rfl))
  try simp only [Act.put, List.setIfInBounds_toArray, List.set_cons_zero, List.set_cons_succ]
  refine wpAnyH_take (i := 22) (oi := ⟨_, _, _, _, _, _⟩) (v := ?_) rfl (by kernel_rfl) (by kernel_rfl) (by kernel_rfl) (fun _ _ _ h => h) (Or.inl ⟨by rfl, ?_⟩) (by assumption) ?_
  rotate_left
  · intro w hSw; (try dsimp only at hSw); go_simp; (try (with_reducible rfl))
  try simp only [Act.put, List.setIfInBounds_toArray, List.set_cons_zero, List.set_cons_succ]
  refine wpAnyH_take (i := 23) (oi := ⟨_, _, _, _, _, _⟩) (v := ?_) rfl (by kernel_rfl) (by kernel_rfl) (by kernel_rfl) (fun _ _ _ h => h) (Or.inl ⟨by rfl, ?_⟩) (by assumption) ?_
  rotate_left
  · intro w hSw; (try dsimp only at hSw); go_simp; (try (with_reducible rfl))
  try simp only [Act.put, List.setIfInBounds_toArray, List.set_cons_zero, List.set_cons_succ]
  refine wpAnyH_take (i := 24) (oi := ⟨_, _, _, _, _, _⟩) (v := ?_) rfl (by kernel_rfl) (by kernel_rfl) (by kernel_rfl) (fun _ _ _ h => h) (Or.inl ⟨by rfl, ?_⟩) (by assumption) ?_
  rotate_left
  · intro w hSw; (try dsimp only at hSw); go_simp; (try (with_reducible rfl))
  try simp only [Act.put, List.setIfInBounds_toArray, List.set_cons_zero, List.set_cons_succ]
  refine wpAnyH_take (i := 25) (oi := ⟨_, _, _, _, _, _⟩) (v := ?_) rfl (by kernel_rfl) (by kernel_rfl) (by kernel_rfl) (fun _ _ _ h => h) (Or.inl ⟨by rfl, ?_⟩) (by assumption) ?_
  rotate_left
  · intro w hSw; (try dsimp only at hSw); go_simp; (try (with_reducible rfl))
  try simp only [Act.put, List.setIfInBounds_toArray, List.set_cons_zero, List.set_cons_succ]
  refine wpAnyH_take (i := 26) (oi := ⟨_, _, _, _, _, _⟩) (v := ?_) rfl (by kernel_rfl) (by kernel_rfl) (by kernel_rfl) (fun _ _ _ h => h) (Or.inl ⟨by rfl, ?_⟩) (by assumption) ?_
  rotate_left
  · intro w hSw; (try dsimp only at hSw); go_simp; (try (with_reducible rfl))
  try simp only [Act.put, List.setIfInBounds_toArray, List.set_cons_zero, List.set_cons_succ]
  refine wpAnyH_take (i := 27) (oi := ⟨_, _, _, _, _, _⟩) (v := ?_) rfl (by kernel_rfl) (by kernel_rfl) (by kernel_rfl) (fun _ _ _ h => h) (Or.inl ⟨by rfl, ?_⟩) (by assumption) ?_
  rotate_left
  · intro w hSw; (try dsimp only at hSw); go_simp; (try (with_reducible rfl))
  try simp only [Act.put, List.setIfInBounds_toArray, List.set_cons_zero, List.set_cons_succ]
  refine wpAnyH_take (i := 28) (oi := ⟨_, _, _, _, _, _⟩) (v := ?_) rfl (by kernel_rfl) (by kernel_rfl) (by kernel_rfl) (fun _ _ _ h => h) (Or.inl ⟨by rfl, ?_⟩) (by assumption) ?_
  rotate_left
  · intro w hSw; (try dsimp only at hSw); go_simp; (try (with_reducible rfl))
  try simp only [Act.put, List.setIfInBounds_toArray, List.set_cons_zero, List.set_cons_succ]
  refine wpAnyH_take (i := 29) (oi := ⟨_, _, _, _, _, _⟩) (v := ?_) rfl (by kernel_rfl) (by kernel_rfl) (by kernel_rfl) (fun _ _ _ h => h) (Or.inl ⟨by rfl, ?_⟩) (by assumption) ?_
  rotate_left
  · intro w hSw; (try dsimp only at hSw); go_simp; (try (with_reducible rfl))
  try simp only [Act.put, List.setIfInBounds_toArray, List.set_cons_zero, List.set_cons_succ]
  refine wpAnyH_take (i := 30) (oi := ⟨_, _, _, _, _, _⟩) (v := ?_) rfl (by kernel_rfl) (by kernel_rfl) (by kernel_rfl) (fun _ _ _ h => h) (Or.inl ⟨by rfl, ?_⟩) (by assumption) ?_
  rotate_left
  · intro w hSw; (try dsimp only at hSw); go_simp; (try (with_reducible rfl))
  try simp only [Act.put, List.setIfInBounds_toArray, List.set_cons_zero, List.set_cons_succ]
  refine wpAnyH_take (i := 31) (oi := ⟨_, _, _, _, _, _⟩) (v := ?_) rfl (by kernel_rfl) (by kernel_rfl) (by kernel_rfl) (fun _ _ _ h => h) (Or.inl ⟨by rfl, ?_⟩) (by assumption) ?_
  rotate_left
  · intro w hSw; (try dsimp only at hSw); go_simp; (try (with_reducible rfl))
  try simp only [Act.put, List.setIfInBounds_toArray, List.set_cons_zero, List.set_cons_succ]
  refine wpAnyH_take (i := 32) (oi := ⟨_, _, _, _, _, _⟩) (v := ?_) rfl (by kernel_rfl) (by kernel_rfl) (by kernel_rfl) (fun _ _ _ h => h) (Or.inl ⟨by rfl, ?_⟩) (by assumption) ?_
  rotate_left
  · intro w hSw; (try dsimp only at hSw); go_simp; (try (with_reducible rfl))
  try simp only [Act.put, List.setIfInBounds_toArray, List.set_cons_zero, List.set_cons_succ]
  refine wpAnyH_take (i := 33) (oi := ⟨_, _, _, _, _, _⟩) (v := ?_) rfl (by kernel_rfl) (by kernel_rfl) (by kernel_rfl) (fun _ _ _ h => h) (Or.inl ⟨by rfl, ?_⟩) (by assumption) ?_
  rotate_left
  · intro w hSw; (try dsimp only at hSw); go_simp; (try (with_reducible rfl))
  try simp only [Act.put, List.setIfInBounds_toArray, List.set_cons_zero, List.set_cons_succ]
  refine wpAnyH_take (i := 34) (oi := ⟨_, _, _, _, _, _⟩) (v := ?_) rfl (by kernel_rfl) (by kernel_rfl) (by kernel_rfl) (fun _ _ _ h => h) (Or.inl ⟨by rfl, ?_⟩) (by assumption) ?_
  rotate_left
  · intro w hSw; (try dsimp only at hSw); go_simp; (try (with_reducible rfl))
  try simp only [Act.put, List.setIfInBounds_toArray, List.set_cons_zero, List.set_cons_succ]
  refine wpAnyH_take (i := 35) (oi := ⟨_, _, _, _, _, _⟩) (v := ?_) rfl (by kernel_rfl) (by kernel_rfl) (by kernel_rfl) (fun _ _ _ h => h) (Or.inl ⟨by rfl, ?_⟩) (by assumption) ?_
  rotate_left
  · intro w hSw; (try dsimp only at hSw); go_simp; (try (with_reducible rfl))
  try simp only [Act.put, List.setIfInBounds_toArray, List.set_cons_zero, List.set_cons_succ]
  refine wpAnyH_take (i := 36) (oi := ⟨_, _, _, _, _, _⟩) (v := ?_) rfl (by kernel_rfl) (by kernel_rfl) (by kernel_rfl) (fun _ _ _ h => h) (Or.inl ⟨by rfl, ?_⟩) (by assumption) ?_
  rotate_left
  · intro w hSw; (try dsimp only at hSw); go_simp; (try (with_reducible rfl))
  try simp only [Act.put, List.setIfInBounds_toArray, List.set_cons_zero, List.set_cons_succ]
  refine wpAnyH_take (i := 37) (oi := ⟨_, _, _, _, _, _⟩) (v := ?_) rfl (by kernel_rfl) (by kernel_rfl) (by kernel_rfl) (fun _ _ _ h => h) (Or.inl ⟨by rfl, ?_⟩) (by assumption) ?_
  rotate_left
  · intro w hSw; (try dsimp only at hSw); go_simp; (try (with_reducible rfl))
  try simp only [Act.put, List.setIfInBounds_toArray, List.set_cons_zero, List.set_cons_succ]
  refine wpAnyH_take (i := 38) (oi := ⟨_, _, _, _, _, _⟩) (v := ?_) rfl (by kernel_rfl) (by kernel_rfl) (by kernel_rfl) (fun _ _ _ h => h) (Or.inl ⟨by rfl, ?_⟩) (by assumption) ?_
  rotate_left
  · intro w hSw; (try dsimp only at hSw); go_simp; (try (with_reducible rfl))
  try simp only [Act.put, List.setIfInBounds_toArray, List.set_cons_zero, List.set_cons_succ]
  refine wpAnyH_take (i := 39) (oi := ⟨_, _, _, _, _, _⟩) (v := ?_) rfl (by kernel_rfl) (by kernel_rfl) (by kernel_rfl) (fun _ _ _ h => h) (Or.inl ⟨by rfl, ?_⟩) (by assumption) ?_
  rotate_left
  · intro w hSw; (try dsimp only at hSw); go_simp; (try (with_reducible rfl))
  try simp only [Act.put, List.setIfInBounds_toArray, List.set_cons_zero, List.set_cons_succ]
  refine wpAnyH_take (i := 40) (oi := ⟨_, _, _, _, _, _⟩) (v := ?_) rfl (by kernel_rfl) (by kernel_rfl) (by kernel_rfl) (fun _ _ _ h => h) (Or.inl ⟨by rfl, ?_⟩) (by assumption) ?_
  rotate_left
  · intro w hSw; (try dsimp only at hSw); go_simp; (try (with_reducible rfl))
  try simp only [Act.put, List.setIfInBounds_toArray, List.set_cons_zero, List.set_cons_succ]
  refine wpAnyH_take (i := 41) (oi := ⟨_, _, _, _, _, _⟩) (v := ?_) rfl (by kernel_rfl) (by kernel_rfl) (by kernel_rfl) (fun _ _ _ h => h) (Or.inl ⟨by rfl, ?_⟩) (by assumption) ?_
  rotate_left
  · intro w hSw; (try dsimp only at hSw); go_simp; (try (with_reducible rfl))
  try simp only [Act.put, List.setIfInBounds_toArray, List.set_cons_zero, List.set_cons_succ]
  refine wpAnyH_take (i := 42) (oi := ⟨_, _, _, _, _, _⟩) (v := ?_) rfl (by kernel_rfl) (by kernel_rfl) (by kernel_rfl) (fun _ _ _ h => h) (Or.inl ⟨by rfl, ?_⟩) (by assumption) ?_
  rotate_left
  · intro w hSw; (try dsimp only at hSw); go_simp; (try (with_reducible rfl))
  try simp only [Act.put, List.setIfInBounds_toArray, List.set_cons_zero, List.set_cons_succ]
  refine wpAnyH_take (i := 43) (oi := ⟨_, _, _, _, _, _⟩) (v := ?_) rfl (by kernel_rfl) (by kernel_rfl) (by kernel_rfl) (fun _ _ _ h => h) (Or.inl ⟨by rfl, ?_⟩) (by assumption) ?_
  rotate_left
  · intro w hSw; (try dsimp only at hSw); go_simp; (try (with_reducible rfl))
  try simp only [Act.put, List.setIfInBounds_toArray, List.set_cons_zero, List.set_cons_succ]
  refine wpAnyH_take (i := 44) (oi := ⟨_, _, _, _, _, _⟩) (v := ?_) rfl (by kernel_rfl) (by kernel_rfl) (by kernel_rfl) (fun _ _ _ h => h) (Or.inl ⟨by rfl, ?_⟩) (by assumption) ?_
  rotate_left
  · intro w hSw; (try dsimp only at hSw); go_simp; (try (with_reducible rfl))
  try simp only [Act.put, List.setIfInBounds_toArray, List.set_cons_zero, List.set_cons_succ]
  refine wpAnyH_take (i := 45) (oi := ⟨_, _, _, _, _, _⟩) (v := ?_) rfl (by kernel_rfl) (by kernel_rfl) (by kernel_rfl) (fun _ _ _ h => h) (Or.inl ⟨by rfl, ?_⟩) (by assumption) ?_
  rotate_left
  · intro w hSw; (try dsimp only at hSw); go_simp; (try (with_reducible rfl))
  try simp only [Act.put, List.setIfInBounds_toArray, List.set_cons_zero, List.set_cons_succ]
  refine wpAnyH_take (i := 46) (oi := ⟨_, _, _, _, _, _⟩) (v := ?_) rfl (by kernel_rfl) (by kernel_rfl) (by kernel_rfl) (fun _ _ _ h => h) (Or.inl ⟨by rfl, ?_⟩) (by assumption) ?_
  rotate_left
  · intro w hSw; (try dsimp only at hSw); go_simp; (try (with_reducible rfl))
  try simp only [Act.put, List.setIfInBounds_toArray, List.set_cons_zero, List.set_cons_succ]
  refine wpAnyH_take (i := 47) (oi := ⟨_, _, _, _, _, _⟩) (v := ?_) rfl (by kernel_rfl) (by kernel_rfl) (by kernel_rfl) (fun _ _ _ h => h) (Or.inl ⟨by rfl, ?_⟩) (by assumption) ?_
  rotate_left
  · intro w hSw; (try dsimp only at hSw); go_simp; (try (with_reducible rfl))
  try simp only [Act.put, List.setIfInBounds_toArray, List.set_cons_zero, List.set_cons_succ]
  refine wpAnyH_take (i := 48) (oi := ⟨_, _, _, _, _, _⟩) (v := ?_) rfl (by kernel_rfl) (by kernel_rfl) (by kernel_rfl) (fun _ _ _ h => h) (Or.inl ⟨by rfl, ?_⟩) (by assumption) ?_
  rotate_left
  · intro w hSw; (try dsimp only at hSw); go_simp; (try (with_reducible rfl))
  try simp only [Act.put, List.setIfInBounds_toArray, List.set_cons_zero, List.set_cons_succ]
  refine wpAnyH_take (i := 49) (oi := ⟨_, _, _, _, _, _⟩) (v := ?_) rfl (by kernel_rfl) (by kernel_rfl) (by kernel_rfl) (fun _ _ _ h => h) (Or.inl ⟨by rfl, ?_⟩) (by assumption) ?_
  rotate_left
  · intro w hSw; (try dsimp only at hSw); go_simp; (try (with_reducible rfl))
  try simp only [Act.put, List.setIfInBounds_toArray, List.set_cons_zero, List.set_cons_succ]
  refine wpAnyH_take (i := 50) (oi := ⟨_, _, _, _, _, _⟩) (v := ?_) rfl (by kernel_rfl) (by kernel_rfl) (by kernel_rfl) (fun _ _ _ h => h) (Or.inl ⟨by rfl, ?_⟩) (by assumption) ?_
  rotate_left
  · intro w hSw; (try dsimp only at hSw); go_simp; (try (with_reducible rfl))
  try simp only [Act.put, List.setIfInBounds_toArray, List.set_cons_zero, List.set_cons_succ]
  refine wpAnyH_take (i := 51) (oi := ⟨_, _, _, _, _, _⟩) (v := ?_) rfl (by kernel_rfl) (by kernel_rfl) (by kernel_rfl) (fun _ _ _ h => h) (Or.inl ⟨by rfl, ?_⟩) (by assumption) ?_
  rotate_left
  · intro w hSw; (try dsimp only at hSw); go_simp; (try (with_reducible rfl))
  try simp only [Act.put, List.setIfInBounds_toArray, List.set_cons_zero, List.set_cons_succ]
  refine wpAnyH_take (i := 52) (oi := ⟨_, _, _, _, _, _⟩) (v := ?_) rfl (by kernel_rfl) (by kernel_rfl) (by kernel_rfl) (fun _ _ _ h => h) (Or.inl ⟨by rfl, ?_⟩) (by assumption) ?_
  rotate_left
  · intro w hSw; (try dsimp only at hSw); go_simp; (try (with_reducible rfl))
  try simp only [Act.put, List.setIfInBounds_toArray, List.set_cons_zero, List.set_cons_succ]
  refine wpAnyH_take (i := 53) (oi := ⟨_, _, _, _, _, _⟩) (v := ?_) rfl (by kernel_rfl) (by kernel_rfl) (by kernel_rfl) (fun _ _ _ h => h) (Or.inl ⟨by rfl, ?_⟩) (by assumption) ?_
  rotate_left
  · intro w hSw; (try dsimp only at hSw); go_simp; (try (with_reducible rfl))
  try simp only [Act.put, List.setIfInBounds_toArray, List.set_cons_zero, List.set_cons_succ]
  refine wpAnyH_take (i := 54) (oi := ⟨_, _, _, _, _, _⟩) (v := ?_) rfl (by kernel_rfl) (by kernel_rfl) (by kernel_rfl) (fun _ _ _ h => h) (Or.inl ⟨by rfl, ?_⟩) (by assumption) ?_
  rotate_left
  · intro w hSw; (try dsimp only at hSw); go_simp; (try (with_reducible rfl))
  try simp only [Act.put, List.setIfInBounds_toArray, List.set_cons_zero, List.set_cons_succ]
  refine wpAnyH_take (i := 55) (oi := ⟨_, _, _, _, _, _⟩) (v := ?_) rfl (by kernel_rfl) (by kernel_rfl) (by kernel_rfl) (fun _ _ _ h => h) (Or.inl ⟨by rfl, ?_⟩) (by assumption) ?_
  rotate_left
  · intro w hSw; (try dsimp only at hSw); go_simp; (try (with_reducible rfl))
  try simp only [Act.put, List.setIfInBounds_toArray, List.set_cons_zero, List.set_cons_succ]
  refine wpAnyH_take (i := 56) (oi := ⟨_, _, _, _, _, _⟩) (v := ?_) rfl (by kernel_rfl) (by kernel_rfl) (by kernel_rfl) (fun _ _ _ h => h) (Or.inl ⟨by rfl, ?_⟩) (by assumption) ?_
  rotate_left
  · intro w hSw; (try dsimp only at hSw); go_simp; (try (with_reducible rfl))
  try simp only [Act.put, List.setIfInBounds_toArray, List.set_cons_zero, List.set_cons_succ]
  refine wpAnyH_take (i := 57) (oi := ⟨_, _, _, _, _, _⟩) (v := ?_) rfl (by kernel_rfl) (by kernel_rfl) (by kernel_rfl) (fun _ _ _ h => h) (Or.inl ⟨by rfl, ?_⟩) (by assumption) ?_
  rotate_left
  · intro w hSw; (try dsimp only at hSw); go_simp; (try (with_reducible rfl))
  try simp only [Act.put, List.setIfInBounds_toArray, List.set_cons_zero, List.set_cons_succ]
  refine wpAnyH_take (i := 58) (oi := ⟨_, _, _, _, _, _⟩) (v := ?_) rfl (by kernel_rfl) (by kernel_rfl) (by kernel_rfl) (fun _ _ _ h => h) (Or.inl ⟨by rfl, ?_⟩) (by assumption) ?_
  rotate_left
  · intro w hSw; (try dsimp only at hSw); go_simp; (try (with_reducible rfl))
  try simp only [Act.put, List.setIfInBounds_toArray, List.set_cons_zero, List.set_cons_succ]
  refine wpAnyH_take (i := 59) (oi := ⟨_, _, _, _, _, _⟩) (v := ?_) rfl (by kernel_rfl) (by kernel_rfl) (by kernel_rfl) (fun _ _ _ h => h) (Or.inl ⟨by rfl, ?_⟩) (by assumption) ?_
  rotate_left
  · intro w hSw; (try dsimp only at hSw); go_simp; (try (with_reducible rfl))
  try simp only [Act.put, List.setIfInBounds_toArray, List.set_cons_zero, List.set_cons_succ]
  refine wpAnyH_take (i := 60) (oi := ⟨_, _, _, _, _, _⟩) (v := ?_) rfl (by kernel_rfl) (by kernel_rfl) (by kernel_rfl) (fun _ _ _ h => h) (Or.inl ⟨by rfl, ?_⟩) (by assumption) ?_
  rotate_left
  · intro w hSw; (try dsimp only at hSw); go_simp; (try (with_reducible rfl))
  try simp only [Act.put, List.setIfInBounds_toArray, List.set_cons_zero, List.set_cons_succ]
  refine wpAnyH_take (i := 61) (oi := ⟨_, _, _, _, _, _⟩) (v := ?_) rfl (by kernel_rfl) (by kernel_rfl) (by kernel_rfl) (fun _ _ _ h => h) (Or.inl ⟨by rfl, ?_⟩) (by assumption) ?_
  rotate_left
  · intro w hSw; (try dsimp only at hSw); go_simp; (try (with_reducible rfl))
  try simp only [Act.put, List.setIfInBounds_toArray, List.set_cons_zero, List.set_cons_succ]
  refine wpAnyH_take (i := 62) (oi := ⟨_, _, _, _, _, _⟩) (v := ?_) rfl (by kernel_rfl) (by kernel_rfl) (by kernel_rfl) (fun _ _ _ h => h) (Or.inl ⟨by rfl, ?_⟩) (by assumption) ?_
  rotate_left
  · intro w hSw; (try dsimp only at hSw); go_simp; (try (with_reducible rfl))
  try simp only [Act.put, List.setIfInBounds_toArray, List.set_cons_zero, List.set_cons_succ]
  refine wpAnyH_ready (rs := [63]) (by kernel_rfl) (by simp) ?_
  refine AllReadyH.cons (o := ⟨_, _, _, _, _, _⟩) rfl (fun K hK => ?_) AllReadyH.nil
  go_simp
  clear hHeld
  have kk := agree_any (E5.below (show Below w5.heap.size w5 w5.drew from (Below.refl _ _).drew)) (EB5.below (show Below w5.heap.size w5 w5.drew from (Below.refl _ _).drew)) tg
  rw [sm_a1] at kk
  refine kk.mono ?_
  rintro e w6 ⟨rfl, hb6⟩
  clear kk
  have c6 : Below w5.heap.size w5 w6 := below2 (show Below w5.heap.size w5 w5.drew from (Below.refl _ _).drew) hb6
  refine hK.out _ _ (HS.out _ c6) (fun hHeld => ?_)
  clear hK K
  try simp only [Act.put, List.setIfInBounds_toArray, List.set_cons_zero, List.set_cons_succ]
  refine wpAnyH_take (i := 64) (oi := ⟨_, _, _, _, _, _⟩) (v := ?_) rfl (by kernel_rfl) (by kernel_rfl) (by kernel_rfl) (fun _ _ _ h => h) (Or.inl ⟨by rfl, ?_⟩) (by assumption) ?_
  rotate_left
  · intro w hSw; (try dsimp only at hSw); go_simp; (try (with_reducible rfl))
  try simp only [Act.put, List.setIfInBounds_toArray, List.set_cons_zero, List.set_cons_succ]
  refine wpAnyH_take (i := 65) (oi := ⟨_, _, _, _, _, _⟩) (v := ?_) rfl (by kernel_rfl) (by kernel_rfl) (by kernel_rfl) (fun _ _ _ h => h) (Or.inl ⟨by rfl, ?_⟩) (by assumption) ?_
  rotate_left
  · intro w hSw; (try dsimp only at hSw); go_simp; (try (with_reducible rfl))
  try simp only [Act.put, List.setIfInBounds_toArray, List.set_cons_zero, List.set_cons_succ]
  refine wpAnyH_take (i := 66) (oi := ⟨_, _, _, _, _, _⟩) (v := ?_) rfl (by kernel_rfl) (by kernel_rfl) (by kernel_rfl) (fun _ _ _ h => h) (Or.inl ⟨by rfl, ?_⟩) (by assumption) ?_
  rotate_left
  · intro w hSw; (try dsimp only at hSw); go_simp; (try (with_reducible rfl))
  try simp only [Act.put, List.setIfInBounds_toArray, List.set_cons_zero, List.set_cons_succ]
  refine wpAnyH_take (i := 67) (oi := ⟨_, _, _, _, _, _⟩) (v := ?_) rfl (by kernel_rfl) (by kernel_rfl) (by kernel_rfl) (fun _ _ _ h => h) (Or.inl ⟨by rfl, ?_⟩) (by assumption) ?_
  rotate_left
  · intro w hSw; (try dsimp only at hSw); go_simp; (try (with_reducible rfl))
  try simp only [Act.put, List.setIfInBounds_toArray, List.set_cons_zero, List.set_cons_succ]
  refine wpAnyH_ready (rs := [68]) (by kernel_rfl) (by simp) ?_
  refine AllReadyH.cons (o := ⟨_, _, _, _, _, _⟩) rfl (fun K hK => ?_) AllReadyH.nil
  go_simp
  clear hHeld
  have kk := agree_any (E5.below c6) (EB5.below c6) tf
  rw [sm_a2] at kk
  refine kk.mono ?_
  rintro e w7 ⟨rfl, hb7⟩
  clear kk
  have c7 : Below w5.heap.size w5 w7 := below2 c6 hb7
  refine hK.out _ _ (HS.out _ c7) (fun hHeld => ?_)
  clear hK K
  try simp only [Act.put, List.setIfInBounds_toArray, List.set_cons_zero, List.set_cons_succ]
  refine wpAnyH_take (i := 69) (oi := ⟨_, _, _, _, _, _⟩) (v := ?_) rfl (by kernel_rfl) (by kernel_rfl) (by kernel_rfl) (fun _ _ _ h => h) (Or.inl ⟨by rfl, ?_⟩) (by assumption) ?_
  rotate_left
  · intro w hSw; (try dsimp only at hSw); go_simp; (try (with_reducible rfl))
  try simp only [Act.put, List.setIfInBounds_toArray, List.set_cons_zero, List.set_cons_succ]
  refine wpAnyH_take (i := 70) (oi := ⟨_, _, _, _, _, _⟩) (v := ?_) rfl (by kernel_rfl) (by kernel_rfl) (by kernel_rfl) (fun _ _ _ h => h) (Or.inl ⟨by rfl, ?_⟩) (by assumption) ?_
  rotate_left
  · intro w hSw; (try dsimp only at hSw); go_simp; (try (with_reducible rfl))
  try simp only [Act.put, List.setIfInBounds_toArray, List.set_cons_zero, List.set_cons_succ]
  refine wpAnyH_take (i := 71) (oi := ⟨_, _, _, _, _, _⟩) (v := ?_) rfl (by kernel_rfl) (by kernel_rfl) (by kernel_rfl) (fun _ _ _ h => h) (Or.inl ⟨by rfl, ?_⟩) (by assumption) ?_
  rotate_left
  · intro w hSw; (try dsimp only at hSw); go_simp; (try (with_reducible rfl))
  try simp only [Act.put, List.setIfInBounds_toArray, List.set_cons_zero, List.set_cons_succ]
  refine wpAnyH_take (i := 72) (oi := ⟨_, _, _, _, _, _⟩) (v := ?_) rfl (by kernel_rfl) (by kernel_rfl) (by kernel_rfl) (fun _ _ _ h => h) (Or.inl ⟨by rfl, ?_⟩) (by assumption) ?_
  rotate_left
  · intro w hSw; (try dsimp only at hSw); go_simp; (try (with_reducible rfl))
  try simp only [Act.put, List.setIfInBounds_toArray, List.set_cons_zero, List.set_cons_succ]
  refine wpAnyH_take (i := 73) (oi := ⟨_, _, _, _, _, _⟩) (v := ?_) rfl (by kernel_rfl) (by kernel_rfl) (by kernel_rfl) (fun _ _ _ h => h) (Or.inl ⟨by rfl, ?_⟩) (by assumption) ?_
  rotate_left
  · intro w hSw; (try dsimp only at hSw); go_simp; (try (with_reducible rfl))
  try simp only [Act.put, List.setIfInBounds_toArray, List.set_cons_zero, List.set_cons_succ]
  refine wpAnyH_ready (rs := [74]) (by kernel_rfl) (by simp) ?_
  refine AllReadyH.cons (o := ⟨_, _, _, _, _, _⟩) rfl (fun K hK => ?_) AllReadyH.nil
  go_simp
  clear hHeld
  have kk := agree_any (E5.below c7) (EB5.below c7) tx
  rw [sm_a3] at kk
  refine kk.mono ?_
  rintro e w8 ⟨rfl, hb8⟩
  clear kk
  have c8 : Below w5.heap.size w5 w8 := below2 c7 hb8
  refine hK.out _ _ (HS.out _ c8) (fun hHeld => ?_)
  clear hK K
  try simp only [Act.put, List.setIfInBounds_toArray, List.set_cons_zero, List.set_cons_succ]
  refine wpAnyH_take (i := 75) (oi := ⟨_, _, _, _, _, _⟩) (v := ?_) rfl (by kernel_rfl) (by kernel_rfl) (by kernel_rfl) (fun _ _ _ h => h) (Or.inl ⟨by rfl, ?_⟩) (by assumption) ?_
  rotate_left
  · intro w hSw; (try dsimp only at hSw); go_simp; (try (with_reducible rfl))
  try simp only [Act.put, List.setIfInBounds_toArray, List.set_cons_zero, List.set_cons_succ]
  refine wpAnyH_take (i := 76) (oi := ⟨_, _, _, _, _, _⟩) (v := ?_) rfl (by kernel_rfl) (by kernel_rfl) (by kernel_rfl) (fun _ _ _ h => h) (Or.inl ⟨by rfl, ?_⟩) (by assumption) ?_
  rotate_left
  · intro w hSw; (try dsimp only at hSw); go_simp; (try (with_reducible rfl))
  try simp only [Act.put, List.setIfInBounds_toArray, List.set_cons_zero]
  refine wpAnyH_done (by kernel_rfl) ?_ _
  have b8 := below2 b5 c8
  clear hHeld HS
  go_wp2
  go_ret
  exact ⟨rfl, b8⟩
end Go.Proofs.YtlmccjdpmhancaaDoor
namespace Go.Proofs.YtlmccjdpmhancaaDoor
open Go.RowKit

theorem gone_same {e : Ent} (h1 : e.has = false) (h2 : e.data = noS) : gone e = e := Ent.same rfl h1.symm h2.symm rfl rfl
theorem kept_same {e : Ent} (h1 : e.has = true) : kept e e.data = e := Ent.same rfl h1.symm rfl rfl rfl
theorem both_same : ∀ {es : List Ent}, SrtE es → (∀ e ∈ es, e.has = true ∨ e.data = noS) → bothL es (filesOf es) = es.map fun e => (e, e)
  | [], _, _ => bothL_nil
  | e :: es, hs, hd => by
    have hs' := List.pairwise_cons.1 hs
    have ih := both_same hs'.2 fun x hx => hd x (List.mem_cons_of_mem _ hx)
    rw [filesOf_cons, List.map_cons]
    cases hh : e.has with
    | true => rw [if_pos rfl, bothL_eq rfl, ih, kept_same hh]
    | false =>
      have hg : gone e = e := gone_same hh ((hd e (by simp)).resolve_left (by simp [hh]))
      rw [if_neg (by simp)]
      cases hf : filesOf es with
      | nil => rw [hf] at ih; rw [bothL_l, ih, hg]
      | cons f t =>
        have hm : f ∈ filesOf es := by rw [hf]; simp
        obtain ⟨x, hx, -, rfl⟩ := mem_files.1 hm
        have hlt := hs'.1 x hx
        rw [hf] at ih
        have h1 : ¬ e.path = ((x.path, x.data) : Fil).1 := fun h => by
          have e1 : epth e = epth x := epth_inj.2 h
          rw [e1] at hlt; exact List.lt_irrefl _ hlt
        have h2 : Op.bytesLess (pth (x.path, x.data)) (epth e) = false := less_no fun h => List.lt_asymm hlt h
        rw [bothL_gt h1 h2, ih, hg]
theorem fine_data {es : List Ent} (h : RightA es) : ∀ e ∈ es, e.has = true ∨ e.data = noS := fun e he => ((fineE_iff e).1 (h.fine e he)).2.2
theorem scan_self {es : List Ent} (h : RightA es) (a : Int) : scanN es (filesOf es) a = 0 ∧ scanA es (filesOf es) a = es ∧ scanC es (filesOf es) a = [] := by
  have hb := both_same h.srt (fine_data h)
  have hn : scanN es (filesOf es) a = 0 := by
    refine scanN_ok.2 ⟨h, (treeR_iff _).1 h.tree, ?_⟩
    rw [hb, okP, List.length_map, decide_eq_true h.few, Bool.true_and, List.all_eq_true]
    intro p hp
    obtain ⟨e, -, rfl⟩ := List.mem_map.1 hp
    simp [stuck]
  refine ⟨hn, ?_, ?_⟩
  · rw [scanA, if_pos hn, hb, outP, List.map_map]
    conv => rhs; rw [← List.map_id es]
    refine List.map_congr_left fun e _ => ?_
    simp [newE]
  · rw [scanC, if_pos hn, hb, chgP, List.map_eq_nil_iff, List.filter_eq_nil_iff]
    intro p hp
    obtain ⟨e, -, rfl⟩ := List.mem_map.1 hp
    simp

/-! ### What was scanned is right -/
theorem newE_files (a : Int) (ps : List (Ent × Ent)) : filesOf (outP a ps) = filesOf (ps.map (·.2)) := by
  induction ps with
  | nil => rfl
  | cons p ps ih =>
    rw [outP, List.map_cons, List.map_cons, filesOf_cons, filesOf_cons, newE_has, newE_path, newE_data]
    rw [outP] at ih
    rw [ih]
theorem tick_rt (l r a : Int) : 0 ≤ (tickL l r a).1 ∧ (tickL l r a).1 ≤ 1073741824 ∧ 0 ≤ (tickL l r a).2 ∧ (tickL l r a).2 ≤ 1073741824 := by
  have := tkc_le l r a
  rw [tickL_eq]
  simp only
  omega
theorem tick_pos (l r a : Int) : ¬ ((tickL l r a).1 = 0 ∧ (tickL l r a).2 = 0) := by
  unfold tickL up
  split <;> simp only <;> omega
/-- What a pair is, of a right archive and a right tree. -/
theorem pair_right {es : List Ent} {fs : List Fil} (h : RightA es) (k : RightT fs) {p : Ent × Ent} (hp : p ∈ bothL es fs) : rightL (epth p.2) = true := by
  have hP := both_pair es fs p hp
  have hpath := (both_path (x := p.2.path)).1 (List.mem_map.2 ⟨p, hp, rfl⟩)
  rcases hpath with h1 | h1
  · obtain ⟨e, he, h2⟩ := List.mem_map.1 h1
    have := h.paths e he
    unfold epth at this ⊢
    rw [← h2]; exact this
  · obtain ⟨f, hf, h2⟩ := List.mem_map.1 h1
    have := k.paths f hf
    unfold pth at this
    unfold epth
    rw [← h2]; exact this
theorem pair_new {es : List Ent} {fs : List Fil} {p : Ent × Ent} (hp : p ∈ bothL es fs) (he : p.2 = p.1) : p.1 ∈ es := by
  have hP := both_pair es fs p hp
  rcases hP.was with h | ⟨h, h2⟩
  · exact h
  · rw [he, h] at h2; cases h2
theorem scan_right {es : List Ent} {fs : List Fil} {a : Int} (hn : scanN es fs a = 0) : RightA (scanA es fs a) := by
  obtain ⟨h, k, ho⟩ := scanN_ok.1 hn
  rw [scanA, if_pos hn]
  have hsrt := both_srt es fs h.srt k.srt
  refine ⟨?_, ?_, ?_, ?_, ?_⟩
  · rw [outP, List.length_map]; exact okP_len ho
  · refine List.pairwise_map.2 (hsrt.imp fun {p q} hpq => ?_)
    unfold epth
    rw [newE_path, newE_path]; exact hpq
  · intro e he
    obtain ⟨p, hp, rfl⟩ := List.mem_map.1 he
    have := pair_right h k hp
    unfold epth at this ⊢
    rw [newE_path]; exact this
  · intro e he
    obtain ⟨p, hp, rfl⟩ := List.mem_map.1 he
    have hP := both_pair es fs p hp
    by_cases heq : p.2 = p.1
    · rw [newE_eq heq, heq]
      exact h.fine _ (pair_new hp heq)
    · rw [fineE_iff]
      have h1 := tick_rt p.1.l p.1.r a
      have h2 := tick_pos p.1.l p.1.r a
      unfold newE
      rw [if_neg heq]
      refine ⟨h1, h2, ?_⟩
      cases hh : p.2.has with
      | true => exact .inl rfl
      | false => exact .inr (hP.none hh)
  · rw [newE_files, both_files]
    exact (treeR_iff _).2 k
theorem scan_files {es : List Ent} {fs : List Fil} {a : Int} (hn : scanN es fs a = 0) : filesOf (scanA es fs a) = fs := by rw [scanA, if_pos hn, newE_files, both_files]
theorem scan_tree {es : List Ent} {fs : List Fil} {a : Int} (hn : scanN es fs a = 0) : treeE (scanA es fs a) = fs := by rw [treeE, (archR_iff _).2 (scan_right hn), if_pos rfl, scan_files hn]
/-- Scanned again nothing changed. -/
theorem scan_again {es : List Ent} {fs : List Fil} {a : Int} (hn : scanN es fs a = 0) (b : Int) : scanN (scanA es fs a) fs b = 0 ∧ scanA (scanA es fs a) fs b = scanA es fs a ∧ scanC (scanA es fs a) fs b = [] := by
  have := scan_self (scan_right hn) b
  rw [scan_files hn] at this
  exact this
theorem scan_none {es : List Ent} {fs : List Fil} {a : Int} (hn : scanN es fs a ≠ 0) : scanA es fs a = [] ∧ scanC es fs a = [] := ⟨by rw [scanA, if_neg hn], by rw [scanC, if_neg hn]⟩
end Go.Proofs.YtlmccjdpmhancaaDoor
