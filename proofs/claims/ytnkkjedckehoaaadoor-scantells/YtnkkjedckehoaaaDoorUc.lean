/- The document's answers of layer 4: Find, Get, In, Drop. -/
import Derived.Test.YtnkkjedckehoaaaDoorUb
import Derived.Test.YtnkkjedckehoaaaDoorTg
namespace Go.Proofs.YtnkkjedckehoaaaDoor
open Go.RowKit

set_option maxHeartbeats 400000 in
theorem refFind {w : World} {A : Option Addr} {n c : Nat} {fs : List Fil} (h : Ft w A n c fs) (p : ByteArray) :
    Calls Tryd.prog 60 #[.slice A n c, .string p] w fun e w' => e = .returned (.int .i64 (findT fs p.data.toList)) ∧ Below w.heap.size w w' := by
  go_enter Tryd.func60, Tryd.ntmps60
  go_wp2_with fail
  refine (refTree h).mono ?_
  rintro e w1 ⟨rfl, hb1⟩
  cases hR : treeR fs
  · go_wp2
    go_ret
    exact ⟨ret_int (by rw [findT, hR]; rfl), hb1⟩
  · have HR := hid hR
    have hT := (treeR_iff fs).1 hR
    have h1 := h.below hb1
    clear hR h
    go_wp2_with fail
    refine (refPos h1 hT.srt p).mono ?_
    rintro e w2 ⟨rfl, rfl⟩
    go_wp2
    go_ret
    exact ⟨ret_int (by rw [findT, HR.out, posT, Bool.true_and]), hb1⟩

set_option maxHeartbeats 400000 in
theorem refGet {w : World} {A : Option Addr} {n c : Nat} {fs : List Fil} (h : Ft w A n c fs) (p : ByteArray) :
    Calls Tryd.prog 38 #[.slice A n c, .string p] w fun e w' => e = .returned (getV (getT fs p.data.toList)) ∧ Below w.heap.size w w' := by
  have c0 := refFind h p
  have HG := hid (@get_of fs p)
  have HN := hid (@get_none fs p)
  unfold findT at c0
  go_enter Tryd.func38, Tryd.ntmps38
  go_wp2_with fail
  refine c0.mono ?_
  clear c0
  rintro e w1 ⟨rfl, hb1⟩
  have h1 := h.below hb1
  clear h
  cases hc : (treeR fs && thereT fs p.data.toList)
  · rw [if_neg (by simp)]
    have HC := hid hc
    clear hc
    go_wp2
    go_ret2
    rw [HN.out HC.out]
    exact ⟨rfl, hb1⟩
  · rw [if_pos rfl]
    rw [Bool.and_eq_true] at hc
    obtain ⟨hl, he⟩ := HG.out hc.1 hc.2
    obtain ⟨b, off, rfl, -, k2, -⟩ := h1.rd.fil hl
    have HE := hid he
    have hln := h1.len
    clear hc he h1 HN HG
    generalize fs[(lowT fs p.data.toList).length].2 = x at *
    generalize (lowT fs p.data.toList).length = k at *
    have hz : ¬ (k : Int) < 0 := by omega
    have hz0 : (0 : Int) ≤ k := by omega
    have hlt : (k : Int) < n := by omega
    go_wp2
    go_ret2
    rw [HE.out]
    exact ⟨rfl, hb1⟩

/-! ### append onto files of the call's own -/
/-- Files in memory of the call's own, as an append leaves them. -/
def OwnR (base : Nat) (w : World) (A : Option Addr) (n c : Nat) (fs : List Fil) : Prop := fs.length = n ∧ w.ownsRow base 53 2 (.slice A n c) n (filV fs)
theorem OwnR.form {base : Nat} {w : World} {A : Option Addr} {n c : Nat} {fs : List Fil} (h : OwnR base w A n c fs) : n ≤ c ∧ c ≤ 9223372036854775807 ∧ Rd w A (filV fs) := by
  obtain ⟨hl, h⟩ := h
  rcases h.2 with ⟨hv, hn⟩ | ⟨g, cap, cur, hv, _, _, h1, h2, _⟩
  · injection hv with a1 a2 a3
    subst a1 a2 a3
    exact ⟨Nat.le_refl _, by omega, .inl (List.eq_nil_of_length_eq_zero (by rw [filV_length, hl]))⟩
  · injection hv with a1 a2 a3
    subst a1 a3
    exact ⟨h1, h2, .inr ⟨_, rfl, h.cells (g := g) rfl⟩⟩
theorem OwnR.ft {base : Nat} {w : World} {A : Option Addr} {n c : Nat} {fs : List Fil} (h : OwnR base w A n c fs) (hn : n ≤ 140737488355328) (hs : ∀ f ∈ fs, f.1.size < 4294967281 ∧ f.2.size ≤ 140737488355328) : Ft w A n c fs := ⟨h.1, h.form.2.2, h.form.1, hn, h.form.2.1, hs⟩
theorem OwnR.empty (w : World) : OwnR w.heap.size (w.alloc (.cells #[] 53)) (some ⟨w.heap.size, 0, none⟩) 0 0 [] :=
  ⟨rfl, World.ownsRow_made w #[] 0 (Nat.le_refl _) (by unfold maxLen; omega) (by simp)⟩
theorem app_nilF {w : World} (base : Nat) (ty : TypeId) (v : Value) (n : Nat) (xs : List Value) (hown : w.ownsRow base 53 2 v n xs) (c : Nat) : (Builtin.append_ #[23, 23] ty #[v, .slice none 0 c]).run Tryd.prog w = .ok v w := by
  obtain ⟨i, hi, hz0, hz1, hz2⟩ := info_parts Tryd.infoF
  rcases hown.2 with ⟨rfl, rfl⟩ | ⟨g, cap, cur, rfl, _, _, hnc, _⟩
  · simp [Builtin.append_, run_underlying Tryd.underlying23, sizeOf, typeInfo, hi, Builtin.lenOf, Builtin.firstCells]
  · simp [Builtin.append_, run_underlying Tryd.underlying23, sizeOf, typeInfo, hi, Builtin.lenOf, Builtin.firstCells, hnc, storeCells]
/-- append(v, x...), v files of the call's own: its run. -/
theorem run_appF {w : World} {base : Nat} {A : Option Addr} {n c : Nat} {fs : List Fil} (hown : OwnR base w A n c fs) (B : Option Addr) (m d : Nat) (gs : List Fil) (hl : gs.length = m) (hr : Rd w B (filV gs)) (hnm : n + m ≤ 1000000) (hbase : base ≤ w.heap.size) :
    ∃ A' c' w', Hid (∀ ty, (Builtin.append_ #[23, 23] ty #[.slice A n c, .slice B m d]).run Tryd.prog w = .ok (.slice A' (n + m) c') w') ∧ OwnR base w' A' (n + m) c' (fs ++ gs) ∧ w.grownBy w' (Value.slice A n c).ownBlock := by
  obtain ⟨i, hi, hz0, hz1, hz2⟩ := info_parts Tryd.infoF
  have hll : (fs ++ gs).length = n + m := by rw [List.length_append, hown.1, hl]
  have own : ∀ ad, (∀ j u, (filV gs)[j]? = some u → w.cell? (ad.add j) = some u) → ∃ A' c' w', Hid (∀ ty, (Builtin.append_ #[23, 23] ty #[.slice A n c, .slice (some ad) m d]).run Tryd.prog w = .ok (.slice A' (n + m) c') w') ∧ OwnR base w' A' (n + m) c' (fs ++ gs) ∧ w.grownBy w' (Value.slice A n c).ownBlock := by
    intro ad hc
    have key := fun ty => run_append_own (P := Tryd.prog) w base 23 ty 53 i _ 2 32 Tryd.underlying23 hi hz0 hz1 hz2 rfl (by decide) _ n (filV fs) hown.2 ad m d (filV gs) (by rw [filV_length, hl]) hc (filV_one _) (by unfold maxLen; omega) (by omega) hbase
    obtain ⟨v', w', h2, h3, h4, _⟩ := key 0
    have hv : ∃ A' c', v' = .slice A' (n + m) c' := by
      rcases h3.2 with ⟨rfl, e⟩ | ⟨g, cap, cur, rfl, _⟩
      · exact ⟨none, 0, by rw [e]⟩
      · exact ⟨_, cap, rfl⟩
    obtain ⟨A', c', rfl⟩ := hv
    exact ⟨A', c', w', fun ty => h2, ⟨hll, by rw [filV_append]; exact h3⟩, h4⟩
  rcases hr with h0 | ⟨ad, rfl, hc⟩
  · have hg : gs = [] := List.eq_nil_of_length_eq_zero (by have h5 := congrArg List.length h0; rw [filV_length, List.length_nil] at h5; omega)
    subst hg
    obtain rfl : m = 0 := hl.symm
    cases B with
    | none => exact ⟨A, c, w, fun ty => app_nilF base ty _ n _ hown.2 d, by rw [List.append_nil]; exact hown, World.grownBy.refl _ _⟩
    | some ad => exact own ad (by simp [filV])
  · exact own ad hc
theorem OwnR.block {base : Nat} {w : World} {A : Option Addr} {n c : Nat} {fs : List Fil} (h : OwnR base w A n c fs) : ∀ k, (Value.slice A n c).ownBlock = some k → base ≤ k := fun k hk => (h.2.lt k hk).1

/-- Files, and an error's number, were answered: what is read of them. -/
def OutR (w : World) (out : List Fil) (er : Nat) (e : Ending) (w' : World) : Prop :=
  ∃ A n c, e = .returned (.tuple #[.slice A n c, .int .i64 er]) ∧ Ft w' A n c out ∧ Below w.heap.size w w'
theorem outR_err {w w' : World} {out : List Fil} {er e : Nat} (h : er = e) (ho : out = []) (hb : Below w.heap.size w w') : OutR w out er (.returned (.tuple #[.slice none 0 0, .int .i64 (e : Int)])) w' := by
  subst h ho
  exact ⟨none, 0, 0, rfl, ⟨rfl, .inl rfl, Nat.le_refl _, by omega, by omega, by simp⟩, hb⟩

theorem Rd.pre {w : World} {A : Option Addr} {xs : List Value} (h : Rd w A xs) (q : Nat) : Rd w A (xs.take q) := by
  rcases h with rfl | ⟨ad, rfl, hc⟩
  · exact .inl (by simp)
  · refine .inr ⟨ad, rfl, fun j u hu => hc j u ?_⟩
    rw [List.getElem?_take] at hu
    split at hu
    · exact hu
    · cases hu
theorem Rd.post {w : World} {b off : Nat} {xs : List Value} (h : Rd w (some ⟨b, off, none⟩) xs) (q : Nat) : Rd w (some ⟨b, off + q, none⟩) (xs.drop q) := by
  refine .inr ⟨_, rfl, fun j u hu => ?_⟩
  rw [List.getElem?_drop] at hu
  rw [Addr.add_lit, Nat.add_assoc]
  exact h.cells _ _ hu
theorem take_szs {fs : List Fil} {P : Fil → Prop} (h : ∀ f ∈ fs, P f) {gs : List Fil} (hg : ∀ f ∈ gs, f ∈ fs) : ∀ f ∈ gs, P f := fun f hf => h f (hg f hf)

end Go.Proofs.YtnkkjedckehoaaaDoor
