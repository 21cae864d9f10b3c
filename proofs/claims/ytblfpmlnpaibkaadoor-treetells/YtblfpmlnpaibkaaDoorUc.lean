/- The document's answers of layer 4: Find, Get, In, Drop. -/
import Derived.Test.YtblfpmlnpaibkaaDoorUb
namespace Go.Proofs.YtblfpmlnpaibkaaDoor
open Go.RowKit

set_option maxHeartbeats 400000 in
theorem refFind {w : World} {A : Option Addr} {n c : Nat} {fs : List Fil} (h : Ft w A n c fs) (p : ByteArray) :
    Calls Tryd.prog 22 #[.slice A n c, .string p] w fun e w' => e = .returned (.int .i64 (findT fs p.data.toList)) ∧ Below w.heap.size w w' := by
  go_enter Tryd.func22, Tryd.ntmps22
  go_wp2_with fail
  refine (refTree h).mono ?_
  rintro e w1 ⟨rfl, hb1⟩
  cases hR : treeR fs
  · go_wp2
    go_ret
    exact ⟨ret_int (by rw [findT, hR]; rfl), hb1⟩
  · have HR := hid hR
    have hT := (treeR_iff fs).1 hR
    have h1 := h.below hb1
    clear hR h
    go_wp2_with fail
    refine (refPos h1 hT.srt p).mono ?_
    rintro e w2 ⟨rfl, rfl⟩
    go_wp2
    go_ret
    exact ⟨ret_int (by rw [findT, HR.out, posT, Bool.true_and]), hb1⟩

set_option maxHeartbeats 400000 in
theorem refGet {w : World} {A : Option Addr} {n c : Nat} {fs : List Fil} (h : Ft w A n c fs) (p : ByteArray) :
    Calls Tryd.prog 17 #[.slice A n c, .string p] w fun e w' => e = .returned (getV (getT fs p.data.toList)) ∧ Below w.heap.size w w' := by
  have c0 := refFind h p
  have HG := hid (@get_of fs p)
  have HN := hid (@get_none fs p)
  unfold findT at c0
  go_enter Tryd.func17, Tryd.ntmps17
  go_wp2_with fail
  refine c0.mono ?_
  clear c0
  rintro e w1 ⟨rfl, hb1⟩
  have h1 := h.below hb1
  clear h
  cases hc : (treeR fs && thereT fs p.data.toList)
  · rw [if_neg (by simp)]
    have HC := hid hc
    clear hc
    go_wp2
    go_ret2
    rw [HN.out HC.out]
    exact ⟨rfl, hb1⟩
  · rw [if_pos rfl]
    rw [Bool.and_eq_true] at hc
    obtain ⟨hl, he⟩ := HG.out hc.1 hc.2
    obtain ⟨b, off, rfl, -, k2, -⟩ := h1.rd.fil hl
    have HE := hid he
    have hln := h1.len
    clear hc he h1 HN HG
    generalize fs[(lowT fs p.data.toList).length].2 = x at *
    generalize (lowT fs p.data.toList).length = k at *
    have hz : ¬ (k : Int) < 0 := by omega
    have hz0 : (0 : Int) ≤ k := by omega
    have hlt : (k : Int) < n := by omega
    go_wp2
    go_ret2
    rw [HE.out]
    exact ⟨rfl, hb1⟩

set_option maxHeartbeats 2000000 in
theorem refIn {w : World} {A : Option Addr} {n c : Nat} {fs : List Fil} (h : Ft w A n c fs) (d : ByteArray) (hd : d.size < 4294967281) :
    Calls Tryd.prog 28 #[.slice A n c, .string d] w (StrsPost w (inT fs d.data.toList)) := by
  have hnb := h.big
  go_enter Tryd.func28, Tryd.ntmps28
  go_wp2_with fail
  refine (refTree h).mono ?_
  rintro e w1 ⟨rfl, hb1⟩
  cases hR : treeR fs
  · have HI := hid (show inT fs d.data.toList = [] by rw [inT, hR]; rfl)
    clear hR h
    go_wp2_with fail
    go_loopw [5, 7] (fun l i wr => l = .slice none 0 0 ∧ i = .int .i64 0 ∧ w1 = wr) (fun _ _ _ => 0)
    case atStart => exact ⟨rfl, rfl, rfl⟩
    case round =>
      obtain ⟨rfl, rfl, rfl⟩ := hrel
      by_cases hn0 : (0 : Int) < n
      · go_wp2
        go_ret
        rw [HI.out]
        exact ⟨none, 0, rfl, .inl rfl, Nat.le_refl _, by unfold maxLen; omega, hb1⟩
      · go_wp2
        go_ret
        rw [HI.out]
        exact ⟨none, 0, rfl, .inl rfl, Nat.le_refl _, by unfold maxLen; omega, hb1⟩
  · have hT := (treeR_iff fs).1 hR
    have hn16 : n ≤ 16 := by have := hT.few; have := h.len; omega
    have HI := hid (show inT fs d.data.toList = inTo fs d.data.toList by rw [inT, hR]; rfl)
    have HS := hid h.sz
    have HL := hid h.len
    have hr := h.rd
    clear hR h hT
    go_wp2_with fail
    go_loopw [5, 7] (fun l i wr => ∃ (j : Nat) (A' : Option Addr) (k' c' : Nat), j ≤ n ∧ i = .int .i64 j ∧ l = .slice A' k' c' ∧ Hid ((inTo (fs.take j) d.data.toList).length = k') ∧ k' ≤ j ∧ wr.ownsRow w.heap.size 9 1 (.slice A' k' c') k' (strV (inTo (fs.take j) d.data.toList)) ∧ Below w.heap.size w wr) (fun _ i _ => n - (intOf i).toNat)
    case atStart => exact ⟨0, none, 0, 0, by omega, rfl, rfl, rfl, by omega, World.ownsRow_nil _ _ _ _, hb1⟩
    case round =>
      clear hb1
      obtain ⟨j, A', k', c', hj, rfl, rfl, HK, hkj, hown, hb⟩ := hrel
      by_cases hjn : j < n
      · have hjl : j < fs.length := by rw [HL.out]; exact hjn
        have hr1 := hr.below hb
        obtain ⟨b, off, rfl, h1, -, -⟩ := hr1.fil hjl
        clear hr1
        have HM := hid (inTo_more fs d.data.toList j hjl)
        have hz : (0 : Int) ≤ j := by omega
        have hlt : (j : Int) < n := by omega
        have hsz := (HS.out fs[j] (List.getElem_mem hjl)).1
        generalize fs[j] = f at *
        go_wp2_with fail
        refine (refUnder _ _ _ hsz hd).mono ?_
        rintro e w2 ⟨rfl, hb3⟩
        have h2 := (hb3.cell (p := ⟨b, off + j * 2, none⟩) (World.block_lt_of_cell? _ _ h1)).trans h1
        have hown3 := hown.kept (row := none) (grown_below hb3) (by cases (Value.slice A' k' c').ownBlock <;> simp)
        have hb3' := hb.trans (hb3.mono hb.size)
        clear hown hb hb3 h1
        cases hu : underL f.1.data.toList d.data.toList
        · have HU := hid (show inTo (fs.take (j + 1)) d.data.toList = inTo (fs.take j) d.data.toList by rw [HM.out, if_neg (by show ¬ underL f.1.data.toList _ = true; rw [hu]; simp), List.append_nil])
          clear hu
          go_wp2
          go_roundw
          case rel => exact ⟨j + 1, A', k', c', by omega, by go_num, rfl, hid (by rw [HU.out]; exact HK.out), by omega, by rw [HU.out]; exact hown3, hb3'⟩
          case measure => simp [intOf]; omega
        · have HU := hid (show inTo (fs.take (j + 1)) d.data.toList = inTo (fs.take j) d.data.toList ++ [f.1] by
            have hu' : underL (pth f) d.data.toList = true := hu
            rw [HM.out, if_pos hu'])
          clear hu
          go_wp2_with (at_builtin; refine wpApp _ rfl _ _ 37 rfl w.heap.size 9 (.string ⟨#[]⟩) 16 Tryd.underlying37 Tryd.infoS rfl A' k' c' _ rfl (hown3.alloc _) _ _ _ (strV [f.1]) rfl rfl (.inr ⟨_, rfl, new_cells w2 9 _⟩) (strV_one _) (by omega) (by have := hb3'.size; simp; omega) (by omega) ?_)
          intro A2 c2 w5 hown5 hg5
          have hb5 : Below w.heap.size w w5 := (hb3'.alloc hb3'.size _).grown hg5 (by have := hb3'.size; simp; omega) (own_app_block hown3)
          clear hown3 hg5 hb3' h2
          go_wp2
          go_roundw
          case rel =>
            refine ⟨j + 1, A2, k' + 1, c2, by omega, by go_num, rfl, hid (by rw [HU.out, List.length_append, HK.out]; rfl), by omega, ?_, hb5⟩
            rw [HU.out, strV_append]
            exact hown5
          case measure => simp [intOf]; omega
      · have HE := hid (show j = n by omega)
        have hnlt : ¬ (j : Int) < n := by omega
        obtain ⟨-, A3, c3, e3, hc1, hc2⟩ := own_form hown
        injection e3 with e4 e5 e6
        subst e4 e6
        go_wp2
        go_ret
        have e1 : fs.take j = fs := List.take_of_length_le (by rw [HL.out]; have := HE.out; omega)
        have hk := HK.out
        rw [e1] at hk hown
        rw [HI.out]
        exact ⟨A', c', by rw [hk]; rfl, Rd.of_own hown, by rw [hk]; exact hc1, hc2, hb⟩

/-! ### append onto files of the call's own -/
/-- Files in memory of the call's own, as an append leaves them. -/
def OwnR (base : Nat) (w : World) (A : Option Addr) (n c : Nat) (fs : List Fil) : Prop := fs.length = n ∧ w.ownsRow base 33 2 (.slice A n c) n (filV fs)
theorem OwnR.form {base : Nat} {w : World} {A : Option Addr} {n c : Nat} {fs : List Fil} (h : OwnR base w A n c fs) : n ≤ c ∧ c ≤ 9223372036854775807 ∧ Rd w A (filV fs) := by
  obtain ⟨hl, h⟩ := h
  rcases h.2 with ⟨hv, hn⟩ | ⟨g, cap, cur, hv, _, _, h1, h2, _⟩
  · injection hv with a1 a2 a3
    subst a1 a2 a3
    exact ⟨Nat.le_refl _, by omega, .inl (List.eq_nil_of_length_eq_zero (by rw [filV_length, hl]))⟩
  · injection hv with a1 a2 a3
    subst a1 a3
    exact ⟨h1, h2, .inr ⟨_, rfl, h.cells (g := g) rfl⟩⟩
theorem OwnR.ft {base : Nat} {w : World} {A : Option Addr} {n c : Nat} {fs : List Fil} (h : OwnR base w A n c fs) (hn : n ≤ 140737488355328) (hs : ∀ f ∈ fs, f.1.size < 4294967281 ∧ f.2.size ≤ 140737488355328) : Ft w A n c fs := ⟨h.1, h.form.2.2, h.form.1, hn, h.form.2.1, hs⟩
theorem OwnR.empty (w : World) : OwnR w.heap.size (w.alloc (.cells #[] 33)) (some ⟨w.heap.size, 0, none⟩) 0 0 [] :=
  ⟨rfl, World.ownsRow_made w #[] 0 (Nat.le_refl _) (by unfold maxLen; omega) (by simp)⟩
theorem app_nilF {w : World} (base : Nat) (ty : TypeId) (v : Value) (n : Nat) (xs : List Value) (hown : w.ownsRow base 33 2 v n xs) (c : Nat) : (Builtin.append_ #[22, 22] ty #[v, .slice none 0 c]).run Tryd.prog w = .ok v w := by
  obtain ⟨i, hi, hz0, hz1, hz2⟩ := info_parts Tryd.infoF
  rcases hown.2 with ⟨rfl, rfl⟩ | ⟨g, cap, cur, rfl, _, _, hnc, _⟩
  · simp [Builtin.append_, run_underlying Tryd.underlying22, sizeOf, typeInfo, hi, Builtin.lenOf, Builtin.firstCells]
  · simp [Builtin.append_, run_underlying Tryd.underlying22, sizeOf, typeInfo, hi, Builtin.lenOf, Builtin.firstCells, hnc, storeCells]
/-- append(v, x...), v files of the call's own: its run. -/
theorem run_appF {w : World} {base : Nat} {A : Option Addr} {n c : Nat} {fs : List Fil} (hown : OwnR base w A n c fs) (B : Option Addr) (m d : Nat) (gs : List Fil) (hl : gs.length = m) (hr : Rd w B (filV gs)) (hnm : n + m ≤ 1000000) (hbase : base ≤ w.heap.size) :
    ∃ A' c' w', Hid (∀ ty, (Builtin.append_ #[22, 22] ty #[.slice A n c, .slice B m d]).run Tryd.prog w = .ok (.slice A' (n + m) c') w') ∧ OwnR base w' A' (n + m) c' (fs ++ gs) ∧ w.grownBy w' (Value.slice A n c).ownBlock := by
  obtain ⟨i, hi, hz0, hz1, hz2⟩ := info_parts Tryd.infoF
  have hll : (fs ++ gs).length = n + m := by rw [List.length_append, hown.1, hl]
  have own : ∀ ad, (∀ j u, (filV gs)[j]? = some u → w.cell? (ad.add j) = some u) → ∃ A' c' w', Hid (∀ ty, (Builtin.append_ #[22, 22] ty #[.slice A n c, .slice (some ad) m d]).run Tryd.prog w = .ok (.slice A' (n + m) c') w') ∧ OwnR base w' A' (n + m) c' (fs ++ gs) ∧ w.grownBy w' (Value.slice A n c).ownBlock := by
    intro ad hc
    have key := fun ty => run_append_own (P := Tryd.prog) w base 22 ty 33 i _ 2 32 Tryd.underlying22 hi hz0 hz1 hz2 rfl (by decide) _ n (filV fs) hown.2 ad m d (filV gs) (by rw [filV_length, hl]) hc (filV_one _) (by unfold maxLen; omega) (by omega) hbase
    obtain ⟨v', w', h2, h3, h4, _⟩ := key 0
    have hv : ∃ A' c', v' = .slice A' (n + m) c' := by
      rcases h3.2 with ⟨rfl, e⟩ | ⟨g, cap, cur, rfl, _⟩
      · exact ⟨none, 0, by rw [e]⟩
      · exact ⟨_, cap, rfl⟩
    obtain ⟨A', c', rfl⟩ := hv
    exact ⟨A', c', w', fun ty => h2, ⟨hll, by rw [filV_append]; exact h3⟩, h4⟩
  rcases hr with h0 | ⟨ad, rfl, hc⟩
  · have hg : gs = [] := List.eq_nil_of_length_eq_zero (by have h5 := congrArg List.length h0; rw [filV_length, List.length_nil] at h5; omega)
    subst hg
    obtain rfl : m = 0 := hl.symm
    cases B with
    | none => exact ⟨A, c, w, fun ty => app_nilF base ty _ n _ hown.2 d, by rw [List.append_nil]; exact hown, World.grownBy.refl _ _⟩
    | some ad => exact own ad (by simp [filV])
  · exact own ad hc
theorem OwnR.block {base : Nat} {w : World} {A : Option Addr} {n c : Nat} {fs : List Fil} (h : OwnR base w A n c fs) : ∀ k, (Value.slice A n c).ownBlock = some k → base ≤ k := fun k hk => (h.2.lt k hk).1

/-- Files, and an error's number, were answered: what is read of them. -/
def OutR (w : World) (out : List Fil) (er : Nat) (e : Ending) (w' : World) : Prop :=
  ∃ A n c, e = .returned (.tuple #[.slice A n c, .int .i64 er]) ∧ Ft w' A n c out ∧ Below w.heap.size w w'
theorem outR_err {w w' : World} {out : List Fil} {er e : Nat} (h : er = e) (ho : out = []) (hb : Below w.heap.size w w') : OutR w out er (.returned (.tuple #[.slice none 0 0, .int .i64 (e : Int)])) w' := by
  subst h ho
  exact ⟨none, 0, 0, rfl, ⟨rfl, .inl rfl, Nat.le_refl _, by omega, by omega, by simp⟩, hb⟩

theorem Rd.pre {w : World} {A : Option Addr} {xs : List Value} (h : Rd w A xs) (q : Nat) : Rd w A (xs.take q) := by
  rcases h with rfl | ⟨ad, rfl, hc⟩
  · exact .inl (by simp)
  · refine .inr ⟨ad, rfl, fun j u hu => hc j u ?_⟩
    rw [List.getElem?_take] at hu
    split at hu
    · exact hu
    · cases hu
theorem Rd.post {w : World} {b off : Nat} {xs : List Value} (h : Rd w (some ⟨b, off, none⟩) xs) (q : Nat) : Rd w (some ⟨b, off + q, none⟩) (xs.drop q) := by
  refine .inr ⟨_, rfl, fun j u hu => ?_⟩
  rw [List.getElem?_drop] at hu
  rw [Addr.add_lit, Nat.add_assoc]
  exact h.cells _ _ hu
theorem take_szs {fs : List Fil} {P : Fil → Prop} (h : ∀ f ∈ fs, P f) {gs : List Fil} (hg : ∀ f ∈ gs, f ∈ fs) : ∀ f ∈ gs, P f := fun f hf => h f (hg f hf)

set_option maxHeartbeats 1000000 in
set_option maxRecDepth 10000 in
theorem refDrop {w : World} {A : Option Addr} {n c : Nat} {fs : List Fil} (h : Ft w A n c fs) (p : ByteArray) :
    Calls Tryd.prog 15 #[.slice A n c, .string p] w (OutR w (dropT fs p.data.toList) (dropE fs p.data.toList)) := by
  go_enter Tryd.func15, Tryd.ntmps15
  go_wp2_with fail
  refine (refTree h).mono ?_
  rintro e w1 ⟨rfl, b1⟩
  cases hR : treeR fs
  · have HE := hid (dropE_arg (p := p.data.toList) hR)
    clear hR
    go_wp2
    go_ret2
    exact outR_err HE.out (dropT_err HE.out (by decide)) b1
  · have HR := hid hR
    have hT := (treeR_iff fs).1 hR
    have h4 := h.below b1
    clear hR h
    have c0 := refPos h4 hT.srt p
    unfold posT at c0
    have hn16 : n ≤ 16 := by have := hT.few; have := h4.len; omega
    cases ht : thereT fs p.data.toList
    · rw [ht, if_neg (by simp)] at c0
      have HE := hid (dropE_none HR.out ht)
      clear ht
      go_wp2_with fail
      refine c0.mono ?_
      rintro e w2 ⟨rfl, rfl⟩
      clear c0
      go_wp2
      go_ret2
      exact outR_err HE.out (dropT_err HE.out (by decide)) b1
    · rw [ht, if_pos rfl] at c0
      have HE := hid (dropE_ok HR.out ht)
      have HPN := hid (drop_len hT.srt p.data.toList)
      rw [ht, h4.len] at HPN
      obtain ⟨d0, hfs⟩ : ∃ d0, fs = lowT fs p.data.toList ++ (mkS p.data.toList, d0) :: highT fs p.data.toList := by
        rcases split_tree p.data.toList hT.srt with ⟨a, _⟩ | ⟨d0, _, b⟩
        · rw [ht] at a; cases a
        · exact ⟨d0, b⟩
      have HDL := hid (show fs.take (lowT fs p.data.toList).length ++ fs.drop ((lowT fs p.data.toList).length + 1) = dropL fs p.data.toList by
        rw [dropL]
        generalize lowT fs p.data.toList = l at *
        generalize highT fs p.data.toList = r at *
        subst hfs
        rw [List.take_left, List.drop_append, List.drop_of_length_le (by omega), show l.length + 1 - l.length = 1 by omega]
        rfl)
      have hkl : (lowT fs p.data.toList).length < n := by
        have := congrArg List.length hfs
        rw [h4.len, List.length_append, List.length_cons] at this
        omega
      clear hfs ht
      generalize (lowT fs p.data.toList).length = k at *
      obtain ⟨m, rfl⟩ : ∃ m, n = m + 1 := ⟨n - 1, by omega⟩
      have hkl2 : k < fs.length := by have := h4.len; omega
      obtain ⟨b, off, rfl, -, -, -⟩ := h4.rd.fil hkl2
      have hrd := h4.rd
      have hcap := h4.cap
      have HSZ := hid h4.sz
      have HLN := hid h4.len
      clear h4 hkl2
      have hz0 : (0 : Int) ≤ k := by omega
      have hzm : (k : Int) ≤ (m : Int) + 1 := by omega
      have hz1 : (0 : Int) ≤ (k : Int) + 1 := by omega
      have hzm1 : (k : Int) + 1 ≤ (m : Int) + 1 := by omega
      have hwr : IntKind.i64.wrap ((k : Int) + 1) = (k : Int) + 1 := by rw [IntKind.wrap_i64]; omega
      have hkn : ¬ (k : Int) < 0 := by omega
      go_wp2_with fail
      refine c0.mono ?_
      rintro e w2 ⟨rfl, rfl⟩
      clear c0
      have o0 : OwnR w1.heap.size (w1.drew.alloc (.cells #[] 33)) (some ⟨w1.heap.size, 0, none⟩) 0 0 [] := OwnR.empty w1.drew
      have r0 : Rd (w1.drew.alloc (.cells #[] 33)) (some ⟨b, off, none⟩) (filV fs) := Rd.alloc (w := w1.drew) hrd _
      have q0 : Below w1.heap.size w1 (w1.drew.alloc (.cells #[] 33)) := (Below.refl _ _).drew.alloc (Nat.le_refl _) _
      have h0z : w1.heap.size ≤ (w1.drew.alloc (.cells #[] 33)).heap.size := by simp
      obtain ⟨wE, hwE⟩ : ∃ wE, w1.drew.alloc (.cells #[] 33) = wE := ⟨_, rfl⟩
      rw [hwE] at o0 r0 q0 h0z
      have HWE := hid hwE
      clear hwE
      have rp := r0.pre (k * 2)
      rw [← filV_take] at rp
      obtain ⟨A1, c1, w3, HR1, o1, g1⟩ := run_appF o0 (some ⟨b, off, none⟩) k c (fs.take k) (by rw [List.length_take, HLN.out]; omega) rp (by omega) h0z
      by_cases hck : c = k + 1
      · subst hck
        have hzc : (k : Int) ≤ (k : Int) + 1 := by omega
        have hdl : fs.drop (k + 1) = [] := List.drop_of_length_le (by rw [HLN.out]; omega)
        rw [Nat.zero_add] at HR1 o1
        have q1 := q0.grown g1 h0z o0.block
        have r1 := hrd.below q1
        have h1z : w1.heap.size ≤ w3.heap.size := q1.size
        have rq : Rd w3 (some ⟨b, off, none⟩) (filV (fs.drop (k + 1))) := by rw [hdl]; exact .inl rfl
        obtain ⟨A2, c2, w4, HR2, o2, g2⟩ := run_appF o1 (some ⟨b, off, none⟩) 0 0 (fs.drop (k + 1)) (by rw [hdl]; rfl) rq (by omega) h1z
        clear hdl
        have q2 := q1.grown g2 h1z o1.block
        have HW2 := hid (below2 b1 q2)
        have HO2 := hid o2
        have hrunE := HWE.out
        clear o0 o1 o2 g1 g2 q0 q1 q2 r0 rp r1 rq hrd
        go_upto_region 6 with (fail)
        refine wp_region_held_drew (S := fun _ => True) (by kernel_rfl) trivial (fun hHeld => ?_)
        refine wpAnyH_take (i := 1) (oi := ⟨_, _, _, _, _, _⟩) (v := ?_) rfl (by kernel_rfl) (by kernel_rfl) (by kernel_rfl) (fun _ _ _ h => h) (Or.inl ⟨by rfl, ?_⟩) (by assumption) ?_
        rotate_left
        · intro w hSw; (try dsimp only at hSw); go_simp; (try (with_reducible rfl))
        try simp only [Act.put, List.setIfInBounds_toArray, List.set_cons_zero, List.set_cons_succ]
        refine wpAnyH_take (i := 2) (oi := ⟨_, _, _, _, _, _⟩) (v := ?_) rfl (by kernel_rfl) (by kernel_rfl) (by kernel_rfl) (fun _ _ _ h => h) (Or.inl ⟨by rfl, ?_⟩) (by assumption) ?_
        rotate_left
        · intro w hSw; (try dsimp only at hSw); go_simp; (try (with_reducible rfl))
        try simp only [Act.put, List.setIfInBounds_toArray, List.set_cons_zero, List.set_cons_succ]
        refine wpAnyH_take (i := 3) (oi := ⟨_, _, _, _, _, _⟩) (v := ?_) rfl (by kernel_rfl) (by kernel_rfl) (by kernel_rfl) (fun _ _ _ h => h) (Or.inl ⟨by rfl, ?_⟩) (by assumption) ?_
        rotate_left
        · intro w hSw; (try dsimp only at hSw); go_simp; (try (with_reducible rfl))
        try simp only [Act.put, List.setIfInBounds_toArray, List.set_cons_zero, List.set_cons_succ]
        refine wpAnyH_take (i := 5) (oi := ⟨_, _, _, _, _, _⟩) (v := ?_) rfl (by kernel_rfl) (by kernel_rfl) (by kernel_rfl) (fun _ _ _ h => h) (Or.inl ⟨by rfl, ?_⟩) (by assumption) ?_
        rotate_left
        · intro w hSw; (try dsimp only at hSw); go_simp; (try (with_reducible rfl))
        try simp only [Act.put, List.setIfInBounds_toArray, List.set_cons_zero, List.set_cons_succ]
        refine wpAnyH_take (i := 6) (oi := ⟨_, _, _, _, _, _⟩) (v := ?_) rfl (by kernel_rfl) (by kernel_rfl) (by kernel_rfl) (fun _ _ _ h => h) (Or.inl ⟨by rfl, ?_⟩) (by assumption) ?_
        rotate_left
        · intro w hSw; (try dsimp only at hSw); go_simp; (try (with_reducible rfl))
        try simp only [Act.put, List.setIfInBounds_toArray, List.set_cons_zero, List.set_cons_succ]
        refine wpAnyH_take (i := 7) (oi := ⟨_, _, _, _, _, _⟩) (v := ?_) rfl (by kernel_rfl) (by kernel_rfl) (by kernel_rfl) (fun _ _ _ h => h) (Or.inl ⟨by rfl, ?_⟩) (by assumption) ?_
        rotate_left
        · intro w hSw; (try dsimp only at hSw); go_simp; (try (with_reducible rfl))
        try simp only [Act.put, List.setIfInBounds_toArray, List.set_cons_zero, List.set_cons_succ]
        refine wpAnyH_take (i := 8) (oi := ⟨_, _, _, _, _, _⟩) (v := ?_) rfl (by kernel_rfl) (by kernel_rfl) (by kernel_rfl) (fun _ _ _ h => h) (Or.inl ⟨by rfl, ?_⟩) (by assumption) ?_
        rotate_left
        · intro w hSw; (try dsimp only at hSw); go_simp; (try (with_reducible rfl))
        try simp only [Act.put, List.setIfInBounds_toArray, List.set_cons_zero, List.set_cons_succ]
        refine wpAnyH_ready (rs := [0]) (by kernel_rfl) (by simp) ?_
        refine AllReadyH.cons (o := ⟨_, _, _, _, _, _⟩) rfl (fun K hK => ?_) AllReadyH.nil
        go_simp
        refine hK.out _ _ trivial (fun hHeld => ?_)
        clear hK K
        try simp only [Act.put, List.setIfInBounds_toArray, List.set_cons_zero, List.set_cons_succ]
        refine wpAnyH_ready (rs := [4]) (by kernel_rfl) (by simp) ?_
        refine AllReadyH.cons (o := ⟨_, _, _, _, _, _⟩) rfl (fun K hK => ?_) (AllReadyH.nil)
        refine stepApp2 (by rfl) (.tmp 15) (.tmp 18) 22 rfl _ _ _ rfl rfl (HR1.out _) ?_
        try simp only [Act.put, List.setIfInBounds_toArray, List.set_cons_zero, List.set_cons_succ]
        refine hK.out _ _ trivial (fun hHeld => ?_)
        clear hK K
        try simp only [Act.put, List.setIfInBounds_toArray, List.set_cons_zero, List.set_cons_succ]
        refine wpAnyH_ready (rs := [9]) (by kernel_rfl) (by simp) ?_
        refine AllReadyH.cons (o := ⟨_, _, _, _, _, _⟩) rfl (fun K hK => ?_) (AllReadyH.nil)
        refine stepApp2 (by rfl) (.tmp 19) (.tmp 23) 22 rfl _ _ _ rfl rfl (HR2.out _) ?_
        try simp only [Act.put, List.setIfInBounds_toArray, List.set_cons_zero, List.set_cons_succ]
        refine hK.out _ _ trivial (fun hHeld => ?_)
        clear hK K
        try simp only [Act.put, List.setIfInBounds_toArray, List.set_cons_zero, List.set_cons_succ]
        refine wpAnyH_take (i := 10) (oi := ⟨_, _, _, _, _, _⟩) (v := ?_) rfl (by kernel_rfl) (by kernel_rfl) (by kernel_rfl) (fun _ _ _ h => h) (Or.inl ⟨by rfl, ?_⟩) (by assumption) ?_
        rotate_left
        · intro w hSw; (try dsimp only at hSw); go_simp; (try (with_reducible rfl))
        try simp only [Act.put, List.setIfInBounds_toArray, List.set_cons_zero, List.set_cons_succ]
        refine wpAnyH_take (i := 11) (oi := ⟨_, _, _, _, _, _⟩) (v := ?_) rfl (by kernel_rfl) (by kernel_rfl) (by kernel_rfl) (fun _ _ _ h => h) (Or.inl ⟨by rfl, ?_⟩) (by assumption) ?_
        rotate_left
        · intro w hSw; (try dsimp only at hSw); go_simp; (try (with_reducible rfl))
        try simp only [Act.put, List.setIfInBounds_toArray, List.set_cons_zero, List.set_cons_succ]
        refine wpAnyH_done (by kernel_rfl) ?_ _
        go_wp2
        go_ret2
        refine ⟨A2, k + 0, c2, by rw [HE.out]; rfl, ?_, HW2.out⟩
        rw [dropT_ok HE.out]
        have h9 := HO2.out
        rw [List.nil_append, HDL.out] at h9
        exact h9.ft (by omega) (drop_szs HSZ.out)
      · have hck2 : ¬ c = k + 1 := hck
        have hzc : (k : Int) ≤ (c : Int) := by omega
        rw [Nat.zero_add] at HR1 o1
        have q1 := q0.grown g1 h0z o0.block
        have r1 := hrd.below q1
        have h1z : w1.heap.size ≤ w3.heap.size := q1.size
        have rq := r1.post ((k + 1) * 2)
        rw [← filV_drop] at rq
        obtain ⟨A2, c2, w4, HR2, o2, g2⟩ := run_appF o1 (some ⟨b, off + (k + 1) * 2, none⟩) (m - k) (c - (k + 1)) (fs.drop (k + 1)) (by rw [List.length_drop, HLN.out]; omega) rq (by omega) h1z
        have q2 := q1.grown g2 h1z o1.block
        have HW2 := hid (below2 b1 q2)
        have HO2 := hid o2
        have hrunE := HWE.out
        clear o0 o1 o2 g1 g2 q0 q1 q2 r0 rp r1 rq hrd
        go_upto_region 6 with (fail)
        refine wp_region_held_drew (S := fun _ => True) (by kernel_rfl) trivial (fun hHeld => ?_)
        refine wpAnyH_take (i := 1) (oi := ⟨_, _, _, _, _, _⟩) (v := ?_) rfl (by kernel_rfl) (by kernel_rfl) (by kernel_rfl) (fun _ _ _ h => h) (Or.inl ⟨by rfl, ?_⟩) (by assumption) ?_
        rotate_left
        · intro w hSw; (try dsimp only at hSw); go_simp; (try (with_reducible rfl))
        try simp only [Act.put, List.setIfInBounds_toArray, List.set_cons_zero, List.set_cons_succ]
        refine wpAnyH_take (i := 2) (oi := ⟨_, _, _, _, _, _⟩) (v := ?_) rfl (by kernel_rfl) (by kernel_rfl) (by kernel_rfl) (fun _ _ _ h => h) (Or.inl ⟨by rfl, ?_⟩) (by assumption) ?_
        rotate_left
        · intro w hSw; (try dsimp only at hSw); go_simp; (try (with_reducible rfl))
        try simp only [Act.put, List.setIfInBounds_toArray, List.set_cons_zero, List.set_cons_succ]
        refine wpAnyH_take (i := 3) (oi := ⟨_, _, _, _, _, _⟩) (v := ?_) rfl (by kernel_rfl) (by kernel_rfl) (by kernel_rfl) (fun _ _ _ h => h) (Or.inl ⟨by rfl, ?_⟩) (by assumption) ?_
        rotate_left
        · intro w hSw; (try dsimp only at hSw); go_simp; (try (with_reducible rfl))
        try simp only [Act.put, List.setIfInBounds_toArray, List.set_cons_zero, List.set_cons_succ]
        refine wpAnyH_take (i := 5) (oi := ⟨_, _, _, _, _, _⟩) (v := ?_) rfl (by kernel_rfl) (by kernel_rfl) (by kernel_rfl) (fun _ _ _ h => h) (Or.inl ⟨by rfl, ?_⟩) (by assumption) ?_
        rotate_left
        · intro w hSw; (try dsimp only at hSw); go_simp; (try (with_reducible rfl))
        try simp only [Act.put, List.setIfInBounds_toArray, List.set_cons_zero, List.set_cons_succ]
        refine wpAnyH_take (i := 6) (oi := ⟨_, _, _, _, _, _⟩) (v := ?_) rfl (by kernel_rfl) (by kernel_rfl) (by kernel_rfl) (fun _ _ _ h => h) (Or.inl ⟨by rfl, ?_⟩) (by assumption) ?_
        rotate_left
        · intro w hSw; (try dsimp only at hSw); go_simp; (try (with_reducible rfl))
        try simp only [Act.put, List.setIfInBounds_toArray, List.set_cons_zero, List.set_cons_succ]
        refine wpAnyH_take (i := 7) (oi := ⟨_, _, _, _, _, _⟩) (v := ?_) rfl (by kernel_rfl) (by kernel_rfl) (by kernel_rfl) (fun _ _ _ h => h) (Or.inl ⟨by rfl, ?_⟩) (by assumption) ?_
        rotate_left
        · intro w hSw; (try dsimp only at hSw); go_simp; (try (with_reducible rfl))
        try simp only [Act.put, List.setIfInBounds_toArray, List.set_cons_zero, List.set_cons_succ]
        refine wpAnyH_take (i := 8) (oi := ⟨_, _, _, _, _, _⟩) (v := ?_) rfl (by kernel_rfl) (by kernel_rfl) (by kernel_rfl) (fun _ _ _ h => h) (Or.inl ⟨by rfl, ?_⟩) (by assumption) ?_
        rotate_left
        · intro w hSw; (try dsimp only at hSw); go_simp; (try (with_reducible rfl))
        try simp only [Act.put, List.setIfInBounds_toArray, List.set_cons_zero, List.set_cons_succ]
        refine wpAnyH_ready (rs := [0]) (by kernel_rfl) (by simp) ?_
        refine AllReadyH.cons (o := ⟨_, _, _, _, _, _⟩) rfl (fun K hK => ?_) AllReadyH.nil
        go_simp
        refine hK.out _ _ trivial (fun hHeld => ?_)
        clear hK K
        try simp only [Act.put, List.setIfInBounds_toArray, List.set_cons_zero, List.set_cons_succ]
        refine wpAnyH_ready (rs := [4]) (by kernel_rfl) (by simp) ?_
        refine AllReadyH.cons (o := ⟨_, _, _, _, _, _⟩) rfl (fun K hK => ?_) (AllReadyH.nil)
        refine stepApp2 (by rfl) (.tmp 15) (.tmp 18) 22 rfl _ _ _ rfl rfl (HR1.out _) ?_
        try simp only [Act.put, List.setIfInBounds_toArray, List.set_cons_zero, List.set_cons_succ]
        refine hK.out _ _ trivial (fun hHeld => ?_)
        clear hK K
        try simp only [Act.put, List.setIfInBounds_toArray, List.set_cons_zero, List.set_cons_succ]
        refine wpAnyH_ready (rs := [9]) (by kernel_rfl) (by simp) ?_
        refine AllReadyH.cons (o := ⟨_, _, _, _, _, _⟩) rfl (fun K hK => ?_) (AllReadyH.nil)
        refine stepApp2 (by rfl) (.tmp 19) (.tmp 23) 22 rfl _ _ _ rfl rfl (HR2.out _) ?_
        try simp only [Act.put, List.setIfInBounds_toArray, List.set_cons_zero, List.set_cons_succ]
        refine hK.out _ _ trivial (fun hHeld => ?_)
        clear hK K
        try simp only [Act.put, List.setIfInBounds_toArray, List.set_cons_zero, List.set_cons_succ]
        refine wpAnyH_take (i := 10) (oi := ⟨_, _, _, _, _, _⟩) (v := ?_) rfl (by kernel_rfl) (by kernel_rfl) (by kernel_rfl) (fun _ _ _ h => h) (Or.inl ⟨by rfl, ?_⟩) (by assumption) ?_
        rotate_left
        · intro w hSw; (try dsimp only at hSw); go_simp; (try (with_reducible rfl))
        try simp only [Act.put, List.setIfInBounds_toArray, List.set_cons_zero, List.set_cons_succ]
        refine wpAnyH_take (i := 11) (oi := ⟨_, _, _, _, _, _⟩) (v := ?_) rfl (by kernel_rfl) (by kernel_rfl) (by kernel_rfl) (fun _ _ _ h => h) (Or.inl ⟨by rfl, ?_⟩) (by assumption) ?_
        rotate_left
        · intro w hSw; (try dsimp only at hSw); go_simp; (try (with_reducible rfl))
        try simp only [Act.put, List.setIfInBounds_toArray, List.set_cons_zero, List.set_cons_succ]
        refine wpAnyH_done (by kernel_rfl) ?_ _
        go_wp2
        go_ret2
        refine ⟨A2, k + (m - k), c2, by rw [HE.out]; rfl, ?_, HW2.out⟩
        rw [dropT_ok HE.out]
        have h9 := HO2.out
        rw [List.nil_append, HDL.out] at h9
        exact h9.ft (by omega) (drop_szs HSZ.out)
end Go.Proofs.YtblfpmlnpaibkaaDoor
