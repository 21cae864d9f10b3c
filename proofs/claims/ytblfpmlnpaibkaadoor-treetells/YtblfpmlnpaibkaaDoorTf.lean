/- tree.Find, Get, Size, Same, In. -/
import Derived.Test.YtblfpmlnpaibkaaDoorTe
import Derived.Laws.StructEq
import Derived.Deep.DeepCutAuto
namespace Go.Proofs.YtblfpmlnpaibkaaDoor
open Go.RowKit

/-- A slice of n files: what is read, and the bounds. -/
structure Ft (w : World) (A : Option Addr) (n c : Nat) (fs : List Fil) : Prop where
  len : fs.length = n
  rd : Rd w A (filV fs)
  cap : n ≤ c
  big : n ≤ 140737488355328
  capm : c ≤ 9223372036854775807
  sz : ∀ f ∈ fs, f.1.size < 4294967281 ∧ f.2.size ≤ 140737488355328
theorem Ft.below {w w' : World} {A : Option Addr} {n c : Nat} {fs : List Fil} (h : Ft w A n c fs) (hb : Below w.heap.size w w') : Ft w' A n c fs := ⟨h.len, h.rd.below hb, h.cap, h.big, h.capm, h.sz⟩
theorem Ft.sz1 {w : World} {A : Option Addr} {n c : Nat} {fs : List Fil} (h : Ft w A n c fs) : ∀ f ∈ fs, f.1.size < 4294967281 := fun f hf => (h.sz f hf).1
theorem tree_any {w : World} {A : Option Addr} {n c : Nat} {fs : List Fil} (h : Ft w A n c fs) : Calls Tryd.prog 19 #[.slice A n c] w fun e w' => e = .returned (.bool (treeR fs)) ∧ Below w.heap.size w w' :=
  tright_any A n c fs w h.len h.rd h.big (fun f hf => ⟨(h.sz f hf).1, by have := (h.sz f hf).2; unfold maxLen; omega⟩)

set_option maxHeartbeats 400000 in
theorem find_any {w : World} {A : Option Addr} {n c : Nat} {fs : List Fil} (h : Ft w A n c fs) (p : ByteArray) :
    Calls Tryd.prog 21 #[.slice A n c, .string p] w fun e w' => e = .returned (.int .i64 (findT fs p.data.toList)) ∧ Below w.heap.size w w' := by
  have hn := h.big
  go_enter Tryd.func21, Tryd.ntmps21
  go_wp2_with fail
  refine (tree_any h).mono ?_
  rintro e w1 ⟨rfl, hb1⟩
  cases hR : treeR fs
  · go_wp2
    go_ret
    exact ⟨ret_int (by rw [findT, hR]; rfl), hb1⟩
  · have HR := hid hR
    have hT := (treeR_iff fs).1 hR
    have h1 := h.below hb1
    clear hR h
    go_wp2_with fail
    refine (place_any A n c fs p _ h1.len hT.srt h1.rd hn).mono ?_
    rintro e w2 ⟨rfl, hb2⟩
    have hb2' := below2 hb1 hb2
    clear hb1 hb2
    cases ht : thereT fs p.data.toList
    · have HH := hid ht
      clear ht
      go_wp2
      go_ret
      exact ⟨ret_int (by rw [findT, HR.out, HH.out]; rfl), hb2'⟩
    · have HH := hid ht
      clear ht
      go_wp2
      go_ret
      exact ⟨ret_int (by rw [findT, HR.out, HH.out]; rfl), hb2'⟩

def getV : Option ByteArray → Value
  | some d => .tuple #[.string d, .bool true]
  | none => .tuple #[.string ⟨#[]⟩, .bool false]
theorem get_of {fs : List Fil} {p : ByteArray} (hR : treeR fs = true) (ht : thereT fs p.data.toList = true) : ∃ hl : (lowT fs p.data.toList).length < fs.length, getT fs p.data.toList = some fs[(lowT fs p.data.toList).length].2 := by
  have hs := ((treeR_iff fs).1 hR).srt
  obtain ⟨hl, he⟩ := (there_at hs).1 ht
  refine ⟨hl, ?_⟩
  rw [getT, if_pos hR, data_iff hs]
  have : (p, fs[(lowT fs p.data.toList).length].2) = fs[(lowT fs p.data.toList).length] := pth_inj (by rw [he]; rfl) rfl
  rw [this]
  exact List.getElem_mem _
theorem get_none {fs : List Fil} {p : ByteArray} (h : (treeR fs && thereT fs p.data.toList) = false) : getT fs p.data.toList = none := by
  rw [getT]
  cases hR : treeR fs
  · rfl
  · rw [hR, Bool.true_and, ← data_some] at h
    simpa using h

set_option maxHeartbeats 400000 in
theorem get_any {w : World} {A : Option Addr} {n c : Nat} {fs : List Fil} (h : Ft w A n c fs) (p : ByteArray) :
    Calls Tryd.prog 16 #[.slice A n c, .string p] w fun e w' => e = .returned (getV (getT fs p.data.toList)) ∧ Below w.heap.size w w' := by
  have c0 := find_any h p
  have HG := hid (@get_of fs p)
  have HN := hid (@get_none fs p)
  unfold findT at c0
  go_enter Tryd.func16, Tryd.ntmps16
  go_wp2_with fail
  refine c0.mono ?_
  clear c0
  rintro e w1 ⟨rfl, hb1⟩
  have h1 := h.below hb1
  clear h
  cases hc : (treeR fs && thereT fs p.data.toList)
  · rw [if_neg (by simp)]
    have HC := hid hc
    clear hc
    go_wp2
    go_ret2
    rw [HN.out HC.out]
    exact ⟨rfl, hb1⟩
  · rw [if_pos rfl]
    rw [Bool.and_eq_true] at hc
    obtain ⟨hl, he⟩ := HG.out hc.1 hc.2
    obtain ⟨b, off, rfl, -, k2, -⟩ := h1.rd.fil hl
    have HE := hid he
    have hsz := (h1.sz fs[(lowT fs p.data.toList).length] (List.getElem_mem _)).2
    have hln := h1.len
    clear hc he h1 HN HG
    generalize fs[(lowT fs p.data.toList).length].2 = x at *
    generalize (lowT fs p.data.toList).length = k at *
    have hz : ¬ (k : Int) < 0 := by omega
    have hz0 : (0 : Int) ≤ k := by omega
    have hlt : (k : Int) < n := by omega
    go_wp2_with fail
    refine (clone_any _ _ (by omega)).mono ?_
    rintro e w2 ⟨rfl, hb2⟩
    have hb2' := below2 hb1 hb2
    clear hb1 hb2
    go_wp2
    go_ret2
    rw [HE.out]
    exact ⟨rfl, hb2'⟩

theorem size_more (fs : List Fil) (j : Nat) (h : j < fs.length) : sizeT (fs.take (j + 1)) = sizeT (fs.take j) + fs[j].2.size := by
  rw [sizeT, List.take_add_one, List.getElem?_eq_getElem h, List.map_append, List.sum_append]
  simp [sizeT]
theorem size_part (fs : List Fil) (j : Nat) : sizeT (fs.take j) ≤ sizeT fs := by
  have e : sizeT fs = sizeT (fs.take j) + sizeT (fs.drop j) := by
    conv => lhs; rw [← List.take_append_drop j fs]
    rw [sizeT, List.map_append, List.sum_append]
    rfl
  omega

set_option maxHeartbeats 400000 in
theorem size_any {w : World} {A : Option Addr} {n c : Nat} {fs : List Fil} (h : Ft w A n c fs) (hs : sizeT fs ≤ 140737488355328) :
    Calls Tryd.prog 24 #[.slice A n c] w fun e w' => e = .returned (.int .i64 (sizeT fs : Nat)) ∧ Below w.heap.size w w' := by
  have hn := h.big
  have HL := hid h.len
  have hr := h.rd
  clear h
  go_enter Tryd.func24, Tryd.ntmps24
  go_wp2_with fail
  go_loopw [3, 8] (fun s i wr => ∃ j : Nat, j ≤ n ∧ i = .int .i64 j ∧ s = .int .i64 (sizeT (fs.take j) : Nat) ∧ Below w.heap.size w wr) (fun _ i _ => n - (intOf i).toNat)
  case atStart => exact ⟨0, by omega, rfl, rfl, Below.refl _ _⟩
  case round =>
    obtain ⟨j, hj, rfl, rfl, hb⟩ := hrel
    by_cases hjn : j < n
    · have hjl : j < fs.length := by rw [HL.out]; exact hjn
      have hr1 := hr.below hb
      obtain ⟨b, off, rfl, h1, h2, -⟩ := hr1.fil hjl
      have HM := hid (size_more fs j hjl)
      have hp1 := size_part fs (j + 1)
      rw [HM.out] at hp1
      have hz : (0 : Int) ≤ j := by omega
      have hlt : (j : Int) < n := by omega
      clear hr1
      generalize fs[j] = f at *
      generalize sizeT (fs.take j) = s at *
      have hb2 := hb.alloc hb.size (.cells #[.string f.1, .string f.2] 33)
      go_wp2
      go_roundw
      case rel => exact ⟨j + 1, by omega, by go_num, by rw [HM.out]; go_num, hb2⟩
      case measure => simp [intOf]; omega
    · have HE := hid (show j = n by omega)
      have hnlt : ¬ (j : Int) < n := by omega
      go_wp2
      go_ret
      refine ⟨ret_int ?_, hb⟩
      rw [HE.out, ← HL.out, List.take_length]

/-! ### Same -/
theorem neqF (f g : Fil) (w : World) : (binOp .neq 33 (.agg #[.string f.1, .string f.2]) (.agg #[.string g.1, .string g.2])).run Tryd.prog w = .ok (.bool (!decide (f = g))) w := by
  have u9 := Tryd.underlying9
  have a9 := Tryd.isAgg9
  have z9 := Tryd.sizeOf9
  have hS : Tryd.prog.underlying 33 = some (.struct (Tryd.prog.fieldsOf 33)) := by kernel_rfl
  have hp : Tryd.prog.stoodInHeld 33 = false := by kernel_rfl
  rw [run_neq_struct, show (10000 : Nat) = 9999 + 1 from rfl, run_equalIn_agg w 9999 33 _ _ hS hp]
  simp only [Program.fieldsOf, Tryd.underlying33]
  go_simp
  have inj : ∀ {a b : ByteArray}, a.toList = b.toList → a = b := fun h => data_inj (by rw [← Lib.toList_data, ← Lib.toList_data]; exact h)
  by_cases h1 : f.1.toList = g.1.toList
  · by_cases h2 : f.2.toList = g.2.toList
    · have e : f = g := Prod.ext (inj h1) (inj h2)
      rw [if_pos h1, if_pos h2, decide_eq_true e]; rfl
    · have e : f ≠ g := fun e => h2 (by rw [e])
      rw [if_pos h1, if_neg h2, decide_eq_false e]; rfl
  · have e : f ≠ g := fun e => h1 (by rw [e])
    rw [if_neg h1, decide_eq_false e]; rfl

theorem same_no {fs gs : List Fil} {j : Nat} (h1 : j < fs.length) (h2 : j < gs.length) (h : fs[j] ≠ gs[j]) : fs ≠ gs := fun e => by subst e; exact h rfl

set_option maxHeartbeats 1000000 in
theorem equal_any {w : World} {A B : Option Addr} {n c m d : Nat} {fs gs : List Fil} (h : Ft w A n c fs) (k : Ft w B m d gs) :
    Calls Tryd.prog 44 #[.slice A n c, .slice B m d] w fun e w' => e = .returned (.bool (decide (fs = gs))) ∧ Below w.heap.size w w' := by
  have hn := h.big
  have HL := hid h.len
  have HL2 := hid k.len
  have hr := h.rd
  have hr2 := k.rd
  clear h k
  by_cases hnm : n = m
  · subst hnm
    go_enter Tryd.func44, Tryd.ntmps44
    go_wp2
    go_loopw [13] (fun i wr => ∃ j : Nat, j ≤ n ∧ i = .int .i64 j ∧ Hid (fs.take j = gs.take j) ∧ ∃ q, wr = w.drewN q) (fun i _ => n - (intOf i).toNat)
    case atStart => exact ⟨0, by omega, rfl, by simp [Hid], 0, rfl⟩
    case round =>
      obtain ⟨j, hj, rfl, HO, q, rfl⟩ := hrel
      by_cases hjn : j < n
      · have hjl : j < fs.length := by rw [HL.out]; exact hjn
        have hjl2 : j < gs.length := by rw [HL2.out]; exact hjn
        obtain ⟨b, off, rfl, h1, h2, -⟩ := hr.fil hjl
        obtain ⟨b', off', rfl, h3, h4, -⟩ := hr2.fil hjl2
        have HN := hid (@same_no fs gs j hjl hjl2)
        have HT1 := hid (show fs.take (j + 1) = fs.take j ++ [fs[j]] by rw [List.take_add_one, List.getElem?_eq_getElem hjl]; rfl)
        have HT2 := hid (show gs.take (j + 1) = gs.take j ++ [gs[j]] by rw [List.take_add_one, List.getElem?_eq_getElem hjl2]; rfl)
        have hz : (0 : Int) ≤ j := by omega
        have hlt : (j : Int) < n := by omega
        have hneq : ∀ w, (binOp .neq 33 (.agg #[.string fs[j].1, .string fs[j].2]) (.agg #[.string gs[j].1, .string gs[j].2])).run Tryd.prog w = .ok (.bool (!decide (fs[j] = gs[j]))) w := neqF fs[j] gs[j]
        generalize fs[j] = f at *
        generalize gs[j] = g at *
        by_cases hfg : f = g
        · rw [decide_eq_true hfg] at hneq
          have HFG := hid hfg
          clear hfg
          go_wp2_with fail
          go_quiet (fail)
          go_wp2
          go_roundw
          case rel => exact ⟨j + 1, by omega, by go_num, hid (by rw [HT1.out, HT2.out, HO.out, HFG.out]), _, rfl⟩
          case measure => simp [intOf]; omega
        · rw [decide_eq_false hfg] at hneq
          have HFG := hid hfg
          clear hfg
          go_wp2_with fail
          go_quiet (fail)
          go_wp2
          go_ret
          exact ⟨ret_bool (decide_eq_false (HN.out HFG.out)).symm, below_drewN (below_drewN (Below.refl _ _) _) _⟩
      · have HE := hid (show j = n by omega)
        have hnlt : ¬ (j : Int) < n := by omega
        go_wp2
        go_ret
        refine ⟨ret_bool ?_, below_drewN (Below.refl _ _) _⟩
        have ho := HO.out
        have e1 := HE.out
        rw [e1, List.take_of_length_le (by rw [HL.out]; omega), List.take_of_length_le (by rw [HL2.out]; omega)] at ho
        exact (decide_eq_true ho).symm
  · have hnz : ¬ (n : Int) = m := by omega
    go_enter Tryd.func44, Tryd.ntmps44
    go_wp2
    go_ret
    refine ⟨ret_bool ?_, Below.refl _ _⟩
    refine (decide_eq_false ?_).symm
    intro e
    subst e
    exact hnm (by rw [← HL.out, HL2.out])

set_option maxHeartbeats 400000 in
theorem same_any {w : World} {A B : Option Addr} {n c m d : Nat} {fs gs : List Fil} (h : Ft w A n c fs) (k : Ft w B m d gs) :
    Calls Tryd.prog 23 #[.slice A n c, .slice B m d] w fun e w' => e = .returned (.bool (decide (fs = gs))) ∧ Below w.heap.size w w' := by
  have c0 := equal_any h k
  clear h k
  generalize decide (fs = gs) = b at *
  go_enter Tryd.func23, Tryd.ntmps23
  go_wp2_with fail
  refine c0.mono ?_
  rintro e w1 ⟨rfl, hb⟩
  clear c0
  go_wp2
  go_ret
  exact ⟨rfl, hb⟩

/-! ### In -/
/-- A new slice of strings was answered. -/
def StrsPost (w : World) (ls : List ByteArray) (e : Ending) (w' : World) : Prop :=
  ∃ A c, e = .returned (.slice A ls.length c) ∧ Rd w' A (strV ls) ∧ ls.length ≤ c ∧ c ≤ maxLen ∧ Below w.heap.size w w'
def inTo (fs : List Fil) (d : List UInt8) : List ByteArray := (fs.filter fun f => underL (pth f) d).map (·.1)
theorem inTo_more (fs : List Fil) (d : List UInt8) (j : Nat) (h : j < fs.length) : inTo (fs.take (j + 1)) d = inTo (fs.take j) d ++ (if underL (pth fs[j]) d then [fs[j].1] else []) := by
  rw [inTo, List.take_add_one, List.getElem?_eq_getElem h, List.filter_append, List.map_append]
  simp only [Option.toList, List.filter_cons, List.filter_nil]
  split <;> rfl
theorem inTo_len (fs : List Fil) (d : List UInt8) : (inTo fs d).length ≤ fs.length := by rw [inTo, List.length_map]; exact List.length_filter_le _ _

set_option maxHeartbeats 2000000 in
theorem in_any {w : World} {A : Option Addr} {n c : Nat} {fs : List Fil} (h : Ft w A n c fs) (d : ByteArray) (hd : d.size < 4294967281) :
    Calls Tryd.prog 27 #[.slice A n c, .string d] w (StrsPost w (inT fs d.data.toList)) := by
  go_enter Tryd.func27, Tryd.ntmps27
  go_wp2_with fail
  refine (tree_any h).mono ?_
  rintro e w1 ⟨rfl, hb1⟩
  cases hR : treeR fs
  · go_wp2
    go_ret
    rw [inT, hR]
    exact ⟨none, 0, rfl, .inl rfl, Nat.le_refl _, by unfold maxLen; omega, hb1⟩
  · have hT := (treeR_iff fs).1 hR
    have hn16 : n ≤ 16 := by have := hT.few; have := h.len; omega
    have HI := hid (show inT fs d.data.toList = inTo fs d.data.toList by rw [inT, hR]; rfl)
    have HS := hid h.sz
    have HL := hid h.len
    have hr := h.rd
    clear hR h hT
    go_wp2_with fail
    go_loopw [5, 13] (fun l i wr => ∃ (j : Nat) (A' : Option Addr) (k' c' : Nat), j ≤ n ∧ i = .int .i64 j ∧ l = .slice A' k' c' ∧ Hid ((inTo (fs.take j) d.data.toList).length = k') ∧ k' ≤ j ∧ wr.ownsRow w.heap.size 9 1 (.slice A' k' c') k' (strV (inTo (fs.take j) d.data.toList)) ∧ Below w.heap.size w wr) (fun _ i _ => n - (intOf i).toNat)
    case atStart => exact ⟨0, none, 0, 0, by omega, rfl, rfl, rfl, by omega, World.ownsRow_nil _ _ _ _, hb1⟩
    case round =>
      clear hb1
      obtain ⟨j, A', k', c', hj, rfl, rfl, HK, hkj, hown, hb⟩ := hrel
      by_cases hjn : j < n
      · have hjl : j < fs.length := by rw [HL.out]; exact hjn
        have hr1 := hr.below hb
        obtain ⟨b, off, rfl, h1, h2, -⟩ := hr1.fil hjl
        clear hr1
        have HM := hid (inTo_more fs d.data.toList j hjl)
        have hz : (0 : Int) ≤ j := by omega
        have hlt : (j : Int) < n := by omega
        have hsz := (HS.out fs[j] (List.getElem_mem hjl)).1
        go_wp2_with fail
        have hown2 := hown.alloc (.cells #[.string fs[j].1, .string fs[j].2] 33)
        have hb2 := hb.alloc hb.size (.cells #[.string fs[j].1, .string fs[j].2] 33)
        have k1 := (Blk.new wr [.string fs[j].1, .string fs[j].2] 33).cell 0
        simp only [List.getElem?_cons_zero] at k1
        have hg : wr.heap.size < (wr.alloc (.cells #[.string fs[j].1, .string fs[j].2] 33)).heap.size := by simp
        clear hown hb h1 h2
        generalize fs[j] = f at *
        generalize wr.alloc (.cells #[.string f.1, .string f.2] 33) = wa at *
        generalize wr.heap.size = g at *
        refine (under_any _ _ _ hsz hd).mono ?_
        rintro e w2 ⟨rfl, hb3⟩
        have k2 := (hb3.cell (p := ⟨g, 0, none⟩) hg).trans k1
        have hown3 := hown2.kept (row := none) (grown_below hb3) (by cases (Value.slice A' k' c').ownBlock <;> simp)
        have hb3' := hb2.trans (hb3.mono hb2.size)
        clear hown2 hb2 hb3 k1 hg
        cases hu : underL f.1.data.toList d.data.toList
        · have HU := hid (show inTo (fs.take (j + 1)) d.data.toList = inTo (fs.take j) d.data.toList by rw [HM.out, if_neg (by show ¬ underL f.1.data.toList _ = true; rw [hu]; simp), List.append_nil])
          clear hu
          go_wp2
          go_roundw
          case rel => exact ⟨j + 1, A', k', c', by omega, by go_num, rfl, hid (by rw [HU.out]; exact HK.out), by omega, by rw [HU.out]; exact hown3, hb3'⟩
          case measure => simp [intOf]; omega
        · have HU := hid (show inTo (fs.take (j + 1)) d.data.toList = inTo (fs.take j) d.data.toList ++ [f.1] by
            have hu' : underL (pth f) d.data.toList = true := hu
            rw [HM.out, if_pos hu'])
          clear hu
          go_wp2_with fail
          refine (clone_any _ _ (by omega)).mono ?_
          rintro e w4 ⟨rfl, hb4⟩
          have hown4 := hown3.kept (row := none) (grown_below hb4) (by cases (Value.slice A' k' c').ownBlock <;> simp)
          have hb4' := hb3'.trans (hb4.mono hb3'.size)
          clear hown3 hb4 hb3' k2
          go_wp2_with (at_builtin; refine wpApp _ rfl _ _ 37 rfl w.heap.size 9 (.string ⟨#[]⟩) 16 Tryd.underlying37 Tryd.infoS rfl A' k' c' _ rfl (hown4.alloc _) _ _ _ (strV [f.1]) rfl rfl (.inr ⟨_, rfl, new_cells w4 9 _⟩) (strV_one _) (by omega) (by have := hb4'.size; simp; omega) (by omega) ?_)
          intro A2 c2 w5 hown5 hg5
          have hb5 : Below w.heap.size w w5 := (hb4'.alloc hb4'.size _).grown hg5 (by have := hb4'.size; simp; omega) (own_app_block hown4)
          clear hown4 hg5 hb4'
          go_wp2
          go_roundw
          case rel =>
            refine ⟨j + 1, A2, k' + 1, c2, by omega, by go_num, rfl, hid (by rw [HU.out, List.length_append, HK.out]; rfl), by omega, ?_, hb5⟩
            rw [HU.out, strV_append]
            exact hown5
          case measure => simp [intOf]; omega
      · have HE := hid (show j = n by omega)
        have hnlt : ¬ (j : Int) < n := by omega
        obtain ⟨-, A3, c3, e3, hc1, hc2⟩ := own_form hown
        injection e3 with e4 e5 e6
        subst e4 e6
        go_wp2
        go_ret
        have e1 : fs.take j = fs := List.take_of_length_le (by rw [HL.out]; have := HE.out; omega)
        have hk := HK.out
        rw [e1] at hk hown
        rw [HI.out]
        exact ⟨A', c', by rw [hk]; rfl, Rd.of_own hown, by rw [hk]; exact hc1, hc2, hb⟩
end Go.Proofs.YtblfpmlnpaibkaaDoor
