/- tree.Find, Get, Size, Same, In. -/
import Derived.Test.YtnkkjedckehoaaaDoorTe
import Derived.Laws.StructEq
import Derived.Deep.DeepCutAuto
namespace Go.Proofs.YtnkkjedckehoaaaDoor
open Go.RowKit

/-- A slice of n files: what is read, and the bounds. -/
structure Ft (w : World) (A : Option Addr) (n c : Nat) (fs : List Fil) : Prop where
  len : fs.length = n
  rd : Rd w A (filV fs)
  cap : n ≤ c
  big : n ≤ 140737488355328
  capm : c ≤ 9223372036854775807
  sz : ∀ f ∈ fs, f.1.size < 4294967281 ∧ f.2.size ≤ 140737488355328
theorem Ft.below {w w' : World} {A : Option Addr} {n c : Nat} {fs : List Fil} (h : Ft w A n c fs) (hb : Below w.heap.size w w') : Ft w' A n c fs := ⟨h.len, h.rd.below hb, h.cap, h.big, h.capm, h.sz⟩
theorem Ft.sz1 {w : World} {A : Option Addr} {n c : Nat} {fs : List Fil} (h : Ft w A n c fs) : ∀ f ∈ fs, f.1.size < 4294967281 := fun f hf => (h.sz f hf).1
theorem tree_any {w : World} {A : Option Addr} {n c : Nat} {fs : List Fil} (h : Ft w A n c fs) : Calls Tryd.prog 30 #[.slice A n c] w fun e w' => e = .returned (.bool (treeR fs)) ∧ Below w.heap.size w w' :=
  tright_any A n c fs w h.len h.rd h.big (fun f hf => ⟨(h.sz f hf).1, by have := (h.sz f hf).2; unfold maxLen; omega⟩)

def getV : Option ByteArray → Value
  | some d => .tuple #[.string d, .bool true]
  | none => .tuple #[.string ⟨#[]⟩, .bool false]
theorem get_of {fs : List Fil} {p : ByteArray} (hR : treeR fs = true) (ht : thereT fs p.data.toList = true) : ∃ hl : (lowT fs p.data.toList).length < fs.length, getT fs p.data.toList = some fs[(lowT fs p.data.toList).length].2 := by
  have hs := ((treeR_iff fs).1 hR).srt
  obtain ⟨hl, he⟩ := (there_at hs).1 ht
  refine ⟨hl, ?_⟩
  rw [getT, if_pos hR, data_iff hs]
  have : (p, fs[(lowT fs p.data.toList).length].2) = fs[(lowT fs p.data.toList).length] := pth_inj (by rw [he]; rfl) rfl
  rw [this]
  exact List.getElem_mem _
theorem get_none {fs : List Fil} {p : ByteArray} (h : (treeR fs && thereT fs p.data.toList) = false) : getT fs p.data.toList = none := by
  rw [getT]
  cases hR : treeR fs
  · rfl
  · rw [hR, Bool.true_and, ← data_some] at h
    simpa using h

theorem size_more (fs : List Fil) (j : Nat) (h : j < fs.length) : sizeT (fs.take (j + 1)) = sizeT (fs.take j) + fs[j].2.size := by
  rw [sizeT, List.take_add_one, List.getElem?_eq_getElem h, List.map_append, List.sum_append]
  simp [sizeT]
theorem size_part (fs : List Fil) (j : Nat) : sizeT (fs.take j) ≤ sizeT fs := by
  have e : sizeT fs = sizeT (fs.take j) + sizeT (fs.drop j) := by
    conv => lhs; rw [← List.take_append_drop j fs]
    rw [sizeT, List.map_append, List.sum_append]
    rfl
  omega

/-! ### Same -/
theorem neqF (f g : Fil) (w : World) : (binOp .neq 53 (.agg #[.string f.1, .string f.2]) (.agg #[.string g.1, .string g.2])).run Tryd.prog w = .ok (.bool (!decide (f = g))) w := by
  have u9 := Tryd.underlying9
  have a9 := Tryd.isAgg9
  have z9 := Tryd.sizeOf9
  have hS : Tryd.prog.underlying 53 = some (.struct (Tryd.prog.fieldsOf 53)) := by kernel_rfl
  have hp : Tryd.prog.stoodInHeld 53 = false := by kernel_rfl
  rw [run_neq_struct, show (10000 : Nat) = 9999 + 1 from rfl, run_equalIn_agg w 9999 53 _ _ hS hp]
  simp only [Program.fieldsOf, Tryd.underlying53]
  go_simp
  have inj : ∀ {a b : ByteArray}, a.toList = b.toList → a = b := fun h => data_inj (by rw [← Lib.toList_data, ← Lib.toList_data]; exact h)
  by_cases h1 : f.1.toList = g.1.toList
  · by_cases h2 : f.2.toList = g.2.toList
    · have e : f = g := Prod.ext (inj h1) (inj h2)
      rw [if_pos h1, if_pos h2, decide_eq_true e]; rfl
    · have e : f ≠ g := fun e => h2 (by rw [e])
      rw [if_pos h1, if_neg h2, decide_eq_false e]; rfl
  · have e : f ≠ g := fun e => h1 (by rw [e])
    rw [if_neg h1, decide_eq_false e]; rfl

theorem same_no {fs gs : List Fil} {j : Nat} (h1 : j < fs.length) (h2 : j < gs.length) (h : fs[j] ≠ gs[j]) : fs ≠ gs := fun e => by subst e; exact h rfl

set_option maxHeartbeats 1000000 in
theorem equal_any {w : World} {A B : Option Addr} {n c m d : Nat} {fs gs : List Fil} (h : Ft w A n c fs) (k : Ft w B m d gs) :
    Calls Tryd.prog 50 #[.slice A n c, .slice B m d] w fun e w' => e = .returned (.bool (decide (fs = gs))) ∧ Below w.heap.size w w' := by
  have hn := h.big
  have HL := hid h.len
  have HL2 := hid k.len
  have hr := h.rd
  have hr2 := k.rd
  clear h k
  by_cases hnm : n = m
  · subst hnm
    go_enter Tryd.func50, Tryd.ntmps50
    go_wp2
    go_loopw [13] (fun i wr => ∃ j : Nat, j ≤ n ∧ i = .int .i64 j ∧ Hid (fs.take j = gs.take j) ∧ ∃ q, wr = w.drewN q) (fun i _ => n - (intOf i).toNat)
    case atStart => exact ⟨0, by omega, rfl, by simp [Hid], 0, rfl⟩
    case round =>
      obtain ⟨j, hj, rfl, HO, q, rfl⟩ := hrel
      by_cases hjn : j < n
      · have hjl : j < fs.length := by rw [HL.out]; exact hjn
        have hjl2 : j < gs.length := by rw [HL2.out]; exact hjn
        obtain ⟨b, off, rfl, h1, h2, -⟩ := hr.fil hjl
        obtain ⟨b', off', rfl, h3, h4, -⟩ := hr2.fil hjl2
        have HN := hid (@same_no fs gs j hjl hjl2)
        have HT1 := hid (show fs.take (j + 1) = fs.take j ++ [fs[j]] by rw [List.take_add_one, List.getElem?_eq_getElem hjl]; rfl)
        have HT2 := hid (show gs.take (j + 1) = gs.take j ++ [gs[j]] by rw [List.take_add_one, List.getElem?_eq_getElem hjl2]; rfl)
        have hz : (0 : Int) ≤ j := by omega
        have hlt : (j : Int) < n := by omega
        have hneq : ∀ w, (binOp .neq 53 (.agg #[.string fs[j].1, .string fs[j].2]) (.agg #[.string gs[j].1, .string gs[j].2])).run Tryd.prog w = .ok (.bool (!decide (fs[j] = gs[j]))) w := neqF fs[j] gs[j]
        generalize fs[j] = f at *
        generalize gs[j] = g at *
        by_cases hfg : f = g
        · rw [decide_eq_true hfg] at hneq
          have HFG := hid hfg
          clear hfg
          go_wp2_with fail
          go_quiet (fail)
          go_wp2
          go_roundw
          case rel => exact ⟨j + 1, by omega, by go_num, hid (by rw [HT1.out, HT2.out, HO.out, HFG.out]), _, rfl⟩
          case measure => simp [intOf]; omega
        · rw [decide_eq_false hfg] at hneq
          have HFG := hid hfg
          clear hfg
          go_wp2_with fail
          go_quiet (fail)
          go_wp2
          go_ret
          exact ⟨ret_bool (decide_eq_false (HN.out HFG.out)).symm, below_drewN (below_drewN (Below.refl _ _) _) _⟩
      · have HE := hid (show j = n by omega)
        have hnlt : ¬ (j : Int) < n := by omega
        go_wp2
        go_ret
        refine ⟨ret_bool ?_, below_drewN (Below.refl _ _) _⟩
        have ho := HO.out
        have e1 := HE.out
        rw [e1, List.take_of_length_le (by rw [HL.out]; omega), List.take_of_length_le (by rw [HL2.out]; omega)] at ho
        exact (decide_eq_true ho).symm
  · have hnz : ¬ (n : Int) = m := by omega
    go_enter Tryd.func50, Tryd.ntmps50
    go_wp2
    go_ret
    refine ⟨ret_bool ?_, Below.refl _ _⟩
    refine (decide_eq_false ?_).symm
    intro e
    subst e
    exact hnm (by rw [← HL.out, HL2.out])

set_option maxHeartbeats 400000 in
theorem same_any {w : World} {A B : Option Addr} {n c m d : Nat} {fs gs : List Fil} (h : Ft w A n c fs) (k : Ft w B m d gs) :
    Calls Tryd.prog 25 #[.slice A n c, .slice B m d] w fun e w' => e = .returned (.bool (decide (fs = gs))) ∧ Below w.heap.size w w' := by
  have c0 := equal_any h k
  clear h k
  generalize decide (fs = gs) = b at *
  go_enter Tryd.func25, Tryd.ntmps25
  go_wp2_with fail
  refine c0.mono ?_
  rintro e w1 ⟨rfl, hb⟩
  clear c0
  go_wp2
  go_ret
  exact ⟨rfl, hb⟩

/-! ### In -/
/-- A new slice of strings was answered. -/
def StrsPost (w : World) (ls : List ByteArray) (e : Ending) (w' : World) : Prop :=
  ∃ A c, e = .returned (.slice A ls.length c) ∧ Rd w' A (strV ls) ∧ ls.length ≤ c ∧ c ≤ maxLen ∧ Below w.heap.size w w'
def inTo (fs : List Fil) (d : List UInt8) : List ByteArray := (fs.filter fun f => underL (pth f) d).map (·.1)
theorem inTo_more (fs : List Fil) (d : List UInt8) (j : Nat) (h : j < fs.length) : inTo (fs.take (j + 1)) d = inTo (fs.take j) d ++ (if underL (pth fs[j]) d then [fs[j].1] else []) := by
  rw [inTo, List.take_add_one, List.getElem?_eq_getElem h, List.filter_append, List.map_append]
  simp only [Option.toList, List.filter_cons, List.filter_nil]
  split <;> rfl
theorem inTo_len (fs : List Fil) (d : List UInt8) : (inTo fs d).length ≤ fs.length := by rw [inTo, List.length_map]; exact List.length_filter_le _ _

end Go.Proofs.YtnkkjedckehoaaaDoor
