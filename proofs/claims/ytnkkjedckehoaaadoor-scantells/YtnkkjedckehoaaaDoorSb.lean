/- Package scan: fine, lesser, Same; slices of entries. -/
import Derived.Test.YtnkkjedckehoaaaDoorSa
import Derived.Test.YtnkkjedckehoaaaDoorCc
import Derived.Test.YtnkkjedckehoaaaDoorTf
import Derived.Laws.StructEq
import Derived.Deep.DeepCutAuto
import Derived.Handy
import Derived.BigQuiet
namespace Go.Proofs.YtnkkjedckehoaaaDoor
open Go.RowKit

/-- An entry's value. -/
abbrev eA (e : Ent) : Value := .agg #[.string e.path, .bool e.has, .string e.data, .int .i64 e.l, .int .i64 e.r]
/-- A slice of n entries: what is read, and the bounds. -/
structure Et (w : World) (A : Option Addr) (n c : Nat) (es : List Ent) : Prop where
  len : es.length = n
  rd : Rd w A (entV es)
  cap : n ≤ c
  big : n ≤ 1000000
  capm : c ≤ 9223372036854775807
  sz : ∀ e ∈ es, e.path.size < 4294967281 ∧ e.data.size ≤ 140737488355328
theorem Et.below {w w' : World} {A : Option Addr} {n c : Nat} {es : List Ent} (h : Et w A n c es) (hb : Below w.heap.size w w') : Et w' A n c es := ⟨h.len, h.rd.below hb, h.cap, h.big, h.capm, h.sz⟩

theorem str_inj {a b : ByteArray} (h : a.toList = b.toList) : a = b := data_inj (by rw [← Lib.toList_data, ← Lib.toList_data]; exact h)
theorem eqInP (d : Nat) (a b c e : Int) (w : World) : (Op.equalIn (d + 1 + 1) 35 (.agg #[.int .i64 a, .int .i64 b]) (.agg #[.int .i64 c, .int .i64 e])).run Tryd.prog w = .ok (decide (a = c) && decide (b = e)) w := by
  have u9 := Tryd.underlying3
  have a9 := Tryd.isAgg3
  have z9 := Tryd.sizeOf3
  have hS : Tryd.prog.underlying 35 = some (.struct (Tryd.prog.fieldsOf 35)) := by kernel_rfl
  have hp : Tryd.prog.stoodInHeld 35 = false := by kernel_rfl
  rw [run_equalIn_agg w (d + 1) 35 _ _ hS hp]
  simp only [Program.fieldsOf, Tryd.underlying35]
  go_simp
  by_cases h1 : a = c <;> by_cases h2 : b = e <;> simp [h1, h2]
theorem eqP (a b c d : Int) (w : World) : (binOp .eql 35 (.agg #[.int .i64 a, .int .i64 b]) (.agg #[.int .i64 c, .int .i64 d])).run Tryd.prog w = .ok (.bool (decide (a = c) && decide (b = d))) w := by
  rw [run_eql_struct, show (10000 : Nat) = 9998 + 1 + 1 from rfl, eqInP]; rfl
theorem neqP (a b c d : Int) (w : World) : (binOp .neq 35 (.agg #[.int .i64 a, .int .i64 b]) (.agg #[.int .i64 c, .int .i64 d])).run Tryd.prog w = .ok (.bool (!(decide (a = c) && decide (b = d)))) w := by
  rw [run_neq_struct, show (10000 : Nat) = 9998 + 1 + 1 from rfl, eqInP]; rfl
theorem eqInE (e f : Ent) (w : World) : (Op.equalIn (9997 + 1 + 1 + 1) 37 (eA e) (eA f)).run Tryd.prog w = .ok (decide (e = f)) w := by
  have u9 := Tryd.underlying9
  have a9 := Tryd.isAgg9
  have z9 := Tryd.sizeOf9
  have u8 := Tryd.underlying4
  have a8 := Tryd.isAgg4
  have z8 := Tryd.sizeOf4
  have a6 := Tryd.isAgg35
  have z6 := Tryd.sizeOf35
  have hS : Tryd.prog.underlying 37 = some (.struct (Tryd.prog.fieldsOf 37)) := by kernel_rfl
  have hp : Tryd.prog.stoodInHeld 37 = false := by kernel_rfl
  have hpair := eqInP 9997 e.l e.r f.l f.r
  rw [run_equalIn_agg w (9997 + 1 + 1) 37 _ _ hS hp]
  simp only [Program.fieldsOf, Tryd.underlying37]
  go_simp
  by_cases h : e = f
  · subst h
    rw [if_pos rfl, if_pos rfl, if_pos rfl, if_neg (by simp), decide_eq_true rfl]
  · rw [decide_eq_false h]
    by_cases h1 : e.path.toList = f.path.toList
    · rw [if_pos h1]
      by_cases h2 : e.has = f.has
      · rw [if_pos h2]
        by_cases h3 : e.data.toList = f.data.toList
        · rw [if_pos h3, if_pos fun h4 h5 => h (Ent.same (str_inj h1) h2 (str_inj h3) h4 h5)]
        · rw [if_neg h3]
      · rw [if_neg h2]
    · rw [if_neg h1]
theorem eqE (e f : Ent) (w : World) : (binOp .eql 37 (eA e) (eA f)).run Tryd.prog w = .ok (.bool (decide (e = f))) w := by
  rw [run_eql_struct, show (10000 : Nat) = 9997 + 1 + 1 + 1 from rfl, eqInE]; rfl
theorem neqE (e f : Ent) (w : World) : (binOp .neq 37 (eA e) (eA f)).run Tryd.prog w = .ok (.bool (!decide (e = f))) w := by
  rw [run_neq_struct, show (10000 : Nat) = 9997 + 1 + 1 + 1 from rfl, eqInE]; rfl

theorem str_eqb (a b : ByteArray) : (a.toList == b.toList) = decide (a = b) := by
  by_cases h : a = b
  · subst h; simp
  · rw [decide_eq_false h, beq_eq_false_iff_ne]; exact fun e => h (str_inj e)

theorem isEmpty_no (d : ByteArray) : d.toList.isEmpty = decide (d = noS) := by
  by_cases h : d = noS
  · subst h; simp
  · rw [decide_eq_false h]
    cases hl : d.toList with
    | nil => exact absurd (str_inj (a := d) (b := noS) (by rw [hl]; simp)) h
    | cons _ _ => rfl
set_option maxHeartbeats 1000000 in
theorem efine_any (e : Ent) (w : World) :
    Calls Tryd.prog 41 #[eA e] w fun x w' => x = .returned (.bool (fineE e)) ∧ Below w.heap.size w w' := by
  obtain ⟨p, h, d, l, r⟩ := e
  have hn := neqP l r 0 0
  have HF := hid (show fineE ⟨p, h, d, l, r⟩ = (rt l r && !(decide (l = 0) && decide (r = 0)) && (h || decide (d = noS))) from rfl)
  have HD := hid (isEmpty_no d)
  have k := Blk.new w [.string p, .bool h, .string d, .int .i64 l, .int .i64 r] 37
  go_enter Tryd.func41, Tryd.ntmps41
  go_wp2_with fail
  refine (cright_any l r _).mono ?_
  rintro x w1 ⟨rfl, hb1⟩
  have k1 := k.below hb1
  have c1 := k1.cell 1
  have c2 := k1.cell 2
  have c3 := k1.cell 3
  have c4 := k1.cell 4
  simp only [List.getElem?_cons_zero, List.getElem?_cons_succ] at c1 c2 c3 c4
  have b1 := below_new _ hb1
  clear k k1 hb1
  generalize rt l r = q at *
  generalize (decide (l = 0) && decide (r = 0)) = z at *
  cases q <;> cases z <;> cases h
  all_goals
    go_wp2
    go_ret
    exact ⟨ret_bool (by rw [HF.out]; first | rfl | exact HD.out), b1⟩

/-! ### lesser -/
theorem run_minS (ts : Array TypeId) (t : TypeId) (a b : ByteArray) (w : World) : (Builtin.min_ ts t #[.string a, .string b]).run Tryd.prog w = .ok (.string (if Op.bytesLess b.toList a.toList then b else a)) w := by
  have h := less_flip b.toList a.toList
  simp [Builtin.min_, Builtin.min2, Op.stringOp, asBool]
  cases hq : Op.bytesLess b.toList a.toList
  · rw [hq] at h; simp at h; rcases h with h | h <;> simp [h]
  · rw [hq] at h; simp at h; simp [h.1, h.2]
def lesP : List Ent → List Fil → ByteArray
  | [], f :: _ => f.1
  | e :: _, [] => e.path
  | e :: _, f :: _ => if Op.bytesLess (pth f) (epth e) then f.1 else e.path
  | [], [] => noS
set_option maxHeartbeats 1000000 in
theorem lesser_any {w : World} {A B : Option Addr} {n c m d : Nat} {es : List Ent} {fs : List Fil} (hl : es.length = n) (hr : Rd w A (entV es)) (hl2 : fs.length = m) (hr2 : Rd w B (filV fs)) (hne : 0 < n ∨ 0 < m) :
    Calls Tryd.prog 56 #[.slice A n c, .slice B m d] w fun x w' => x = .returned (.string (lesP es fs)) ∧ Below w.heap.size w w' := by
  match es, fs with
  | [], [] => simp at hl hl2; omega
  | [], f :: fs =>
    obtain ⟨b, off, rfl, h1, -⟩ := hr2.fil (j := 0) (by simp)
    simp only [List.getElem_cons_zero, Nat.zero_mul, Nat.add_zero] at h1
    obtain rfl : n = 0 := by rw [← hl]; rfl
    have hm : 0 < m := by rw [← hl2]; simp
    unfold lesP
    go_enter Tryd.func56, Tryd.ntmps56
    go_wp2
    go_ret
    exact ⟨rfl, Below.refl _ _⟩
  | e :: es, [] =>
    obtain ⟨b, off, rfl, h1, -⟩ := hr.ent (j := 0) (by simp)
    simp only [List.getElem_cons_zero, Nat.zero_mul, Nat.add_zero] at h1
    obtain rfl : m = 0 := by rw [← hl2]; rfl
    have hn : 0 < n := by rw [← hl]; simp
    have hn' : ¬ n = 0 := by omega
    unfold lesP
    go_enter Tryd.func56, Tryd.ntmps56
    go_wp2
    go_ret
    exact ⟨rfl, Below.refl _ _⟩
  | e :: es, f :: fs =>
    obtain ⟨b, off, rfl, h1, -⟩ := hr.ent (j := 0) (by simp)
    obtain ⟨b', off', rfl, h1', -⟩ := hr2.fil (j := 0) (by simp)
    simp only [List.getElem_cons_zero, Nat.zero_mul, Nat.add_zero] at h1 h1'
    have hn : 0 < n := by rw [← hl]; simp
    have hm : 0 < m := by rw [← hl2]; simp
    have hn' : ¬ n = 0 := by omega
    have hm' : ¬ m = 0 := by omega
    have hmin := fun ts t w => run_minS ts t e.path f.1 w
    have HE : Hid (lesP (e :: es) (f :: fs) = if Op.bytesLess f.1.toList e.path.toList then f.1 else e.path) := by rw [Lib.toList_data, Lib.toList_data]; rfl
    generalize (if Op.bytesLess f.1.toList e.path.toList then f.1 else e.path) = q at *
    go_enter Tryd.func56, Tryd.ntmps56
    go_wp2_with fail
    go_quiet (fail)
    go_wp2
    go_ret
    exact ⟨ret_str HE.out.symm, below_drewN (Below.refl _ _) _⟩
end Go.Proofs.YtnkkjedckehoaaaDoor
