/- The texts Ca, Cb, Sa, ArgE, Cc, Tb, Tc, Td, Te, Tf, Sb, Sc, Cp, Tg, in one. -/
import Derived.Test.YtlmccjdpmhancaaGreatDoorP0
import Derived.Deep.QuietTactic
import Derived.BigQuiet
import Derived.Handy
import Derived.WalkSmall
import Derived.Deep.Slices
import Derived.Lib.SmallJoins
import Derived.Shelf.Abstract
import Derived.Deep.DeepCutAuto
import Derived.Deep.OwnRows
import Derived.Laws.StructEq
import Derived.Deep.RegionHeld3
import Derived.Deep.AppendSrc
import Derived.Lib.AppendZeros
import Derived.Laws.CopyRow
import Derived.Laws.CopyOwn
namespace Go.Proofs.YtlmccjdpmhancaaGreatDoor
open Go.RowKit


/-- A count, clamped. -/
def cl (n : Int) : Nat := (min (max n 0) 1073741824).toNat

set_option maxHeartbeats 400000 in
theorem clamped_any (n : Int) (w : World) :
    Calls Tryz.prog 89 #[.int .i64 n] w fun e w' => e = .returned (.int .i64 (cl n)) ∧ w' = w := by
  go_enter Tryz.func89, Tryz.ntmps89
  go_wp2
  all_goals
    go_ret
    exact ⟨ret_int (by unfold cl; omega), rfl⟩

def odd (n : Int) : Bool := n % 2 != 0
theorem odd_eq (n : Int) : odd n = (n.tmod 2 != 0) := by
  unfold odd
  rw [bne, bne]
  congr 1
  rw [Bool.eq_iff_iff, beq_iff_eq, beq_iff_eq, ← Int.dvd_iff_emod_eq_zero, ← Int.dvd_iff_tmod_eq_zero]

set_option maxHeartbeats 400000 in
theorem second_any (n : Int) (w : World) :
    Calls Tryz.prog 88 #[.int .i64 n] w fun e w' => e = .returned (.bool (odd n)) ∧ w' = w := by
  go_enter Tryz.func88, Tryz.ntmps88
  go_wp2
  go_ret
  exact ⟨by rw [odd_eq]; rfl, rfl⟩

set_option maxHeartbeats 400000 in
theorem count_any (x N : Nat) (h : FloorIs (Ieee.double.read x) N) (w : World) :
    Calls Tryz.prog 87 #[.float .f64 x] w fun e w' => e = .returned (.int .i64 ((min N 1073741824 : Nat) : Int)) ∧ w' = w := by
  rcases h with ⟨m, k, hr, h1, h2⟩ | ⟨rfl, m, e, hr⟩
  · have h3 := gt_zero hr
    by_cases hm : 0 < m
    · rw [show decide (0 < m) = true by simpa using hm] at h3
      have h4 := ge_max hr h1 h2
      by_cases hn : 1073741824 ≤ N
      · rw [show decide (1073741824 ≤ N) = true by simpa using hn] at h4
        have h3' : (FloatKind.f64.format.order x 0 == some .gt) = true := h3
        have h4' : (FloatKind.f64.format.order x 4742290407621132288 == some .gt || FloatKind.f64.format.order x 4742290407621132288 == some .eq) = true := h4
        clear h1 h2 h3 h4 hr
        go_enter Tryz.func87, Tryz.ntmps87
        go_wp2
        go_ret
        exact ⟨ret_int (by omega), rfl⟩
      · rw [show decide (1073741824 ≤ N) = false by simpa using hn] at h4
        have h3' : (FloatKind.f64.format.order x 0 == some .gt) = true := h3
        have h4' : (FloatKind.f64.format.order x 4742290407621132288 == some .gt || FloatKind.f64.format.order x 4742290407621132288 == some .eq) = false := h4
        have hc : (convert 105 3 (.float .f64 x)).run Tryz.prog w = .ok (.int .i64 N) w :=
          run_convert_float_int w _ _ .f64 .i64 x N (by rw [Tryz.underlying105]; rfl) Tryz.underlying3 (by
            unfold floatToIntVal
            rw [show FloatKind.f64.decode x = Ieee.double.read x from rfl, to_int hr h1 h2]
            exact if_pos ⟨by show (-9223372036854775808 : Int) ≤ N; omega, by show (N : Int) ≤ 9223372036854775807; omega⟩)
        clear h1 h2 h3 h4 hr
        go_enter Tryz.func87, Tryz.ntmps87
        go_wp2
        go_ret
        exact ⟨ret_int (by omega), rfl⟩
    · rw [show decide (0 < m) = false by simpa using hm] at h3
      have h3' : (FloatKind.f64.format.order x 0 == some .gt) = false := h3
      have hN : N = 0 := by
        have := Nat.two_pow_pos k
        rcases Nat.eq_zero_or_pos N with h | h
        · exact h
        · have := Nat.mul_pos h this; omega
      subst hN
      clear h1 h2 h3 hr
      go_enter Tryz.func87, Tryz.ntmps87
      go_wp2
      go_ret
      exact ⟨ret_int (by omega), rfl⟩
  · have h3' : (FloatKind.f64.format.order x 0 == some .gt) = false := not_gt hr
    clear hr
    go_enter Tryz.func87, Tryz.ntmps87
    go_wp2
    go_ret
    exact ⟨ret_int (by omega), rfl⟩

/-- A count as a part of a clock. -/
def fl (a : Nat) : Nat := floatOfInt .f64 (a : Int)
theorem fl_eq (n : Int) : floatOfInt .f64 ((cl n : Nat) : Int) = fl (cl n) := rfl
theorem cl_le (n : Int) : cl n ≤ 1073741824 := by unfold cl; omega
theorem fl_whole {a : Nat} (h : a ≤ 1073741824) : Whole (Ieee.double.read (fl a)) a := whole_int a (by omega)

set_option maxHeartbeats 400000 in
theorem of_any (l r : Int) (w : World) :
    Calls Tryz.prog 53 #[.agg #[.int .i64 l, .int .i64 r]] w fun e w' => e = .returned (.complex .f64 (fl (cl l)) (fl (cl r))) ∧ Below w.heap.size w w' := by
  go_enter Tryz.func53, Tryz.ntmps53
  go_wp2
  go_quiet (first | (go_at_call 89; exact Calls.quiet_of_same (clamped_any _ _)))
  go_wp2
  go_ret
  refine ⟨rfl, ?_⟩
  refine below_drewN ?_ _
  go_grown

set_option maxHeartbeats 400000 in
theorem pair_any (x y N M : Nat) (hx : FloorIs (Ieee.double.read x) N) (hy : FloorIs (Ieee.double.read y) M) (w : World) :
    Calls Tryz.prog 51 #[.complex .f64 x y] w fun e w' => e = .returned (.agg #[.int .i64 ((min N 1073741824 : Nat) : Int), .int .i64 ((min M 1073741824 : Nat) : Int)]) ∧ Below w.heap.size w w' := by
  go_enter Tryz.func51, Tryz.ntmps51
  go_wp2_with fail
  refine (count_any x N hx _).mono ?_
  rintro e w1 ⟨rfl, rfl⟩
  go_wp2_with fail
  refine (count_any y M hy _).mono ?_
  rintro e w1 ⟨rfl, rfl⟩
  go_wp2
  go_returns
  refine ⟨rfl, ?_⟩
  go_grown
end Go.Proofs.YtlmccjdpmhancaaGreatDoor
namespace Go.Proofs.YtlmccjdpmhancaaGreatDoor
open Go.RowKit

theorem pair_clk {a b : Nat} (ha : a ≤ 1073741824) (hb : b ≤ 1073741824) (w : World) :
    Calls Tryz.prog 51 #[.complex .f64 (fl a) (fl b)] w fun e w' => e = .returned (.agg #[.int .i64 (a : Int), .int .i64 (b : Int)]) ∧ Below w.heap.size w w' := by
  have h := pair_any (fl a) (fl b) a b (fl_whole ha).floor (fl_whole hb).floor w
  rw [Nat.min_eq_left ha, Nat.min_eq_left hb] at h
  exact h

/-- Is it a right pair? -/
def rt (l r : Int) : Bool := decide (0 ≤ l ∧ l ≤ 1073741824 ∧ 0 ≤ r ∧ r ≤ 1073741824)

set_option maxHeartbeats 1000000 in
theorem cright_any (l r : Int) (w : World) :
    Calls Tryz.prog 94 #[.agg #[.int .i64 l, .int .i64 r]] w fun e w' => e = .returned (.bool (rt l r)) ∧ Below w.heap.size w w' := by
  by_cases h : ((cl l : Nat) : Int) = l
  · go_enter Tryz.func94, Tryz.ntmps94
    go_wp2
    go_quiet (first | (go_at_call 89; exact Calls.quiet_of_same (clamped_any _ _)))
    go_wp2
    go_ret
    refine ⟨?_, ?_⟩
    · refine congrArg (fun b => Ending.returned (.bool b)) ?_
      unfold cl at h ⊢; unfold rt
      show (_ == _) = _
      rw [Bool.eq_iff_iff]
      simp only [beq_iff_eq, decide_eq_true_eq]
      omega
    · refine below_drewN ?_ _
      go_grown
  · have h' : (((cl l : Nat) : Int) == l) = false := by simpa using h
    go_enter Tryz.func94, Tryz.ntmps94
    go_wp2
    go_quiet (first | (go_at_call 89; exact Calls.quiet_of_same (clamped_any _ _)))
    go_wp2
    go_ret
    refine ⟨?_, ?_⟩
    · refine congrArg (fun b => Ending.returned (.bool b)) ?_
      unfold cl at h; unfold rt
      symm
      rw [decide_eq_false_iff_not]
      omega
    · refine below_drewN ?_ _
      go_grown

/-- One more, as far as may be. -/
def up (a : Nat) : Nat := min (a + 1) 1073741824
theorem up_le (a : Nat) : up a ≤ 1073741824 := by unfold up; omega

theorem cl_nat {a : Nat} (h : a ≤ 1073741824) : cl (a : Int) = a := by unfold cl; omega
theorem cl_up {a : Nat} (h : a ≤ 1073741824) : cl ((a : Int) + 1) = up a := by unfold cl up; omega

set_option maxHeartbeats 1000000 in
theorem tick_even {a b : Nat} (ha : a ≤ 1073741824) (hb : b ≤ 1073741824) (author : Int) (ho : odd author = false) (w : World) :
    Calls Tryz.prog 52 #[.complex .f64 (fl a) (fl b), .int .i64 author] w fun e w' => e = .returned (.complex .f64 (fl (up a)) (fl b)) ∧ Below w.heap.size w w' := by
  have H2 := hid (cl_nat hb)
  have H3 := hid (cl_up ha)
  go_enter Tryz.func52, Tryz.ntmps52
  go_wp2_with fail
  refine (pair_clk ha hb _).mono ?_
  rintro e w1 ⟨rfl, hb1⟩
  go_wp2_with fail
  refine (second_any author _).mono ?_
  rintro e w2 ⟨rfl, rfl⟩
  rw [ho]
  go_wp2_with fail
  refine (of_any _ _ _).mono ?_
  rintro e w2 ⟨rfl, hb2⟩
  rw [H2.out, H3.out]
  have hb2' : Below w.heap.size w w2 := by
    refine Below.trans ?_ (hb2.mono ?_)
    · refine Below.trans hb1 ?_
      have := hb1.size
      go_grown
    · have := hb1.size
      go_size
  clear hb1 hb2
  go_wp2
  go_ret
  exact ⟨rfl, hb2'⟩

set_option maxHeartbeats 1000000 in
theorem tick_odd {a b : Nat} (ha : a ≤ 1073741824) (hb : b ≤ 1073741824) (author : Int) (ho : odd author = true) (w : World) :
    Calls Tryz.prog 52 #[.complex .f64 (fl a) (fl b), .int .i64 author] w fun e w' => e = .returned (.complex .f64 (fl a) (fl (up b))) ∧ Below w.heap.size w w' := by
  have H2 := hid (cl_nat ha)
  have H3 := hid (cl_up hb)
  go_enter Tryz.func52, Tryz.ntmps52
  go_wp2_with fail
  refine (pair_clk ha hb _).mono ?_
  rintro e w1 ⟨rfl, hb1⟩
  go_wp2_with fail
  refine (second_any author _).mono ?_
  rintro e w2 ⟨rfl, rfl⟩
  rw [ho]
  go_wp2_with fail
  refine (of_any _ _ _).mono ?_
  rintro e w2 ⟨rfl, hb2⟩
  rw [H2.out, H3.out]
  have hb2' : Below w.heap.size w w2 := by
    refine Below.trans ?_ (hb2.mono ?_)
    · refine Below.trans hb1 ?_
      have := hb1.size
      go_grown
    · have := hb1.size
      go_size
  clear hb1 hb2
  go_wp2
  go_ret
  exact ⟨rfl, hb2'⟩
end Go.Proofs.YtlmccjdpmhancaaGreatDoor
namespace Go.Proofs.YtlmccjdpmhancaaGreatDoor
open Go.RowKit

structure Ent where
  path : ByteArray
  has : Bool
  data : ByteArray
  l : Int
  r : Int
theorem Ent.same {a b : Ent} (h1 : a.path = b.path) (h2 : a.has = b.has) (h3 : a.data = b.data) (h4 : a.l = b.l) (h5 : a.r = b.r) : a = b := by
  cases a; cases b; simp only at h1 h2 h3 h4 h5; subst h1 h2 h3 h4 h5; rfl
instance : DecidableEq Ent := fun a b =>
  decidable_of_iff (a.path = b.path ∧ a.has = b.has ∧ a.data = b.data ∧ a.l = b.l ∧ a.r = b.r)
    ⟨fun h => Ent.same h.1 h.2.1 h.2.2.1 h.2.2.2.1 h.2.2.2.2, fun h => by subst h; exact ⟨rfl, rfl, rfl, rfl, rfl⟩⟩

/-- The empty string. -/
abbrev noS : ByteArray := ⟨#[]⟩
def epth (e : Ent) : List UInt8 := e.path.data.toList
theorem epth_inj {a b : Ent} : epth a = epth b ↔ a.path = b.path := ⟨fun h => data_inj h, fun h => by unfold epth; rw [h]⟩

/-! ### Entries as cells -/
def eV (e : Ent) : List Value := [.string e.path, .bool e.has, .string e.data, .int .i64 e.l, .int .i64 e.r]
def entV (es : List Ent) : List Value := es.flatMap eV
theorem entV_nil : entV [] = [] := rfl
theorem entV_cons (e : Ent) (es : List Ent) : entV (e :: es) = eV e ++ entV es := rfl
theorem entV_append (a b : List Ent) : entV (a ++ b) = entV a ++ entV b := by simp [entV]
theorem entV_length (es : List Ent) : (entV es).length = es.length * 5 := by
  induction es with
  | nil => rfl
  | cons e r ih => rw [entV_cons, List.length_append, List.length_cons, ih]; simp only [eV, List.length_cons, List.length_nil]; omega
theorem entV_one (l : List Ent) : ∀ u ∈ entV l, u.oneCell' = true := by
  intro u hu
  simp only [entV, List.mem_flatMap] at hu
  obtain ⟨e, _, he⟩ := hu
  simp [eV] at he
  rcases he with rfl | rfl | rfl | rfl | rfl <;> rfl
theorem entV_at : ∀ (es : List Ent) (j : Nat) (h : j < es.length) (q : Nat), q < 5 → (entV es)[j * 5 + q]? = (eV es[j])[q]?
  | e :: es, 0, _, q, hq => by
    rw [entV_cons, List.getElem?_append_left (by simp only [eV, List.length_cons, List.length_nil]; omega), Nat.zero_mul, Nat.zero_add]; rfl
  | e :: es, j + 1, h, q, hq => by
    have e5 : (eV e).length = 5 := rfl
    rw [entV_cons, List.getElem?_append_right (by rw [e5]; omega), e5, show (j + 1) * 5 + q - 5 = j * 5 + q by omega, entV_at es j (by simpa using h) q hq]
    rfl
theorem entV_take (es : List Ent) (k : Nat) : entV (es.take k) = (entV es).take (k * 5) := by
  by_cases h : k ≤ es.length
  · have e : entV es = entV (es.take k) ++ entV (es.drop k) := by rw [← entV_append, List.take_append_drop]
    have l : (entV (es.take k)).length = k * 5 := by rw [entV_length, List.length_take]; omega
    rw [e, ← l, List.take_left]
  · rw [List.take_of_length_le (by omega), List.take_of_length_le (by rw [entV_length]; omega)]
theorem entV_drop (es : List Ent) (k : Nat) : entV (es.drop k) = (entV es).drop (k * 5) := by
  by_cases h : k ≤ es.length
  · have e : entV es = entV (es.take k) ++ entV (es.drop k) := by rw [← entV_append, List.take_append_drop]
    have l : (entV (es.take k)).length = k * 5 := by rw [entV_length, List.length_take]; omega
    rw [e, ← l, List.drop_left]
  · rw [List.drop_of_length_le (by omega), List.drop_of_length_le (by rw [entV_length]; omega)]
    rfl
theorem Rd.ent {w : World} {A : Option Addr} {es : List Ent} (h : Rd w A (entV es)) {j : Nat} (hj : j < es.length) :
    ∃ b off, A = some ⟨b, off, none⟩ ∧ w.cell? ⟨b, off + j * 5, none⟩ = some (.string es[j].path) ∧ w.cell? ⟨b, off + j * 5 + 1, none⟩ = some (.bool es[j].has) ∧ w.cell? ⟨b, off + j * 5 + 2, none⟩ = some (.string es[j].data) ∧
      w.cell? ⟨b, off + j * 5 + 3, none⟩ = some (.int .i64 es[j].l) ∧ w.cell? ⟨b, off + j * 5 + 4, none⟩ = some (.int .i64 es[j].r) ∧ b < w.heap.size := by
  have hl := entV_length es
  obtain ⟨b, off, rfl, -, hb⟩ := h.at_ (k := j * 5) (by omega)
  have g : ∀ q, q < 5 → w.cell? ⟨b, off + j * 5 + q, none⟩ = (eV es[j])[q]? := by
    intro q hq
    rw [Nat.add_assoc]
    obtain ⟨b', off', e, hc, -⟩ := h.at_ (k := j * 5 + q) (by omega)
    injection e with e; injection e with e1 e2; subst e1 e2
    rw [hc, ← List.getElem?_eq_getElem, entV_at es j hj q hq]
  exact ⟨b, off, rfl, g 0 (by omega), g 1 (by omega), g 2 (by omega), g 3 (by omega), g 4 (by omega), hb⟩

/-! ### Right archives -/
def filesOf (es : List Ent) : List Fil := (es.filter (·.has)).map fun e => (e.path, e.data)
theorem filesOf_cons (e : Ent) (es : List Ent) : filesOf (e :: es) = if e.has then (e.path, e.data) :: filesOf es else filesOf es := by
  unfold filesOf
  rw [List.filter_cons]
  split <;> rfl
theorem filesOf_append (a b : List Ent) : filesOf (a ++ b) = filesOf a ++ filesOf b := by simp [filesOf]
theorem filesOf_len (es : List Ent) : (filesOf es).length ≤ es.length := by rw [filesOf, List.length_map]; exact List.length_filter_le _ _
theorem mem_files {es : List Ent} {f : Fil} : f ∈ filesOf es ↔ ∃ e ∈ es, e.has = true ∧ f = (e.path, e.data) := by
  simp only [filesOf, List.mem_map, List.mem_filter]
  constructor
  · rintro ⟨e, ⟨h1, h2⟩, rfl⟩; exact ⟨e, h1, h2, rfl⟩
  · rintro ⟨e, h1, h2, rfl⟩; exact ⟨e, ⟨h1, h2⟩, rfl⟩
def fineE (e : Ent) : Bool := rt e.l e.r && !(decide (e.l = 0) && decide (e.r = 0)) && (e.has || decide (e.data = noS))
def archR (es : List Ent) : Bool := decide (es.length ≤ 32) && es.all fineE && sortedL (es.map epth) && treeR (filesOf es)
def SrtE (es : List Ent) : Prop := es.Pairwise fun a b => epth a < epth b
structure RightA (es : List Ent) : Prop where
  few : es.length ≤ 32
  srt : SrtE es
  paths : ∀ e ∈ es, rightL (epth e) = true
  fine : ∀ e ∈ es, fineE e = true
  tree : treeR (filesOf es) = true
theorem archR_iff (es : List Ent) : archR es = true ↔ RightA es := by
  unfold archR
  simp only [Bool.and_eq_true, decide_eq_true_eq, List.all_eq_true]
  constructor
  · rintro ⟨⟨⟨h1, h2⟩, h3⟩, h4⟩
    exact ⟨h1, List.pairwise_map.1 (srt_pair h3), fun e he => srt_right h3 _ (List.mem_map_of_mem he), h2, h4⟩
  · rintro ⟨h1, h2, h3, h4, h5⟩
    refine ⟨⟨⟨h1, h4⟩, srt_mk ?_ (List.pairwise_map.2 h2)⟩, h5⟩
    intro s hs
    obtain ⟨e, he, rfl⟩ := List.mem_map.1 hs
    exact h3 e he
theorem archR_no {es : List Ent} (h : ¬ RightA es) : archR es = false := not_true fun e => h ((archR_iff es).1 e)
theorem fineE_iff (e : Ent) : fineE e = true ↔ (0 ≤ e.l ∧ e.l ≤ 1073741824 ∧ 0 ≤ e.r ∧ e.r ≤ 1073741824) ∧ ¬ (e.l = 0 ∧ e.r = 0) ∧ (e.has = true ∨ e.data = noS) := by
  unfold fineE rt
  simp only [Bool.and_eq_true, decide_eq_true_eq, Bool.or_eq_true, Bool.not_eq_true', Bool.and_eq_false_iff, decide_eq_false_iff_not, and_assoc]
  constructor
  · rintro ⟨a, b, c, d, e, f⟩; exact ⟨a, b, c, d, by omega, f⟩
  · rintro ⟨a, b, c, d, e, f⟩; exact ⟨a, b, c, d, by omega, f⟩

/-- Where a path stands. -/
def idxE (es : List Ent) (p : ByteArray) : Int := if es.any (fun e => decide (e.path = p)) then (es.findIdx (fun e => decide (e.path = p)) : Int) else -1
theorem idxE_at {es : List Ent} {p : ByteArray} {j : Nat} (hj : j < es.length) (h : es[j].path = p) (hn : ∀ k (hk : k < es.length), k < j → es[k].path ≠ p) : idxE es p = j := by
  unfold idxE
  rw [if_pos (List.any_eq_true.2 ⟨_, List.getElem_mem hj, decide_eq_true h⟩)]
  rw [(List.findIdx_eq hj).2 ⟨decide_eq_true h, fun k hk => by simpa using hn k (by omega) hk⟩]
theorem idxE_no {es : List Ent} {p : ByteArray} (hn : ∀ e ∈ es, e.path ≠ p) : idxE es p = -1 := by
  unfold idxE
  rw [if_neg]
  simp only [List.any_eq_true, not_exists, not_and, decide_eq_true_eq]
  exact hn
theorem idxE_cases (es : List Ent) (p : ByteArray) : (idxE es p = -1 ∧ ∀ e ∈ es, e.path ≠ p) ∨ ∃ (j : Nat) (hj : j < es.length), idxE es p = j ∧ es[j].path = p := by
  by_cases h : es.any (fun e => decide (e.path = p)) = true
  · right
    obtain ⟨e, he, hp⟩ := List.any_eq_true.1 h
    have hl : es.findIdx (fun e => decide (e.path = p)) < es.length := List.findIdx_lt_length.2 ⟨e, he, hp⟩
    refine ⟨_, hl, by unfold idxE; rw [if_pos h], ?_⟩
    simpa using List.findIdx_getElem (w := hl)
  · left
    have hn : ∀ e ∈ es, e.path ≠ p := by
      intro e he hp
      exact h (List.any_eq_true.2 ⟨e, he, decide_eq_true hp⟩)
    exact ⟨idxE_no hn, hn⟩
theorem SrtE.inj {es : List Ent} (h : SrtE es) {i j : Nat} (hi : i < es.length) (hj : j < es.length) (e : es[i].path = es[j].path) : i = j := by
  have hp := List.pairwise_iff_getElem.1 h
  rcases Nat.lt_trichotomy i j with h1 | h1 | h1
  · have := hp i j hi hj h1; rw [epth, epth, e] at this; exact absurd this (List.lt_irrefl _)
  · exact h1
  · have := hp j i hj hi h1; rw [epth, epth, e] at this; exact absurd this (List.lt_irrefl _)
theorem idxE_srt {es : List Ent} (h : SrtE es) {j : Nat} (hj : j < es.length) : idxE es es[j].path = j :=
  idxE_at hj rfl fun _ hk hkj e => by have := h.inj hk hj e; omega

/-! ### Both, gone over -/
def gone (e : Ent) : Ent := ⟨e.path, false, noS, e.l, e.r⟩
def kept (e : Ent) (d : ByteArray) : Ent := ⟨e.path, true, d, e.l, e.r⟩
def fresh (p : ByteArray) : Ent := ⟨p, false, noS, 0, 0⟩
def bothL : List Ent → List Fil → List (Ent × Ent)
  | [], [] => []
  | e :: l, [] => (e, gone e) :: bothL l []
  | [], f :: t => (fresh f.1, kept (fresh f.1) f.2) :: bothL [] t
  | e :: l, f :: t =>
    if e.path = f.1 then (e, kept e f.2) :: bothL l t
    else if Op.bytesLess (pth f) (epth e) then (fresh f.1, kept (fresh f.1) f.2) :: bothL (e :: l) t
    else (e, gone e) :: bothL l (f :: t)
  termination_by l t => l.length + t.length
theorem bothL_nil : bothL [] [] = [] := by rw [bothL]
theorem bothL_l (e : Ent) (l : List Ent) : bothL (e :: l) [] = (e, gone e) :: bothL l [] := by rw [bothL]
theorem bothL_t (f : Fil) (t : List Fil) : bothL [] (f :: t) = (fresh f.1, kept (fresh f.1) f.2) :: bothL [] t := by rw [bothL]
theorem bothL_eq {e : Ent} {f : Fil} (h : e.path = f.1) (l : List Ent) (t : List Fil) : bothL (e :: l) (f :: t) = (e, kept e f.2) :: bothL l t := by rw [bothL, if_pos h]
theorem bothL_lt {e : Ent} {f : Fil} (h : ¬ e.path = f.1) (hl : Op.bytesLess (pth f) (epth e) = true) (l : List Ent) (t : List Fil) : bothL (e :: l) (f :: t) = (fresh f.1, kept (fresh f.1) f.2) :: bothL (e :: l) t := by rw [bothL, if_neg h, if_pos hl]
theorem bothL_gt {e : Ent} {f : Fil} (h : ¬ e.path = f.1) (hl : Op.bytesLess (pth f) (epth e) = false) (l : List Ent) (t : List Fil) : bothL (e :: l) (f :: t) = (e, gone e) :: bothL l (f :: t) := by rw [bothL, if_neg h, if_neg (by simp [hl])]

/-- What holds of each step holds of all. -/
theorem both_ind {motive : List Ent → List Fil → List (Ent × Ent) → Prop} (h0 : motive [] [] [])
    (h1 : ∀ e l, motive l [] (bothL l []) → motive (e :: l) [] ((e, gone e) :: bothL l []))
    (h2 : ∀ f t, motive [] t (bothL [] t) → motive [] (f :: t) ((fresh f.1, kept (fresh f.1) f.2) :: bothL [] t))
    (h3 : ∀ e l f t, e.path = f.1 → motive l t (bothL l t) → motive (e :: l) (f :: t) ((e, kept e f.2) :: bothL l t))
    (h4 : ∀ e l f t, pth f < epth e → motive (e :: l) t (bothL (e :: l) t) → motive (e :: l) (f :: t) ((fresh f.1, kept (fresh f.1) f.2) :: bothL (e :: l) t))
    (h5 : ∀ e l f t, epth e < pth f → motive l (f :: t) (bothL l (f :: t)) → motive (e :: l) (f :: t) ((e, gone e) :: bothL l (f :: t))) :
    ∀ (n : Nat) (l : List Ent) (t : List Fil), l.length + t.length ≤ n → motive l t (bothL l t)
  | _, [], [], _ => by rw [bothL_nil]; exact h0
  | n + 1, e :: l, [], hn => by rw [bothL_l]; exact h1 e l (both_ind h0 h1 h2 h3 h4 h5 n l [] (by simp at hn ⊢; omega))
  | n + 1, [], f :: t, hn => by rw [bothL_t]; exact h2 f t (both_ind h0 h1 h2 h3 h4 h5 n [] t (by simp at hn ⊢; omega))
  | n + 1, e :: l, f :: t, hn => by
    by_cases h : e.path = f.1
    · rw [bothL_eq h]; exact h3 e l f t h (both_ind h0 h1 h2 h3 h4 h5 n l t (by simp at hn ⊢; omega))
    · cases hl : Op.bytesLess (pth f) (epth e) with
      | true => rw [bothL_lt h hl]; exact h4 e l f t ((less_iff _ _).1 hl) (both_ind h0 h1 h2 h3 h4 h5 n (e :: l) t (by simp at hn ⊢; omega))
      | false =>
        have hlt : epth e < pth f := by
          rcases lt_tri (epth e) (pth f) with x | x | x
          · exact x
          · exact absurd (data_inj x) h
          · rw [(less_iff _ _).2 x] at hl; cases hl
        rw [bothL_gt h hl]; exact h5 e l f t hlt (both_ind h0 h1 h2 h3 h4 h5 n l (f :: t) (by simp at hn ⊢; omega))
  | 0, _ :: _, _, hn => by simp at hn
  | 0, [], _ :: _, hn => by simp at hn

theorem both_len (l : List Ent) (t : List Fil) : (bothL l t).length ≤ l.length + t.length :=
  both_ind (motive := fun l t ps => ps.length ≤ l.length + t.length) (by simp) (fun _ _ h => by simp at h ⊢; omega) (fun _ _ h => by simp at h ⊢; omega) (fun _ _ _ _ _ h => by simp at h ⊢; omega)
    (fun _ _ _ _ _ h => by simp at h ⊢; omega) (fun _ _ _ _ _ h => by simp at h ⊢; omega) _ l t (Nat.le_refl _)
/-- What a pair is. -/
structure PairE (l : List Ent) (t : List Fil) (p : Ent × Ent) : Prop where
  path : p.2.path = p.1.path
  cl : p.2.l = p.1.l
  cr : p.2.r = p.1.r
  none : p.2.has = false → p.2.data = noS
  was : p.1 ∈ l ∨ (p.1 = fresh p.1.path ∧ p.2.has = true)
  is : p.2.has = true → (p.2.path, p.2.data) ∈ t
theorem PairE.more {l l' : List Ent} {t t' : List Fil} {p : Ent × Ent} (h : PairE l t p) (hl : ∀ e ∈ l, e ∈ l') (ht : ∀ f ∈ t, f ∈ t') : PairE l' t' p :=
  ⟨h.path, h.cl, h.cr, h.none, h.was.imp (hl _) id, fun x => ht _ (h.is x)⟩
theorem both_pair (l : List Ent) (t : List Fil) : ∀ p ∈ bothL l t, PairE l t p := by
  refine both_ind (motive := fun l t ps => ∀ p ∈ ps, PairE l t p) (by simp) ?_ ?_ ?_ ?_ ?_ _ l t (Nat.le_refl _)
  · intro e l h p hp
    rcases List.mem_cons.1 hp with rfl | hp
    · exact ⟨rfl, rfl, rfl, fun _ => rfl, .inl (by simp), (fun x => by cases x)⟩
    · exact (h p hp).more (fun _ => List.mem_cons_of_mem _) (fun _ x => x)
  · intro f t h p hp
    rcases List.mem_cons.1 hp with rfl | hp
    · exact ⟨rfl, rfl, rfl, (fun x => by cases x), .inr ⟨rfl, rfl⟩, fun _ => by simp [kept, fresh]⟩
    · exact (h p hp).more (fun _ x => x) (fun _ => List.mem_cons_of_mem _)
  · intro e l f t he h p hp
    rcases List.mem_cons.1 hp with rfl | hp
    · exact ⟨rfl, rfl, rfl, (fun x => by cases x), .inl (by simp), fun _ => by simp [kept, he]⟩
    · exact (h p hp).more (fun _ => List.mem_cons_of_mem _) (fun _ => List.mem_cons_of_mem _)
  · intro e l f t he h p hp
    rcases List.mem_cons.1 hp with rfl | hp
    · exact ⟨rfl, rfl, rfl, (fun x => by cases x), .inr ⟨rfl, rfl⟩, fun _ => by simp [kept, fresh]⟩
    · exact (h p hp).more (fun _ x => x) (fun _ => List.mem_cons_of_mem _)
  · intro e l f t he h p hp
    rcases List.mem_cons.1 hp with rfl | hp
    · exact ⟨rfl, rfl, rfl, fun _ => rfl, .inl (by simp), (fun x => by cases x)⟩
    · exact (h p hp).more (fun _ => List.mem_cons_of_mem _) (fun _ x => x)
/-- The files of both are the tree's. -/
theorem both_files (l : List Ent) (t : List Fil) : filesOf ((bothL l t).map (·.2)) = t := by
  refine both_ind (motive := fun _ t ps => filesOf (ps.map (·.2)) = t) rfl ?_ ?_ ?_ ?_ ?_ _ l t (Nat.le_refl _)
  · intro e l h; rw [List.map_cons, filesOf_cons, h]; rfl
  · intro f t h; rw [List.map_cons, filesOf_cons, h]; rfl
  · intro e l f t he h; rw [List.map_cons, filesOf_cons, h]; simp [kept, he]
  · intro e l f t _ h; rw [List.map_cons, filesOf_cons, h]; rfl
  · intro e l f t _ h; rw [List.map_cons, filesOf_cons, h]; rfl
def newB (e : Ent) : Bool := decide (e.l = 0) && decide (e.r = 0)
/-- What was there is the archive. -/
theorem both_was (l : List Ent) (t : List Fil) (hl : ∀ e ∈ l, newB e = false) : ((bothL l t).map (·.1)).filter (fun e => !newB e) = l := by
  refine both_ind (motive := fun l _ ps => (∀ e ∈ l, newB e = false) → (ps.map (·.1)).filter (fun e => !newB e) = l) (by simp) ?_ ?_ ?_ ?_ ?_ _ l t (Nat.le_refl _) hl
  · intro e l h hl; rw [List.map_cons, List.filter_cons, h fun x hx => hl x (List.mem_cons_of_mem _ hx), hl e (by simp)]; rfl
  · intro f t h hl; rw [List.map_cons, List.filter_cons, h hl]; rfl
  · intro e l f t _ h hl; rw [List.map_cons, List.filter_cons, h fun x hx => hl x (List.mem_cons_of_mem _ hx), hl e (by simp)]; rfl
  · intro e l f t _ h hl; rw [List.map_cons, List.filter_cons, h hl]; rfl
  · intro e l f t _ h hl; rw [List.map_cons, List.filter_cons, h fun x hx => hl x (List.mem_cons_of_mem _ hx), hl e (by simp)]; rfl
/-- Each path is one of the archive's, or the tree's, and all of them are there. -/
theorem both_path {l : List Ent} {t : List Fil} {x : ByteArray} : x ∈ (bothL l t).map (·.2.path) ↔ x ∈ l.map (·.path) ∨ x ∈ t.map (·.1) := by
  refine both_ind (motive := fun l t ps => x ∈ ps.map (·.2.path) ↔ x ∈ l.map (·.path) ∨ x ∈ t.map (·.1)) (by simp) ?_ ?_ ?_ ?_ ?_ _ l t (Nat.le_refl _)
  · intro e l h; simp only [List.map_cons, List.mem_cons, h, gone, List.map_nil, List.not_mem_nil, or_false]
  · intro f t h; simp only [List.map_cons, List.mem_cons, h, kept, fresh, List.map_nil, List.not_mem_nil, false_or]
  · intro e l f t he h; simp only [List.map_cons, List.mem_cons, h, kept, he]
    constructor
    · rintro (h | h | h)
      · exact .inl (.inl h)
      · exact .inl (.inr h)
      · exact .inr (.inr h)
    · rintro ((h | h) | h | h)
      · exact .inl h
      · exact .inr (.inl h)
      · exact .inl h
      · exact .inr (.inr h)
  · intro e l f t _ h; simp only [List.map_cons, List.mem_cons, kept, fresh] at h ⊢
    rw [h]
    constructor
    · rintro (h | (h | h) | h)
      · exact .inr (.inl h)
      · exact .inl (.inl h)
      · exact .inl (.inr h)
      · exact .inr (.inr h)
    · rintro ((h | h) | h | h)
      · exact .inr (.inl (.inl h))
      · exact .inr (.inl (.inr h))
      · exact .inl h
      · exact .inr (.inr h)
  · intro e l f t _ h; simp only [List.map_cons, List.mem_cons, gone] at h ⊢
    rw [h]
    exact or_assoc.symm
def SrtP (ps : List (Ent × Ent)) : Prop := ps.Pairwise fun a b => epth a.2 < epth b.2
theorem both_srt (l : List Ent) (t : List Fil) (hl : SrtE l) (ht : Srt t) : SrtP (bothL l t) := by
  have low : ∀ (l : List Ent) (t : List Fil) (x : List UInt8), (∀ e ∈ l, x < epth e) → (∀ f ∈ t, x < pth f) → ∀ p ∈ bothL l t, x < epth p.2 := by
    intro l t x h1 h2 p hp
    have := (both_path (x := p.2.path)).1 (List.mem_map.2 ⟨p, hp, rfl⟩)
    rcases this with h | h
    · obtain ⟨e, he, h⟩ := List.mem_map.1 h
      have := h1 e he
      unfold epth at this ⊢
      rw [← h]; exact this
    · obtain ⟨f, hf, h⟩ := List.mem_map.1 h
      have := h2 f hf
      unfold pth at this
      unfold epth
      rw [← h]; exact this
  refine both_ind (motive := fun l t ps => SrtE l → Srt t → SrtP ps) (fun _ _ => List.Pairwise.nil) ?_ ?_ ?_ ?_ ?_ _ l t (Nat.le_refl _) hl ht
  · intro e l h h1 h2
    have h1' := List.pairwise_cons.1 h1
    exact List.pairwise_cons.2 ⟨low l [] _ h1'.1 (by simp), h h1'.2 h2⟩
  · intro f t h h1 h2
    have h2' := List.pairwise_cons.1 h2
    exact List.pairwise_cons.2 ⟨low [] t _ (by simp) h2'.1, h h1 h2'.2⟩
  · intro e l f t he h h1 h2
    have h1' := List.pairwise_cons.1 h1
    have h2' := List.pairwise_cons.1 h2
    have e1 : epth e = pth f := by unfold epth pth; rw [he]
    exact List.pairwise_cons.2 ⟨low l t _ h1'.1 (by intro g hg; show epth e < _; rw [e1]; exact h2'.1 g hg), h h1'.2 h2'.2⟩
  · intro e l f t he h h1 h2
    have h1' := List.pairwise_cons.1 h1
    have h2' := List.pairwise_cons.1 h2
    refine List.pairwise_cons.2 ⟨low (e :: l) t _ ?_ h2'.1, h h1 h2'.2⟩
    intro g hg
    rcases List.mem_cons.1 hg with rfl | hg
    · exact he
    · exact List.lt_trans he (h1'.1 g hg)
  · intro e l f t he h h1 h2
    have h1' := List.pairwise_cons.1 h1
    have h2' := List.pairwise_cons.1 h2
    refine List.pairwise_cons.2 ⟨low l (f :: t) _ h1'.1 ?_, h h1'.2 h2⟩
    intro g hg
    rcases List.mem_cons.1 hg with rfl | hg
    · exact he
    · exact List.lt_trans he (h2'.1 g hg)

/-! ### Scan -/
def tickL (l r a : Int) : Int × Int := if odd a then (((cl l : Nat) : Int), ((up (cl r) : Nat) : Int)) else (((up (cl l) : Nat) : Int), ((cl r : Nat) : Int))
def newE (a : Int) (p : Ent × Ent) : Ent := if p.2 = p.1 then p.2 else ⟨p.2.path, p.2.has, p.2.data, (tickL p.1.l p.1.r a).1, (tickL p.1.l p.1.r a).2⟩
def stuck (a : Int) (p : Ent × Ent) : Bool := !decide (p.2 = p.1) && decide (tickL p.1.l p.1.r a = (p.1.l, p.1.r))
def okP (a : Int) (ps : List (Ent × Ent)) : Bool := decide (ps.length ≤ 32) && ps.all fun p => !stuck a p
def outP (a : Int) (ps : List (Ent × Ent)) : List Ent := ps.map (newE a)
def chgP (ps : List (Ent × Ent)) : List ByteArray := (ps.filter fun p => !decide (p.2 = p.1)).map (·.2.path)
def scanN (l : List Ent) (t : List Fil) (a : Int) : Nat := if archR l && treeR t then (if okP a (bothL l t) then 0 else 2) else 1
def scanA (l : List Ent) (t : List Fil) (a : Int) : List Ent := if scanN l t a = 0 then outP a (bothL l t) else []
def scanC (l : List Ent) (t : List Fil) (a : Int) : List ByteArray := if scanN l t a = 0 then chgP (bothL l t) else []
theorem scanN_ok {l : List Ent} {t : List Fil} {a : Int} : scanN l t a = 0 ↔ RightA l ∧ RightT t ∧ okP a (bothL l t) = true := by
  unfold scanN
  rw [← archR_iff, ← treeR_iff]
  cases archR l <;> cases treeR t <;> cases okP a (bothL l t) <;> simp
theorem scanN_arg {l : List Ent} {t : List Fil} {a : Int} (h : (archR l && treeR t) = false) : scanN l t a = 1 := by unfold scanN; rw [h]; rfl
theorem scanN_two {l : List Ent} {t : List Fil} {a : Int} (h : (archR l && treeR t) = true) : scanN l t a = if okP a (bothL l t) then 0 else 2 := by unfold scanN; rw [h]; rfl
theorem newE_path (a : Int) (p : Ent × Ent) : (newE a p).path = p.2.path := by unfold newE; split <;> rfl
theorem newE_has (a : Int) (p : Ent × Ent) : (newE a p).has = p.2.has := by unfold newE; split <;> rfl
theorem newE_data (a : Int) (p : Ent × Ent) : (newE a p).data = p.2.data := by unfold newE; split <;> rfl
end Go.Proofs.YtlmccjdpmhancaaGreatDoor
namespace Go.Proofs.YtlmccjdpmhancaaGreatDoor
open Go.ChangeShapes Go.WideShapes Go.ChangeAt Go.RowKit Go.Deep

theorem list5 {α : Type} {l : List α} (h : l.length = 5) : ∃ a b c d e, l = [a, b, c, d, e] := by
  match l, h with
  | [a, b, c, d, e], _ => exact ⟨a, b, c, d, e, rfl⟩
theorem list4 {α : Type} {l : List α} (h : l.length = 4) : ∃ a b c d, l = [a, b, c, d] := by
  match l, h with
  | [a, b, c, d], _ => exact ⟨a, b, c, d, rfl⟩
theorem trod_ent {H : Type} {enc : TypeId × Value → H} {W : World} {base : Nat} {sp : Nat → Bool} {hd : Bool} {fuel : Nat} {cs : List Value} {y : DataW H × List MemPlace} (h : DataW.trod enc Tryz.prog W base sp hd fuel 34 cs = some y) : ∃ x : Ent, cs = eV x := by
  have hct : Tryz.prog.cellsOf 34 = 5 := by kernel_rfl
  have hcs : Tryz.prog.cellsOf 9 = 1 := by kernel_rfl
  have hcb : Tryz.prog.cellsOf 4 = 1 := by kernel_rfl
  have hci : Tryz.prog.cellsOf 3 = 1 := by kernel_rfl
  have hcp : Tryz.prog.cellsOf 32 = 2 := by kernel_rfl
  obtain ⟨xs, n, -, -, hl, hlen, hf⟩ := DataW.trod_struct Tryz.underlying34 h
  rw [hct] at hl
  obtain ⟨u0, u1, u2, u3, u4, rfl⟩ := list5 hl
  obtain ⟨y0, y1, y2, y3, rfl⟩ := list4 (hlen.trans rfl)
  have h0 := hf 0 _ rfl
  have h1 := hf 1 _ rfl
  have h2 := hf 2 _ rfl
  have h3 := hf 3 _ rfl
  simp only [List.getElem?_cons_zero, List.getElem?_cons_succ] at h0 h1 h2 h3
  obtain ⟨z0, e0, -⟩ := DataW.trod_string Tryz.underlying9 h0
  obtain ⟨z1, e1, -⟩ := DataW.trod_bool Tryz.underlying4 h1
  obtain ⟨z2, e2, -⟩ := DataW.trod_string Tryz.underlying9 h2
  obtain ⟨x0, x1, m, -, -, g0, g1⟩ := trod_struct2 Tryz.underlying32 h3
  obtain ⟨z3, e3, -⟩ := DataW.trod_int Tryz.underlying3 g0
  obtain ⟨z4, e4, -⟩ := DataW.trod_int Tryz.underlying3 g1
  simp [hci, hcp] at e3 e4
  simp [hcs] at e0 e2
  simp [hcb] at e1
  exact ⟨⟨z0, z1, z2, z3, z4⟩, by rw [e0, e1, e2, e3, e4]; rfl⟩
set_option maxRecDepth 100000 in
theorem arg__api_Entry {H : Type} {enc : TypeId × Value → H} {W : World} {base : Nat} {v : Value} {d : DataW H} {p : List MemPlace} (hv : Value.okWide Tryz.prog W .any base 22 v)
    (h : DataW.Trod enc Tryz.prog W 0 (fun _ => true) true 22 v d p) (_ : ∀ elems spare, d = .slice elems spare → (elems.length + spare.length) * Tryz.prog.bytesOf 34 ≤ reachBytes) :
    ∃ (A : Option Addr) (c : Nat) (ps : List Ent), v = .slice A ps.length c ∧ Rd W A (entV ps) ∧ ps.length ≤ c ∧ c ≤ maxLen ∧ True := by
  have hct : Tryz.prog.cellsOf 34 = 5 := by kernel_rfl
  obtain ⟨a, len, cap, rfl⟩ := okWide_slice Tryz.underlying22 hv
  obtain ⟨fuel, hf⟩ := h
  rcases open_slice Tryz.underlying22 hf with ⟨hcs, _⟩ | ⟨x, l, c, m, n, D, Pl, hcs, _, hl, hm, hmm, hx, hcell⟩
  · simp [Value.cells] at hcs
    obtain ⟨rfl, rfl, rfl⟩ := hcs
    exact ⟨none, 0, [], rfl, .inl rfl, Nat.le_refl _, by unfold maxLen; omega, trivial⟩
  · simp [Value.cells] at hcs
    obtain ⟨rfl, rfl, rfl⟩ := hcs
    have hmm' : m = cap := by simpa using hmm
    have one : ∀ i, ∃ z : Ent, i < len → ∀ k, k < 5 → W.cell? (x.add (i * 5 + k)) = (eV z)[k]? := by
      intro i
      by_cases hi : i < len
      · obtain ⟨cs', hc1, hc2⟩ := hcell i (by omega)
        rw [hct] at hc1
        obtain ⟨-, hl2, hg⟩ := World.cells?_some hc1
        obtain ⟨z, rfl⟩ := trod_ent hc2
        refine ⟨z, fun _ k hk => ?_⟩
        have := hg k (by simpa [eV] using hk)
        rw [add_assoc'] at this
        exact this
      · exact ⟨⟨noS, false, noS, 0, 0⟩, fun h => absurd h hi⟩
    obtain ⟨B, hB⟩ := Classical.axiomOfChoice one
    refine ⟨some x, cap, (List.range len).map B, by simp, ?_, by simpa using hl, hm, trivial⟩
    refine .inr ⟨x, rfl, fun j u hu => ?_⟩
    have hjl := (List.getElem?_eq_some_iff.1 hu).1
    rw [entV_length, List.length_map, List.length_range] at hjl
    have hi' : j / 5 < len := by omega
    have hi2 : j / 5 < ((List.range len).map B).length := by simpa using hi'
    have eB : ((List.range len).map B)[j / 5] = B (j / 5) := by simp
    have e := entV_at _ _ hi2 (j % 5) (by omega)
    rw [eB, show j / 5 * 5 + j % 5 = j by omega, hu] at e
    have := hB (j / 5) hi' (j % 5) (by omega)
    rw [show j / 5 * 5 + j % 5 = j by omega] at this
    rw [this, ← e]
end Go.Proofs.YtlmccjdpmhancaaGreatDoor
namespace Go.Proofs.YtlmccjdpmhancaaGreatDoor
open Go.RowKit

theorem cl_of {a : Nat} {x : Int} (h : a ≤ 1073741824) (e : x = a) : cl x = a := by unfold cl; omega

/-- What Mine tells. -/
def mineI (a b : Nat) (author : Int) : Int := if odd author then b else a

set_option maxHeartbeats 1000000 in
theorem cjoin_any {a b c d : Nat} (ha : a ≤ 1073741824) (hb : b ≤ 1073741824) (hc : c ≤ 1073741824) (hd : d ≤ 1073741824) (w : World) :
    Calls Tryz.prog 86 #[.complex .f64 (fl a) (fl b), .complex .f64 (fl c) (fl d)] w fun e w' => e = .returned (.complex .f64 (fl (max a c)) (fl (max b d))) ∧ Below w.heap.size w w' := by
  have H1 := fun (x : Int) (e : x = (max a c : Nat)) => cl_of (show max a c ≤ 1073741824 by omega) e
  have H2 := fun (x : Int) (e : x = (max b d : Nat)) => cl_of (show max b d ≤ 1073741824 by omega) e
  have H1' := hid H1
  have H2' := hid H2
  clear H1 H2
  go_enter Tryz.func86, Tryz.ntmps86
  go_wp2_with fail
  refine (pair_clk ha hb _).mono ?_
  rintro e w1 ⟨rfl, hb1⟩
  go_wp2_with fail
  refine (pair_clk hc hd _).mono ?_
  rintro e w2 ⟨rfl, hb2⟩
  have hb2' := hb1.trans (hb2.mono hb1.size)
  clear hb1 hb2
  go_wp2_with fail
  all_goals
    refine (of_any _ _ _).mono ?_
    rintro e w3 ⟨rfl, hb3⟩
    rw [H1'.out _ (by omega), H2'.out _ (by omega)]
    have hb3' : Below w.heap.size w w3 := by
      refine Below.trans ?_ (hb3.mono ?_)
      · refine Below.trans hb2' ?_
        have := hb2'.size
        go_grown
      · have := hb2'.size
        go_size
    clear hb3 hb2'
    go_wp2
    go_ret
    exact ⟨rfl, hb3'⟩

/-- What Order tells. -/
def ordI (a b c d : Nat) : Int := if a = c ∧ b = d then 0 else if a ≤ c ∧ b ≤ d then 1 else if c ≤ a ∧ d ≤ b then 2 else 3

set_option maxHeartbeats 2000000 in
theorem order_any {a b c d : Nat} (ha : a ≤ 1073741824) (hb : b ≤ 1073741824) (hc : c ≤ 1073741824) (hd : d ≤ 1073741824) (w : World) :
    Calls Tryz.prog 67 #[.complex .f64 (fl a) (fl b), .complex .f64 (fl c) (fl d)] w fun e w' => e = .returned (.int .i64 (ordI a b c d)) ∧ Below w.heap.size w w' := by
  go_enter Tryz.func67, Tryz.ntmps67
  go_wp2_with fail
  refine (pair_clk ha hb _).mono ?_
  rintro e w1 ⟨rfl, hb1⟩
  go_wp2_with fail
  refine (pair_clk hc hd _).mono ?_
  rintro e w2 ⟨rfl, hb2⟩
  have hb2' := hb1.trans (hb2.mono hb1.size)
  clear hb1 hb2 ha hb hc hd
  go_wp2
  all_goals
    go_ret
    refine ⟨ret_int ?_, ?_⟩
    · unfold ordI
      omega
    · refine Below.trans hb2' ?_
      have := hb2'.size
      go_grown
end Go.Proofs.YtlmccjdpmhancaaGreatDoor
namespace Go.Proofs.YtlmccjdpmhancaaGreatDoor
open Go.RowKit

set_option maxHeartbeats 1000000 in
theorem search_any (g : Nat) (cb : Array Value) (n k : Nat) (w : World) (eg : ∀ args w, (callFunc g args).run Tryz.prog w = .ok (.enter g args) w) (hn : n < 4611686018427387904) (hk : k ≤ n)
    (hf : ∀ W i, i < n → Below w.heap.size w W → Calls Tryz.prog g (#[.int .i64 (i : Nat)] ++ cb) W fun e w' => e = .returned (.bool (decide (k ≤ i))) ∧ Below w.heap.size w w') :
    Calls Tryz.prog 99 #[.int .i64 n, .func (.func g) #[] cb] w fun e w' => e = .returned (.int .i64 k) ∧ Below w.heap.size w w' := by
  have HF := hid hf
  clear hf
  go_enter Tryz.func99, Tryz.ntmps99
  go_wp2
  go_loopw [5, 6] (fun s5 s6 wr => ∃ lo hi : Nat, s5 = .int .i64 lo ∧ s6 = .int .i64 hi ∧ lo ≤ k ∧ k ≤ hi ∧ hi ≤ n ∧ Below w.heap.size w wr) (fun s5 s6 _ => (intOf s6).toNat - (intOf s5).toNat)
  case atStart => exact ⟨0, n, rfl, rfl, by omega, hk, Nat.le_refl _, Below.refl _ _⟩
  case round =>
    obtain ⟨lo, hi, rfl, rfl, h1, h2, h3, hb⟩ := hrel
    by_cases hlt : lo < hi
    · have hc := HF.out wr ((lo + hi) / 2) (by omega) hb
      have em : (((lo + hi) / 2 : Nat) : Int) = ((lo : Int) + (hi : Int)) / 2 := by omega
      rw [em] at hc
      have HM := hid em
      clear em
      have hlz : (lo : Int) < hi := by omega
      by_cases hm : k ≤ (lo + hi) / 2
      · rw [decide_eq_true hm] at hc
        have HMM := hid hm
        clear hm
        go_wp2_with (go_at_fn g; refine hc.mono ?_; rintro e w' ⟨rfl, hb'⟩)
        go_roundw
        case rel => exact ⟨lo, (lo + hi) / 2, rfl, by rw [HM.out], h1, HMM.out, by omega, hb'⟩
        case measure => simp [intOf]; omega
      · rw [decide_eq_false hm] at hc
        have HMM := hid hm
        clear hm
        go_wp2_with (go_at_fn g; refine hc.mono ?_; rintro e w' ⟨rfl, hb'⟩)
        go_roundw
        case rel => exact ⟨(lo + hi) / 2 + 1, hi, by rw [← HM.out]; rfl, rfl, by have := HMM.out; omega, h2, h3, hb'⟩
        case measure => simp [intOf]; omega
    · have hnlt : ¬ (lo : Int) < hi := by omega
      have e : lo = k := by omega
      go_wp2
      go_ret
      exact ⟨rfl, hb⟩
end Go.Proofs.YtlmccjdpmhancaaGreatDoor
namespace Go.Proofs.YtlmccjdpmhancaaGreatDoor
open Go.RowKit

theorem Rd.fil {w : World} {A : Option Addr} {fs : List Fil} (h : Rd w A (filV fs)) {j : Nat} (hj : j < fs.length) :
    ∃ b off, A = some ⟨b, off, none⟩ ∧ w.cell? ⟨b, off + j * 2, none⟩ = some (.string fs[j].1) ∧ w.cell? ⟨b, off + j * 2 + 1, none⟩ = some (.string fs[j].2) ∧ b < w.heap.size := by
  have hl := filV_length fs
  obtain ⟨b, off, rfl, h1, hb⟩ := h.at_ (k := j * 2) (by omega)
  have e1 := filV_at0 fs j hj
  have e2 := filV_at1 fs j hj
  rw [List.getElem?_eq_getElem (by omega)] at e1
  refine ⟨b, off, rfl, by rw [h1]; exact e1, ?_, hb⟩
  rw [Nat.add_assoc]
  rcases h with h | ⟨ad, he, hc⟩
  · rw [h] at hl
    simp at hl
    omega
  · injection he with he
    subst he
    have := hc _ _ e2
    rwa [Addr.add_lit] at this
theorem below_drewN {B : Nat} {a b : World} (h : Below B a b) (n : Nat) : Below B a (b.drewN n) := ⟨h.os, h.tape, h.output, h.size, h.block⟩

set_option maxHeartbeats 400000 in
theorem geq_any (ba bx : Nat) (A : Option Addr) (n c : Nat) (fs : List Fil) (p : ByteArray) (i : Nat) (W : World) (hl : fs.length = n) (hi : i < n)
    (ha : W.cell? ⟨ba, 0, none⟩ = some (.slice A n c)) (hx : W.cell? ⟨bx, 0, none⟩ = some (.string p)) (hr : Rd W A (filV fs)) :
    Calls Tryz.prog 100 (#[.int .i64 i] ++ #[.pointer (some ⟨ba, 0, none⟩), .pointer (some ⟨bx, 0, none⟩)]) W fun e w' => e = .returned (.bool (!Op.bytesLess (pth (fs[i]'(by omega))) p.data.toList)) ∧ Below W.heap.size W w' := by
  have hif : i < fs.length := by omega
  obtain ⟨b, off, rfl, h1, -, -⟩ := hr.fil hif
  unfold pth
  generalize fs[i].1 = x at h1 ⊢
  clear hr hl hif
  have hz : (0 : Int) ≤ i := by omega
  have hlt : (i : Int) < n := by omega
  go_enter Tryz.func100, Tryz.ntmps100
  go_wp2
  go_quiet (fail)
  go_wp2
  go_ret
  exact ⟨ret_bool (by rw [Lib.toList_data, Lib.toList_data]), below_drewN (Below.refl _ _) _⟩

theorem box2 (w : World) (v u : Value) (s t : TypeId) : ((w.alloc (.cells #[v] s)).alloc (.cells #[u] t)).cell? ⟨w.heap.size, 0, none⟩ = some v ∧ ((w.alloc (.cells #[v] s)).alloc (.cells #[u] t)).cell? ⟨w.heap.size + 1, 0, none⟩ = some u := by
  constructor
  · rw [World.cell?_alloc_past _ _ _ (by simp), World.cell?_alloc_at _ _ _ _ (by simp)]; rfl
  · rw [World.cell?_alloc_at _ _ _ _ (by simp)]; rfl

set_option maxHeartbeats 1000000 in
theorem place_any (A : Option Addr) (n c : Nat) (fs : List Fil) (p : ByteArray) (w : World) (hl : fs.length = n) (hs : Srt fs) (hr : Rd w A (filV fs)) (hn : n ≤ 140737488355328) :
    Calls Tryz.prog 65 #[.slice A n c, .string p] w fun e w' => e = .returned (.tuple #[.int .i64 ((lowT fs p.data.toList).length : Nat), .bool (thereT fs p.data.toList)]) ∧ Below w.heap.size w w' := by
  have hmf : ∀ (fn : Fn) (first cap : Array Value) (w : World), (Instr.makeFunc fn first cap).run Tryz.prog w = .ok (.func fn first cap) w := fun _ _ _ _ => rfl
  have HA := hid (@there_at fs p.data.toList hs)
  have hk : (lowT fs p.data.toList).length ≤ n := by rw [← hl]; exact low_len _
  have HS := hid (fun i (hi : i < fs.length) => @low_at fs p.data.toList hs i hi)
  generalize (lowT fs p.data.toList).length = k at *
  generalize thereT fs p.data.toList = th at *
  go_enter Tryz.func65, Tryz.ntmps65
  go_wp2_with fail
  obtain ⟨c1, c2⟩ := box2 w (.slice A n c) (.string p) 36 9
  have hr2 : Rd ((w.alloc (.cells #[.slice A n c] 36)).alloc (.cells #[.string p] 9)) A (filV fs) := (hr.alloc _).alloc _
  have hbb : Below w.heap.size w ((w.alloc (.cells #[.slice A n c] 36)).alloc (.cells #[.string p] 9)) := ((Below.refl _ _).alloc (Nat.le_refl _) _).alloc (by simp) _
  have hsz : w.heap.size + 1 < ((w.alloc (.cells #[.slice A n c] 36)).alloc (.cells #[.string p] 9)).heap.size := by simp
  generalize ((w.alloc (.cells #[.slice A n c] 36)).alloc (.cells #[.string p] 9)) = w2 at c1 c2 hr2 hbb hsz ⊢
  refine (search_any 100 _ n k w2 (enters_of Tryz.func100 (by kernel_rfl) rfl) (by omega) hk ?_).mono ?_
  · intro W i hi hbW
    refine (geq_any w.heap.size (w.heap.size + 1) A n c fs p i W hl hi ((hbW.cell (by show w.heap.size < _; omega)).trans c1) ((hbW.cell (by show w.heap.size + 1 < _; omega)).trans c2) (hr2.below hbW)).mono ?_
    rintro e w' ⟨rfl, hb'⟩
    refine ⟨ret_bool ?_, below2 hbW hb'⟩
    rw [HS.out i (by omega)]
    by_cases h : i < k
    · simp [h]
    · simp [h]; omega
  rintro e w3 ⟨rfl, hb3⟩
  have d1 := (hb3.cell (p := ⟨w.heap.size, 0, none⟩) (by show w.heap.size < _; omega)).trans c1
  have d2 := (hb3.cell (p := ⟨w.heap.size + 1, 0, none⟩) (by show w.heap.size + 1 < _; omega)).trans c2
  have hr3 := hr2.below hb3
  have hb3' := hbb.trans (hb3.mono hbb.size)
  clear c1 c2 hr2 hbb hb3 hr hsz
  by_cases hkn : k < n
  · obtain ⟨b, off, rfl, h1, -, -⟩ := hr3.fil (j := k) (by omega)
    have HT := hid (show th = true ↔ fs[k].1.data.toList = p.data.toList from ⟨fun h => (HA.out.1 h).2, fun h => HA.out.2 ⟨by omega, h⟩⟩)
    generalize fs[k].1 = x at h1 HT
    have hz : (0 : Int) ≤ k := by omega
    have hlt : (k : Int) < n := by omega
    clear hr3
    go_wp2_with fail
    go_quiet (fail)
    go_wp2
    go_ret2
    have et : (x.toList == p.toList) = th := by
      rw [Lib.toList_data, Lib.toList_data, Bool.eq_iff_iff, beq_iff_eq]
      exact HT.out.symm
    exact ⟨by rw [← et]; rfl, below_drewN hb3' _⟩
  · have hnlt : ¬ (k : Int) < n := by omega
    go_wp2_with fail
    go_quiet (fail)
    go_wp2
    go_ret2
    have et : th = false := not_true fun h => absurd (HA.out.1 h).1 (by omega)
    exact ⟨by rw [et]; rfl, below_drewN hb3' _⟩
end Go.Proofs.YtlmccjdpmhancaaGreatDoor
namespace Go.Proofs.YtlmccjdpmhancaaGreatDoor
open Go.RowKit


/-- Which file is the first that clashes. -/
def IdxPost (w : World) (b : Bool) (e : Ending) (w' : World) : Prop := ∃ k : Int, e = .returned (.int .i64 k) ∧ decide (0 ≤ k) = b ∧ Below w.heap.size w w'
theorem any_take_step {α : Type} (q : α → Bool) (l : List α) (j : Nat) (h : j < l.length) : (l.take (j + 1)).any q = ((l.take j).any q || q l[j]) := by
  rw [List.take_add_one, List.getElem?_eq_getElem h, List.any_append]
  simp

/-! ### None is under another one -/
theorem prefix_mid : ∀ (d s r : List UInt8), d < s → s ≤ d ++ r → Lib.hasPrefix s d = true
  | [], s, r, _, _ => by simp [Lib.hasPrefix]
  | c :: d, [], r, h, _ => by simp at h
  | c :: d, x :: s, r, h, h2 => by
    have h2' : x :: s < c :: (d ++ r) ∨ x :: s = c :: (d ++ r) := List.le_iff_lt_or_eq.1 h2
    rw [List.cons_lt_cons_iff] at h h2'
    have key : c = x ∧ d < s ∧ s ≤ d ++ r := by
      rcases h with h | ⟨e, h⟩
      · rcases h2' with (h3 | ⟨e3, _⟩) | h3
        · exact absurd h (UInt8.lt_asymm h3)
        · rw [e3] at h; exact absurd h (UInt8.lt_irrefl _)
        · injection h3 with e3 _; rw [e3] at h; exact absurd h (UInt8.lt_irrefl _)
      · rcases h2' with (h3 | ⟨_, h3⟩) | h3
        · rw [e] at h3; exact absurd h3 (UInt8.lt_irrefl _)
        · exact ⟨e, h, List.le_of_lt h3⟩
        · injection h3 with _ e3; exact ⟨e, h, by rw [e3]; exact List.le_refl _⟩
    have := prefix_mid d s r key.2.1 key.2.2
    rw [Lib.hasPrefix] at this ⊢
    simp [key.1, this]
theorem under_mid {d s t : List UInt8} (h1 : d < s) (h2 : s ≤ t) (h3 : Lib.hasPrefix s d = false) : underL t d = false := by
  refine not_true fun h => ?_
  unfold underL at h
  rw [Bool.and_eq_true, pre_iff] at h
  obtain ⟨_, r, rfl⟩ := h
  rw [prefix_mid d s (47 :: r) h1 h2] at h3
  cases h3
theorem apart_idx (L : List (List UInt8)) : apartL L = true ↔ ∀ i k (_ : i < k) (hk : k < L.length), underL L[k] (L[i]'(by omega)) = false := by
  rw [apart_iff, List.pairwise_iff_getElem]
  exact ⟨fun h i k hik hk => h i k (by omega) hk hik, fun h i k _ hk hik => h i k hik hk⟩

set_option maxHeartbeats 2000000 in
theorem apart_any (A : Option Addr) (n c : Nat) (ls : List ByteArray) (w : World) (hl : ls.length = n) (hnc : n ≤ c) (hcm : c ≤ 140737488355328) (hr : Rd w A (strV ls)) (hs : (lst ls).Pairwise (· < ·)) (hss : ∀ s ∈ ls, s.size < 4294967281) :
    Calls Tryz.prog 81 #[.slice A n c] w fun e w' => e = .returned (.bool (apartL (lst ls))) ∧ Below w.heap.size w w' := by
  have HI := hid (apart_idx (lst ls))
  have HP := hid (List.pairwise_iff_getElem.1 hs)
  have HL := hid (show (lst ls).length = n by rw [lst_length]; exact hl)
  have HL2 := hid hl
  have HS := hid hss
  have HA := hid (fun j (h : j < ls.length) (h' : j < (lst ls).length) => (show (lst ls)[j] = ls[j].data.toList by simp [lst]))
  clear hl hs hss
  generalize lst ls = L at *
  go_enter Tryz.func81, Tryz.ntmps81
  go_wp2_with fail
  go_loopw [9] (fun i wr => ∃ j : Nat, j ≤ n ∧ i = .int .i64 j ∧ Hid (∀ i k (hi : i < j) (hik : i < k) (hk : k < L.length), underL L[k] (L[i]'(by omega)) = false) ∧ Below w.heap.size w wr) (fun i _ => n - (intOf i).toNat)
  case atStart => exact ⟨0, by omega, rfl, hid (fun i k hi => absurd hi (by omega)), Below.refl _ _⟩
  case round =>
    obtain ⟨i, hi, rfl, HO, hb⟩ := hrel
    by_cases hin : i < n
    · have hil : i < ls.length := by rw [HL2.out]; exact hin
      have hr1 := hr.below hb
      obtain ⟨b, off, rfl, h1, -⟩ := hr1.at_ (k := i) (by rw [strV_length]; exact hil)
      have h2 : wr.cell? ⟨b, off + i, none⟩ = some (.string ls[i]) := by rw [h1]; simp [strV]
      have hz : (0 : Int) ≤ i := by omega
      have hlt : (i : Int) < n := by omega
      clear h1 hr1
      by_cases hci : c = i + 1
      · have hnn : n - (i + 1) = 0 := by omega
        have hn1 : n = i + 1 := by omega
        have HN := hid hn1
        clear hn1
        go_upto_region 5 with (fail)
        go_loopw [19] (fun v wx => v = .int .i64 0 ∧ wr = wx) (fun _ _ => 0)
        case atStart => exact ⟨rfl, rfl⟩
        case round =>
          obtain ⟨rfl, rfl⟩ := hrel
          go_wp2
          go_roundw
          case rel =>
            refine ⟨i + 1, by omega, by go_num, hid (fun i' k hi' hik hk => ?_), hb⟩
            have := HN.out
            have := HL.out
            exact HO.out i' k (by omega) hik hk
          case measure => simp [intOf]; omega
      · have HW := hid hb
        go_upto_region 5 with (fail)
        go_loopw [19] (fun v wx => ∃ j : Nat, j ≤ n - (i + 1) ∧ v = .int .i64 j ∧ Hid (∀ k (hk : k < L.length) (hik : i < k), k < i + 1 + j → underL L[k] (L[i]'(by omega)) = false) ∧ Below w.heap.size w wx) (fun v _ => n - (i + 1) - (intOf v).toNat)
        case atStart => exact ⟨0, by omega, rfl, hid (fun k hk hik h => absurd h (by omega)), hb⟩
        case round =>
          clear hb h2
          obtain ⟨j, hj, rfl, HJ, hb⟩ := hrel
          have hLi : i < L.length := by have := HL.out; omega
          have HAi := hid (HA.out i hil hLi)
          by_cases hjn : j < n - (i + 1)
          · have hkl : i + 1 + j < ls.length := by have := HL2.out; omega
            have hLk : i + 1 + j < L.length := by have := HL.out; omega
            have HAk := hid (HA.out (i + 1 + j) hkl hLk)
            have hr1 := hr.below hb
            obtain ⟨b', off', he, h1, -⟩ := hr1.at_ (k := i + 1 + j) (by rw [strV_length]; exact hkl)
            injection he with he
            injection he with he1 he2
            subst he1 he2
            have h3 : wr.cell? ⟨b, off + (i + 1) + j, none⟩ = some (.string ls[i + 1 + j]) := by
              rw [Nat.add_assoc off, h1]
              simp [strV]
            have hsi := HS.out ls[i] (List.getElem_mem hil)
            have hsk := HS.out ls[i + 1 + j] (List.getElem_mem hkl)
            have HPk := hid (HP.out i (i + 1 + j) hLi hLk (by omega))
            clear h1 hr1
            generalize ls[i + 1 + j] = x at *
            generalize ls[i] = y at *
            have hz2 : (0 : Int) ≤ j := by omega
            have hlt2 : (j : Int) < ((n - (i + 1) : Nat) : Int) := by omega
            go_wp2_with fail
            refine (Tryz.strings_HasPrefix _ _ _).mono ?_
            rintro e w1 ⟨rfl, rfl⟩
            cases hp : Lib.hasPrefix x.data.toList y.data.toList
            · have HPP := hid hp
              clear hp
              go_wp2
              go_roundw
              case rel =>
                refine ⟨i + 1, by omega, by go_num, hid (fun i' k hi' hik hk => ?_), hb⟩
                by_cases hii : i' < i
                · exact HO.out i' k hii hik hk
                · obtain rfl : i' = i := by omega
                  by_cases hkj : k < i' + 1 + j
                  · exact HJ.out k hk hik hkj
                  · refine under_mid HPk.out ?_ ?_
                    · by_cases hke : k = i' + 1 + j
                      · subst hke; exact List.le_refl _
                      · exact List.le_of_lt (HP.out (i' + 1 + j) k hLk hk (by omega))
                    · rw [HAi.out, HAk.out]; exact HPP.out
              case measure => simp [intOf]; omega
            · go_wp2_with fail
              refine (under_any _ _ _ hsk hsi).mono ?_
              rintro e w2 ⟨rfl, hb2⟩
              have hb2' := below2 hb hb2
              clear hb hb2
              cases hu : underL x.data.toList y.data.toList
              · have HU := hid hu
                clear hu
                go_wp2
                go_roundw
                case rel =>
                  refine ⟨j + 1, by omega, by go_num, hid (fun k hk hik hkj => ?_), hb2'⟩
                  by_cases hke : k = i + 1 + j
                  · subst hke
                    rw [HAi.out, HAk.out]; exact HU.out
                  · exact HJ.out k hk hik (by omega)
                case measure => simp [intOf]; omega
              · have HU := hid hu
                clear hu
                go_wp2
                go_ret
                refine ⟨ret_bool ?_, hb2'⟩
                symm
                refine not_true fun hap => ?_
                have := HI.out.1 hap i (i + 1 + j) (by omega) hLk
                rw [HAi.out, HAk.out, HU.out] at this
                cases this
          · have hnlt2 : ¬ (j : Int) < ((n - (i + 1) : Nat) : Int) := by omega
            have HJE := hid (show j = n - (i + 1) by omega)
            go_wp2
            go_roundw
            case rel =>
              refine ⟨i + 1, by omega, by go_num, hid (fun i' k hi' hik hk => ?_), hb⟩
              by_cases hii : i' < i
              · exact HO.out i' k hii hik hk
              · obtain rfl : i' = i := by omega
                have := HL.out
                have := HJE.out
                exact HJ.out k hk hik (by omega)
            case measure => simp [intOf]; omega
    · have HE := hid (show i = n by omega)
      have hnlt : ¬ (i : Int) < n := by omega
      go_wp2
      go_ret
      refine ⟨ret_bool ?_, hb⟩
      symm
      refine HI.out.2 fun i' k hik hk => ?_
      have := HE.out
      have := HL.out
      exact HO.out i' k (by omega) hik hk
end Go.Proofs.YtlmccjdpmhancaaGreatDoor
namespace Go.Proofs.YtlmccjdpmhancaaGreatDoor
open Go.RowKit

theorem made_one (z : Value) (n : Nat) : madeCells #[z] n = (List.replicate n z).toArray := by
  apply Array.toList_inj.1
  rw [toList_madeCells_one]
theorem made_two (a : Value) (n : Nat) : madeCells #[a, a] n = (List.replicate n a).toArray := by
  apply Array.ext
  · simp [madeCells]
  · intro i h1 h2
    simp only [madeCells, Array.getElem_map, Array.getElem_range, List.getElem_toArray, List.getElem_replicate]
    have h : i % (#[a, a] : Array Value).size = 0 ∨ i % (#[a, a] : Array Value).size = 1 := by
      have : (#[a, a] : Array Value).size = 2 := rfl
      rw [this]; omega
    rcases h with h | h <;> rw [h] <;> rfl
theorem make_strs (n : Nat) (hn : n ≤ 1000000) (w : World) : (Instr.makeSlice 25 (.int .i64 (n : Int)) (.int .i64 (n : Int))).run Tryz.prog w = .ok (.slice (some ⟨w.heap.size, 0, none⟩) n n) (w.alloc (.cells (List.replicate n (Value.string ⟨#[]⟩)).toArray 9)) := by
  rw [← made_one]
  exact run_make_row' 25 9 (.string ⟨#[]⟩) 16 Tryz.underlying25 Tryz.infoS rfl .i64 .i64 n (by omega) (by omega) w

/-- What was laid, and room for the rest. -/
def fill (xs : List Value) (z : Value) (j : Nat) : List Value := xs.take j ++ List.replicate (xs.length - j) z
theorem fill_zero (xs : List Value) (z : Value) : fill xs z 0 = List.replicate xs.length z := by simp [fill]
theorem fill_all (xs : List Value) (z : Value) : fill xs z xs.length = xs := by simp [fill]
theorem fill_at (xs : List Value) (z : Value) (j : Nat) (h : j < xs.length) : (fill xs z j)[j]? = some z := by
  rw [fill, List.getElem?_append_right (by rw [List.length_take]; omega), List.length_take, Nat.min_eq_left (by omega), Nat.sub_self, List.getElem?_replicate, if_pos (by omega)]
theorem fill_set (xs : List Value) (z : Value) (j : Nat) (x : Value) (h : xs[j]? = some x) : (fill xs z j).set j x = fill xs z (j + 1) := by
  have hj := (List.getElem?_eq_some_iff.1 h).1
  rw [fill, fill, List.set_append_right _ _ (by rw [List.length_take]; omega), List.length_take, Nat.min_eq_left (by omega), Nat.sub_self, show xs.length - j = (xs.length - (j + 1)) + 1 by omega, List.replicate_succ, List.set_cons_zero, List.take_add_one, h, List.append_assoc]
  rfl
theorem all_take_more {α : Type} (q : α → Bool) (l : List α) (j : Nat) (h : j < l.length) : (l.take (j + 1)).all q = ((l.take j).all q && q l[j]) := by
  rw [List.take_add_one, List.getElem?_eq_getElem h, List.all_append]
  simp

set_option maxHeartbeats 1000000 in
theorem tright_any (A : Option Addr) (n c : Nat) (fs : List Fil) (w : World) (hl : fs.length = n) (hr : Rd w A (filV fs)) (hn : n ≤ 140737488355328) (hf : ∀ f ∈ fs, f.1.size < 4294967281 ∧ f.2.size ≤ maxLen) :
    Calls Tryz.prog 42 #[.slice A n c] w fun e w' => e = .returned (.bool (treeR fs)) ∧ Below w.heap.size w w' := by
  have HF := hid hf
  have HL := hid hl
  clear hf hl
  by_cases h16 : (16 : Int) < n
  · go_enter Tryz.func42, Tryz.ntmps42
    go_wp2
    go_ret
    refine ⟨ret_bool ?_, Below.refl _ _⟩
    symm
    refine treeR_no fun h => ?_
    have := h.few
    have := HL.out
    omega
  · have hmk := make_strs n (by omega)
    go_enter Tryz.func42, Tryz.ntmps42
    go_upto_region 5 with (fail)
    go_loopw [14] (fun i wr => ∃ j : Nat, j ≤ n ∧ i = .int .i64 j ∧ Blk wr w.heap.size (fill (strV (fs.map (·.1))) (.string ⟨#[]⟩) j) 9 ∧ Below w.heap.size w wr ∧ Hid ((fs.take j).all (fun f => decide (f.2.size ≤ 600)) = true)) (fun i _ => n - (intOf i).toNat)
    case atStart =>
      refine ⟨0, by omega, rfl, ?_, (Below.refl _ _).alloc (Nat.le_refl _) _, by simp [Hid]⟩
      have := Blk.new w (List.replicate n (Value.string ⟨#[]⟩)) 9
      rw [fill_zero, strV_length, List.length_map, HL.out]
      simpa using this
    case round =>
      obtain ⟨j, hj, rfl, hblk, hb, HO⟩ := hrel
      by_cases hjn : j < n
      · have hjl : j < fs.length := by rw [HL.out]; exact hjn
        have hr1 := hr.below hb
        obtain ⟨b, off, rfl, h1, h2, -⟩ := hr1.fil hjl
        have hz : (0 : Int) ≤ j := by omega
        have hlt : (j : Int) < n := by omega
        clear hr1
        go_upto_region 7 with (fail)
        have HK := hid (all_take_more (fun f : Fil => decide (f.2.size ≤ 600)) fs j hjl)
        have HX := hid (show (strV (fs.map (·.1)))[j]? = some (.string fs[j].1) by simp [strV, hjl])
        have hblk2 := hblk.below ((Below.refl _ _).alloc (Nat.le_refl _) (.cells #[.string fs[j].1, .string fs[j].2] 57))
        have hb2 := hb.alloc hb.size (.cells #[.string fs[j].1, .string fs[j].2] 57)
        have k := Blk.new wr [.string fs[j].1, .string fs[j].2] 57
        have k1 := k.cell 0
        have k2 := k.cell 1
        simp only [List.getElem?_cons_zero, List.getElem?_cons_succ] at k1 k2
        have hd := (HF.out fs[j] (List.getElem_mem hjl)).2
        unfold maxLen at hd
        have HM := hid (List.getElem_mem hjl)
        clear k hblk hb h1 h2
        generalize fs[j] = f at *
        generalize wr.alloc (.cells #[.string f.1, .string f.2] 57) = wa at *
        generalize wr.heap.size = g at *
        have c1 := hblk2.cell j
        rw [fill_at _ _ _ (by rw [strV_length, List.length_map]; exact hjl)] at c1
        have c2 := hblk2.frozen j
        have hblk3 := hblk2.set_ j (.string f.1)
        rw [fill_set _ _ _ _ HX.out] at hblk3
        have hb3 : Below w.heap.size w (wa.setCell ⟨w.heap.size, j, none⟩ (.string f.1)) := hb2.grown (grown_set j _) hb2.size (by intro k hk; injection hk with hk; omega)
        clear hblk2
        by_cases h600 : (600 : Int) < f.2.size
        · go_wp2
          go_ret
          refine ⟨ret_bool ?_, hb2⟩
          symm
          refine treeR_no fun h => ?_
          have := h.datas f HM.out
          omega
        · go_wp2
          go_roundw
          case rel => exact ⟨j + 1, by omega, by go_num, hblk3, hb3, hid (by rw [HK.out, HO.out]; simp; omega)⟩
          case measure => simp [intOf]; omega
      · have HE := hid (show j = n by omega)
        have hnlt : ¬ (j : Int) < n := by omega
        have ho := HO.out
        have e1 : j = fs.length := by rw [HL.out]; omega
        rw [e1, List.take_length] at ho
        have HD := hid ho
        have e2 : (strV (fs.map (·.1))).length = fs.length := by rw [strV_length, List.length_map]
        rw [show j = (strV (fs.map (·.1))).length by rw [e2]; exact e1, fill_all] at hblk
        have hrd : Rd wr (some ⟨w.heap.size, 0, none⟩) (strV (fs.map (·.1))) := .inr ⟨_, rfl, fun k u hu => by rw [Addr.add_lit, Nat.zero_add, hblk.cell, hu]⟩
        have HLL := hid (show lst (fs.map (·.1)) = fs.map pth by simp [lst, pth])
        have hfn : (fs.map (·.1)).length = n := by rw [List.length_map, HL.out]
        have hss : ∀ s ∈ fs.map (·.1), s.size < 4294967281 := by
          intro s hs
          obtain ⟨f, hf, rfl⟩ := List.mem_map.1 hs
          exact (HF.out f hf).1
        have HFN := hid hfn
        have HSS := hid hss
        clear ho e1 e2 hblk hfn hss HO
        have hn16 : fs.length ≤ 16 := by rw [HL.out]; omega
        have HT := hid (show treeR fs = (sortedL (fs.map pth) && apartL (fs.map pth)) by rw [treeR, HD.out, decide_eq_true hn16]; rfl)
        clear hn16
        go_wp2_with fail
        refine (sorted_any _ n n (fs.map (·.1)) _ HFN.out hrd hn HSS.out).mono ?_
        rintro e w1 ⟨rfl, hb1⟩
        rw [HLL.out]
        have hrd1 := hrd.below hb1
        have hb1' := below2 hb hb1
        clear hrd hb hb1
        cases hq : sortedL (fs.map pth)
        · rw [hq] at HT
          go_wp2
          go_ret
          exact ⟨ret_bool HT.out.symm, hb1'⟩
        · rw [hq, Bool.true_and] at HT
          have HS := hid (srt_pair hq)
          go_wp2_with fail
          refine (apart_any _ n n (fs.map (·.1)) _ HFN.out (Nat.le_refl _) hn hrd1 (by rw [HLL.out]; exact HS.out) HSS.out).mono ?_
          rintro e w2 ⟨rfl, hb2⟩
          rw [HLL.out]
          go_wp2
          go_ret
          exact ⟨ret_bool HT.out.symm, below2 hb1' hb2⟩
end Go.Proofs.YtlmccjdpmhancaaGreatDoor
namespace Go.Proofs.YtlmccjdpmhancaaGreatDoor
open Go.RowKit

/-- A slice of n files: what is read, and the bounds. -/
structure Ft (w : World) (A : Option Addr) (n c : Nat) (fs : List Fil) : Prop where
  len : fs.length = n
  rd : Rd w A (filV fs)
  cap : n ≤ c
  big : n ≤ 140737488355328
  capm : c ≤ 9223372036854775807
  sz : ∀ f ∈ fs, f.1.size < 4294967281 ∧ f.2.size ≤ 140737488355328
theorem Ft.below {w w' : World} {A : Option Addr} {n c : Nat} {fs : List Fil} (h : Ft w A n c fs) (hb : Below w.heap.size w w') : Ft w' A n c fs := ⟨h.len, h.rd.below hb, h.cap, h.big, h.capm, h.sz⟩
theorem Ft.sz1 {w : World} {A : Option Addr} {n c : Nat} {fs : List Fil} (h : Ft w A n c fs) : ∀ f ∈ fs, f.1.size < 4294967281 := fun f hf => (h.sz f hf).1
theorem tree_any {w : World} {A : Option Addr} {n c : Nat} {fs : List Fil} (h : Ft w A n c fs) : Calls Tryz.prog 42 #[.slice A n c] w fun e w' => e = .returned (.bool (treeR fs)) ∧ Below w.heap.size w w' :=
  tright_any A n c fs w h.len h.rd h.big (fun f hf => ⟨(h.sz f hf).1, by have := (h.sz f hf).2; unfold maxLen; omega⟩)

set_option maxHeartbeats 400000 in
theorem find_any {w : World} {A : Option Addr} {n c : Nat} {fs : List Fil} (h : Ft w A n c fs) (p : ByteArray) :
    Calls Tryz.prog 31 #[.slice A n c, .string p] w fun e w' => e = .returned (.int .i64 (findT fs p.data.toList)) ∧ Below w.heap.size w w' := by
  have hn := h.big
  go_enter Tryz.func31, Tryz.ntmps31
  go_wp2_with fail
  refine (tree_any h).mono ?_
  rintro e w1 ⟨rfl, hb1⟩
  cases hR : treeR fs
  · go_wp2
    go_ret
    exact ⟨ret_int (by rw [findT, hR]; rfl), hb1⟩
  · have HR := hid hR
    have hT := (treeR_iff fs).1 hR
    have h1 := h.below hb1
    clear hR h
    go_wp2_with fail
    refine (place_any A n c fs p _ h1.len hT.srt h1.rd hn).mono ?_
    rintro e w2 ⟨rfl, hb2⟩
    have hb2' := below2 hb1 hb2
    clear hb1 hb2
    cases ht : thereT fs p.data.toList
    · have HH := hid ht
      clear ht
      go_wp2
      go_ret
      exact ⟨ret_int (by rw [findT, HR.out, HH.out]; rfl), hb2'⟩
    · have HH := hid ht
      clear ht
      go_wp2
      go_ret
      exact ⟨ret_int (by rw [findT, HR.out, HH.out]; rfl), hb2'⟩

def getV : Option ByteArray → Value
  | some d => .tuple #[.string d, .bool true]
  | none => .tuple #[.string ⟨#[]⟩, .bool false]
theorem get_of {fs : List Fil} {p : ByteArray} (hR : treeR fs = true) (ht : thereT fs p.data.toList = true) : ∃ hl : (lowT fs p.data.toList).length < fs.length, getT fs p.data.toList = some fs[(lowT fs p.data.toList).length].2 := by
  have hs := ((treeR_iff fs).1 hR).srt
  obtain ⟨hl, he⟩ := (there_at hs).1 ht
  refine ⟨hl, ?_⟩
  rw [getT, if_pos hR, data_iff hs]
  have : (p, fs[(lowT fs p.data.toList).length].2) = fs[(lowT fs p.data.toList).length] := pth_inj (by rw [he]; rfl) rfl
  rw [this]
  exact List.getElem_mem _
theorem get_none {fs : List Fil} {p : ByteArray} (h : (treeR fs && thereT fs p.data.toList) = false) : getT fs p.data.toList = none := by
  rw [getT]
  cases hR : treeR fs
  · rfl
  · rw [hR, Bool.true_and, ← data_some] at h
    simpa using h

set_option maxHeartbeats 400000 in
theorem get_any {w : World} {A : Option Addr} {n c : Nat} {fs : List Fil} (h : Ft w A n c fs) (p : ByteArray) :
    Calls Tryz.prog 26 #[.slice A n c, .string p] w fun e w' => e = .returned (getV (getT fs p.data.toList)) ∧ Below w.heap.size w w' := by
  have c0 := find_any h p
  have HG := hid (@get_of fs p)
  have HN := hid (@get_none fs p)
  unfold findT at c0
  go_enter Tryz.func26, Tryz.ntmps26
  go_wp2_with fail
  refine c0.mono ?_
  clear c0
  rintro e w1 ⟨rfl, hb1⟩
  have h1 := h.below hb1
  clear h
  cases hc : (treeR fs && thereT fs p.data.toList)
  · rw [if_neg (by simp)]
    have HC := hid hc
    clear hc
    go_wp2
    go_ret2
    rw [HN.out HC.out]
    exact ⟨rfl, hb1⟩
  · rw [if_pos rfl]
    rw [Bool.and_eq_true] at hc
    obtain ⟨hl, he⟩ := HG.out hc.1 hc.2
    obtain ⟨b, off, rfl, -, k2, -⟩ := h1.rd.fil hl
    have HE := hid he
    have hsz := (h1.sz fs[(lowT fs p.data.toList).length] (List.getElem_mem _)).2
    have hln := h1.len
    clear hc he h1 HN HG
    generalize fs[(lowT fs p.data.toList).length].2 = x at *
    generalize (lowT fs p.data.toList).length = k at *
    have hz : ¬ (k : Int) < 0 := by omega
    have hz0 : (0 : Int) ≤ k := by omega
    have hlt : (k : Int) < n := by omega
    go_wp2_with fail
    refine (clone_any _ _ (by omega)).mono ?_
    rintro e w2 ⟨rfl, hb2⟩
    have hb2' := below2 hb1 hb2
    clear hb1 hb2
    go_wp2
    go_ret2
    rw [HE.out]
    exact ⟨rfl, hb2'⟩

theorem size_more (fs : List Fil) (j : Nat) (h : j < fs.length) : sizeT (fs.take (j + 1)) = sizeT (fs.take j) + fs[j].2.size := by
  rw [sizeT, List.take_add_one, List.getElem?_eq_getElem h, List.map_append, List.sum_append]
  simp [sizeT]
theorem size_part (fs : List Fil) (j : Nat) : sizeT (fs.take j) ≤ sizeT fs := by
  have e : sizeT fs = sizeT (fs.take j) + sizeT (fs.drop j) := by
    conv => lhs; rw [← List.take_append_drop j fs]
    rw [sizeT, List.map_append, List.sum_append]
    rfl
  omega

/-! ### Same -/
theorem neqF (f g : Fil) (w : World) : (binOp .neq 57 (.agg #[.string f.1, .string f.2]) (.agg #[.string g.1, .string g.2])).run Tryz.prog w = .ok (.bool (!decide (f = g))) w := by
  have u9 := Tryz.underlying9
  have a9 := Tryz.isAgg9
  have z9 := Tryz.sizeOf9
  have hS : Tryz.prog.underlying 57 = some (.struct (Tryz.prog.fieldsOf 57)) := by kernel_rfl
  have hp : Tryz.prog.stoodInHeld 57 = false := by kernel_rfl
  rw [run_neq_struct, show (10000 : Nat) = 9999 + 1 from rfl, run_equalIn_agg w 9999 57 _ _ hS hp]
  simp only [Program.fieldsOf, Tryz.underlying57]
  go_simp
  have inj : ∀ {a b : ByteArray}, a.toList = b.toList → a = b := fun h => data_inj (by rw [← Lib.toList_data, ← Lib.toList_data]; exact h)
  by_cases h1 : f.1.toList = g.1.toList
  · by_cases h2 : f.2.toList = g.2.toList
    · have e : f = g := Prod.ext (inj h1) (inj h2)
      rw [if_pos h1, if_pos h2, decide_eq_true e]; rfl
    · have e : f ≠ g := fun e => h2 (by rw [e])
      rw [if_pos h1, if_neg h2, decide_eq_false e]; rfl
  · have e : f ≠ g := fun e => h1 (by rw [e])
    rw [if_neg h1, decide_eq_false e]; rfl

theorem same_no {fs gs : List Fil} {j : Nat} (h1 : j < fs.length) (h2 : j < gs.length) (h : fs[j] ≠ gs[j]) : fs ≠ gs := fun e => by subst e; exact h rfl

/-! ### In -/
/-- A new slice of strings was answered. -/
def StrsPost (w : World) (ls : List ByteArray) (e : Ending) (w' : World) : Prop :=
  ∃ A c, e = .returned (.slice A ls.length c) ∧ Rd w' A (strV ls) ∧ ls.length ≤ c ∧ c ≤ maxLen ∧ Below w.heap.size w w'
def inTo (fs : List Fil) (d : List UInt8) : List ByteArray := (fs.filter fun f => underL (pth f) d).map (·.1)
theorem inTo_more (fs : List Fil) (d : List UInt8) (j : Nat) (h : j < fs.length) : inTo (fs.take (j + 1)) d = inTo (fs.take j) d ++ (if underL (pth fs[j]) d then [fs[j].1] else []) := by
  rw [inTo, List.take_add_one, List.getElem?_eq_getElem h, List.filter_append, List.map_append]
  simp only [Option.toList, List.filter_cons, List.filter_nil]
  split <;> rfl
theorem inTo_len (fs : List Fil) (d : List UInt8) : (inTo fs d).length ≤ fs.length := by rw [inTo, List.length_map]; exact List.length_filter_le _ _

end Go.Proofs.YtlmccjdpmhancaaGreatDoor
namespace Go.Proofs.YtlmccjdpmhancaaGreatDoor
open Go.RowKit

/-- An entry's value. -/
abbrev eA (e : Ent) : Value := .agg #[.string e.path, .bool e.has, .string e.data, .int .i64 e.l, .int .i64 e.r]
/-- A slice of n entries: what is read, and the bounds. -/
structure Et (w : World) (A : Option Addr) (n c : Nat) (es : List Ent) : Prop where
  len : es.length = n
  rd : Rd w A (entV es)
  cap : n ≤ c
  big : n ≤ 1000000
  capm : c ≤ 9223372036854775807
  sz : ∀ e ∈ es, e.path.size < 4294967281 ∧ e.data.size ≤ 140737488355328
theorem Et.below {w w' : World} {A : Option Addr} {n c : Nat} {es : List Ent} (h : Et w A n c es) (hb : Below w.heap.size w w') : Et w' A n c es := ⟨h.len, h.rd.below hb, h.cap, h.big, h.capm, h.sz⟩

theorem str_inj {a b : ByteArray} (h : a.toList = b.toList) : a = b := data_inj (by rw [← Lib.toList_data, ← Lib.toList_data]; exact h)
theorem eqInP (d : Nat) (a b c e : Int) (w : World) : (Op.equalIn (d + 1 + 1) 32 (.agg #[.int .i64 a, .int .i64 b]) (.agg #[.int .i64 c, .int .i64 e])).run Tryz.prog w = .ok (decide (a = c) && decide (b = e)) w := by
  have u9 := Tryz.underlying3
  have a9 := Tryz.isAgg3
  have z9 := Tryz.sizeOf3
  have hS : Tryz.prog.underlying 32 = some (.struct (Tryz.prog.fieldsOf 32)) := by kernel_rfl
  have hp : Tryz.prog.stoodInHeld 32 = false := by kernel_rfl
  rw [run_equalIn_agg w (d + 1) 32 _ _ hS hp]
  simp only [Program.fieldsOf, Tryz.underlying32]
  go_simp
  by_cases h1 : a = c <;> by_cases h2 : b = e <;> simp [h1, h2]
theorem eqP (a b c d : Int) (w : World) : (binOp .eql 32 (.agg #[.int .i64 a, .int .i64 b]) (.agg #[.int .i64 c, .int .i64 d])).run Tryz.prog w = .ok (.bool (decide (a = c) && decide (b = d))) w := by
  rw [run_eql_struct, show (10000 : Nat) = 9998 + 1 + 1 from rfl, eqInP]; rfl
theorem neqP (a b c d : Int) (w : World) : (binOp .neq 32 (.agg #[.int .i64 a, .int .i64 b]) (.agg #[.int .i64 c, .int .i64 d])).run Tryz.prog w = .ok (.bool (!(decide (a = c) && decide (b = d)))) w := by
  rw [run_neq_struct, show (10000 : Nat) = 9998 + 1 + 1 from rfl, eqInP]; rfl
theorem eqInE (e f : Ent) (w : World) : (Op.equalIn (9997 + 1 + 1 + 1) 34 (eA e) (eA f)).run Tryz.prog w = .ok (decide (e = f)) w := by
  have u9 := Tryz.underlying9
  have a9 := Tryz.isAgg9
  have z9 := Tryz.sizeOf9
  have u8 := Tryz.underlying4
  have a8 := Tryz.isAgg4
  have z8 := Tryz.sizeOf4
  have a6 := Tryz.isAgg32
  have z6 := Tryz.sizeOf32
  have hS : Tryz.prog.underlying 34 = some (.struct (Tryz.prog.fieldsOf 34)) := by kernel_rfl
  have hp : Tryz.prog.stoodInHeld 34 = false := by kernel_rfl
  have hpair := eqInP 9997 e.l e.r f.l f.r
  rw [run_equalIn_agg w (9997 + 1 + 1) 34 _ _ hS hp]
  simp only [Program.fieldsOf, Tryz.underlying34]
  go_simp
  by_cases h : e = f
  · subst h
    rw [if_pos rfl, if_pos rfl, if_pos rfl, if_neg (by simp), decide_eq_true rfl]
  · rw [decide_eq_false h]
    by_cases h1 : e.path.toList = f.path.toList
    · rw [if_pos h1]
      by_cases h2 : e.has = f.has
      · rw [if_pos h2]
        by_cases h3 : e.data.toList = f.data.toList
        · rw [if_pos h3, if_pos fun h4 h5 => h (Ent.same (str_inj h1) h2 (str_inj h3) h4 h5)]
        · rw [if_neg h3]
      · rw [if_neg h2]
    · rw [if_neg h1]
theorem eqE (e f : Ent) (w : World) : (binOp .eql 34 (eA e) (eA f)).run Tryz.prog w = .ok (.bool (decide (e = f))) w := by
  rw [run_eql_struct, show (10000 : Nat) = 9997 + 1 + 1 + 1 from rfl, eqInE]; rfl
theorem neqE (e f : Ent) (w : World) : (binOp .neq 34 (eA e) (eA f)).run Tryz.prog w = .ok (.bool (!decide (e = f))) w := by
  rw [run_neq_struct, show (10000 : Nat) = 9997 + 1 + 1 + 1 from rfl, eqInE]; rfl

theorem str_eqb (a b : ByteArray) : (a.toList == b.toList) = decide (a = b) := by
  by_cases h : a = b
  · subst h; simp
  · rw [decide_eq_false h, beq_eq_false_iff_ne]; exact fun e => h (str_inj e)

theorem isEmpty_no (d : ByteArray) : d.toList.isEmpty = decide (d = noS) := by
  by_cases h : d = noS
  · subst h; simp
  · rw [decide_eq_false h]
    cases hl : d.toList with
    | nil => exact absurd (str_inj (a := d) (b := noS) (by rw [hl]; simp)) h
    | cons _ _ => rfl
set_option maxHeartbeats 1000000 in
theorem efine_any (e : Ent) (w : World) :
    Calls Tryz.prog 58 #[eA e] w fun x w' => x = .returned (.bool (fineE e)) ∧ Below w.heap.size w w' := by
  obtain ⟨p, h, d, l, r⟩ := e
  have hn := neqP l r 0 0
  have HF := hid (show fineE ⟨p, h, d, l, r⟩ = (rt l r && !(decide (l = 0) && decide (r = 0)) && (h || decide (d = noS))) from rfl)
  have HD := hid (isEmpty_no d)
  have k := Blk.new w [.string p, .bool h, .string d, .int .i64 l, .int .i64 r] 34
  go_enter Tryz.func58, Tryz.ntmps58
  go_wp2_with fail
  refine (cright_any l r _).mono ?_
  rintro x w1 ⟨rfl, hb1⟩
  have k1 := k.below hb1
  have c1 := k1.cell 1
  have c2 := k1.cell 2
  have c3 := k1.cell 3
  have c4 := k1.cell 4
  simp only [List.getElem?_cons_zero, List.getElem?_cons_succ] at c1 c2 c3 c4
  have b1 := below_new _ hb1
  clear k k1 hb1
  generalize rt l r = q at *
  generalize (decide (l = 0) && decide (r = 0)) = z at *
  cases q <;> cases z <;> cases h
  all_goals
    go_wp2
    go_ret
    exact ⟨ret_bool (by rw [HF.out]; first | rfl | exact HD.out), b1⟩

/-! ### lesser -/
theorem run_minS (ts : Array TypeId) (t : TypeId) (a b : ByteArray) (w : World) : (Builtin.min_ ts t #[.string a, .string b]).run Tryz.prog w = .ok (.string (if Op.bytesLess b.toList a.toList then b else a)) w := by
  have h := less_flip b.toList a.toList
  simp [Builtin.min_, Builtin.min2, Op.stringOp, asBool]
  cases hq : Op.bytesLess b.toList a.toList
  · rw [hq] at h; simp at h; rcases h with h | h <;> simp [h]
  · rw [hq] at h; simp at h; simp [h.1, h.2]
def lesP : List Ent → List Fil → ByteArray
  | [], f :: _ => f.1
  | e :: _, [] => e.path
  | e :: _, f :: _ => if Op.bytesLess (pth f) (epth e) then f.1 else e.path
  | [], [] => noS
set_option maxHeartbeats 1000000 in
theorem lesser_any {w : World} {A B : Option Addr} {n c m d : Nat} {es : List Ent} {fs : List Fil} (hl : es.length = n) (hr : Rd w A (entV es)) (hl2 : fs.length = m) (hr2 : Rd w B (filV fs)) (hne : 0 < n ∨ 0 < m) :
    Calls Tryz.prog 93 #[.slice A n c, .slice B m d] w fun x w' => x = .returned (.string (lesP es fs)) ∧ Below w.heap.size w w' := by
  match es, fs with
  | [], [] => simp at hl hl2; omega
  | [], f :: fs =>
    obtain ⟨b, off, rfl, h1, -⟩ := hr2.fil (j := 0) (by simp)
    simp only [List.getElem_cons_zero, Nat.zero_mul, Nat.add_zero] at h1
    obtain rfl : n = 0 := by rw [← hl]; rfl
    have hm : 0 < m := by rw [← hl2]; simp
    unfold lesP
    go_enter Tryz.func93, Tryz.ntmps93
    go_wp2
    go_ret
    exact ⟨rfl, Below.refl _ _⟩
  | e :: es, [] =>
    obtain ⟨b, off, rfl, h1, -⟩ := hr.ent (j := 0) (by simp)
    simp only [List.getElem_cons_zero, Nat.zero_mul, Nat.add_zero] at h1
    obtain rfl : m = 0 := by rw [← hl2]; rfl
    have hn : 0 < n := by rw [← hl]; simp
    have hn' : ¬ n = 0 := by omega
    unfold lesP
    go_enter Tryz.func93, Tryz.ntmps93
    go_wp2
    go_ret
    exact ⟨rfl, Below.refl _ _⟩
  | e :: es, f :: fs =>
    obtain ⟨b, off, rfl, h1, -⟩ := hr.ent (j := 0) (by simp)
    obtain ⟨b', off', rfl, h1', -⟩ := hr2.fil (j := 0) (by simp)
    simp only [List.getElem_cons_zero, Nat.zero_mul, Nat.add_zero] at h1 h1'
    have hn : 0 < n := by rw [← hl]; simp
    have hm : 0 < m := by rw [← hl2]; simp
    have hn' : ¬ n = 0 := by omega
    have hm' : ¬ m = 0 := by omega
    have hmin := fun ts t w => run_minS ts t e.path f.1 w
    have HE : Hid (lesP (e :: es) (f :: fs) = if Op.bytesLess f.1.toList e.path.toList then f.1 else e.path) := by rw [Lib.toList_data, Lib.toList_data]; rfl
    generalize (if Op.bytesLess f.1.toList e.path.toList then f.1 else e.path) = q at *
    go_enter Tryz.func93, Tryz.ntmps93
    go_wp2_with fail
    go_quiet (fail)
    go_wp2
    go_ret
    exact ⟨ret_str HE.out.symm, below_drewN (Below.refl _ _) _⟩
end Go.Proofs.YtlmccjdpmhancaaGreatDoor
namespace Go.Proofs.YtlmccjdpmhancaaGreatDoor
open Go.RowKit

/-! ### Cells of one entry, stored -/
theorem set_zero (x e : Ent) (es : List Ent) : (((((entV (x :: es)).set 0 (.string e.path)).set 1 (.bool e.has)).set 2 (.string e.data)).set 3 (.int .i64 e.l)).set 4 (.int .i64 e.r) = entV (e :: es) := rfl
theorem ent_set : ∀ (es : List Ent) (j : Nat) (_ : j < es.length) (e : Ent), (((((entV es).set (j * 5) (.string e.path)).set (j * 5 + 1) (.bool e.has)).set (j * 5 + 2) (.string e.data)).set (j * 5 + 3) (.int .i64 e.l)).set (j * 5 + 4) (.int .i64 e.r) = entV (es.set j e)
  | x :: es, 0, _, e => by
    rw [List.set_cons_zero, Nat.zero_mul]
    exact set_zero x e es
  | x :: es, j + 1, h, e => by
    have ih := ent_set es j (by simpa using h) e
    rw [List.set_cons_succ, entV_cons, entV_cons, ← ih]
    have e0 : (j + 1) * 5 = (j * 5) + 1 + 1 + 1 + 1 + 1 := by omega
    have e1 : (j + 1) * 5 + 1 = (j * 5 + 1) + 1 + 1 + 1 + 1 + 1 := by omega
    have e2 : (j + 1) * 5 + 2 = (j * 5 + 2) + 1 + 1 + 1 + 1 + 1 := by omega
    have e3 : (j + 1) * 5 + 3 = (j * 5 + 3) + 1 + 1 + 1 + 1 + 1 := by omega
    have e4 : (j + 1) * 5 + 4 = (j * 5 + 4) + 1 + 1 + 1 + 1 + 1 := by omega
    rw [e1, e2, e3, e4, e0]
    simp only [eV, List.cons_append, List.nil_append, List.set_cons_succ]
theorem path_set : ∀ (es : List Ent) (j : Nat) (h : j < es.length) (p : ByteArray), (entV es).set (j * 5) (.string p) = entV (es.set j ⟨p, es[j].has, es[j].data, es[j].l, es[j].r⟩)
  | x :: es, 0, _, p => rfl
  | x :: es, j + 1, h, p => by
    have ih := path_set es j (by simpa using h) p
    have e0 : (j + 1) * 5 = (j * 5) + 1 + 1 + 1 + 1 + 1 := by omega
    rw [List.set_cons_succ, entV_cons, entV_cons, e0]
    simp only [eV, List.cons_append, List.nil_append, List.set_cons_succ, List.getElem_cons_succ, ih]
theorem Blk.ent {w : World} {g : Nat} {es : List Ent} {t : TypeId} (h : Blk w g (entV es) t) {j : Nat} (hj : j < es.length) :
    w.cell? ⟨g, j * 5, none⟩ = some (.string es[j].path) ∧ w.cell? ⟨g, j * 5 + 1, none⟩ = some (.bool es[j].has) ∧ w.cell? ⟨g, j * 5 + 2, none⟩ = some (.string es[j].data) ∧ w.cell? ⟨g, j * 5 + 3, none⟩ = some (.int .i64 es[j].l) ∧ w.cell? ⟨g, j * 5 + 4, none⟩ = some (.int .i64 es[j].r) := by
  have g : ∀ q, q < 5 → w.cell? ⟨g, j * 5 + q, none⟩ = (eV es[j])[q]? := fun q hq => by rw [h.cell, entV_at es j hj q hq]
  exact ⟨g 0 (by omega), g 1 (by omega), g 2 (by omega), g 3 (by omega), g 4 (by omega)⟩
theorem Blk.rd {w : World} {g : Nat} {cs : List Value} {t : TypeId} (h : Blk w g cs t) : Rd w (some ⟨g, 0, none⟩) cs :=
  .inr ⟨_, rfl, fun k u hu => by rw [Addr.add_lit, Nat.zero_add, h.cell, hu]⟩

abbrev zE : Ent := ⟨noS, false, noS, 0, 0⟩
theorem Tryz.infoE : (Tryz.prog.info? 34).map (fun i => (i.zero, i.size, i.bytes)) = some (some (eA zE), 5, 56) := by kernel_rfl
theorem made_ents (n : Nat) : madeCells (eV zE).toArray (n * 5) = (entV (List.replicate n zE)).toArray := by
  apply Array.ext
  · simp [madeCells, entV_length]
  · intro i h1 h2
    have hi : i < n * 5 := by simpa [entV_length] using h2
    have e := entV_at (List.replicate n zE) (i / 5) (by simp; omega) (i % 5) (by omega)
    rw [show i / 5 * 5 + i % 5 = i by omega] at e
    simp only [madeCells, Array.getElem_map, Array.getElem_range, List.getElem_toArray]
    have e2 : (entV (List.replicate n zE))[i]? = some ((entV (List.replicate n zE))[i]'(by simpa using h2)) := List.getElem?_eq_getElem _
    rw [e2, List.getElem_replicate] at e
    have h5 : (eV zE).toArray.size = 5 := rfl
    rw [h5]
    have h6 : (eV zE)[i % 5]? = some ((eV zE).toArray[i % 5]!) := by
      have : i % 5 < 5 := by omega
      match i % 5, this with
      | 0, _ => rfl
      | 1, _ => rfl
      | 2, _ => rfl
      | 3, _ => rfl
      | 4, _ => rfl
    rw [h6] at e
    injection e with e
    rw [e]
theorem make_ents (n : Nat) (hn : n ≤ 1000000) (w : World) : (Instr.makeSlice 22 (.int .i64 (n : Int)) (.int .i64 (n : Int))).run Tryz.prog w = .ok (.slice (some ⟨w.heap.size, 0, none⟩) n n) (w.alloc (.cells (entV (List.replicate n zE)).toArray 34)) := by
  obtain ⟨i, hi, hz0, hz1, hz2⟩ := info_parts Tryz.infoE
  have h := run_make (P := Tryz.prog) w 22 34 i _ Tryz.underlying22 hi hz0 .i64 .i64 n n (by omega) (Int.le_refl _) (by rw [hz2]; omega) (by omega)
  rw [h, hz1, Int.toNat_natCast, ← made_ents]
  rfl

set_option maxHeartbeats 1000000 in
theorem eanew_any (x : Ent) (w : World) (hx : x.path.size ≤ 281474976710656) (hd : x.data.size ≤ 281474976710656) :
    Calls Tryz.prog 57 #[eA x] w fun e w' => e = .returned (eA x) ∧ Below w.heap.size w w' := by
  obtain ⟨x, h, d, l, r⟩ := x
  simp only at hx hd
  have p0 : Blk ((w.alloc (.cells #[.string x, .bool h, .string d, .int .i64 l, .int .i64 r] 34)).alloc (.cells #[.string ⟨#[]⟩, .bool false, .string ⟨#[]⟩, .int .i64 0, .int .i64 0] 34)) w.heap.size [.string x, .bool h, .string d, .int .i64 l, .int .i64 r] 34 := (Blk.new w [.string x, .bool h, .string d, .int .i64 l, .int .i64 r] 34).below ((Below.refl _ _).alloc (Nat.le_refl _) _)
  have q0 : Blk ((w.alloc (.cells #[.string x, .bool h, .string d, .int .i64 l, .int .i64 r] 34)).alloc (.cells #[.string ⟨#[]⟩, .bool false, .string ⟨#[]⟩, .int .i64 0, .int .i64 0] 34)) (w.heap.size + 1) [.string ⟨#[]⟩, .bool false, .string ⟨#[]⟩, .int .i64 0, .int .i64 0] 34 := by
    have := Blk.new (w.alloc (.cells #[.string x, .bool h, .string d, .int .i64 l, .int .i64 r] 34)) [.string ⟨#[]⟩, .bool false, .string ⟨#[]⟩, .int .i64 0, .int .i64 0] 34
    simpa using this
  have b0 : Below w.heap.size w ((w.alloc (.cells #[.string x, .bool h, .string d, .int .i64 l, .int .i64 r] 34)).alloc (.cells #[.string ⟨#[]⟩, .bool false, .string ⟨#[]⟩, .int .i64 0, .int .i64 0] 34)) := ((Below.refl _ _).alloc (Nat.le_refl _) _).alloc (by simp) _
  go_enter Tryz.func57, Tryz.ntmps57
  go_upto_region 1 with (fail)
  generalize (w.alloc (.cells #[.string x, .bool h, .string d, .int .i64 l, .int .i64 r] 34)).alloc (.cells #[.string ⟨#[]⟩, .bool false, .string ⟨#[]⟩, .int .i64 0, .int .i64 0] 34) = W0 at *
  have d1 := p0.cell 0
  have d2 := p0.cell 2
  simp only [List.getElem?_cons_zero, List.getElem?_cons_succ] at d1 d2
  refine wp_region_held_drew (S := fun w' => w'.cell? ⟨w.heap.size, 0, none⟩ = some (.string x) ∧ w'.cell? ⟨w.heap.size, 2, none⟩ = some (.string d)) (by kernel_rfl) ⟨d1, d2⟩ (fun hHeld => ?_)
  refine wpAnyH_take (i := 0) (oi := ⟨_, _, _, _, _, _⟩) (v := ?_) rfl (by kernel_rfl) (by kernel_rfl) (by kernel_rfl) (fun _ _ _ h => h) (Or.inl ⟨by rfl, ?_⟩) (by assumption) ?_
  rotate_left
  · intro w hSw; (try dsimp only at hSw); go_simp; (try (with_reducible rfl))
  try simp only [Act.put, List.setIfInBounds_toArray, List.set_cons_zero, List.set_cons_succ]
  refine wpAnyH_take (i := 1) (oi := ⟨_, _, _, _, _, _⟩) (v := ?_) rfl (by kernel_rfl) (by kernel_rfl) (by kernel_rfl) (fun _ _ _ h => h) (Or.inl ⟨by rfl, ?_⟩) (by assumption) ?_
  rotate_left
  · intro w hSw; (try dsimp only at hSw); go_simp; (try (with_reducible rfl))
  try simp only [Act.put, List.setIfInBounds_toArray, List.set_cons_zero, List.set_cons_succ]
  refine wpAnyH_take (i := 3) (oi := ⟨_, _, _, _, _, _⟩) (v := ?_) rfl (by kernel_rfl) (by kernel_rfl) (by kernel_rfl) (fun _ _ _ h => h) (Or.inl ⟨by rfl, ?_⟩) (by assumption) ?_
  rotate_left
  · intro w hSw; (try dsimp only at hSw); go_simp; (try (with_reducible rfl))
  try simp only [Act.put, List.setIfInBounds_toArray, List.set_cons_zero, List.set_cons_succ]
  refine wpAnyH_take (i := 4) (oi := ⟨_, _, _, _, _, _⟩) (v := ?_) rfl (by kernel_rfl) (by kernel_rfl) (by kernel_rfl) (fun _ _ _ h => h) (Or.inl ⟨by rfl, ?_⟩) (by assumption) ?_
  rotate_left
  · intro w hSw; (try dsimp only at hSw); go_simp; (try (with_reducible rfl))
  try simp only [Act.put, List.setIfInBounds_toArray, List.set_cons_zero, List.set_cons_succ]
  refine wpAnyH_ready (rs := [2]) (by kernel_rfl) (by simp) ?_
  refine AllReadyH.cons (o := ⟨_, _, _, _, _, _⟩) rfl (fun K hK => ?_) AllReadyH.nil
  go_simp
  refine (clone_any x _ hx).mono ?_
  rintro e w1 ⟨rfl, hb1⟩
  have p1 := Blk.below (w := W0.drew) p0 hb1
  have q1 := Blk.below (w := W0.drew) q0 hb1
  have b1 := b0.drew.trans (hb1.mono b0.drew.size)
  have d3 := p1.cell 0
  have d4 := p1.cell 2
  simp only [List.getElem?_cons_zero, List.getElem?_cons_succ] at d3 d4
  refine hK.out _ _ ⟨d3, d4⟩ (fun hHeld => ?_)
  clear hK K
  try simp only [Act.put, List.setIfInBounds_toArray, List.set_cons_zero, List.set_cons_succ]
  refine wpAnyH_take (i := 6) (oi := ⟨_, _, _, _, _, _⟩) (v := ?_) rfl (by kernel_rfl) (by kernel_rfl) (by kernel_rfl) (fun _ _ _ h => h) (Or.inl ⟨by rfl, ?_⟩) (by assumption) ?_
  rotate_left
  · intro w hSw; (try dsimp only at hSw); go_simp; (try (with_reducible rfl))
  try simp only [Act.put, List.setIfInBounds_toArray, List.set_cons_zero, List.set_cons_succ]
  refine wpAnyH_ready (rs := [5]) (by kernel_rfl) (by simp) ?_
  refine AllReadyH.cons (o := ⟨_, _, _, _, _, _⟩) rfl (fun K hK => ?_) AllReadyH.nil
  go_simp
  refine (clone_any d _ hd).mono ?_
  rintro e w2 ⟨rfl, hb2⟩
  have p2 := p1.below (hb2)
  have q2 := q1.below (hb2)
  have d5 := p2.cell 0
  have d6 := p2.cell 2
  simp only [List.getElem?_cons_zero, List.getElem?_cons_succ] at d5 d6
  have b2 := b1.trans (hb2.mono b1.size)
  refine hK.out _ _ ⟨d5, d6⟩ (fun hHeld => ?_)
  clear hK K
  try simp only [Act.put, List.setIfInBounds_toArray, List.set_cons_zero, List.set_cons_succ]
  have f0 := p2.frozen 0
  have f1 := p2.frozen 2
  have P3 := p2.set_ 0 (.string x)
  have Q3 := q2.other (show w.heap.size + 1 ≠ w.heap.size by omega) 0 (.string x)
  have e1 := P3.cell 0
  have e2 := P3.cell 2
  simp only [List.set_cons_zero, List.getElem?_cons_zero, List.getElem?_cons_succ] at e1 e2
  have B3 := b2.setCell (p := ⟨w.heap.size, 0, none⟩) (Nat.le_refl _) (.string x)
  refine wpAnyH_ready (rs := [7]) (by kernel_rfl) (by simp) ?_
  refine AllReadyH.cons (o := ⟨_, _, _, _, _, _⟩) rfl (fun K hK => ?_) AllReadyH.nil
  go_simp
  generalize w2.setCell ⟨w.heap.size, 0, none⟩ (.string x) = w3 at *
  refine hK.out _ _ ⟨e1, e2⟩ (fun hHeld => ?_)
  clear hK K
  try simp only [Act.put, List.setIfInBounds_toArray, List.set_cons_zero, List.set_cons_succ]
  refine wpAnyH_take (i := 8) (oi := ⟨_, _, _, _, _, _⟩) (v := ?_) rfl (by kernel_rfl) (by kernel_rfl) (by kernel_rfl) (fun _ _ _ h => h) (Or.inl ⟨by rfl, ?_⟩) (by assumption) ?_
  rotate_left
  · intro w hSw; (try dsimp only at hSw); go_simp; (try (with_reducible rfl))
  try simp only [Act.put, List.setIfInBounds_toArray, List.set_cons_zero, List.set_cons_succ]
  have f2 := P3.frozen 2
  have P4 := P3.set_ 2 (.string d)
  have Q4 := Q3.other (show w.heap.size + 1 ≠ w.heap.size by omega) 2 (.string d)
  simp only [List.set_cons_zero, List.set_cons_succ] at P4
  have B4 := B3.setCell (p := ⟨w.heap.size, 2, none⟩) (Nat.le_refl _) (.string d)
  have g0 := P4.cell 0
  have g1 := P4.cell 1
  have g2 := P4.cell 2
  have g3 := P4.cell 3
  have g4 := P4.cell 4
  have z0 := Q4.cell 0
  have z1 := Q4.cell 1
  have z2 := Q4.cell 2
  have z3 := Q4.cell 3
  have z4 := Q4.cell 4
  have y0 := Q4.frozen 0
  have y1 := Q4.frozen 1
  have y2 := Q4.frozen 2
  have y3 := Q4.frozen 3
  have y4 := Q4.frozen 4
  simp only [List.getElem?_cons_zero, List.getElem?_cons_succ] at g0 g1 g2 g3 g4 z0 z1 z2 z3 z4
  refine wpAnyH_ready (rs := [9]) (by kernel_rfl) (by simp) ?_
  refine AllReadyH.cons (o := ⟨_, _, _, _, _, _⟩) rfl (fun K hK => ?_) AllReadyH.nil
  go_simp
  generalize w3.setCell ⟨w.heap.size, 2, none⟩ (.string d) = w4 at *
  refine hK.out _ _ ⟨g0, g2⟩ (fun hHeld => ?_)
  clear hK K
  try simp only [Act.put, List.setIfInBounds_toArray, List.set_cons_zero, List.set_cons_succ]
  refine wpAnyH_done (by kernel_rfl) ?_ _
  clear hHeld P3 Q3 p2 q2 p1 q1 p0 q0 f0 f1 f2
  have R4 := ((((Q4.set_ 0 (.string x)).set_ 1 (.bool h)).set_ 2 (.string d)).set_ 3 (.int .i64 l)).set_ 4 (.int .i64 r)
  have r0 := R4.cell 0
  have r1 := R4.cell 1
  have r2 := R4.cell 2
  have r3 := R4.cell 3
  have r4 := R4.cell 4
  simp only [List.set_cons_zero, List.set_cons_succ, List.getElem?_cons_zero, List.getElem?_cons_succ] at r0 r1 r2 r3 r4
  have hle : w.heap.size ≤ w.heap.size + 1 := by omega
  have B5 := ((((B4.setCell (p := ⟨w.heap.size + 1, 0, none⟩) hle (.string x)).setCell (p := ⟨w.heap.size + 1, 1, none⟩) hle (.bool h)).setCell (p := ⟨w.heap.size + 1, 2, none⟩) hle (.string d)).setCell (p := ⟨w.heap.size + 1, 3, none⟩) hle (.int .i64 l)).setCell (p := ⟨w.heap.size + 1, 4, none⟩) hle (.int .i64 r)
  go_wp2
  refine bodyPost_ret (v := .agg #[.string x, .bool h, .string d, .int .i64 l, .int .i64 r]) (by simp [results, Tryz.results57, go_sem, r0, r1, r2, r3, r4]) rfl ⟨rfl, B5⟩

set_option maxHeartbeats 1000000 in
theorem copy_any {w : World} {A : Option Addr} {n c : Nat} {es : List Ent} (h : Et w A n c es) :
    Calls Tryz.prog 36 #[.slice A n c] w fun e w' => e = .returned (.slice (some ⟨w.heap.size, 0, none⟩) n n) ∧ Blk w' w.heap.size (entV es) 34 ∧ Below w.heap.size w w' := by
  have hnb := h.big
  have hmk := make_ents n hnb
  have HL := hid h.len
  have HS := hid h.sz
  have hr := h.rd
  clear h
  go_enter Tryz.func36, Tryz.ntmps36
  go_upto_region 3 with (fail)
  go_loopw [11] (fun i wr => ∃ j : Nat, j ≤ n ∧ i = .int .i64 j ∧ Blk wr w.heap.size (entV (es.take j ++ List.replicate (n - j) zE)) 34 ∧ Below w.heap.size w wr) (fun i _ => n - (intOf i).toNat)
  case atStart =>
    refine ⟨0, by omega, rfl, ?_, (Below.refl _ _).alloc (Nat.le_refl _) _⟩
    have := Blk.new w (entV (List.replicate n zE)) 34
    simpa using this
  case round =>
    obtain ⟨j, hj, rfl, hblk, hb⟩ := hrel
    by_cases hjn : j < n
    · have hjl : j < es.length := by rw [HL.out]; exact hjn
      have hr1 := hr.below hb
      obtain ⟨b, off, rfl, h1, h2, h3, h4, h5, -⟩ := hr1.ent hjl
      have hz : (0 : Int) ≤ j := by omega
      have hlt : (j : Int) < n := by omega
      have hsz := HS.out es[j] (List.getElem_mem hjl)
      have hj2 : j < (es.take j ++ List.replicate (n - j) zE).length := by rw [List.length_append, List.length_take, List.length_replicate]; omega
      have HSET := hid (ent_set _ j hj2 es[j])
      have HT : Hid ((es.take j ++ List.replicate (n - j) zE).set j es[j] = es.take (j + 1) ++ List.replicate (n - (j + 1)) zE) := by
        show _ = _
        rw [List.set_append_right _ _ (by rw [List.length_take]; omega), List.length_take, Nat.min_eq_left (by omega), Nat.sub_self, show n - j = (n - (j + 1)) + 1 by omega, List.replicate_succ, List.set_cons_zero, List.take_add_one, List.getElem?_eq_getElem hjl, List.append_assoc]
        rfl
      clear hr1
      go_upto_region 5 with (fail)
      have hblk2 := hblk.below ((Below.refl _ _).alloc (Nat.le_refl _) (.cells #[.string es[j].path, .bool es[j].has, .string es[j].data, .int .i64 es[j].l, .int .i64 es[j].r] 34))
      have hb2 := hb.alloc hb.size (.cells #[.string es[j].path, .bool es[j].has, .string es[j].data, .int .i64 es[j].l, .int .i64 es[j].r] 34)
      have k := Blk.new wr [.string es[j].path, .bool es[j].has, .string es[j].data, .int .i64 es[j].l, .int .i64 es[j].r] 34
      have k1 := k.cell 0
      have k2 := k.cell 1
      have k3 := k.cell 2
      have k4 := k.cell 3
      have k5 := k.cell 4
      simp only [List.getElem?_cons_zero, List.getElem?_cons_succ] at k1 k2 k3 k4 k5
      clear k hblk hb h1 h2 h3 h4 h5
      generalize es[j] = x at *
      generalize wr.alloc (.cells #[.string x.path, .bool x.has, .string x.data, .int .i64 x.l, .int .i64 x.r] 34) = wa at *
      generalize wr.heap.size = g at *
      go_wp2_with fail
      refine (eanew_any x _ (by omega) (by omega)).mono ?_
      rintro e w1 ⟨rfl, hb1⟩
      have hblk3 := hblk2.below hb1
      have hb3 := hb2.trans (hb1.mono hb2.size)
      have c0 := hblk3.ent hj2
      obtain ⟨c0, c1, c2, c3, c4⟩ := c0
      generalize (es.take j ++ List.replicate (n - j) zE)[j] = z at c0 c1 c2 c3 c4
      have f0 := hblk3.frozen (j * 5)
      have f1 := hblk3.frozen (j * 5 + 1)
      have f2 := hblk3.frozen (j * 5 + 2)
      have f3 := hblk3.frozen (j * 5 + 3)
      have f4 := hblk3.frozen (j * 5 + 4)
      have hblk4 := ((((hblk3.set_ (j * 5) (.string x.path)).set_ (j * 5 + 1) (.bool x.has)).set_ (j * 5 + 2) (.string x.data)).set_ (j * 5 + 3) (.int .i64 x.l)).set_ (j * 5 + 4) (.int .i64 x.r)
      rw [HSET.out, HT.out] at hblk4
      have hb4 := ((((hb3.setCell (p := ⟨w.heap.size, j * 5, none⟩) (Nat.le_refl _) (.string x.path)).setCell (p := ⟨w.heap.size, j * 5 + 1, none⟩) (Nat.le_refl _) (.bool x.has)).setCell (p := ⟨w.heap.size, j * 5 + 2, none⟩) (Nat.le_refl _) (.string x.data)).setCell (p := ⟨w.heap.size, j * 5 + 3, none⟩) (Nat.le_refl _) (.int .i64 x.l)).setCell (p := ⟨w.heap.size, j * 5 + 4, none⟩) (Nat.le_refl _) (.int .i64 x.r)
      clear hblk2 hb1 hb2 hblk3 k1 k2 k3 k4 k5 hj2
      go_wp2
      go_roundw
      case rel => exact ⟨j + 1, by omega, by go_num, hblk4, hb4⟩
      case measure => simp [intOf]; omega
    · have HE := hid (show j = n by omega)
      have hnlt : ¬ (j : Int) < n := by omega
      go_wp2
      go_ret
      refine ⟨rfl, ?_, hb⟩
      rw [HE.out, List.take_of_length_le (by rw [HL.out]; omega), Nat.sub_self, List.replicate_zero, List.append_nil] at hblk
      exact hblk

/-! ### Same -/
theorem same_noE {fs gs : List Ent} {j : Nat} (h1 : j < fs.length) (h2 : j < gs.length) (h : fs[j] ≠ gs[j]) : fs ≠ gs := fun e => by subst e; exact h rfl
set_option maxHeartbeats 1000000 in
theorem equalE_any {w : World} {A B : Option Addr} {n c m d : Nat} {fs gs : List Ent} (hl : fs.length = n) (hr : Rd w A (entV fs)) (hl2 : gs.length = m) (hr2 : Rd w B (entV gs)) (hn : n ≤ 1000000) :
    Calls Tryz.prog 62 #[.slice A n c, .slice B m d] w fun e w' => e = .returned (.bool (decide (fs = gs))) ∧ Below w.heap.size w w' := by
  have HL := hid hl
  have HL2 := hid hl2
  clear hl hl2
  by_cases hnm : n = m
  · subst hnm
    go_enter Tryz.func62, Tryz.ntmps62
    go_wp2
    go_loopw [13] (fun i wr => ∃ j : Nat, j ≤ n ∧ i = .int .i64 j ∧ Hid (fs.take j = gs.take j) ∧ ∃ q, wr = w.drewN q) (fun i _ => n - (intOf i).toNat)
    case atStart => exact ⟨0, by omega, rfl, by simp [Hid], 0, rfl⟩
    case round =>
      obtain ⟨j, hj, rfl, HO, q, rfl⟩ := hrel
      by_cases hjn : j < n
      · have hjl : j < fs.length := by rw [HL.out]; exact hjn
        have hjl2 : j < gs.length := by rw [HL2.out]; exact hjn
        obtain ⟨b, off, rfl, h1, h2, h3, h4, h5, -⟩ := hr.ent hjl
        obtain ⟨b', off', rfl, g1, g2, g3, g4, g5, -⟩ := hr2.ent hjl2
        have HN := hid (@same_noE fs gs j hjl hjl2)
        have HT1 := hid (show fs.take (j + 1) = fs.take j ++ [fs[j]] by rw [List.take_add_one, List.getElem?_eq_getElem hjl]; rfl)
        have HT2 := hid (show gs.take (j + 1) = gs.take j ++ [gs[j]] by rw [List.take_add_one, List.getElem?_eq_getElem hjl2]; rfl)
        have hz : (0 : Int) ≤ j := by omega
        have hlt : (j : Int) < n := by omega
        have hneq := neqE fs[j] gs[j]
        generalize fs[j] = f at *
        generalize gs[j] = g at *
        by_cases hfg : f = g
        · rw [decide_eq_true hfg] at hneq
          have HFG := hid hfg
          clear hfg
          go_wp2_with fail
          go_quiet (fail)
          go_wp2
          go_roundw
          case rel => exact ⟨j + 1, by omega, by go_num, hid (by rw [HT1.out, HT2.out, HO.out, HFG.out]), _, rfl⟩
          case measure => simp [intOf]; omega
        · rw [decide_eq_false hfg] at hneq
          have HFG := hid hfg
          clear hfg
          go_wp2_with fail
          go_quiet (fail)
          go_wp2
          go_ret
          exact ⟨ret_bool (decide_eq_false (HN.out HFG.out)).symm, below_drewN (below_drewN (Below.refl _ _) _) _⟩
      · have HE := hid (show j = n by omega)
        have hnlt : ¬ (j : Int) < n := by omega
        go_wp2
        go_ret
        refine ⟨ret_bool ?_, below_drewN (Below.refl _ _) _⟩
        have ho := HO.out
        have e1 := HE.out
        rw [e1, List.take_of_length_le (by rw [HL.out]; omega), List.take_of_length_le (by rw [HL2.out]; omega)] at ho
        exact (decide_eq_true ho).symm
  · have hnz : ¬ (n : Int) = m := by omega
    go_enter Tryz.func62, Tryz.ntmps62
    go_wp2
    go_ret
    refine ⟨ret_bool ?_, Below.refl _ _⟩
    refine (decide_eq_false ?_).symm
    intro e
    subst e
    exact hnm (by rw [← HL.out, HL2.out])
set_option maxHeartbeats 400000 in
theorem sameE_any {w : World} {A B : Option Addr} {n c m d : Nat} {fs gs : List Ent} (hl : fs.length = n) (hr : Rd w A (entV fs)) (hl2 : gs.length = m) (hr2 : Rd w B (entV gs)) (hn : n ≤ 1000000) :
    Calls Tryz.prog 28 #[.slice A n c, .slice B m d] w fun e w' => e = .returned (.bool (decide (fs = gs))) ∧ Below w.heap.size w w' := by
  have c0 := equalE_any (c := c) (d := d) hl hr hl2 hr2 hn
  clear hl hr hl2 hr2
  generalize decide (fs = gs) = b at *
  go_enter Tryz.func28, Tryz.ntmps28
  go_wp2_with fail
  refine c0.mono ?_
  rintro e w1 ⟨rfl, hb⟩
  clear c0
  go_wp2
  go_ret
  exact ⟨rfl, hb⟩

/-! ### Find's closure -/
set_option maxHeartbeats 400000 in
theorem find1_any (bx : Nat) (e : Ent) (p : ByteArray) (W : World) (hx : W.cell? ⟨bx, 0, none⟩ = some (.string p)) :
    Calls Tryz.prog 64 (#[eA e] ++ #[.pointer (some ⟨bx, 0, none⟩)]) W fun x w' => x = .returned (.bool (decide (e.path = p))) ∧ Below W.heap.size W w' := by
  obtain ⟨x, h, d, l, r⟩ := e
  have hb := World.block_lt_of_cell? _ _ hx
  have HE := hid (str_eqb x p)
  go_enter Tryz.func64, Tryz.ntmps64
  go_wp2
  go_ret
  exact ⟨ret_bool HE.out, by go_grown⟩

set_option maxHeartbeats 1000000 in
theorem idxE_any (bx : Nat) (A : Option Addr) (n c : Nat) (es : List Ent) (p : ByteArray) (w : World) (hl : es.length = n) (hx : w.cell? ⟨bx, 0, none⟩ = some (.string p)) (hr : Rd w A (entV es)) (hn : n ≤ 1000000) :
    Calls Tryz.prog 63 #[.slice A n c, .func (.func 64) #[] #[.pointer (some ⟨bx, 0, none⟩)]] w fun x w' => x = .returned (.int .i64 (idxE es p)) ∧ Below w.heap.size w w' := by
  have eg := enters_of Tryz.func64 (by kernel_rfl) rfl
  have hbx := World.block_lt_of_cell? _ _ hx
  have HL := hid hl
  clear hl
  go_enter Tryz.func63, Tryz.ntmps63
  go_wp2_with fail
  go_loopw [8] (fun i wr => ∃ j : Nat, j ≤ n ∧ i = .int .i64 j ∧ Hid (∀ k (hk : k < es.length), k < j → es[k].path ≠ p) ∧ Below w.heap.size w wr) (fun i _ => n - (intOf i).toNat)
  case atStart => exact ⟨0, by omega, rfl, hid (fun k _ hk => absurd hk (by omega)), Below.refl _ _⟩
  case round =>
    obtain ⟨j, hj, rfl, HO, hb⟩ := hrel
    by_cases hjn : j < n
    · have hjl : j < es.length := by rw [HL.out]; exact hjn
      have hr1 := hr.below hb
      obtain ⟨b, off, rfl, h1, h2, h3, h4, h5, -⟩ := hr1.ent hjl
      have hx1 := (hb.cell (p := ⟨bx, 0, none⟩) hbx).trans hx
      have cc := find1_any bx es[j] p wr hx1
      have HY := hid (fun h => @idxE_at es p j hjl h HO.out)
      have HN : Hid (es[j].path ≠ p → ∀ k (hk : k < es.length), k < j + 1 → es[k].path ≠ p) := fun h k hk hkj => by
        by_cases e : k = j
        · subst e; exact h
        · exact HO.out k hk (by omega)
      generalize es[j] = f at *
      clear hr1
      have hz : (0 : Int) ≤ j := by omega
      have hlt : (j : Int) < n := by omega
      go_wp2_with fail
      refine cc.mono ?_
      rintro e w1 ⟨rfl, hb1⟩
      have hb1' := below2 hb hb1
      clear cc hb hb1 hx1
      by_cases hq : f.path = p
      · rw [decide_eq_true hq]
        have HQ := hid hq
        clear hq
        go_wp2
        go_ret
        exact ⟨ret_int (HY.out HQ.out).symm, hb1'⟩
      · rw [decide_eq_false hq]
        have HQ := hid hq
        clear hq
        go_wp2
        go_roundw
        case rel => exact ⟨j + 1, by omega, by go_num, hid (HN.out HQ.out), hb1'⟩
        case measure => simp [intOf]; omega
    · have HE := hid (show j = n by omega)
      have hnlt : ¬ (j : Int) < n := by omega
      go_wp2
      go_ret
      refine ⟨ret_int ?_, hb⟩
      symm
      refine idxE_no fun e he => ?_
      obtain ⟨k, hk, rfl⟩ := List.mem_iff_getElem.1 he
      exact HO.out k hk (by rw [HE.out, ← HL.out]; exact hk)
end Go.Proofs.YtlmccjdpmhancaaGreatDoor
namespace Go.Proofs.YtlmccjdpmhancaaGreatDoor
open Go.RowKit

theorem Blk.row {w : World} {g : Nat} {cs cs' : List Value} {t : TypeId} (h : Blk w g cs t) : Blk (w.setRow g cs'.toArray) g cs' t := setRow_heap w g cs.toArray cs'.toArray t (0, 0) h
theorem Blk.rowOther {w : World} {g k : Nat} {cs : List Value} {t : TypeId} (h : Blk w k cs t) (hne : k ≠ g) (x : Array Value) : Blk (w.setRow g x) k cs t := by
  unfold Blk
  rw [setRow_other w g k x hne]
  exact h
theorem Blk.read {w : World} {g : Nat} {cs : List Value} {t : TypeId} (h : Blk w g cs t) (o : Nat) (xs : List Value) (hx : ∀ j u, xs[j]? = some u → cs[o + j]? = some u) : ∀ j u, xs[j]? = some u → w.cell? ((⟨g, o, none⟩ : Addr).add j) = some u := by
  intro j u hu
  rw [Addr.add_lit, h.cell]
  exact hx j u hu
theorem wp_copy2 {P : Program} (w : World) {o : Oper} {a : Act} {K : Act → World → Prop} {Q : Exit → Act → World → Prop} (d s : Operand) (t t' : TypeId)
    (ho : o.op = .call { callee := .builtin .copy, args := #[d, s], argTypes := #[t, t'] }) (v u : Value) (hd : a.eval d = v) (hs : a.eval s = u) {v' : Value} {w' : World}
    (hr : (Builtin.copy_ #[t, t'] o.type #[v, u]).run P w = .ok v' w') (h : K (a.put o.dst v') w') : o.wp P a w K Q := by
  unfold Oper.wp
  simp [execOp, ho, resolve, invoke, builtin, hd, hs, hr, Result.andThen]
  exact h
theorem wpCopy {P : Program} (w : World) {ops : Array Oper} {rest : List Oper} {o : Oper} {a : Act} {Q : Exit → Act → World → Prop} (hgd : o.guard = none) (d s : Operand) (t t' : TypeId)
    (ho : o.op = .call { callee := .builtin .copy, args := #[d, s], argTypes := #[t, t'] }) (v u : Value) (hd : a.eval d = v) (hs : a.eval s = u) {v' : Value} {w' : World}
    (hr : (Builtin.copy_ #[t, t'] o.type #[v, u]).run P w = .ok v' w') (h : wpList P ops Q rest (a.put o.dst v') w') : wpList P ops Q (o :: rest) a w :=
  wpList_plain hgd fun _ hK => wp_copy2 w d s t t' ho v u hd hs hr (hK _ _ h)
theorem stepCopy {P : Program} {w w' : World} {ops : Array Oper} {o : Oper} {a : Act} {K : Act → World → Prop} {Q : Exit → Act → World → Prop} {E : Prop} (hw : Region.wanted o (yielded ops a.tmps) = true) (d s : Operand) (t t' : TypeId)
    (ho : o.op = .call { callee := .builtin .copy, args := #[d, s], argTypes := #[t, t'] }) (v u v' : Value) (hd : a.eval d = v) (hs : a.eval s = u)
    (hr : (Builtin.copy_ #[t, t'] o.type #[v, u]).run P w = .ok v' w') (h : K (a.put o.dst v') w') : if Region.wanted o (yielded ops a.tmps) = true then Oper.wp P o a w K Q else E := by
  rw [if_pos hw]
  exact wp_copy2 w d s t t' ho v u hd hs hr h
theorem stepApp2 {P : Program} {w w' : World} {ops : Array Oper} {o : Oper} {a : Act} {K : Act → World → Prop} {Q : Exit → Act → World → Prop} {E : Prop} (hw : Region.wanted o (yielded ops a.tmps) = true) (s x : Operand) (t : TypeId)
    (ho : o.op = .call { callee := .builtin .append, args := #[s, x], argTypes := #[t, t] }) (v1 v2 v : Value) (hs : a.eval s = v1) (hx : a.eval x = v2)
    (hrun : (Builtin.append_ #[t, t] o.type #[v1, v2]).run P w = .ok v w') (h : K (a.put o.dst v) w') : if Region.wanted o (yielded ops a.tmps) = true then Oper.wp P o a w K Q else E := by
  rw [if_pos hw]
  exact Lib.wp_append_run w s x t t ho v1 v2 hs hx v w' hrun h
end Go.Proofs.YtlmccjdpmhancaaGreatDoor
namespace Go.Proofs.YtlmccjdpmhancaaGreatDoor
open Go.RowKit

abbrev zS : Value := .string ⟨#[]⟩
theorem Tryz.infoF : (Tryz.prog.info? 57).map (fun i => (i.zero, i.size, i.bytes)) = some (some (.agg #[zS, zS]), 2, 32) := by kernel_rfl
theorem zero_two (n : Nat) : Builtin.zeroCells (Value.agg #[zS, zS]).cells n = (List.replicate (n * 2) zS).toArray := made_two zS (n * 2)
/-- append of one more where there is no room. -/
theorem app_end {w : World} {g n : Nat} {fs : List Fil} (hB : Blk w g (filV fs) 57) (hl : fs.length = n) (hn : n ≤ 1000) (ty : TypeId) (k : Nat) (a b : Value) (hk : Blk w k [a, b] 57) (ha : a.oneCell' = true) (hb : b.oneCell' = true) :
    ∃ c', n + 1 ≤ c' ∧ c' ≤ maxLen ∧ (Builtin.append_ #[36, 36] ty #[.slice (some ⟨g, 0, none⟩) n n, .slice (some ⟨k, 0, none⟩) 1 1]).run Tryz.prog w =
      .ok (.slice (some ⟨w.heap.size, 0, none⟩) (n + 1) c') (w.drew.alloc (.cells (filV fs ++ [a, b] ++ List.replicate ((c' - (n + 1)) * 2) zS).toArray 57)) := by
  obtain ⟨i, hi, hz0, hz1, hz2⟩ := info_parts Tryz.infoF
  have hs : Src Tryz.prog i.size 36 (.slice (some ⟨k, 0, none⟩) 1 1) 1 [a, b] w := Src.ofSlice w Tryz.underlying36 _ 1 1 [a, b] (by rw [hz1]; rfl) (hk.read 0 [a, b] (fun j u hu => by rw [Nat.zero_add]; exact hu)) (by simp [ha, hb])
  have hold : (Builtin.firstCells i.size n (.slice (some ⟨g, 0, none⟩) n n)).run Tryz.prog w.drew = .ok (filV fs).toArray w.drew := run_firstCells_some w.drew i.size n _ n n (filV fs) (by rw [hz1, filV_length, hl]) (hB.drew.read 0 (filV fs) (fun j u hu => by rw [Nat.zero_add]; exact hu))
  have hfit : Builtin.nextslicecap (n + 1) n * i.bytes ≤ 281474976710656 := by
    rw [hz2]
    exact growslice_fits (by omega) (by omega)
  refine ⟨grownCap w (n + 1) n 57, grownCap_ge w _ _ _, grownCap_le_maxLen w _ _ _ (by unfold maxLen; omega), ?_⟩
  rw [run_append_grow_src w _ _ ty 57 i _ Tryz.underlying36 hi hz0 (some ⟨g, 0, none⟩) n n (filV fs) hold _ 1 [a, b] hs (by omega) (by omega) hfit, zero_two]
  have e : (filV fs ++ [a, b] ++ List.replicate ((grownCap w (n + 1) n 57 - (n + 1)) * 2) zS).toArray = (filV fs ++ [a, b]).toArray ++ (List.replicate ((grownCap w (n + 1) n 57 - (n + 1)) * 2) zS).toArray := by
    apply Array.ext'
    simp
  rw [e]

/-- append of zero values where there is no room. -/
theorem app_zeros {w : World} {g n i : Nat} {fs : List Fil} (hB : Blk w g (filV fs) 57) (hl : fs.length = n) (hn : n ≤ 1000) (hi : i < n) (ty : TypeId) (z : Int) (hz : z = (n : Int) + 1 - i) :
    ∃ c', n + 1 ≤ c' ∧ c' ≤ maxLen ∧ (Builtin.append_ #[36, 3] ty #[.slice (some ⟨g, 0, none⟩) i n, .int .i64 z]).run Tryz.prog w =
      .ok (.slice (some ⟨w.heap.size, 0, none⟩) (n + 1) c') (w.drew.alloc (.cells (filV (fs.take i) ++ List.replicate ((c' - i) * 2) zS).toArray 57)) := by
  obtain ⟨inf, hinf, hz0, hz1, hz2⟩ := info_parts Tryz.infoF
  subst hz
  have e : ((n : Int) + 1 - i) = ((n + 1 - i : Nat) : Int) := by omega
  rw [e]
  have hold : (Builtin.firstCells inf.size i (.slice (some ⟨g, 0, none⟩) i n)).run Tryz.prog w.drew = .ok (filV (fs.take i)).toArray w.drew := run_firstCells_some w.drew inf.size i _ i n (filV (fs.take i)) (by rw [hz1, filV_length, List.length_take, hl]; omega) (hB.drew.read 0 (filV (fs.take i)) (fun j u hu => by
    rw [Nat.zero_add]
    rw [filV_take, List.getElem?_take] at hu
    split at hu
    · exact hu
    · cases hu))
  have hfit : Builtin.nextslicecap (n + 1) n * inf.bytes ≤ 281474976710656 := by
    rw [hz2]
    exact growslice_fits (by omega) (by omega)
  refine ⟨grownCap w (n + 1) n 57, grownCap_ge w _ _ _, grownCap_le_maxLen w _ _ _ (by unfold maxLen; omega), ?_⟩
  have hge := grownCap_ge w (n + 1) n 57
  have hw : IntKind.i64.wrap ((n + 1 - i : Nat) : Int) = ((n + 1 - i : Nat) : Int) := by rw [IntKind.wrap_i64]; omega
  have need : i + (n + 1 - i) = n + 1 := by omega
  have hroom : ¬ n + 1 ≤ n := by omega
  have h48' : ¬ (281474976710656 < Builtin.nextslicecap (n + 1) n * inf.bytes) := by omega
  have h48i : ¬ (281474976710656 < ((n + 1 - i : Nat) : Int) * (inf.bytes : Int)) := by rw [hz2]; omega
  have hneg : ¬ (((n + 1 - i : Nat) : Int) < 0) := by omega
  have hns : ¬ ((n + 1 - i) * inf.size = 0) := by rw [hz1]; omega
  have hzc : Builtin.zeroCells (Value.agg #[zS, zS]).cells (n + 1 - i) ++ Builtin.zeroCells (Value.agg #[zS, zS]).cells (grownCap w (n + 1) n 57 - (n + 1)) = (List.replicate ((grownCap w (n + 1) n 57 - i) * 2) zS).toArray := by
    rw [zero_two, zero_two, show (grownCap w (n + 1) n 57 - i) * 2 = (n + 1 - i) * 2 + (grownCap w (n + 1) n 57 - (n + 1)) * 2 by omega]
    apply Array.ext'
    simp
  have e2 : (filV (fs.take i) ++ List.replicate ((grownCap w (n + 1) n 57 - i) * 2) zS).toArray = (filV (fs.take i)).toArray ++ (Builtin.zeroCells (Value.agg #[zS, zS]).cells (n + 1 - i) ++ Builtin.zeroCells (Value.agg #[zS, zS]).cells (grownCap w (n + 1) n 57 - (n + 1))) := by
    rw [hzc]; simp
  rw [e2, ← Array.append_assoc]
  generalize (n + 1 - i : Nat) = m at *
  have h63' : ¬ (9223372036854775807 < (i : Int) + (m : Int)) := by omega
  simp [Builtin.append_, run_underlying Tryz.underlying36, run_underlying Tryz.underlying3, sizeOf, typeInfo, zeroValue, hinf, hz0, asInt, asIntOf, hw, hneg, hns, need, hroom, h63', h48', h48i, Question.forced, hold, newRow, grownCap]

/-- copy of cells onto a block that is known whole. -/
theorem copy_blk {w : World} {g o dLen dCap : Nat} {cs : List Value} (hB : Blk w g cs 57) (ty : TypeId) (a : Addr) (sLen sCap : Nat) (news : List Value) (hl : news.length = Nat.min sLen dLen * 2) (hfit : o + news.length ≤ cs.length)
    (hsrc : ∀ j v, news[j]? = some v → w.cell? (a.add j) = some v) (h1 : ∀ v ∈ news, v.oneCell' = true) :
    (Builtin.copy_ #[36, 36] ty #[.slice (some ⟨g, o, none⟩) dLen dCap, .slice (some a) sLen sCap]).run Tryz.prog w =
      .ok (goInt (Nat.min sLen dLen : Nat)) (w.setRow g (cs.take o ++ news ++ cs.drop (o + news.length)).toArray) := by
  obtain ⟨i, hi, hz0, hz1, hz2⟩ := info_parts Tryz.infoF
  have hst := run_storeCells_at Tryz.prog g o 57 news 0 cs.toArray w hB (by simpa using hfit) h1
  have hld := run_firstCells_some (P := Tryz.prog) w i.size (Nat.min sLen dLen) a sLen sCap news (by rw [hz1]; exact hl) hsrc
  simp only [Nat.add_zero] at hst
  simp [Builtin.copy_, run_underlying Tryz.underlying36, Builtin.lenOf, sizeOf, typeInfo, hi]
  rw [hld]
  simp [Result.andThen, hst]
/-- append where there is room. -/
theorem app_room {w : World} {g : Nat} {cs : List Value} (hB : Blk w g cs 57) (ty : TypeId) (sLen sCap : Nat) (a : Addr) (m d : Nat) (news : List Value) (hl : news.length = m * 2) (hroom : sLen + m ≤ sCap) (hfit : sLen * 2 + news.length ≤ cs.length)
    (hsrc : ∀ j v, news[j]? = some v → w.cell? (a.add j) = some v) (h1 : ∀ v ∈ news, v.oneCell' = true) :
    (Builtin.append_ #[36, 36] ty #[.slice (some ⟨g, 0, none⟩) sLen sCap, .slice (some a) m d]).run Tryz.prog w =
      .ok (.slice (some ⟨g, 0, none⟩) (sLen + m) sCap) (w.setRow g (cs.take (sLen * 2) ++ news ++ cs.drop (sLen * 2 + news.length)).toArray) := by
  obtain ⟨i, hi, hz0, hz1, hz2⟩ := info_parts Tryz.infoF
  have hst := run_storeCells_at Tryz.prog g (sLen * 2) 57 news 0 cs.toArray w hB (by simpa using hfit) h1
  have hld := run_firstCells_some (P := Tryz.prog) w i.size m a m d news (by rw [hz1]; exact hl) hsrc
  rw [hz1] at hld
  simp only [Nat.add_zero] at hst
  simp [Builtin.append_, run_underlying Tryz.underlying36, sizeOf, typeInfo, hi, Builtin.lenOf, hroom, hz1, hld, Addr.add_lit, hst]

/-- clear of one file. -/
theorem clear_one {w : World} {g : Nat} {cs : List Value} (hB : Blk w g cs 57) (ty : TypeId) (o c : Nat) (hfit : o + 2 ≤ cs.length) :
    (Builtin.clear_ #[36] ty #[.slice (some ⟨g, o, none⟩) 1 c]).run Tryz.prog w = .ok (.tuple #[]) (w.setRow g (cs.take o ++ [zS, zS] ++ cs.drop (o + 2)).toArray) := by
  obtain ⟨i, hi, hz0, hz1, hz2⟩ := info_parts Tryz.infoF
  have hst := run_storeCells_at Tryz.prog g o 57 [zS, zS] 0 cs.toArray w hB (by simpa using hfit) (by simp; rfl)
  simp only [Nat.add_zero] at hst
  have hz : Builtin.zeroCells (Value.agg #[zS, zS]).cells 1 = #[zS, zS] := zero_two 1
  simp [Builtin.clear_, run_underlying Tryz.underlying36, zeroValue, typeInfo, hi, hz0]
  rw [hz, show (#[zS, zS] : Array Value).toList = [zS, zS] from rfl, hst]
  simp [Result.andThen]
end Go.Proofs.YtlmccjdpmhancaaGreatDoor
