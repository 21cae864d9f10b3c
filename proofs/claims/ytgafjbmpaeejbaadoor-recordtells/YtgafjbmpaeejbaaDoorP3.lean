/- The texts Hb, Ej, Cp, Byt, Ek, Bw, Em, En, Eo, El, Ep, Shelf2, Eq, Er, Ev, in one. -/
import Derived.Test.YtgafjbmpaeejbaaDoorP2
import Derived.RangeFuncBox
import Derived.RangeFuncCalls
import Derived.RangeFuncLeaves
import Derived.Shelf.Abstract
import Derived.OwnWalkIn
import Derived.TacticsInMore
import Derived.LoopNIn
import Derived.LoopIn
import Derived.Maps.AppendAt
import Derived.Deep.RegionHeld3
import Derived.Deep.AppendSrc
import Derived.Lib.AppendZeros
import Derived.Laws.CopyRow
import Derived.Laws.CopyOwn
import Derived.OpenShut
import Derived.Shelf.Strings.Builder1
import Derived.Laws.AppendOwn
import Derived.WalkMore
import Derived.ScopeJumps
import Derived.Shelf.Slices.Clone
import Derived.Test.YtgafjbmpaeejbaaDoorProg
namespace Go.Proofs.YtgafjbmpaeejbaaDoor
open Go.RowKit Go.Shelf

attribute [local go_sem] Oper.semAt_some

/-- How many pieces. -/
def countI (n : Int) : Int := if n < 1 then 0 else (n - 1) / 64 + 1
theorem countI_nat (n : Nat) : countI (n : Int) = (cnt n : Int) := by unfold countI cnt; split <;> omega

set_option maxHeartbeats 400000 in
theorem count_any (n : Int) (w : World) (hn : n ≤ 9223372036854775807) :
    Calls Tryd.prog 25 #[.int .i64 n] w fun e w' => e = .returned (.int .i64 (countI n)) ∧ w = w' := by
  by_cases h : n < 1
  · go_enter Tryd.func25, Tryd.ntmps25
    go_wp2
    go_ret
    exact ⟨ret_int (by unfold countI; rw [if_pos (by omega)]), rfl⟩
  · have h0 : 1 ≤ n := by omega
    go_enter Tryd.func25, Tryd.ntmps25
    go_wp2
    go_ret
    exact ⟨ret_int (by unfold countI; rw [if_neg (by omega)]), rfl⟩

theorem count_nat (n : Nat) (w : World) (hn : n ≤ 9223372036854775807) :
    Calls Tryd.prog 25 #[.int .i64 (n : Int)] w fun e w' => e = .returned (.int .i64 (cnt n : Int)) ∧ w = w' := by
  rw [← countI_nat]
  exact count_any _ w (by omega)

theorem piece_at (s : ByteArray) (j : Nat) (h : j < (pcsS s).length) : s.extract (j * 64) (min ((j : Int) * 64 + 64) (s.size : Int)).toNat = (pcsS s)[j] := by
  have hl := pcsS_length s
  have hb : j * 64 ≤ s.size := by unfold cnt at hl; omega
  apply unB_inj
  simp only [pcsS, List.getElem_map, unB_toB]
  simp only [pcs, List.getElem_map, List.getElem_range, pieL, unB]
  rw [ByteArray.data_extract, Array.toList_extract, List.extract, List.take_eq_take_iff]
  have e : (List.drop (j * 64) s.data.toList).length = s.size - j * 64 := by rw [List.length_drop]; rw [Array.length_toList]; rfl
  rw [e]
  omega
theorem take_snoc' {α : Type} (l : List α) (j : Nat) (h : j < l.length) : l.take j ++ [l[j]] = l.take (j + 1) := (List.take_succ_eq_append_getElem h).symm

/-- Strings as long as a piece may be. -/
abbrev SP := { x : ByteArray // x.size ≤ 64 }
theorem pcsS_le (s : ByteArray) : ∀ x ∈ pcsS s, x.size ≤ 64 := by
  intro x hx
  obtain ⟨y, hy, rfl⟩ := List.mem_map.1 hx
  obtain ⟨i, -, rfl⟩ := List.mem_map.1 hy
  rw [toB_size, pieL, List.length_take]
  omega
def pcsT (s : ByteArray) : List SP := (pcsS s).pmap (fun x h => ⟨x, h⟩) (pcsS_le s)
theorem pcsT_length (s : ByteArray) : (pcsT s).length = (pcsS s).length := List.length_pmap ..
theorem pcsT_val (s : ByteArray) : (pcsT s).map (·.1) = pcsS s := by simp [pcsT, List.map_pmap]
theorem piece_le (s : ByteArray) (j : Nat) (h : j < (pcsS s).length) : (s.extract (j * 64) (min ((j : Int) * 64 + 64) (s.size : Int)).toNat).size ≤ 64 := by
  rw [piece_at s j h]
  exact pcsS_le s _ (List.getElem_mem h)
theorem pieceT_at (s : ByteArray) (j : Nat) (h : j < (pcsS s).length) : (pcsT s).take j ++ [⟨s.extract (j * 64) (min ((j : Int) * 64 + 64) (s.size : Int)).toNat, piece_le s j h⟩] = (pcsT s).take (j + 1) := by
  rw [← take_snoc' (pcsT s) j (by rw [pcsT_length]; exact h)]
  congr 2
  simp only [pcsT, List.getElem_pmap]
  exact Subtype.ext (piece_at s j h)

/-- What a round keeps: the string that is cut. -/
def KpS (Bn : Nat) (s : ByteArray) (W W' : World) : Prop := W.cell? ⟨Bn, 0, none⟩ = some (.string s) → W'.cell? ⟨Bn, 0, none⟩ = some (.string s)

theorem KpS.trans {Bn : Nat} {s : ByteArray} {A B C : World} (h : KpS Bn s A B) (k : KpS Bn s B C) : KpS Bn s A C := fun x => k (h x)
theorem KpS.put {Bn : Nat} {s : ByteArray} {W : World} {l : Nat} {o : Obj} (o' : Obj) (hl : W.heap[l]? = some o) (ho : o.isCells = false) : KpS Bn s W (W.putObj l o') :=
  fun x => cell_kept x (grownBy_putObj' W l o') (fun r e => by cases e; exact ⟨o, hl, ho⟩)

end Go.Proofs.YtgafjbmpaeejbaaDoor
namespace Go.Proofs.YtgafjbmpaeejbaaDoor
open Go.RowKit

/-- From a to b. -/
def inB (n a b : Int) : Bool := decide (a ≤ n) && decide (n ≤ b)
theorem inB_iff {n a b : Int} : inB n a b = true ↔ a ≤ n ∧ n ≤ b := by unfold inB; rw [Bool.and_eq_true, decide_eq_true_eq, decide_eq_true_eq]
theorem inB_zero (n b : Int) : inB n 0 b = inN n b := rfl
theorem isWithin_any (n a b : Int) (w : World) : Calls Tryd.prog 55 #[.int .i64 n, .int .i64 a, .int .i64 b] w fun e w' => e = .returned (.bool (inB n a b)) ∧ w' = w := by
  by_cases h0 : a ≤ n
  · by_cases h1 : n ≤ b
    · have HE : Hid (inB n a b = true) := inB_iff.2 ⟨h0, h1⟩
      go_enter Tryd.func55, Tryd.ntmps55
      go_wp2
      go_ret
      exact ⟨ret_bool HE.out.symm, rfl⟩
    · have HE : Hid (inB n a b = false) := not_true fun k => h1 (inB_iff.1 k).2
      go_enter Tryd.func55, Tryd.ntmps55
      go_wp2
      go_ret
      exact ⟨ret_bool HE.out.symm, rfl⟩
  · have HE : Hid (inB n a b = false) := not_true fun k => h0 (inB_iff.1 k).1
    go_enter Tryd.func55, Tryd.ntmps55
    go_wp2
    go_ret
    exact ⟨ret_bool HE.out.symm, rfl⟩
theorem isWithin_is {n a b : Int} {q : Bool} (h : inB n a b = q) (w : World) : Calls Tryd.prog 55 #[.int .i64 n, .int .i64 a, .int .i64 b] w fun e w' => e = .returned (.bool q) ∧ w' = w := by
  subst h
  exact isWithin_any n a b w

/-- Each is a number that is written as it is. -/
def fitB (l : List Int) : Bool := l.all fun c => inN c 4294967295
set_option maxHeartbeats 1000000 in
theorem fit_any (A : Option Addr) (n c : Nat) (l : List Int) (w : World) (hl : l.length = n) (hr : Rd w A (intV l)) (hn : n ≤ 9223372036854775807) :
    Calls Tryd.prog 56 #[.slice A n c] w fun e w' => e = .returned (.bool (fitB l)) ∧ w' = w := by
  have HL := hid hl
  clear hl
  go_enter Tryd.func56, Tryd.ntmps56
  go_wp2_with fail
  go_loop [7] (fun i => ∃ j : Nat, j ≤ n ∧ i = .int .i64 j ∧ Hid (fitB (l.take j) = true)) (fun i => n - (intOf i).toNat)
  case atStart => exact ⟨0, by omega, rfl, rfl⟩
  case round =>
    obtain ⟨j, hj, rfl, HT⟩ := hrel
    by_cases hjn : j < n
    · have hjl : j < l.length := by rw [HL.out]; exact hjn
      obtain ⟨b, off, rfl, x0, -⟩ := int_at hr hjl
      have hz : (0 : Int) ≤ j := by omega
      have hlt : (j : Int) < n := by omega
      have HXY : Hid (fitB (l.take (j + 1)) = inB l[j] 0 4294967295) := by
        show _ = _
        have ht := HT.out
        unfold fitB at ht ⊢
        rw [List.take_add_one, List.getElem?_eq_getElem hjl, List.all_append, ht]
        simp [inB_zero]
      have HNE : Hid (inB l[j] 0 4294967295 = false → fitB l = false) := by
        refine hid fun h => ?_
        refine Bool.eq_false_iff.2 fun ha => ?_
        unfold fitB at ha
        rw [List.all_eq_true] at ha
        exact Bool.false_ne_true (h.symm.trans (ha _ (List.getElem_mem hjl)))
      generalize l[j] = x at *
      cases hX : inB x 0 4294967295
      · have HF := hid (HNE.out hX)
        have cX := isWithin_is hX
        clear HXY HNE HT
        go_wp2_with fail
        refine (cX _).mono ?_
        rintro e w5 ⟨rfl, rfl⟩
        go_wp2
        go_ret
        exact ⟨ret_bool HF.out.symm, rfl⟩
      · have HT2 := hid (HXY.out.trans hX)
        have cX := isWithin_is hX
        clear HXY HNE HT
        go_wp2_with fail
        refine (cX _).mono ?_
        rintro e w5 ⟨rfl, rfl⟩
        go_wp2
        go_round
        case rel => exact ⟨j + 1, by omega, by go_num, HT2⟩
        case measure => simp [intOf]; omega
    · have hjn2 : j = n := by omega
      have HF : Hid (fitB l = true) := by
        have ht := HT.out
        rw [hjn2, List.take_of_length_le (by rw [HL.out]; exact Nat.le_refl _)] at ht
        exact ht
      have hnl : ¬ (j : Int) < n := by omega
      go_wp2
      go_ret
      exact ⟨ret_bool HF.out.symm, rfl⟩
theorem fit_is {l : List Int} {q : Bool} (h : fitB l = q) (A : Option Addr) (n c : Nat) (w : World) (hl : l.length = n) (hr : Rd w A (intV l)) (hn : n ≤ 9223372036854775807) :
    Calls Tryd.prog 56 #[.slice A n c] w fun e w' => e = .returned (.bool q) ∧ w' = w := by
  subst h
  exact fit_any A n c l w hl hr hn

/-! ### rightNumbers -/
def numsR (a1 a2 a3 a4 a5 a6 a7 : Int) : Bool := inB a1 0 1 && inB a2 1 200 && fitB [a3, a6, a7] && inB a4 0 100 && inB a5 a4 (min (a4 + 1) 100)
theorem numsR_iff {a1 a2 a3 a4 a5 a6 a7 : Int} : numsR a1 a2 a3 a4 a5 a6 a7 = true ↔ (inN a1 1 && (decide (1 ≤ a2) && decide (a2 ≤ 200)) && inN a3 4294967295 && inN a6 4294967295 && inN a7 4294967295 && inN a4 100 && inN a5 100 && (decide (a5 = a4) || decide (a5 = a4 + 1))) = true := by
  unfold numsR fitB
  simp only [Bool.and_eq_true, inB_iff, inN_iff, List.all_cons, List.all_nil, Bool.or_eq_true, decide_eq_true_eq, and_true]
  constructor
  · rintro ⟨⟨⟨⟨h1, h2⟩, h3, h4, h5⟩, h6⟩, h7⟩
    refine ⟨⟨⟨⟨⟨⟨⟨h1, h2⟩, h3⟩, h4⟩, h5⟩, h6⟩, ?_⟩, ?_⟩ <;> omega
  · rintro ⟨⟨⟨⟨⟨⟨⟨h1, h2⟩, h3⟩, h4⟩, h5⟩, h6⟩, h7⟩, h8⟩
    refine ⟨⟨⟨⟨h1, h2⟩, h3, h4, h5⟩, h6⟩, ?_⟩
    omega
set_option maxHeartbeats 4000000 in
set_option maxRecDepth 20000 in
theorem rightNumbers_any (A : Option Addr) (c n : Nat) (a1 a2 a3 a4 a5 a6 a7 : Int) (w : World) :
    Calls Tryd.prog 32 #[.agg #[.int .i64 a1, .int .i64 a2, .int .i64 a3, .int .i64 a4, .int .i64 a5, .int .i64 a6, .int .i64 a7, .slice A n c]] w fun e w' => e = .returned (.bool (numsR a1 a2 a3 a4 a5 a6 a7)) ∧ Below w.heap.size w w' := by
  have hal : ∀ (W : World) (o : Obj), Below W.heap.size W (W.alloc o) := fun W o => (Below.refl _ _).alloc (Nat.le_refl _) o
  have b0 := hal w (.cells #[.int .i64 a1, .int .i64 a2, .int .i64 a3, .int .i64 a4, .int .i64 a5, .int .i64 a6, .int .i64 a7, .slice A n c] 24)
  have HR : Hid (numsR a1 a2 a3 a4 a5 a6 a7 = (inB a1 0 1 && inB a2 1 200 && fitB [a3, a6, a7] && inB a4 0 100 && inB a5 a4 (min (a4 + 1) 100))) := rfl
  generalize numsR a1 a2 a3 a4 a5 a6 a7 = Z at *
  go_enter Tryd.func32, Tryd.ntmps32
  go_wp2_with fail
  cases q1 : inB a1 0 1
  · refine (isWithin_is q1 _).mono ?_
    rintro e w5 ⟨rfl, rfl⟩
    simp only
    have HF : Hid (Z = false) := by show _ = _; rw [HR.out, q1]; simp
    go_wp2
    all_goals (go_ret; exact ⟨ret_bool HF.out.symm, b0⟩)
  refine (isWithin_is q1 _).mono ?_
  rintro e w5 ⟨rfl, rfl⟩
  simp only
  go_wp2_with fail
  cases q2 : inB a2 1 200
  · refine (isWithin_is q2 _).mono ?_
    rintro e w5 ⟨rfl, rfl⟩
    simp only
    have HF : Hid (Z = false) := by show _ = _; rw [HR.out, q1, q2]; simp
    go_wp2
    all_goals (go_ret; exact ⟨ret_bool HF.out.symm, b0⟩)
  refine (isWithin_is q2 _).mono ?_
  rintro e w5 ⟨rfl, rfl⟩
  simp only
  go_wp2_with fail
  have b1 := below2 b0 (hal _ (.cells #[.int .i64 a3, .int .i64 a6, .int .i64 a7] 3))
  have hrd : Rd ((w.alloc (.cells #[.int .i64 a1, .int .i64 a2, .int .i64 a3, .int .i64 a4, .int .i64 a5, .int .i64 a6, .int .i64 a7, .slice A n c] 24)).alloc (.cells #[.int .i64 a3, .int .i64 a6, .int .i64 a7] 3)) (some ⟨w.heap.size + 1, 0, none⟩) (intV [a3, a6, a7]) := by
    have h := new_cells (w.alloc (.cells #[.int .i64 a1, .int .i64 a2, .int .i64 a3, .int .i64 a4, .int .i64 a5, .int .i64 a6, .int .i64 a7, .slice A n c] 24)) 3 (intV [a3, a6, a7])
    rw [World.size_alloc] at h
    exact .inr ⟨_, rfl, h⟩
  cases q3 : fitB [a3, a6, a7]
  · refine (fit_is q3 _ 3 3 _ rfl hrd (by omega)).mono ?_
    rintro e w5 ⟨rfl, rfl⟩
    simp only
    have HF : Hid (Z = false) := by show _ = _; rw [HR.out, q1, q2, q3]; simp
    go_wp2
    all_goals (go_ret; exact ⟨ret_bool HF.out.symm, b1⟩)
  refine (fit_is q3 _ 3 3 _ rfl hrd (by omega)).mono ?_
  rintro e w5 ⟨rfl, rfl⟩
  simp only
  clear hrd
  go_wp2_with fail
  cases q4 : inB a4 0 100
  · refine (isWithin_is q4 _).mono ?_
    rintro e w5 ⟨rfl, rfl⟩
    simp only
    have HF : Hid (Z = false) := by show _ = _; rw [HR.out, q1, q2, q3, q4]; simp
    go_wp2
    all_goals (go_ret; exact ⟨ret_bool HF.out.symm, b1⟩)
  refine (isWithin_is q4 _).mono ?_
  rintro e w5 ⟨rfl, rfl⟩
  simp only
  have h4 := inB_iff.1 q4
  have HZ : Hid (Z = inB a5 a4 (min (a4 + 1) 100)) := by show _ = _; rw [HR.out, q1, q2, q3, q4]; simp
  clear q1 q2 q3 q4 HR
  go_wp2_with fail
  refine (isWithin_any _ _ _ _).mono ?_
  rintro e w5 ⟨rfl, rfl⟩
  simp only
  rw [← HZ.out]
  clear HZ
  go_wp2
  go_ret
  exact ⟨rfl, b1⟩

/-! ### rightPiece -/
theorem eqP (a b c d : Int) (w : World) : (binOp .eql 33 (.agg #[.int .i64 a, .int .i64 b]) (.agg #[.int .i64 c, .int .i64 d])).run Tryd.prog w = .ok (.bool (decide (a = c) && decide (b = d))) w := by
  have u3 := Tryd.underlying3
  have a3 := Tryd.isAgg3
  have z3 := Tryd.sizeOf3
  have hS : Tryd.prog.underlying 33 = some (.struct (Tryd.prog.fieldsOf 33)) := by kernel_rfl
  have hp : Tryd.prog.stoodInHeld 33 = false := by kernel_rfl
  rw [run_eql_struct, show (10000 : Nat) = 9999 + 1 from rfl, run_equalIn_agg w 9999 33 _ _ hS hp]
  simp only [Program.fieldsOf, Tryd.underlying33]
  go_simp
  by_cases h1 : a = c
  · by_cases h2 : b = d
    · simp [h1, h2]
    · simp [h1, h2]
  · simp [h1]
theorem ccnt_is (n : Int) (w : World) (h0 : 0 ≤ n) (hn : n ≤ 9223372036854775807) :
    Calls Tryd.prog 25 #[.int .i64 n] w fun e w' => e = .returned (.int .i64 (cnt n.toNat : Nat)) ∧ w' = w := by
  have h := count_nat n.toNat w (by omega)
  rw [show ((n.toNat : Nat) : Int) = n by omega] at h
  exact h.mono fun _ _ k => ⟨k.1, k.2.symm⟩
/-- What is asked of a piece, its path aside. -/
def pcB (p : Pce) : Bool := rt p.l p.r && !(decide (p.l = 0) && decide (p.r = 0)) && (if p.has then inB p.size 0 600 && decide (p.chunks.length = cnt p.size.toNat) && fitB [p.digest] && fitB p.chunks else decide (p.size = 0) && decide (p.digest = 0) && decide (p.chunks.length = 0))
theorem pceR_split (p : Pce) : pceR p = (rightL p.path.data.toList && pcB p) := by
  unfold pceR pcB fitB
  have he : decide (p.chunks.length = 0) = decide (p.chunks = []) := by cases p.chunks <;> rfl
  have hd : ([p.digest].all fun c => inN c 4294967295) = inN p.digest 4294967295 := by simp
  rw [he, hd, inB_zero]
  cases rightL p.path.data.toList <;> cases rt p.l p.r <;> cases (decide (p.l = 0) && decide (p.r = 0)) <;> cases p.has <;> cases inN p.size 600 <;> cases inN p.digest 4294967295 <;> cases decide (p.chunks.length = cnt p.size.toNat) <;> simp
set_option maxHeartbeats 4000000 in
set_option maxRecDepth 20000 in
theorem rightPiece_bad {w : World} {C : Option Addr} {c : Nat} {p : Pce} (hr : Rd w C (intV p.chunks)) (hc : p.chunks.length ≤ c) (hcm : c ≤ maxLen) (hbad : (rt p.l p.r && !(decide (p.l = 0) && decide (p.r = 0))) = false) :
    Calls Tryd.prog 33 #[pcA p C c] w fun e w' => e = .returned (.bool (pcB p)) ∧ Below w.heap.size w w' := by
  obtain ⟨xp, xh, xs, xc, xd, xl, xr⟩ := p
  dsimp only [pcA] at hr hc hbad ⊢
  have hal : ∀ (W : World) (o : Obj), Below W.heap.size W (W.alloc o) := fun W o => (Below.refl _ _).alloc (Nat.le_refl _) o
  obtain ⟨n, hn0⟩ : ∃ n, n = xc.length := ⟨_, rfl⟩
  have hnb : n ≤ c ∧ c ≤ 9223372036854775807 := by unfold maxLen at hcm; omega
  have HN := hid hn0
  rw [← hn0]
  have HR : Hid (pcB ⟨xp, xh, xs, xc, xd, xl, xr⟩ = (rt xl xr && !(decide (xl = 0) && decide (xr = 0)) && (if xh then inB xs 0 600 && decide (n = cnt xs.toNat) && fitB [xd] && fitB xc else decide (xs = 0) && decide (xd = 0) && decide (n = 0)))) := by
    show _ = _
    rw [hn0]
    rfl
  clear hn0 hc hcm
  generalize pcB ⟨xp, xh, xs, xc, xd, xl, xr⟩ = Z at *
  have pk := Blk.new w [.string xp, .bool xh, .int .i64 xs, .slice C n c, .int .i64 xd, .int .i64 xl, .int .i64 xr] 35
  have b0 := hal w (.cells #[.string xp, .bool xh, .int .i64 xs, .slice C n c, .int .i64 xd, .int .i64 xl, .int .i64 xr] 35)
  have hr0 := hr.below b0
  have hpr := eqP xl xr 0 0
  go_enter Tryd.func33, Tryd.ntmps33
  go_wp2_with fail
  generalize w.alloc (.cells #[.string xp, .bool xh, .int .i64 xs, .slice C n c, .int .i64 xd, .int .i64 xl, .int .i64 xr] 35) = w0 at *
  refine (cright_any xl xr _).mono ?_
  rintro e w1 ⟨rfl, b1⟩
  simp only
  have pk1 := pk.below b1
  have bw := b0.trans (b1.mono b0.size)
  have hr1 := hr0.below b1
  clear pk hr0 hr b0 b1
  have c0 := pk1.cell 0
  have c1 := pk1.cell 1
  have c2 := pk1.cell 2
  have c3 := pk1.cell 3
  have c4 := pk1.cell 4
  have c5 := pk1.cell 5
  have c6 := pk1.cell 6
  simp only [List.getElem?_cons_zero, List.getElem?_cons_succ] at c0 c1 c2 c3 c4 c5 c6
  have HF : Hid (Z = false) := by show _ = _; rw [HR.out, hbad]; rfl
  cases hB : rt xl xr
  · go_wp2
    go_ret
    exact ⟨ret_bool HF.out.symm, bw⟩
  have h0 : (decide (xl = 0) && decide (xr = 0)) = true := by rw [hB] at hbad; simpa using hbad
  rw [h0] at hpr
  clear h0 hbad
  go_wp2
  go_ret
  exact ⟨ret_bool HF.out.symm, bw⟩
set_option maxHeartbeats 4000000 in
set_option maxRecDepth 20000 in
theorem rightPiece_good {w : World} {C : Option Addr} {c : Nat} {p : Pce} (hr : Rd w C (intV p.chunks)) (hc : p.chunks.length ≤ c) (hcm : c ≤ maxLen) (hgood : (rt p.l p.r && !(decide (p.l = 0) && decide (p.r = 0))) = true) :
    Calls Tryd.prog 33 #[pcA p C c] w fun e w' => e = .returned (.bool (pcB p)) ∧ Below w.heap.size w w' := by
  obtain ⟨xp, xh, xs, xc, xd, xl, xr⟩ := p
  dsimp only [pcA] at hr hc hgood ⊢
  have hal : ∀ (W : World) (o : Obj), Below W.heap.size W (W.alloc o) := fun W o => (Below.refl _ _).alloc (Nat.le_refl _) o
  obtain ⟨n, hn0⟩ : ∃ n, n = xc.length := ⟨_, rfl⟩
  have hnb : n ≤ c ∧ c ≤ 9223372036854775807 := by unfold maxLen at hcm; omega
  have HN := hid hn0
  rw [← hn0]
  have HR : Hid (pcB ⟨xp, xh, xs, xc, xd, xl, xr⟩ = (rt xl xr && !(decide (xl = 0) && decide (xr = 0)) && (if xh then inB xs 0 600 && decide (n = cnt xs.toNat) && fitB [xd] && fitB xc else decide (xs = 0) && decide (xd = 0) && decide (n = 0)))) := by
    show _ = _
    rw [hn0]
    rfl
  clear hn0 hc hcm
  generalize pcB ⟨xp, xh, xs, xc, xd, xl, xr⟩ = Z at *
  have pk := Blk.new w [.string xp, .bool xh, .int .i64 xs, .slice C n c, .int .i64 xd, .int .i64 xl, .int .i64 xr] 35
  have b0 := hal w (.cells #[.string xp, .bool xh, .int .i64 xs, .slice C n c, .int .i64 xd, .int .i64 xl, .int .i64 xr] 35)
  have hr0 := hr.below b0
  have hpr := eqP xl xr 0 0
  go_enter Tryd.func33, Tryd.ntmps33
  go_wp2_with fail
  generalize w.alloc (.cells #[.string xp, .bool xh, .int .i64 xs, .slice C n c, .int .i64 xd, .int .i64 xl, .int .i64 xr] 35) = w0 at *
  refine (cright_any xl xr _).mono ?_
  rintro e w1 ⟨rfl, b1⟩
  simp only
  have pk1 := pk.below b1
  have bw := b0.trans (b1.mono b0.size)
  have hr1 := hr0.below b1
  clear pk hr0 hr b0 b1
  have c0 := pk1.cell 0
  have c1 := pk1.cell 1
  have c2 := pk1.cell 2
  have c3 := pk1.cell 3
  have c4 := pk1.cell 4
  have c5 := pk1.cell 5
  have c6 := pk1.cell 6
  simp only [List.getElem?_cons_zero, List.getElem?_cons_succ] at c0 c1 c2 c3 c4 c5 c6
  have hB : rt xl xr = true := (Bool.and_eq_true _ _ ▸ hgood).1
  have h0 : (decide (xl = 0) && decide (xr = 0)) = false := by rw [hB, Bool.true_and, Bool.not_eq_true'] at hgood; exact hgood
  rw [h0] at hpr
  rw [hB]
  have HZ : Hid (Z = (if xh then inB xs 0 600 && decide (n = cnt xs.toNat) && fitB [xd] && fitB xc else decide (xs = 0) && decide (xd = 0) && decide (n = 0))) := by show _ = _; rw [HR.out, hgood, Bool.true_and]
  clear h0 hgood hB HR
  cases xh
  · have HZ2 : Hid (Z = (decide (xs = 0) && decide (xd = 0) && decide (n = 0))) := HZ.out.trans (if_neg (by simp))
    by_cases s0 : xs = 0
    rotate_left
    · have hsb : (xs == 0) = false := by simp [s0]
      have HF : Hid (Z = false) := by show _ = _; rw [HZ2.out, decide_eq_false s0]; rfl
      go_wp2
      go_ret
      exact ⟨ret_bool HF.out.symm, bw⟩
    subst s0
    by_cases d0 : xd = 0
    rotate_left
    · have hdb : (xd == 0) = false := by simp [d0]
      have HF : Hid (Z = false) := by show _ = _; rw [HZ2.out, decide_eq_false d0]; rfl
      go_wp2
      go_ret
      exact ⟨ret_bool HF.out.symm, bw⟩
    subst d0
    by_cases n0 : n = 0
    rotate_left
    · have hnb2 : ((n : Int) == 0) = false := by simp [n0]
      have HF : Hid (Z = false) := by show _ = _; rw [HZ2.out, decide_eq_false n0]; rfl
      go_wp2
      go_ret
      exact ⟨ret_bool HF.out.symm, bw⟩
    subst n0
    have HF : Hid (Z = true) := by show _ = _; rw [HZ2.out]; rfl
    go_wp2
    go_ret
    exact ⟨ret_bool HF.out.symm, bw⟩
  have HZ2 : Hid (Z = (inB xs 0 600 && decide (n = cnt xs.toNat) && fitB [xd] && fitB xc)) := HZ.out.trans (if_pos rfl)
  clear HZ
  go_wp2_with fail
  have lg := pk1.lt
  have HS : Hid (∀ W, Below w1.heap.size w1 W → W.cell? ⟨w.heap.size, 2, none⟩ = some (.int .i64 xs) ∧ W.cell? ⟨w.heap.size, 3, none⟩ = some (.slice C n c) ∧ W.cell? ⟨w.heap.size, 4, none⟩ = some (.int .i64 xd)) := hid fun W h => ⟨(h.cell (p := ⟨w.heap.size, 2, none⟩) lg).trans c2, (h.cell (p := ⟨w.heap.size, 3, none⟩) lg).trans c3, (h.cell (p := ⟨w.heap.size, 4, none⟩) lg).trans c4⟩
  have bd : Below w1.heap.size w1 w1.drew := (Below.refl _ _).drew
  have hS1 := HS.out _ bd
  have bwd := bw.drew
  cases qS : inB xs 0 600
  · have HF : Hid (Z = false) := by show _ = _; rw [HZ2.out, qS]; rfl
    refine wp_region_held_drew (S := fun W => W.cell? ⟨w.heap.size, 2, none⟩ = some (.int .i64 xs) ∧ W.cell? ⟨w.heap.size, 3, none⟩ = some (.slice C n c) ∧ W.cell? ⟨w.heap.size, 4, none⟩ = some (.int .i64 xd)) (by kernel_rfl) ⟨c2, c3, c4⟩ (fun hHeld => ?_)
    refine wpAnyH_take (i := 0) (oi := ⟨_, _, _, _, _, _⟩) (v := ?_) rfl (by kernel_rfl) (by kernel_rfl) (by kernel_rfl) (fun _ _ _ h => h) (Or.inl ⟨by rfl, ?_⟩) (by assumption) ?_
    rotate_left
    · intro w hSw; (try dsimp only at hSw); go_simp; (try (with_reducible rfl))
    try simp only [Act.put, List.setIfInBounds_toArray, List.set_cons_zero, List.set_cons_succ]
    refine wpAnyH_take (i := 1) (oi := ⟨_, _, _, _, _, _⟩) (v := ?_) rfl (by kernel_rfl) (by kernel_rfl) (by kernel_rfl) (fun _ _ _ h => h) (Or.inl ⟨by rfl, ?_⟩) (by assumption) ?_
    rotate_left
    · intro w hSw; (try dsimp only at hSw); go_simp; (try (with_reducible rfl))
    try simp only [Act.put, List.setIfInBounds_toArray, List.set_cons_zero, List.set_cons_succ]
    refine wpAnyH_ready (rs := [2]) (by kernel_rfl) (by simp) ?_
    refine AllReadyH.cons (o := ⟨_, _, _, _, _, _⟩) rfl (fun K hK => ?_) AllReadyH.nil
    go_simp
    refine (isWithin_is qS _).mono ?_
    rintro e w5 ⟨rfl, rfl⟩
    refine hK.out _ _ hS1 (fun hHeld => ?_)
    clear hK K
    try simp only [Act.put, List.setIfInBounds_toArray, List.set_cons_zero, List.set_cons_succ]
    refine wpAnyH_take (i := 3) (oi := ⟨_, _, _, _, _, _⟩) (v := ?_) rfl (by kernel_rfl) (by kernel_rfl) (by kernel_rfl) (fun _ _ _ h => h) (Or.inl ⟨by rfl, ?_⟩) (by assumption) ?_
    rotate_left
    · intro w hSw; (try dsimp only at hSw); go_simp; (try (with_reducible rfl))
    try simp only [Act.put, List.setIfInBounds_toArray, List.set_cons_zero, List.set_cons_succ]
    refine wpAnyH_take (i := 4) (oi := ⟨_, _, _, _, _, _⟩) (v := undef) rfl (by kernel_rfl) (by kernel_rfl) (by kernel_rfl) (fun _ _ _ h => h) (Or.inr ⟨by rfl, rfl⟩) (by assumption) ?_
    try simp only [Act.put, List.setIfInBounds_toArray, List.set_cons_zero, List.set_cons_succ]
    refine wpAnyH_take (i := 5) (oi := ⟨_, _, _, _, _, _⟩) (v := undef) rfl (by kernel_rfl) (by kernel_rfl) (by kernel_rfl) (fun _ _ _ h => h) (Or.inr ⟨by rfl, rfl⟩) (by assumption) ?_
    try simp only [Act.put, List.setIfInBounds_toArray, List.set_cons_zero, List.set_cons_succ]
    refine wpAnyH_take (i := 6) (oi := ⟨_, _, _, _, _, _⟩) (v := undef) rfl (by kernel_rfl) (by kernel_rfl) (by kernel_rfl) (fun _ _ _ h => h) (Or.inr ⟨by rfl, rfl⟩) (by assumption) ?_
    try simp only [Act.put, List.setIfInBounds_toArray, List.set_cons_zero, List.set_cons_succ]
    refine wpAnyH_take (i := 7) (oi := ⟨_, _, _, _, _, _⟩) (v := undef) rfl (by kernel_rfl) (by kernel_rfl) (by kernel_rfl) (fun _ _ _ h => h) (Or.inr ⟨by rfl, rfl⟩) (by assumption) ?_
    try simp only [Act.put, List.setIfInBounds_toArray, List.set_cons_zero, List.set_cons_succ]
    refine wpAnyH_take (i := 8) (oi := ⟨_, _, _, _, _, _⟩) (v := undef) rfl (by kernel_rfl) (by kernel_rfl) (by kernel_rfl) (fun _ _ _ h => h) (Or.inr ⟨by rfl, rfl⟩) (by assumption) ?_
    try simp only [Act.put, List.setIfInBounds_toArray, List.set_cons_zero, List.set_cons_succ]
    refine wpAnyH_take (i := 9) (oi := ⟨_, _, _, _, _, _⟩) (v := undef) rfl (by kernel_rfl) (by kernel_rfl) (by kernel_rfl) (fun _ _ _ h => h) (Or.inr ⟨by rfl, rfl⟩) (by assumption) ?_
    try simp only [Act.put, List.setIfInBounds_toArray, List.set_cons_zero, List.set_cons_succ]
    refine wpAnyH_take (i := 10) (oi := ⟨_, _, _, _, _, _⟩) (v := undef) rfl (by kernel_rfl) (by kernel_rfl) (by kernel_rfl) (fun _ _ _ h => h) (Or.inr ⟨by rfl, rfl⟩) (by assumption) ?_
    try simp only [Act.put, List.setIfInBounds_toArray, List.set_cons_zero, List.set_cons_succ]
    refine wpAnyH_take (i := 11) (oi := ⟨_, _, _, _, _, _⟩) (v := ?_) rfl (by kernel_rfl) (by kernel_rfl) (by kernel_rfl) (fun _ _ _ h => h) (Or.inl ⟨by rfl, ?_⟩) (by assumption) ?_
    rotate_left
    · intro w hSw; (try dsimp only at hSw); go_simp; (try (with_reducible rfl))
    try simp only [Act.put, List.setIfInBounds_toArray, List.set_cons_zero, List.set_cons_succ]
    refine wpAnyH_take (i := 12) (oi := ⟨_, _, _, _, _, _⟩) (v := ?_) rfl (by kernel_rfl) (by kernel_rfl) (by kernel_rfl) (fun _ _ _ h => h) (Or.inl ⟨by rfl, ?_⟩) (by assumption) ?_
    rotate_left
    · intro w hSw; (try dsimp only at hSw); go_simp; (try (with_reducible rfl))
    try simp only [Act.put, List.setIfInBounds_toArray, List.set_cons_zero, List.set_cons_succ]
    refine wpAnyH_take (i := 13) (oi := ⟨_, _, _, _, _, _⟩) (v := undef) rfl (by kernel_rfl) (by kernel_rfl) (by kernel_rfl) (fun _ _ _ h => h) (Or.inr ⟨by rfl, rfl⟩) (by assumption) ?_
    try simp only [Act.put, List.setIfInBounds_toArray, List.set_cons_zero, List.set_cons_succ]
    refine wpAnyH_take (i := 14) (oi := ⟨_, _, _, _, _, _⟩) (v := undef) rfl (by kernel_rfl) (by kernel_rfl) (by kernel_rfl) (fun _ _ _ h => h) (Or.inr ⟨by rfl, rfl⟩) (by assumption) ?_
    try simp only [Act.put, List.setIfInBounds_toArray, List.set_cons_zero, List.set_cons_succ]
    refine wpAnyH_take (i := 15) (oi := ⟨_, _, _, _, _, _⟩) (v := undef) rfl (by kernel_rfl) (by kernel_rfl) (by kernel_rfl) (fun _ _ _ h => h) (Or.inr ⟨by rfl, rfl⟩) (by assumption) ?_
    try simp only [Act.put, List.setIfInBounds_toArray, List.set_cons_zero, List.set_cons_succ]
    refine wpAnyH_take (i := 16) (oi := ⟨_, _, _, _, _, _⟩) (v := undef) rfl (by kernel_rfl) (by kernel_rfl) (by kernel_rfl) (fun _ _ _ h => h) (Or.inr ⟨by rfl, rfl⟩) (by assumption) ?_
    try simp only [Act.put, List.setIfInBounds_toArray, List.set_cons_zero, List.set_cons_succ]
    refine wpAnyH_take (i := 17) (oi := ⟨_, _, _, _, _, _⟩) (v := ?_) rfl (by kernel_rfl) (by kernel_rfl) (by kernel_rfl) (fun _ _ _ h => h) (Or.inl ⟨by rfl, ?_⟩) (by assumption) ?_
    rotate_left
    · intro w hSw; (try dsimp only at hSw); go_simp; (try (with_reducible rfl))
    try simp only [Act.put, List.setIfInBounds_toArray, List.set_cons_zero, List.set_cons_succ]
    refine wpAnyH_take (i := 18) (oi := ⟨_, _, _, _, _, _⟩) (v := ?_) rfl (by kernel_rfl) (by kernel_rfl) (by kernel_rfl) (fun _ _ _ h => h) (Or.inl ⟨by rfl, ?_⟩) (by assumption) ?_
    rotate_left
    · intro w hSw; (try dsimp only at hSw); go_simp; (try (with_reducible rfl))
    try simp only [Act.put, List.setIfInBounds_toArray, List.set_cons_zero, List.set_cons_succ]
    refine wpAnyH_take (i := 19) (oi := ⟨_, _, _, _, _, _⟩) (v := undef) rfl (by kernel_rfl) (by kernel_rfl) (by kernel_rfl) (fun _ _ _ h => h) (Or.inr ⟨by rfl, rfl⟩) (by assumption) ?_
    try simp only [Act.put, List.setIfInBounds_toArray, List.set_cons_zero, List.set_cons_succ]
    refine wpAnyH_take (i := 20) (oi := ⟨_, _, _, _, _, _⟩) (v := undef) rfl (by kernel_rfl) (by kernel_rfl) (by kernel_rfl) (fun _ _ _ h => h) (Or.inr ⟨by rfl, rfl⟩) (by assumption) ?_
    try simp only [Act.put, List.setIfInBounds_toArray, List.set_cons_zero, List.set_cons_succ]
    refine wpAnyH_take (i := 21) (oi := ⟨_, _, _, _, _, _⟩) (v := undef) rfl (by kernel_rfl) (by kernel_rfl) (by kernel_rfl) (fun _ _ _ h => h) (Or.inr ⟨by rfl, rfl⟩) (by assumption) ?_
    try simp only [Act.put, List.setIfInBounds_toArray, List.set_cons_zero, List.set_cons_succ]
    refine wpAnyH_take (i := 22) (oi := ⟨_, _, _, _, _, _⟩) (v := ?_) rfl (by kernel_rfl) (by kernel_rfl) (by kernel_rfl) (fun _ _ _ h => h) (Or.inl ⟨by rfl, ?_⟩) (by assumption) ?_
    rotate_left
    · intro w hSw; (try dsimp only at hSw); go_simp; (try (with_reducible rfl))
    try simp only [Act.put, List.setIfInBounds_toArray, List.set_cons_zero, List.set_cons_succ]
    refine wpAnyH_take (i := 23) (oi := ⟨_, _, _, _, _, _⟩) (v := ?_) rfl (by kernel_rfl) (by kernel_rfl) (by kernel_rfl) (fun _ _ _ h => h) (Or.inl ⟨by rfl, ?_⟩) (by assumption) ?_
    rotate_left
    · intro w hSw; (try dsimp only at hSw); go_simp; (try (with_reducible rfl))
    try simp only [Act.put, List.setIfInBounds_toArray, List.set_cons_zero, List.set_cons_succ]
    refine wpAnyH_done (by kernel_rfl) ?_ _
    clear hHeld
    go_wp2
    go_ret
    exact ⟨ret_bool HF.out.symm, bwd⟩
  have hs6 := inB_iff.1 qS
  have cC := fun W => ccnt_is xs W hs6.1 (by omega)
  generalize hk : cnt xs.toNat = k at *
  clear hk
  by_cases hK : n = k
  rotate_left
  · have hkb : ((n : Int) == (k : Int)) = false := by simp; omega
    have HF : Hid (Z = false) := by show _ = _; rw [HZ2.out, qS, decide_eq_false hK]; rfl
    refine wp_region_held_drew (S := fun W => W.cell? ⟨w.heap.size, 2, none⟩ = some (.int .i64 xs) ∧ W.cell? ⟨w.heap.size, 3, none⟩ = some (.slice C n c) ∧ W.cell? ⟨w.heap.size, 4, none⟩ = some (.int .i64 xd)) (by kernel_rfl) ⟨c2, c3, c4⟩ (fun hHeld => ?_)
    refine wpAnyH_take (i := 0) (oi := ⟨_, _, _, _, _, _⟩) (v := ?_) rfl (by kernel_rfl) (by kernel_rfl) (by kernel_rfl) (fun _ _ _ h => h) (Or.inl ⟨by rfl, ?_⟩) (by assumption) ?_
    rotate_left
    · intro w hSw; (try dsimp only at hSw); go_simp; (try (with_reducible rfl))
    try simp only [Act.put, List.setIfInBounds_toArray, List.set_cons_zero, List.set_cons_succ]
    refine wpAnyH_take (i := 1) (oi := ⟨_, _, _, _, _, _⟩) (v := ?_) rfl (by kernel_rfl) (by kernel_rfl) (by kernel_rfl) (fun _ _ _ h => h) (Or.inl ⟨by rfl, ?_⟩) (by assumption) ?_
    rotate_left
    · intro w hSw; (try dsimp only at hSw); go_simp; (try (with_reducible rfl))
    try simp only [Act.put, List.setIfInBounds_toArray, List.set_cons_zero, List.set_cons_succ]
    refine wpAnyH_ready (rs := [2]) (by kernel_rfl) (by simp) ?_
    refine AllReadyH.cons (o := ⟨_, _, _, _, _, _⟩) rfl (fun K hK => ?_) AllReadyH.nil
    go_simp
    refine (isWithin_is qS _).mono ?_
    rintro e w5 ⟨rfl, rfl⟩
    refine hK.out _ _ hS1 (fun hHeld => ?_)
    clear hK K
    try simp only [Act.put, List.setIfInBounds_toArray, List.set_cons_zero, List.set_cons_succ]
    refine wpAnyH_take (i := 3) (oi := ⟨_, _, _, _, _, _⟩) (v := ?_) rfl (by kernel_rfl) (by kernel_rfl) (by kernel_rfl) (fun _ _ _ h => h) (Or.inl ⟨by rfl, ?_⟩) (by assumption) ?_
    rotate_left
    · intro w hSw; (try dsimp only at hSw); go_simp; (try (with_reducible rfl))
    try simp only [Act.put, List.setIfInBounds_toArray, List.set_cons_zero, List.set_cons_succ]
    refine wpAnyH_take (i := 4) (oi := ⟨_, _, _, _, _, _⟩) (v := ?_) rfl (by kernel_rfl) (by kernel_rfl) (by kernel_rfl) (fun _ _ _ h => h) (Or.inl ⟨by rfl, ?_⟩) (by assumption) ?_
    rotate_left
    · intro w hSw; (try dsimp only at hSw); go_simp; (try (with_reducible rfl))
    try simp only [Act.put, List.setIfInBounds_toArray, List.set_cons_zero, List.set_cons_succ]
    refine wpAnyH_take (i := 5) (oi := ⟨_, _, _, _, _, _⟩) (v := ?_) rfl (by kernel_rfl) (by kernel_rfl) (by kernel_rfl) (fun _ _ _ h => h) (Or.inl ⟨by rfl, ?_⟩) (by assumption) ?_
    rotate_left
    · intro w hSw; (try dsimp only at hSw); go_simp; (try (with_reducible rfl))
    try simp only [Act.put, List.setIfInBounds_toArray, List.set_cons_zero, List.set_cons_succ]
    refine wpAnyH_take (i := 6) (oi := ⟨_, _, _, _, _, _⟩) (v := ?_) rfl (by kernel_rfl) (by kernel_rfl) (by kernel_rfl) (fun _ _ _ h => h) (Or.inl ⟨by rfl, ?_⟩) (by assumption) ?_
    rotate_left
    · intro w hSw; (try dsimp only at hSw); go_simp; (try (with_reducible rfl))
    try simp only [Act.put, List.setIfInBounds_toArray, List.set_cons_zero, List.set_cons_succ]
    refine wpAnyH_take (i := 7) (oi := ⟨_, _, _, _, _, _⟩) (v := ?_) rfl (by kernel_rfl) (by kernel_rfl) (by kernel_rfl) (fun _ _ _ h => h) (Or.inl ⟨by rfl, ?_⟩) (by assumption) ?_
    rotate_left
    · intro w hSw; (try dsimp only at hSw); go_simp; (try (with_reducible rfl))
    try simp only [Act.put, List.setIfInBounds_toArray, List.set_cons_zero, List.set_cons_succ]
    refine wpAnyH_take (i := 8) (oi := ⟨_, _, _, _, _, _⟩) (v := ?_) rfl (by kernel_rfl) (by kernel_rfl) (by kernel_rfl) (fun _ _ _ h => h) (Or.inl ⟨by rfl, ?_⟩) (by assumption) ?_
    rotate_left
    · intro w hSw; (try dsimp only at hSw); go_simp; (try (with_reducible rfl))
    try simp only [Act.put, List.setIfInBounds_toArray, List.set_cons_zero, List.set_cons_succ]
    refine wpAnyH_ready (rs := [9]) (by kernel_rfl) (by simp) ?_
    refine AllReadyH.cons (o := ⟨_, _, _, _, _, _⟩) rfl (fun K hK => ?_) AllReadyH.nil
    go_simp
    refine (cC _).mono ?_
    rintro e w5 ⟨rfl, rfl⟩
    refine hK.out _ _ hS1 (fun hHeld => ?_)
    clear hK K
    try simp only [Act.put, List.setIfInBounds_toArray, List.set_cons_zero, List.set_cons_succ]
    refine wpAnyH_take (i := 10) (oi := ⟨_, _, _, _, _, _⟩) (v := ?_) rfl (by kernel_rfl) (by kernel_rfl) (by kernel_rfl) (fun _ _ _ h => h) (Or.inl ⟨by rfl, ?_⟩) (by assumption) ?_
    rotate_left
    · intro w hSw; (try dsimp only at hSw); go_simp; (try (with_reducible rfl))
    try simp only [Act.put, List.setIfInBounds_toArray, List.set_cons_zero, List.set_cons_succ]
    refine wpAnyH_take (i := 11) (oi := ⟨_, _, _, _, _, _⟩) (v := ?_) rfl (by kernel_rfl) (by kernel_rfl) (by kernel_rfl) (fun _ _ _ h => h) (Or.inl ⟨by rfl, ?_⟩) (by assumption) ?_
    rotate_left
    · intro w hSw; (try dsimp only at hSw); go_simp; (try (with_reducible rfl))
    try simp only [Act.put, List.setIfInBounds_toArray, List.set_cons_zero, List.set_cons_succ]
    refine wpAnyH_take (i := 12) (oi := ⟨_, _, _, _, _, _⟩) (v := ?_) rfl (by kernel_rfl) (by kernel_rfl) (by kernel_rfl) (fun _ _ _ h => h) (Or.inl ⟨by rfl, ?_⟩) (by assumption) ?_
    rotate_left
    · intro w hSw; (try dsimp only at hSw); go_simp; (try (with_reducible rfl))
    try simp only [Act.put, List.setIfInBounds_toArray, List.set_cons_zero, List.set_cons_succ]
    refine wpAnyH_take (i := 13) (oi := ⟨_, _, _, _, _, _⟩) (v := undef) rfl (by kernel_rfl) (by kernel_rfl) (by kernel_rfl) (fun _ _ _ h => h) (Or.inr ⟨by rfl, rfl⟩) (by assumption) ?_
    try simp only [Act.put, List.setIfInBounds_toArray, List.set_cons_zero, List.set_cons_succ]
    refine wpAnyH_take (i := 14) (oi := ⟨_, _, _, _, _, _⟩) (v := undef) rfl (by kernel_rfl) (by kernel_rfl) (by kernel_rfl) (fun _ _ _ h => h) (Or.inr ⟨by rfl, rfl⟩) (by assumption) ?_
    try simp only [Act.put, List.setIfInBounds_toArray, List.set_cons_zero, List.set_cons_succ]
    refine wpAnyH_take (i := 15) (oi := ⟨_, _, _, _, _, _⟩) (v := undef) rfl (by kernel_rfl) (by kernel_rfl) (by kernel_rfl) (fun _ _ _ h => h) (Or.inr ⟨by rfl, rfl⟩) (by assumption) ?_
    try simp only [Act.put, List.setIfInBounds_toArray, List.set_cons_zero, List.set_cons_succ]
    refine wpAnyH_take (i := 16) (oi := ⟨_, _, _, _, _, _⟩) (v := undef) rfl (by kernel_rfl) (by kernel_rfl) (by kernel_rfl) (fun _ _ _ h => h) (Or.inr ⟨by rfl, rfl⟩) (by assumption) ?_
    try simp only [Act.put, List.setIfInBounds_toArray, List.set_cons_zero, List.set_cons_succ]
    refine wpAnyH_take (i := 17) (oi := ⟨_, _, _, _, _, _⟩) (v := ?_) rfl (by kernel_rfl) (by kernel_rfl) (by kernel_rfl) (fun _ _ _ h => h) (Or.inl ⟨by rfl, ?_⟩) (by assumption) ?_
    rotate_left
    · intro w hSw; (try dsimp only at hSw); go_simp; (try (with_reducible rfl))
    try simp only [Act.put, List.setIfInBounds_toArray, List.set_cons_zero, List.set_cons_succ]
    refine wpAnyH_take (i := 18) (oi := ⟨_, _, _, _, _, _⟩) (v := ?_) rfl (by kernel_rfl) (by kernel_rfl) (by kernel_rfl) (fun _ _ _ h => h) (Or.inl ⟨by rfl, ?_⟩) (by assumption) ?_
    rotate_left
    · intro w hSw; (try dsimp only at hSw); go_simp; (try (with_reducible rfl))
    try simp only [Act.put, List.setIfInBounds_toArray, List.set_cons_zero, List.set_cons_succ]
    refine wpAnyH_take (i := 19) (oi := ⟨_, _, _, _, _, _⟩) (v := undef) rfl (by kernel_rfl) (by kernel_rfl) (by kernel_rfl) (fun _ _ _ h => h) (Or.inr ⟨by rfl, rfl⟩) (by assumption) ?_
    try simp only [Act.put, List.setIfInBounds_toArray, List.set_cons_zero, List.set_cons_succ]
    refine wpAnyH_take (i := 20) (oi := ⟨_, _, _, _, _, _⟩) (v := undef) rfl (by kernel_rfl) (by kernel_rfl) (by kernel_rfl) (fun _ _ _ h => h) (Or.inr ⟨by rfl, rfl⟩) (by assumption) ?_
    try simp only [Act.put, List.setIfInBounds_toArray, List.set_cons_zero, List.set_cons_succ]
    refine wpAnyH_take (i := 21) (oi := ⟨_, _, _, _, _, _⟩) (v := undef) rfl (by kernel_rfl) (by kernel_rfl) (by kernel_rfl) (fun _ _ _ h => h) (Or.inr ⟨by rfl, rfl⟩) (by assumption) ?_
    try simp only [Act.put, List.setIfInBounds_toArray, List.set_cons_zero, List.set_cons_succ]
    refine wpAnyH_take (i := 22) (oi := ⟨_, _, _, _, _, _⟩) (v := ?_) rfl (by kernel_rfl) (by kernel_rfl) (by kernel_rfl) (fun _ _ _ h => h) (Or.inl ⟨by rfl, ?_⟩) (by assumption) ?_
    rotate_left
    · intro w hSw; (try dsimp only at hSw); go_simp; (try (with_reducible rfl))
    try simp only [Act.put, List.setIfInBounds_toArray, List.set_cons_zero, List.set_cons_succ]
    refine wpAnyH_take (i := 23) (oi := ⟨_, _, _, _, _, _⟩) (v := ?_) rfl (by kernel_rfl) (by kernel_rfl) (by kernel_rfl) (fun _ _ _ h => h) (Or.inl ⟨by rfl, ?_⟩) (by assumption) ?_
    rotate_left
    · intro w hSw; (try dsimp only at hSw); go_simp; (try (with_reducible rfl))
    try simp only [Act.put, List.setIfInBounds_toArray, List.set_cons_zero, List.set_cons_succ]
    refine wpAnyH_done (by kernel_rfl) ?_ _
    clear hHeld
    go_wp2
    go_ret
    exact ⟨ret_bool HF.out.symm, bwd⟩
  subst hK
  have hkb : ((n : Int) == (n : Int)) = true := by simp
  have ba := bd.alloc bd.size (.cells #[.int .i64 xd] 3)
  have bwa := bwd.alloc bwd.size (.cells #[.int .i64 xd] 3)
  have hSa := HS.out _ ba
  have hrd : Rd (w1.drew.alloc (.cells #[.int .i64 xd] 3)) (some ⟨w1.heap.size, 0, none⟩) (intV [xd]) := .inr ⟨_, rfl, new_cells w1.drew 3 (intV [xd])⟩
  have hra := hr1.below ba
  cases qD : fitB [xd]
  · have HF : Hid (Z = false) := by show _ = _; rw [HZ2.out, qS, qD, decide_eq_true rfl]; rfl
    refine wp_region_held_drew (S := fun W => W.cell? ⟨w.heap.size, 2, none⟩ = some (.int .i64 xs) ∧ W.cell? ⟨w.heap.size, 3, none⟩ = some (.slice C n c) ∧ W.cell? ⟨w.heap.size, 4, none⟩ = some (.int .i64 xd)) (by kernel_rfl) ⟨c2, c3, c4⟩ (fun hHeld => ?_)
    refine wpAnyH_take (i := 0) (oi := ⟨_, _, _, _, _, _⟩) (v := ?_) rfl (by kernel_rfl) (by kernel_rfl) (by kernel_rfl) (fun _ _ _ h => h) (Or.inl ⟨by rfl, ?_⟩) (by assumption) ?_
    rotate_left
    · intro w hSw; (try dsimp only at hSw); go_simp; (try (with_reducible rfl))
    try simp only [Act.put, List.setIfInBounds_toArray, List.set_cons_zero, List.set_cons_succ]
    refine wpAnyH_take (i := 1) (oi := ⟨_, _, _, _, _, _⟩) (v := ?_) rfl (by kernel_rfl) (by kernel_rfl) (by kernel_rfl) (fun _ _ _ h => h) (Or.inl ⟨by rfl, ?_⟩) (by assumption) ?_
    rotate_left
    · intro w hSw; (try dsimp only at hSw); go_simp; (try (with_reducible rfl))
    try simp only [Act.put, List.setIfInBounds_toArray, List.set_cons_zero, List.set_cons_succ]
    refine wpAnyH_ready (rs := [2]) (by kernel_rfl) (by simp) ?_
    refine AllReadyH.cons (o := ⟨_, _, _, _, _, _⟩) rfl (fun K hK => ?_) AllReadyH.nil
    go_simp
    refine (isWithin_is qS _).mono ?_
    rintro e w5 ⟨rfl, rfl⟩
    refine hK.out _ _ hS1 (fun hHeld => ?_)
    clear hK K
    try simp only [Act.put, List.setIfInBounds_toArray, List.set_cons_zero, List.set_cons_succ]
    refine wpAnyH_take (i := 3) (oi := ⟨_, _, _, _, _, _⟩) (v := ?_) rfl (by kernel_rfl) (by kernel_rfl) (by kernel_rfl) (fun _ _ _ h => h) (Or.inl ⟨by rfl, ?_⟩) (by assumption) ?_
    rotate_left
    · intro w hSw; (try dsimp only at hSw); go_simp; (try (with_reducible rfl))
    try simp only [Act.put, List.setIfInBounds_toArray, List.set_cons_zero, List.set_cons_succ]
    refine wpAnyH_take (i := 4) (oi := ⟨_, _, _, _, _, _⟩) (v := ?_) rfl (by kernel_rfl) (by kernel_rfl) (by kernel_rfl) (fun _ _ _ h => h) (Or.inl ⟨by rfl, ?_⟩) (by assumption) ?_
    rotate_left
    · intro w hSw; (try dsimp only at hSw); go_simp; (try (with_reducible rfl))
    try simp only [Act.put, List.setIfInBounds_toArray, List.set_cons_zero, List.set_cons_succ]
    refine wpAnyH_take (i := 5) (oi := ⟨_, _, _, _, _, _⟩) (v := ?_) rfl (by kernel_rfl) (by kernel_rfl) (by kernel_rfl) (fun _ _ _ h => h) (Or.inl ⟨by rfl, ?_⟩) (by assumption) ?_
    rotate_left
    · intro w hSw; (try dsimp only at hSw); go_simp; (try (with_reducible rfl))
    try simp only [Act.put, List.setIfInBounds_toArray, List.set_cons_zero, List.set_cons_succ]
    refine wpAnyH_take (i := 6) (oi := ⟨_, _, _, _, _, _⟩) (v := ?_) rfl (by kernel_rfl) (by kernel_rfl) (by kernel_rfl) (fun _ _ _ h => h) (Or.inl ⟨by rfl, ?_⟩) (by assumption) ?_
    rotate_left
    · intro w hSw; (try dsimp only at hSw); go_simp; (try (with_reducible rfl))
    try simp only [Act.put, List.setIfInBounds_toArray, List.set_cons_zero, List.set_cons_succ]
    refine wpAnyH_take (i := 7) (oi := ⟨_, _, _, _, _, _⟩) (v := ?_) rfl (by kernel_rfl) (by kernel_rfl) (by kernel_rfl) (fun _ _ _ h => h) (Or.inl ⟨by rfl, ?_⟩) (by assumption) ?_
    rotate_left
    · intro w hSw; (try dsimp only at hSw); go_simp; (try (with_reducible rfl))
    try simp only [Act.put, List.setIfInBounds_toArray, List.set_cons_zero, List.set_cons_succ]
    refine wpAnyH_take (i := 8) (oi := ⟨_, _, _, _, _, _⟩) (v := ?_) rfl (by kernel_rfl) (by kernel_rfl) (by kernel_rfl) (fun _ _ _ h => h) (Or.inl ⟨by rfl, ?_⟩) (by assumption) ?_
    rotate_left
    · intro w hSw; (try dsimp only at hSw); go_simp; (try (with_reducible rfl))
    try simp only [Act.put, List.setIfInBounds_toArray, List.set_cons_zero, List.set_cons_succ]
    refine wpAnyH_ready (rs := [9]) (by kernel_rfl) (by simp) ?_
    refine AllReadyH.cons (o := ⟨_, _, _, _, _, _⟩) rfl (fun K hK => ?_) AllReadyH.nil
    go_simp
    refine (cC _).mono ?_
    rintro e w5 ⟨rfl, rfl⟩
    refine hK.out _ _ hS1 (fun hHeld => ?_)
    clear hK K
    try simp only [Act.put, List.setIfInBounds_toArray, List.set_cons_zero, List.set_cons_succ]
    refine wpAnyH_take (i := 10) (oi := ⟨_, _, _, _, _, _⟩) (v := ?_) rfl (by kernel_rfl) (by kernel_rfl) (by kernel_rfl) (fun _ _ _ h => h) (Or.inl ⟨by rfl, ?_⟩) (by assumption) ?_
    rotate_left
    · intro w hSw; (try dsimp only at hSw); go_simp; (try (with_reducible rfl))
    try simp only [Act.put, List.setIfInBounds_toArray, List.set_cons_zero, List.set_cons_succ]
    refine wpAnyH_take (i := 11) (oi := ⟨_, _, _, _, _, _⟩) (v := ?_) rfl (by kernel_rfl) (by kernel_rfl) (by kernel_rfl) (fun _ _ _ h => h) (Or.inl ⟨by rfl, ?_⟩) (by assumption) ?_
    rotate_left
    · intro w hSw; (try dsimp only at hSw); go_simp; (try (with_reducible rfl))
    try simp only [Act.put, List.setIfInBounds_toArray, List.set_cons_zero, List.set_cons_succ]
    refine wpAnyH_take (i := 12) (oi := ⟨_, _, _, _, _, _⟩) (v := ?_) rfl (by kernel_rfl) (by kernel_rfl) (by kernel_rfl) (fun _ _ _ h => h) (Or.inl ⟨by rfl, ?_⟩) (by assumption) ?_
    rotate_left
    · intro w hSw; (try dsimp only at hSw); go_simp; (try (with_reducible rfl))
    try simp only [Act.put, List.setIfInBounds_toArray, List.set_cons_zero, List.set_cons_succ]
    refine wpAnyH_take (i := 13) (oi := ⟨_, _, _, _, _, _⟩) (v := ?_) rfl (by kernel_rfl) (by kernel_rfl) (by kernel_rfl) (fun _ _ _ h => h) (Or.inl ⟨by rfl, ?_⟩) (by assumption) ?_
    rotate_left
    · intro w hSw; (try dsimp only at hSw); go_simp; (try (with_reducible rfl))
    try simp only [Act.put, List.setIfInBounds_toArray, List.set_cons_zero, List.set_cons_succ]
    refine wpAnyH_take (i := 14) (oi := ⟨_, _, _, _, _, _⟩) (v := ?_) rfl (by kernel_rfl) (by kernel_rfl) (by kernel_rfl) (fun _ _ _ h => h) (Or.inl ⟨by rfl, ?_⟩) (by assumption) ?_
    rotate_left
    · intro w hSw; (try dsimp only at hSw); go_simp; (try (with_reducible rfl))
    try simp only [Act.put, List.setIfInBounds_toArray, List.set_cons_zero, List.set_cons_succ]
    refine wpAnyH_ready (rs := [15]) (by kernel_rfl) (by simp) ?_
    refine AllReadyH.cons (o := ⟨_, _, _, _, _, _⟩) rfl (fun K hK => ?_) AllReadyH.nil
    go_simp
    refine hK.out _ _ hSa (fun hHeld => ?_)
    clear hK K
    try simp only [Act.put, List.setIfInBounds_toArray, List.set_cons_zero, List.set_cons_succ]
    refine wpAnyH_ready (rs := [16]) (by kernel_rfl) (by simp) ?_
    refine AllReadyH.cons (o := ⟨_, _, _, _, _, _⟩) rfl (fun K hK => ?_) AllReadyH.nil
    go_simp
    refine (fit_is qD _ 1 1 _ rfl hrd (by omega)).mono ?_
    rintro e w5 ⟨rfl, rfl⟩
    refine hK.out _ _ hSa (fun hHeld => ?_)
    clear hK K
    try simp only [Act.put, List.setIfInBounds_toArray, List.set_cons_zero, List.set_cons_succ]
    refine wpAnyH_take (i := 17) (oi := ⟨_, _, _, _, _, _⟩) (v := ?_) rfl (by kernel_rfl) (by kernel_rfl) (by kernel_rfl) (fun _ _ _ h => h) (Or.inl ⟨by rfl, ?_⟩) (by assumption) ?_
    rotate_left
    · intro w hSw; (try dsimp only at hSw); go_simp; (try (with_reducible rfl))
    try simp only [Act.put, List.setIfInBounds_toArray, List.set_cons_zero, List.set_cons_succ]
    refine wpAnyH_take (i := 18) (oi := ⟨_, _, _, _, _, _⟩) (v := ?_) rfl (by kernel_rfl) (by kernel_rfl) (by kernel_rfl) (fun _ _ _ h => h) (Or.inl ⟨by rfl, ?_⟩) (by assumption) ?_
    rotate_left
    · intro w hSw; (try dsimp only at hSw); go_simp; (try (with_reducible rfl))
    try simp only [Act.put, List.setIfInBounds_toArray, List.set_cons_zero, List.set_cons_succ]
    refine wpAnyH_take (i := 19) (oi := ⟨_, _, _, _, _, _⟩) (v := undef) rfl (by kernel_rfl) (by kernel_rfl) (by kernel_rfl) (fun _ _ _ h => h) (Or.inr ⟨by rfl, rfl⟩) (by assumption) ?_
    try simp only [Act.put, List.setIfInBounds_toArray, List.set_cons_zero, List.set_cons_succ]
    refine wpAnyH_take (i := 20) (oi := ⟨_, _, _, _, _, _⟩) (v := undef) rfl (by kernel_rfl) (by kernel_rfl) (by kernel_rfl) (fun _ _ _ h => h) (Or.inr ⟨by rfl, rfl⟩) (by assumption) ?_
    try simp only [Act.put, List.setIfInBounds_toArray, List.set_cons_zero, List.set_cons_succ]
    refine wpAnyH_take (i := 21) (oi := ⟨_, _, _, _, _, _⟩) (v := undef) rfl (by kernel_rfl) (by kernel_rfl) (by kernel_rfl) (fun _ _ _ h => h) (Or.inr ⟨by rfl, rfl⟩) (by assumption) ?_
    try simp only [Act.put, List.setIfInBounds_toArray, List.set_cons_zero, List.set_cons_succ]
    refine wpAnyH_take (i := 22) (oi := ⟨_, _, _, _, _, _⟩) (v := ?_) rfl (by kernel_rfl) (by kernel_rfl) (by kernel_rfl) (fun _ _ _ h => h) (Or.inl ⟨by rfl, ?_⟩) (by assumption) ?_
    rotate_left
    · intro w hSw; (try dsimp only at hSw); go_simp; (try (with_reducible rfl))
    try simp only [Act.put, List.setIfInBounds_toArray, List.set_cons_zero, List.set_cons_succ]
    refine wpAnyH_take (i := 23) (oi := ⟨_, _, _, _, _, _⟩) (v := ?_) rfl (by kernel_rfl) (by kernel_rfl) (by kernel_rfl) (fun _ _ _ h => h) (Or.inl ⟨by rfl, ?_⟩) (by assumption) ?_
    rotate_left
    · intro w hSw; (try dsimp only at hSw); go_simp; (try (with_reducible rfl))
    try simp only [Act.put, List.setIfInBounds_toArray, List.set_cons_zero, List.set_cons_succ]
    refine wpAnyH_done (by kernel_rfl) ?_ _
    clear hHeld
    go_wp2
    go_ret
    exact ⟨ret_bool HF.out.symm, bwa⟩
  cases qF : fitB xc
  · have HF : Hid (Z = false) := by show _ = _; rw [HZ2.out, qS, qD, qF, decide_eq_true rfl]; rfl
    refine wp_region_held_drew (S := fun W => W.cell? ⟨w.heap.size, 2, none⟩ = some (.int .i64 xs) ∧ W.cell? ⟨w.heap.size, 3, none⟩ = some (.slice C n c) ∧ W.cell? ⟨w.heap.size, 4, none⟩ = some (.int .i64 xd)) (by kernel_rfl) ⟨c2, c3, c4⟩ (fun hHeld => ?_)
    refine wpAnyH_take (i := 0) (oi := ⟨_, _, _, _, _, _⟩) (v := ?_) rfl (by kernel_rfl) (by kernel_rfl) (by kernel_rfl) (fun _ _ _ h => h) (Or.inl ⟨by rfl, ?_⟩) (by assumption) ?_
    rotate_left
    · intro w hSw; (try dsimp only at hSw); go_simp; (try (with_reducible rfl))
    try simp only [Act.put, List.setIfInBounds_toArray, List.set_cons_zero, List.set_cons_succ]
    refine wpAnyH_take (i := 1) (oi := ⟨_, _, _, _, _, _⟩) (v := ?_) rfl (by kernel_rfl) (by kernel_rfl) (by kernel_rfl) (fun _ _ _ h => h) (Or.inl ⟨by rfl, ?_⟩) (by assumption) ?_
    rotate_left
    · intro w hSw; (try dsimp only at hSw); go_simp; (try (with_reducible rfl))
    try simp only [Act.put, List.setIfInBounds_toArray, List.set_cons_zero, List.set_cons_succ]
    refine wpAnyH_ready (rs := [2]) (by kernel_rfl) (by simp) ?_
    refine AllReadyH.cons (o := ⟨_, _, _, _, _, _⟩) rfl (fun K hK => ?_) AllReadyH.nil
    go_simp
    refine (isWithin_is qS _).mono ?_
    rintro e w5 ⟨rfl, rfl⟩
    refine hK.out _ _ hS1 (fun hHeld => ?_)
    clear hK K
    try simp only [Act.put, List.setIfInBounds_toArray, List.set_cons_zero, List.set_cons_succ]
    refine wpAnyH_take (i := 3) (oi := ⟨_, _, _, _, _, _⟩) (v := ?_) rfl (by kernel_rfl) (by kernel_rfl) (by kernel_rfl) (fun _ _ _ h => h) (Or.inl ⟨by rfl, ?_⟩) (by assumption) ?_
    rotate_left
    · intro w hSw; (try dsimp only at hSw); go_simp; (try (with_reducible rfl))
    try simp only [Act.put, List.setIfInBounds_toArray, List.set_cons_zero, List.set_cons_succ]
    refine wpAnyH_take (i := 4) (oi := ⟨_, _, _, _, _, _⟩) (v := ?_) rfl (by kernel_rfl) (by kernel_rfl) (by kernel_rfl) (fun _ _ _ h => h) (Or.inl ⟨by rfl, ?_⟩) (by assumption) ?_
    rotate_left
    · intro w hSw; (try dsimp only at hSw); go_simp; (try (with_reducible rfl))
    try simp only [Act.put, List.setIfInBounds_toArray, List.set_cons_zero, List.set_cons_succ]
    refine wpAnyH_take (i := 5) (oi := ⟨_, _, _, _, _, _⟩) (v := ?_) rfl (by kernel_rfl) (by kernel_rfl) (by kernel_rfl) (fun _ _ _ h => h) (Or.inl ⟨by rfl, ?_⟩) (by assumption) ?_
    rotate_left
    · intro w hSw; (try dsimp only at hSw); go_simp; (try (with_reducible rfl))
    try simp only [Act.put, List.setIfInBounds_toArray, List.set_cons_zero, List.set_cons_succ]
    refine wpAnyH_take (i := 6) (oi := ⟨_, _, _, _, _, _⟩) (v := ?_) rfl (by kernel_rfl) (by kernel_rfl) (by kernel_rfl) (fun _ _ _ h => h) (Or.inl ⟨by rfl, ?_⟩) (by assumption) ?_
    rotate_left
    · intro w hSw; (try dsimp only at hSw); go_simp; (try (with_reducible rfl))
    try simp only [Act.put, List.setIfInBounds_toArray, List.set_cons_zero, List.set_cons_succ]
    refine wpAnyH_take (i := 7) (oi := ⟨_, _, _, _, _, _⟩) (v := ?_) rfl (by kernel_rfl) (by kernel_rfl) (by kernel_rfl) (fun _ _ _ h => h) (Or.inl ⟨by rfl, ?_⟩) (by assumption) ?_
    rotate_left
    · intro w hSw; (try dsimp only at hSw); go_simp; (try (with_reducible rfl))
    try simp only [Act.put, List.setIfInBounds_toArray, List.set_cons_zero, List.set_cons_succ]
    refine wpAnyH_take (i := 8) (oi := ⟨_, _, _, _, _, _⟩) (v := ?_) rfl (by kernel_rfl) (by kernel_rfl) (by kernel_rfl) (fun _ _ _ h => h) (Or.inl ⟨by rfl, ?_⟩) (by assumption) ?_
    rotate_left
    · intro w hSw; (try dsimp only at hSw); go_simp; (try (with_reducible rfl))
    try simp only [Act.put, List.setIfInBounds_toArray, List.set_cons_zero, List.set_cons_succ]
    refine wpAnyH_ready (rs := [9]) (by kernel_rfl) (by simp) ?_
    refine AllReadyH.cons (o := ⟨_, _, _, _, _, _⟩) rfl (fun K hK => ?_) AllReadyH.nil
    go_simp
    refine (cC _).mono ?_
    rintro e w5 ⟨rfl, rfl⟩
    refine hK.out _ _ hS1 (fun hHeld => ?_)
    clear hK K
    try simp only [Act.put, List.setIfInBounds_toArray, List.set_cons_zero, List.set_cons_succ]
    refine wpAnyH_take (i := 10) (oi := ⟨_, _, _, _, _, _⟩) (v := ?_) rfl (by kernel_rfl) (by kernel_rfl) (by kernel_rfl) (fun _ _ _ h => h) (Or.inl ⟨by rfl, ?_⟩) (by assumption) ?_
    rotate_left
    · intro w hSw; (try dsimp only at hSw); go_simp; (try (with_reducible rfl))
    try simp only [Act.put, List.setIfInBounds_toArray, List.set_cons_zero, List.set_cons_succ]
    refine wpAnyH_take (i := 11) (oi := ⟨_, _, _, _, _, _⟩) (v := ?_) rfl (by kernel_rfl) (by kernel_rfl) (by kernel_rfl) (fun _ _ _ h => h) (Or.inl ⟨by rfl, ?_⟩) (by assumption) ?_
    rotate_left
    · intro w hSw; (try dsimp only at hSw); go_simp; (try (with_reducible rfl))
    try simp only [Act.put, List.setIfInBounds_toArray, List.set_cons_zero, List.set_cons_succ]
    refine wpAnyH_take (i := 12) (oi := ⟨_, _, _, _, _, _⟩) (v := ?_) rfl (by kernel_rfl) (by kernel_rfl) (by kernel_rfl) (fun _ _ _ h => h) (Or.inl ⟨by rfl, ?_⟩) (by assumption) ?_
    rotate_left
    · intro w hSw; (try dsimp only at hSw); go_simp; (try (with_reducible rfl))
    try simp only [Act.put, List.setIfInBounds_toArray, List.set_cons_zero, List.set_cons_succ]
    refine wpAnyH_take (i := 13) (oi := ⟨_, _, _, _, _, _⟩) (v := ?_) rfl (by kernel_rfl) (by kernel_rfl) (by kernel_rfl) (fun _ _ _ h => h) (Or.inl ⟨by rfl, ?_⟩) (by assumption) ?_
    rotate_left
    · intro w hSw; (try dsimp only at hSw); go_simp; (try (with_reducible rfl))
    try simp only [Act.put, List.setIfInBounds_toArray, List.set_cons_zero, List.set_cons_succ]
    refine wpAnyH_take (i := 14) (oi := ⟨_, _, _, _, _, _⟩) (v := ?_) rfl (by kernel_rfl) (by kernel_rfl) (by kernel_rfl) (fun _ _ _ h => h) (Or.inl ⟨by rfl, ?_⟩) (by assumption) ?_
    rotate_left
    · intro w hSw; (try dsimp only at hSw); go_simp; (try (with_reducible rfl))
    try simp only [Act.put, List.setIfInBounds_toArray, List.set_cons_zero, List.set_cons_succ]
    refine wpAnyH_ready (rs := [15]) (by kernel_rfl) (by simp) ?_
    refine AllReadyH.cons (o := ⟨_, _, _, _, _, _⟩) rfl (fun K hK => ?_) AllReadyH.nil
    go_simp
    refine hK.out _ _ hSa (fun hHeld => ?_)
    clear hK K
    try simp only [Act.put, List.setIfInBounds_toArray, List.set_cons_zero, List.set_cons_succ]
    refine wpAnyH_ready (rs := [16]) (by kernel_rfl) (by simp) ?_
    refine AllReadyH.cons (o := ⟨_, _, _, _, _, _⟩) rfl (fun K hK => ?_) AllReadyH.nil
    go_simp
    refine (fit_is qD _ 1 1 _ rfl hrd (by omega)).mono ?_
    rintro e w5 ⟨rfl, rfl⟩
    refine hK.out _ _ hSa (fun hHeld => ?_)
    clear hK K
    try simp only [Act.put, List.setIfInBounds_toArray, List.set_cons_zero, List.set_cons_succ]
    refine wpAnyH_take (i := 17) (oi := ⟨_, _, _, _, _, _⟩) (v := ?_) rfl (by kernel_rfl) (by kernel_rfl) (by kernel_rfl) (fun _ _ _ h => h) (Or.inl ⟨by rfl, ?_⟩) (by assumption) ?_
    rotate_left
    · intro w hSw; (try dsimp only at hSw); go_simp; (try (with_reducible rfl))
    try simp only [Act.put, List.setIfInBounds_toArray, List.set_cons_zero, List.set_cons_succ]
    refine wpAnyH_take (i := 18) (oi := ⟨_, _, _, _, _, _⟩) (v := ?_) rfl (by kernel_rfl) (by kernel_rfl) (by kernel_rfl) (fun _ _ _ h => h) (Or.inl ⟨by rfl, ?_⟩) (by assumption) ?_
    rotate_left
    · intro w hSw; (try dsimp only at hSw); go_simp; (try (with_reducible rfl))
    try simp only [Act.put, List.setIfInBounds_toArray, List.set_cons_zero, List.set_cons_succ]
    refine wpAnyH_take (i := 19) (oi := ⟨_, _, _, _, _, _⟩) (v := ?_) rfl (by kernel_rfl) (by kernel_rfl) (by kernel_rfl) (fun _ _ _ h => h) (Or.inl ⟨by rfl, ?_⟩) (by assumption) ?_
    rotate_left
    · intro w hSw; (try dsimp only at hSw); go_simp; (try (with_reducible rfl))
    try simp only [Act.put, List.setIfInBounds_toArray, List.set_cons_zero, List.set_cons_succ]
    refine wpAnyH_take (i := 20) (oi := ⟨_, _, _, _, _, _⟩) (v := ?_) rfl (by kernel_rfl) (by kernel_rfl) (by kernel_rfl) (fun _ _ _ h => h) (Or.inl ⟨by rfl, ?_⟩) (by assumption) ?_
    rotate_left
    · intro w hSw; (try dsimp only at hSw); go_simp; (try (with_reducible rfl))
    try simp only [Act.put, List.setIfInBounds_toArray, List.set_cons_zero, List.set_cons_succ]
    refine wpAnyH_ready (rs := [21]) (by kernel_rfl) (by simp) ?_
    refine AllReadyH.cons (o := ⟨_, _, _, _, _, _⟩) rfl (fun K hK => ?_) AllReadyH.nil
    go_simp
    refine (fit_is qF _ n c _ HN.out.symm hra (by omega)).mono ?_
    rintro e w5 ⟨rfl, rfl⟩
    refine hK.out _ _ hSa (fun hHeld => ?_)
    clear hK K
    try simp only [Act.put, List.setIfInBounds_toArray, List.set_cons_zero, List.set_cons_succ]
    refine wpAnyH_take (i := 22) (oi := ⟨_, _, _, _, _, _⟩) (v := ?_) rfl (by kernel_rfl) (by kernel_rfl) (by kernel_rfl) (fun _ _ _ h => h) (Or.inl ⟨by rfl, ?_⟩) (by assumption) ?_
    rotate_left
    · intro w hSw; (try dsimp only at hSw); go_simp; (try (with_reducible rfl))
    try simp only [Act.put, List.setIfInBounds_toArray, List.set_cons_zero, List.set_cons_succ]
    refine wpAnyH_take (i := 23) (oi := ⟨_, _, _, _, _, _⟩) (v := ?_) rfl (by kernel_rfl) (by kernel_rfl) (by kernel_rfl) (fun _ _ _ h => h) (Or.inl ⟨by rfl, ?_⟩) (by assumption) ?_
    rotate_left
    · intro w hSw; (try dsimp only at hSw); go_simp; (try (with_reducible rfl))
    try simp only [Act.put, List.setIfInBounds_toArray, List.set_cons_zero, List.set_cons_succ]
    refine wpAnyH_done (by kernel_rfl) ?_ _
    clear hHeld
    go_wp2
    go_ret
    exact ⟨ret_bool HF.out.symm, bwa⟩
  · have HF : Hid (Z = true) := by show _ = _; rw [HZ2.out, qS, qD, qF, decide_eq_true rfl]; rfl
    refine wp_region_held_drew (S := fun W => W.cell? ⟨w.heap.size, 2, none⟩ = some (.int .i64 xs) ∧ W.cell? ⟨w.heap.size, 3, none⟩ = some (.slice C n c) ∧ W.cell? ⟨w.heap.size, 4, none⟩ = some (.int .i64 xd)) (by kernel_rfl) ⟨c2, c3, c4⟩ (fun hHeld => ?_)
    refine wpAnyH_take (i := 0) (oi := ⟨_, _, _, _, _, _⟩) (v := ?_) rfl (by kernel_rfl) (by kernel_rfl) (by kernel_rfl) (fun _ _ _ h => h) (Or.inl ⟨by rfl, ?_⟩) (by assumption) ?_
    rotate_left
    · intro w hSw; (try dsimp only at hSw); go_simp; (try (with_reducible rfl))
    try simp only [Act.put, List.setIfInBounds_toArray, List.set_cons_zero, List.set_cons_succ]
    refine wpAnyH_take (i := 1) (oi := ⟨_, _, _, _, _, _⟩) (v := ?_) rfl (by kernel_rfl) (by kernel_rfl) (by kernel_rfl) (fun _ _ _ h => h) (Or.inl ⟨by rfl, ?_⟩) (by assumption) ?_
    rotate_left
    · intro w hSw; (try dsimp only at hSw); go_simp; (try (with_reducible rfl))
    try simp only [Act.put, List.setIfInBounds_toArray, List.set_cons_zero, List.set_cons_succ]
    refine wpAnyH_ready (rs := [2]) (by kernel_rfl) (by simp) ?_
    refine AllReadyH.cons (o := ⟨_, _, _, _, _, _⟩) rfl (fun K hK => ?_) AllReadyH.nil
    go_simp
    refine (isWithin_is qS _).mono ?_
    rintro e w5 ⟨rfl, rfl⟩
    refine hK.out _ _ hS1 (fun hHeld => ?_)
    clear hK K
    try simp only [Act.put, List.setIfInBounds_toArray, List.set_cons_zero, List.set_cons_succ]
    refine wpAnyH_take (i := 3) (oi := ⟨_, _, _, _, _, _⟩) (v := ?_) rfl (by kernel_rfl) (by kernel_rfl) (by kernel_rfl) (fun _ _ _ h => h) (Or.inl ⟨by rfl, ?_⟩) (by assumption) ?_
    rotate_left
    · intro w hSw; (try dsimp only at hSw); go_simp; (try (with_reducible rfl))
    try simp only [Act.put, List.setIfInBounds_toArray, List.set_cons_zero, List.set_cons_succ]
    refine wpAnyH_take (i := 4) (oi := ⟨_, _, _, _, _, _⟩) (v := ?_) rfl (by kernel_rfl) (by kernel_rfl) (by kernel_rfl) (fun _ _ _ h => h) (Or.inl ⟨by rfl, ?_⟩) (by assumption) ?_
    rotate_left
    · intro w hSw; (try dsimp only at hSw); go_simp; (try (with_reducible rfl))
    try simp only [Act.put, List.setIfInBounds_toArray, List.set_cons_zero, List.set_cons_succ]
    refine wpAnyH_take (i := 5) (oi := ⟨_, _, _, _, _, _⟩) (v := ?_) rfl (by kernel_rfl) (by kernel_rfl) (by kernel_rfl) (fun _ _ _ h => h) (Or.inl ⟨by rfl, ?_⟩) (by assumption) ?_
    rotate_left
    · intro w hSw; (try dsimp only at hSw); go_simp; (try (with_reducible rfl))
    try simp only [Act.put, List.setIfInBounds_toArray, List.set_cons_zero, List.set_cons_succ]
    refine wpAnyH_take (i := 6) (oi := ⟨_, _, _, _, _, _⟩) (v := ?_) rfl (by kernel_rfl) (by kernel_rfl) (by kernel_rfl) (fun _ _ _ h => h) (Or.inl ⟨by rfl, ?_⟩) (by assumption) ?_
    rotate_left
    · intro w hSw; (try dsimp only at hSw); go_simp; (try (with_reducible rfl))
    try simp only [Act.put, List.setIfInBounds_toArray, List.set_cons_zero, List.set_cons_succ]
    refine wpAnyH_take (i := 7) (oi := ⟨_, _, _, _, _, _⟩) (v := ?_) rfl (by kernel_rfl) (by kernel_rfl) (by kernel_rfl) (fun _ _ _ h => h) (Or.inl ⟨by rfl, ?_⟩) (by assumption) ?_
    rotate_left
    · intro w hSw; (try dsimp only at hSw); go_simp; (try (with_reducible rfl))
    try simp only [Act.put, List.setIfInBounds_toArray, List.set_cons_zero, List.set_cons_succ]
    refine wpAnyH_take (i := 8) (oi := ⟨_, _, _, _, _, _⟩) (v := ?_) rfl (by kernel_rfl) (by kernel_rfl) (by kernel_rfl) (fun _ _ _ h => h) (Or.inl ⟨by rfl, ?_⟩) (by assumption) ?_
    rotate_left
    · intro w hSw; (try dsimp only at hSw); go_simp; (try (with_reducible rfl))
    try simp only [Act.put, List.setIfInBounds_toArray, List.set_cons_zero, List.set_cons_succ]
    refine wpAnyH_ready (rs := [9]) (by kernel_rfl) (by simp) ?_
    refine AllReadyH.cons (o := ⟨_, _, _, _, _, _⟩) rfl (fun K hK => ?_) AllReadyH.nil
    go_simp
    refine (cC _).mono ?_
    rintro e w5 ⟨rfl, rfl⟩
    refine hK.out _ _ hS1 (fun hHeld => ?_)
    clear hK K
    try simp only [Act.put, List.setIfInBounds_toArray, List.set_cons_zero, List.set_cons_succ]
    refine wpAnyH_take (i := 10) (oi := ⟨_, _, _, _, _, _⟩) (v := ?_) rfl (by kernel_rfl) (by kernel_rfl) (by kernel_rfl) (fun _ _ _ h => h) (Or.inl ⟨by rfl, ?_⟩) (by assumption) ?_
    rotate_left
    · intro w hSw; (try dsimp only at hSw); go_simp; (try (with_reducible rfl))
    try simp only [Act.put, List.setIfInBounds_toArray, List.set_cons_zero, List.set_cons_succ]
    refine wpAnyH_take (i := 11) (oi := ⟨_, _, _, _, _, _⟩) (v := ?_) rfl (by kernel_rfl) (by kernel_rfl) (by kernel_rfl) (fun _ _ _ h => h) (Or.inl ⟨by rfl, ?_⟩) (by assumption) ?_
    rotate_left
    · intro w hSw; (try dsimp only at hSw); go_simp; (try (with_reducible rfl))
    try simp only [Act.put, List.setIfInBounds_toArray, List.set_cons_zero, List.set_cons_succ]
    refine wpAnyH_take (i := 12) (oi := ⟨_, _, _, _, _, _⟩) (v := ?_) rfl (by kernel_rfl) (by kernel_rfl) (by kernel_rfl) (fun _ _ _ h => h) (Or.inl ⟨by rfl, ?_⟩) (by assumption) ?_
    rotate_left
    · intro w hSw; (try dsimp only at hSw); go_simp; (try (with_reducible rfl))
    try simp only [Act.put, List.setIfInBounds_toArray, List.set_cons_zero, List.set_cons_succ]
    refine wpAnyH_take (i := 13) (oi := ⟨_, _, _, _, _, _⟩) (v := ?_) rfl (by kernel_rfl) (by kernel_rfl) (by kernel_rfl) (fun _ _ _ h => h) (Or.inl ⟨by rfl, ?_⟩) (by assumption) ?_
    rotate_left
    · intro w hSw; (try dsimp only at hSw); go_simp; (try (with_reducible rfl))
    try simp only [Act.put, List.setIfInBounds_toArray, List.set_cons_zero, List.set_cons_succ]
    refine wpAnyH_take (i := 14) (oi := ⟨_, _, _, _, _, _⟩) (v := ?_) rfl (by kernel_rfl) (by kernel_rfl) (by kernel_rfl) (fun _ _ _ h => h) (Or.inl ⟨by rfl, ?_⟩) (by assumption) ?_
    rotate_left
    · intro w hSw; (try dsimp only at hSw); go_simp; (try (with_reducible rfl))
    try simp only [Act.put, List.setIfInBounds_toArray, List.set_cons_zero, List.set_cons_succ]
    refine wpAnyH_ready (rs := [15]) (by kernel_rfl) (by simp) ?_
    refine AllReadyH.cons (o := ⟨_, _, _, _, _, _⟩) rfl (fun K hK => ?_) AllReadyH.nil
    go_simp
    refine hK.out _ _ hSa (fun hHeld => ?_)
    clear hK K
    try simp only [Act.put, List.setIfInBounds_toArray, List.set_cons_zero, List.set_cons_succ]
    refine wpAnyH_ready (rs := [16]) (by kernel_rfl) (by simp) ?_
    refine AllReadyH.cons (o := ⟨_, _, _, _, _, _⟩) rfl (fun K hK => ?_) AllReadyH.nil
    go_simp
    refine (fit_is qD _ 1 1 _ rfl hrd (by omega)).mono ?_
    rintro e w5 ⟨rfl, rfl⟩
    refine hK.out _ _ hSa (fun hHeld => ?_)
    clear hK K
    try simp only [Act.put, List.setIfInBounds_toArray, List.set_cons_zero, List.set_cons_succ]
    refine wpAnyH_take (i := 17) (oi := ⟨_, _, _, _, _, _⟩) (v := ?_) rfl (by kernel_rfl) (by kernel_rfl) (by kernel_rfl) (fun _ _ _ h => h) (Or.inl ⟨by rfl, ?_⟩) (by assumption) ?_
    rotate_left
    · intro w hSw; (try dsimp only at hSw); go_simp; (try (with_reducible rfl))
    try simp only [Act.put, List.setIfInBounds_toArray, List.set_cons_zero, List.set_cons_succ]
    refine wpAnyH_take (i := 18) (oi := ⟨_, _, _, _, _, _⟩) (v := ?_) rfl (by kernel_rfl) (by kernel_rfl) (by kernel_rfl) (fun _ _ _ h => h) (Or.inl ⟨by rfl, ?_⟩) (by assumption) ?_
    rotate_left
    · intro w hSw; (try dsimp only at hSw); go_simp; (try (with_reducible rfl))
    try simp only [Act.put, List.setIfInBounds_toArray, List.set_cons_zero, List.set_cons_succ]
    refine wpAnyH_take (i := 19) (oi := ⟨_, _, _, _, _, _⟩) (v := ?_) rfl (by kernel_rfl) (by kernel_rfl) (by kernel_rfl) (fun _ _ _ h => h) (Or.inl ⟨by rfl, ?_⟩) (by assumption) ?_
    rotate_left
    · intro w hSw; (try dsimp only at hSw); go_simp; (try (with_reducible rfl))
    try simp only [Act.put, List.setIfInBounds_toArray, List.set_cons_zero, List.set_cons_succ]
    refine wpAnyH_take (i := 20) (oi := ⟨_, _, _, _, _, _⟩) (v := ?_) rfl (by kernel_rfl) (by kernel_rfl) (by kernel_rfl) (fun _ _ _ h => h) (Or.inl ⟨by rfl, ?_⟩) (by assumption) ?_
    rotate_left
    · intro w hSw; (try dsimp only at hSw); go_simp; (try (with_reducible rfl))
    try simp only [Act.put, List.setIfInBounds_toArray, List.set_cons_zero, List.set_cons_succ]
    refine wpAnyH_ready (rs := [21]) (by kernel_rfl) (by simp) ?_
    refine AllReadyH.cons (o := ⟨_, _, _, _, _, _⟩) rfl (fun K hK => ?_) AllReadyH.nil
    go_simp
    refine (fit_is qF _ n c _ HN.out.symm hra (by omega)).mono ?_
    rintro e w5 ⟨rfl, rfl⟩
    refine hK.out _ _ hSa (fun hHeld => ?_)
    clear hK K
    try simp only [Act.put, List.setIfInBounds_toArray, List.set_cons_zero, List.set_cons_succ]
    refine wpAnyH_take (i := 22) (oi := ⟨_, _, _, _, _, _⟩) (v := ?_) rfl (by kernel_rfl) (by kernel_rfl) (by kernel_rfl) (fun _ _ _ h => h) (Or.inl ⟨by rfl, ?_⟩) (by assumption) ?_
    rotate_left
    · intro w hSw; (try dsimp only at hSw); go_simp; (try (with_reducible rfl))
    try simp only [Act.put, List.setIfInBounds_toArray, List.set_cons_zero, List.set_cons_succ]
    refine wpAnyH_take (i := 23) (oi := ⟨_, _, _, _, _, _⟩) (v := ?_) rfl (by kernel_rfl) (by kernel_rfl) (by kernel_rfl) (fun _ _ _ h => h) (Or.inl ⟨by rfl, ?_⟩) (by assumption) ?_
    rotate_left
    · intro w hSw; (try dsimp only at hSw); go_simp; (try (with_reducible rfl))
    try simp only [Act.put, List.setIfInBounds_toArray, List.set_cons_zero, List.set_cons_succ]
    refine wpAnyH_done (by kernel_rfl) ?_ _
    clear hHeld
    go_wp2
    go_ret
    exact ⟨ret_bool HF.out.symm, bwa⟩
theorem rightPiece_any {w : World} {C : Option Addr} {c : Nat} {p : Pce} (hr : Rd w C (intV p.chunks)) (hc : p.chunks.length ≤ c) (hcm : c ≤ maxLen) :
    Calls Tryd.prog 33 #[pcA p C c] w fun e w' => e = .returned (.bool (pcB p)) ∧ Below w.heap.size w w' := by
  cases hk : (rt p.l p.r && !(decide (p.l = 0) && decide (p.r = 0))) with
  | false => exact rightPiece_bad hr hc hcm hk
  | true => exact rightPiece_good hr hc hcm hk
end Go.Proofs.YtgafjbmpaeejbaaDoor
namespace Go.Proofs.YtgafjbmpaeejbaaDoor
open Go.RowKit

theorem Blk.row {w : World} {g : Nat} {cs cs' : List Value} {t : TypeId} (h : Blk w g cs t) : Blk (w.setRow g cs'.toArray) g cs' t := setRow_heap w g cs.toArray cs'.toArray t (0, 0) h
theorem Blk.rowOther {w : World} {g k : Nat} {cs : List Value} {t : TypeId} (h : Blk w k cs t) (hne : k ≠ g) (x : Array Value) : Blk (w.setRow g x) k cs t := by
  unfold Blk
  rw [setRow_other w g k x hne]
  exact h
theorem Blk.read {w : World} {g : Nat} {cs : List Value} {t : TypeId} (h : Blk w g cs t) (o : Nat) (xs : List Value) (hx : ∀ j u, xs[j]? = some u → cs[o + j]? = some u) : ∀ j u, xs[j]? = some u → w.cell? ((⟨g, o, none⟩ : Addr).add j) = some u := by
  intro j u hu
  rw [Addr.add_lit, h.cell]
  exact hx j u hu
theorem wp_copy2 {P : Program} (w : World) {o : Oper} {a : Act} {K : Act → World → Prop} {Q : Exit → Act → World → Prop} (d s : Operand) (t t' : TypeId)
    (ho : o.op = .call { callee := .builtin .copy, args := #[d, s], argTypes := #[t, t'] }) (v u : Value) (hd : a.eval d = v) (hs : a.eval s = u) {v' : Value} {w' : World}
    (hr : (Builtin.copy_ #[t, t'] o.type #[v, u]).run P w = .ok v' w') (h : K (a.put o.dst v') w') : o.wp P a w K Q := by
  unfold Oper.wp
  simp [execOp, ho, resolve, invoke, builtin, hd, hs, hr, Result.andThen]
  exact h
theorem wpCopy {P : Program} (w : World) {ops : Array Oper} {rest : List Oper} {o : Oper} {a : Act} {Q : Exit → Act → World → Prop} (hgd : o.guard = none) (d s : Operand) (t t' : TypeId)
    (ho : o.op = .call { callee := .builtin .copy, args := #[d, s], argTypes := #[t, t'] }) (v u : Value) (hd : a.eval d = v) (hs : a.eval s = u) {v' : Value} {w' : World}
    (hr : (Builtin.copy_ #[t, t'] o.type #[v, u]).run P w = .ok v' w') (h : wpList P ops Q rest (a.put o.dst v') w') : wpList P ops Q (o :: rest) a w :=
  wpList_plain hgd fun _ hK => wp_copy2 w d s t t' ho v u hd hs hr (hK _ _ h)
theorem stepCopy {P : Program} {w w' : World} {ops : Array Oper} {o : Oper} {a : Act} {K : Act → World → Prop} {Q : Exit → Act → World → Prop} {E : Prop} (hw : Region.wanted o (yielded ops a.tmps) = true) (d s : Operand) (t t' : TypeId)
    (ho : o.op = .call { callee := .builtin .copy, args := #[d, s], argTypes := #[t, t'] }) (v u v' : Value) (hd : a.eval d = v) (hs : a.eval s = u)
    (hr : (Builtin.copy_ #[t, t'] o.type #[v, u]).run P w = .ok v' w') (h : K (a.put o.dst v') w') : if Region.wanted o (yielded ops a.tmps) = true then Oper.wp P o a w K Q else E := by
  rw [if_pos hw]
  exact wp_copy2 w d s t t' ho v u hd hs hr h
theorem stepApp2 {P : Program} {w w' : World} {ops : Array Oper} {o : Oper} {a : Act} {K : Act → World → Prop} {Q : Exit → Act → World → Prop} {E : Prop} (hw : Region.wanted o (yielded ops a.tmps) = true) (s x : Operand) (t : TypeId)
    (ho : o.op = .call { callee := .builtin .append, args := #[s, x], argTypes := #[t, t] }) (v1 v2 v : Value) (hs : a.eval s = v1) (hx : a.eval x = v2)
    (hrun : (Builtin.append_ #[t, t] o.type #[v1, v2]).run P w = .ok v w') (h : K (a.put o.dst v) w') : if Region.wanted o (yielded ops a.tmps) = true then Oper.wp P o a w K Q else E := by
  rw [if_pos hw]
  exact Lib.wp_append_run w s x t t ho v1 v2 hs hx v w' hrun h
end Go.Proofs.YtgafjbmpaeejbaaDoor
namespace Go.Proofs.YtgafjbmpaeejbaaDoor
open Go.RowKit

/-- A new row begins with these bytes. -/
def Bytes8 (w : World) (g : Nat) (l : List UInt8) : Prop :=
  ∃ C fr t, w.heap[g]? = some (.cells C t fr) ∧ (∀ (i : Nat) (b : UInt8), l[i]? = some b → C[i]? = some (Value.int .u8 (b.toNat : Int))) ∧ ∀ i, i < l.length → i < fr.1
section
variable {w : World} {g : Nat} {l : List UInt8}
theorem Bytes8.cell (h : Bytes8 w g l) (i : Nat) (hi : i < l.length) : w.cell? ⟨g, i, none⟩ = some (.int .u8 (l[i].toNat : Int)) := by
  obtain ⟨C, fr, t, h1, h2, _⟩ := h
  rw [cell_of_row w g i C t fr h1]
  exact h2 i _ (List.getElem?_eq_getElem hi)
theorem Bytes8.rd (h : Bytes8 w g l) : Rd w (some ⟨g, 0, none⟩) (by8 l) := by
  refine .inr ⟨_, rfl, fun j u hu => ?_⟩
  have hj : j < l.length := by have := (List.getElem?_eq_some_iff.1 hu).1; rwa [by8_length] at this
  rw [by8_at l j hj] at hu
  injection hu with hu
  rw [Addr.add_lit, Nat.zero_add, h.cell j hj, hu]
theorem Bytes8.frozen (h : Bytes8 w g l) (i : Nat) (hi : i < l.length) : w.frozen? ⟨g, i, none⟩ = false := by
  obtain ⟨C, fr, t, h1, _, h3⟩ := h
  have := h3 i hi
  simp [World.frozen?, h1]
  omega
theorem Bytes8.set_ (h : Bytes8 w g l) (k : Nat) (b : UInt8) : Bytes8 (w.setCell ⟨g, k, none⟩ (.int .u8 (b.toNat : Int))) g (l.set k b) := by
  obtain ⟨C, fr, t, h1, h2, h3⟩ := h
  refine ⟨C.setIfInBounds k (.int .u8 (b.toNat : Int)), fr, t, by simp [World.setCell, Array.getElem?_modify, h1], ?_, by simpa using h3⟩
  intro i x hx
  rw [List.getElem?_set] at hx
  rw [Array.getElem?_setIfInBounds]
  split at hx
  · rename_i e
    subst e
    split at hx
    · rename_i hk
      injection hx with hx
      have := h2 k _ (List.getElem?_eq_getElem hk)
      rw [if_pos rfl, if_pos (Array.getElem?_eq_some_iff.1 this).1, hx]
    · cases hx
  · rename_i e
    rw [if_neg e]
    exact h2 i x hx
end
theorem conv_bytesC (s : ByteArray) (w : World) (hs : s.size ≤ 140737488355328) : ∃ c w', s.size ≤ c ∧ c ≤ maxLen ∧ (convert 9 57 (.string s)).run Tryd.prog w = .ok (.slice (some ⟨w.heap.size, 0, none⟩) s.size c) w' ∧ Bytes8 w' w.heap.size s.data.toList ∧ Below w.heap.size w w' := by
  refine ⟨_, _, grownCap_ge w _ _ _, grownCap_le_maxLen w _ _ _ (by unfold maxLen; omega), run_bytes_of_string w 9 57 5 s Tryd.underlying9 Tryd.underlying57 Tryd.underlying5, ?_, ?_⟩
  · refine ⟨_, _, _, heap_alloc_new w.drew _, ?_, ?_⟩
    · intro i b hb
      have hi : i < s.data.size := by have := (List.getElem?_eq_some_iff.1 hb).1; simpa using this
      have e : s.data[i] = b := by
        rw [Array.getElem?_toList, Array.getElem?_eq_getElem hi] at hb
        injection hb
      unfold bytesRow
      rw [Array.getElem?_append_left (by simpa using hi), Array.getElem?_map, Array.getElem?_eq_getElem hi, e]
      rfl
    · intro i hi
      have hi' : i < s.data.size := by simpa using hi
      simp only [bytesRow, Array.size_append, Array.size_map]
      omega
  · exact ((Below.refl w.heap.size w).drew).alloc (Nat.le_refl _) _
theorem conv_bytes (s : ByteArray) (w : World) : ∃ c w', (convert 9 57 (.string s)).run Tryd.prog w = .ok (.slice (some ⟨w.heap.size, 0, none⟩) s.size c) w' ∧ Bytes8 w' w.heap.size s.data.toList ∧ Below w.heap.size w w' := by
  refine ⟨_, _, run_bytes_of_string w 9 57 5 s Tryd.underlying9 Tryd.underlying57 Tryd.underlying5, ?_, ?_⟩
  · refine ⟨_, _, _, heap_alloc_new w.drew _, ?_, ?_⟩
    · intro i b hb
      have hi : i < s.data.size := by have := (List.getElem?_eq_some_iff.1 hb).1; simpa using this
      have e : s.data[i] = b := by
        rw [Array.getElem?_toList, Array.getElem?_eq_getElem hi] at hb
        injection hb
      unfold bytesRow
      rw [Array.getElem?_append_left (by simpa using hi), Array.getElem?_map, Array.getElem?_eq_getElem hi, e]
      rfl
    · intro i hi
      have hi' : i < s.data.size := by simpa using hi
      simp only [bytesRow, Array.size_append, Array.size_map]
      omega
  · exact ((Below.refl w.heap.size w).drew).alloc (Nat.le_refl _) _
theorem Bytes8.below {w w' : World} {g : Nat} {l : List UInt8} (h : Bytes8 w g l) (hb : Below w.heap.size w w') : Bytes8 w' g l := by
  obtain ⟨C, fr, t, h1, h2, h3⟩ := h
  exact ⟨C, fr, t, by rw [hb.block g (Array.getElem?_eq_some_iff.1 h1).1]; exact h1, h2, h3⟩
theorem Bytes8.lt {w : World} {g : Nat} {l : List UInt8} (h : Bytes8 w g l) : g < w.heap.size := by
  obtain ⟨C, fr, t, h1, _⟩ := h
  exact (Array.getElem?_eq_some_iff.1 h1).1
theorem Blk.rd {w : World} {g : Nat} {cs : List Value} {t : TypeId} (h : Blk w g cs t) : Rd w (some ⟨g, 0, none⟩) cs :=
  .inr ⟨_, rfl, fun j u hu => by rw [Addr.add_lit, Nat.zero_add, h.cell j, hu]⟩

/-- n zeroes. -/
def zer (n : Nat) : List UInt8 := List.replicate n 0
theorem zer_length (n : Nat) : (zer n).length = n := List.length_replicate
theorem made_zer (n : Nat) : madeCells (Value.int .u8 0).cells n = (by8 (zer n)).toArray := by
  apply Array.ext'
  rw [show (Value.int .u8 0).cells = #[.int .u8 0] from rfl, toList_madeCells_one]
  simp [by8, zer]
/-- make([]byte, n). -/
theorem make_zer (n : Nat) (hn : n ≤ 140737488355328) (w : World) : (Instr.makeSlice 57 (.int .i64 (n : Int)) (.int .i64 (n : Int))).run Tryd.prog w = .ok (.slice (some ⟨w.heap.size, 0, none⟩) n n) (w.alloc (.cells (by8 (zer n)).toArray 5)) := by
  obtain ⟨i, hi, hz0, hz1, hz2⟩ := info_parts Tryd.info8
  rw [run_make w 57 5 i (.int .u8 0) Tryd.underlying57 hi hz0 .i64 .i64 n n (by omega) (by omega) (by rw [hz2]; omega) (by omega), Int.toNat_natCast, hz1, Nat.mul_one, made_zer]
end Go.Proofs.YtgafjbmpaeejbaaDoor
namespace Go.Proofs.YtgafjbmpaeejbaaDoor
open Go.RowKit

theorem headR_nums (m : Man) : headR m = (numsR m.author m.version m.prev m.epoch m.next m.seen m.head && decide (m.pieces.length ≤ 32)) := by
  unfold headR
  congr 1
  exact (Bool.eq_iff_iff.2 numsR_iff).symm
theorem manR_split (m : Man) : manR m = (numsR m.author m.version m.prev m.epoch m.next m.seen m.head && decide (m.pieces.length ≤ 32) && (m.pieces.all pcB && sortedL (m.pieces.map ppth))) := by
  unfold manR
  rw [headR_nums, Bool.and_assoc]
  congr 1
  cases hs : sortedL (m.pieces.map ppth) with
  | false => simp
  | true =>
    rw [Bool.and_true, Bool.and_true]
    refine Bool.eq_iff_iff.2 ?_
    rw [List.all_eq_true, List.all_eq_true]
    constructor
    · intro h p hp
      have := h p hp
      rw [pceR_split, Bool.and_eq_true] at this
      exact this.2
    · intro h p hp
      rw [pceR_split, Bool.and_eq_true]
      exact ⟨srt_right hs _ (List.mem_map_of_mem hp), h p hp⟩

theorem noSs (n : Nat) : madeCells (Value.string ⟨#[]⟩).cells n = (strV (List.replicate n noS)).toArray := by
  apply Array.ext'
  rw [show (Value.string ⟨#[]⟩).cells = #[.string ⟨#[]⟩] from rfl, toList_madeCells_one]
  simp [strV]
/-- make([]string, n). -/
theorem make_strs (n : Nat) (hn : n ≤ 1000000) (w : World) : (Instr.makeSlice 52 (.int .i64 (n : Int)) (.int .i64 (n : Int))).run Tryd.prog w = .ok (.slice (some ⟨w.heap.size, 0, none⟩) n n) (w.alloc (.cells (strV (List.replicate n noS)).toArray 9)) := by
  obtain ⟨i, hi, hz0, hz1, hz2⟩ := info_parts Tryd.infoS
  rw [run_make w 52 9 i (.string ⟨#[]⟩) Tryd.underlying52 hi hz0 .i64 .i64 n n (by omega) (by omega) (by rw [hz2]; omega) (by omega), Int.toNat_natCast, hz1, Nat.mul_one, noSs]
def pathsOf (ps : List Pce) : List ByteArray := ps.map (·.path)
theorem paths_set {ps : List Pce} {n j : Nat} (hn : ps.length = n) (hj : j < ps.length) : (strV (pathsOf (ps.take j) ++ List.replicate (n - j) noS)).set j (.string ps[j].path) = strV (pathsOf (ps.take (j + 1)) ++ List.replicate (n - (j + 1)) noS) := by
  unfold strV pathsOf
  rw [← List.map_set]
  congr 1
  rw [List.set_append_right _ _ (by simp; omega), List.length_map, List.length_take, Nat.min_eq_left (by omega), Nat.sub_self, show n - j = (n - (j + 1)) + 1 by omega, List.replicate_succ, List.set_cons_zero, List.take_add_one, List.getElem?_eq_getElem hj, List.map_append, List.append_assoc]
  rfl

set_option maxHeartbeats 4000000 in
set_option maxRecDepth 20000 in
theorem right12_any {w : World} {A : Option Addr} {c : Nat} {m : Man} (h : Mt w A c m) (hs : ∀ p ∈ m.pieces, p.path.size < 4294967281) :
    Calls Tryd.prog 18 #[manV m A c] w fun e w' => e = .returned (.bool (manR m)) ∧ Below w.heap.size w w' := by
  obtain ⟨a1, a2, a3, a4, a5, a6, a7, ps⟩ := m
  obtain ⟨hps, hcap, hcm⟩ := h
  dsimp only at hps hcap hs
  unfold manV
  dsimp only
  have hal : ∀ (W : World) (o : Obj), Below W.heap.size W (W.alloc o) := fun W o => (Below.refl _ _).alloc (Nat.le_refl _) o
  obtain ⟨n, hn0⟩ : ∃ n, n = ps.length := ⟨_, rfl⟩
  have hnb : n ≤ c ∧ c ≤ 9223372036854775807 := by unfold maxLen at hcm; omega
  have HR : Hid (manR ⟨a1, a2, a3, a4, a5, a6, a7, ps⟩ = (numsR a1 a2 a3 a4 a5 a6 a7 && decide (n ≤ 32) && (ps.all pcB && sortedL (ps.map ppth)))) := by rw [hn0]; exact manR_split _
  rw [← hn0]
  have HN := hid hn0
  have HSZ := hid hs
  clear hn0 hs hcap hcm
  generalize manR ⟨a1, a2, a3, a4, a5, a6, a7, ps⟩ = Z at *
  have pk := Blk.new w [.int .i64 a1, .int .i64 a2, .int .i64 a3, .int .i64 a4, .int .i64 a5, .int .i64 a6, .int .i64 a7, .slice A n c] 24
  have b0 := hal w (.cells #[.int .i64 a1, .int .i64 a2, .int .i64 a3, .int .i64 a4, .int .i64 a5, .int .i64 a6, .int .i64 a7, .slice A n c] 24)
  by_cases h32 : (32 : Int) < n
  · have HF : Hid (Z = false) := by show _ = _; rw [HR.out, decide_eq_false (by omega)]; simp
    go_enter Tryd.func18, Tryd.ntmps18
    go_wp2
    go_ret
    exact ⟨ret_bool HF.out.symm, b0⟩
  go_enter Tryd.func18, Tryd.ntmps18
  go_wp2_with fail
  refine (rightNumbers_any A c n a1 a2 a3 a4 a5 a6 a7 _).mono ?_
  rintro e w1 ⟨rfl, b1⟩
  simp only
  have pk1 := pk.below b1
  have bw := b0.trans (b1.mono b0.size)
  have k7 := pk1.cell 7
  have lg := pk1.lt
  simp only [List.getElem?_cons_zero, List.getElem?_cons_succ] at k7
  clear pk pk1 b0 b1
  cases hN : numsR a1 a2 a3 a4 a5 a6 a7
  · have HF : Hid (Z = false) := by show _ = _; rw [HR.out, hN]; simp
    go_wp2
    go_ret
    exact ⟨ret_bool HF.out.symm, bw⟩
  have HZ : Hid (Z = (ps.all pcB && sortedL (ps.map ppth))) := by show _ = _; rw [HR.out, hN, decide_eq_true (by omega)]; simp
  have hn32 : n ≤ 32 := by omega
  have hmk := make_strs n (by omega) w1
  have pb := Blk.new w1 (strV (List.replicate n noS)) 9
  have b2 := hal w1 (.cells (strV (List.replicate n noS)).toArray 9)
  have k7b := (b2.cell (p := ⟨w.heap.size, 7, none⟩) lg).trans k7
  clear hN HR
  go_wp2_with fail
  generalize w1.alloc (.cells (strV (List.replicate n noS)).toArray 9) = w2 at *
  have bw2 := bw.trans (b2.mono bw.size)
  have hgw : w.heap.size ≤ w1.heap.size := bw.size
  generalize w1.heap.size = g at *
  have hg2 := pb.lt
  clear k7 k7b b2 bw lg hmk
  go_loopw [22] (fun i wr => ∃ j : Nat, j ≤ n ∧ i = .int .i64 j ∧ Hid ((ps.take j).all pcB = true) ∧ Blk wr g (strV (pathsOf (ps.take j) ++ List.replicate (n - j) noS)) 9 ∧ Below w.heap.size w wr) (fun i _ => n - (intOf i).toNat)
  case atStart => exact ⟨0, by omega, rfl, rfl, by simpa [pathsOf] using pb, bw2⟩
  case round =>
    clear pb bw2 hg2
    obtain ⟨j, hj, rfl, HT, pb, bw⟩ := hrel
    have hp := hps.below bw
    have hg2 := pb.lt
    by_cases hjn : j < n
    · have hjl : j < ps.length := by rw [← HN.out]; exact hjn
      have hz : (0 : Int) ≤ j := by omega
      have hlt : (j : Int) < n := by omega
      obtain ⟨b, og, C, cc, rfl, x0, x1, x2, x3, x4, x5, x6, rx, hcx, hcx2, -⟩ := hp.pc hjl
      have HT2 : Hid ((ps.take (j + 1)).all pcB = pcB ps[j]) := by show _ = _; rw [all_more pcB ps j hjl, HT.out, Bool.true_and]
      have HNE : Hid (pcB ps[j] = false → Z = false) := by
        refine hid fun h => ?_
        rw [HZ.out]
        have : ps.all pcB = false := by
          refine Bool.eq_false_iff.2 fun ha => ?_
          rw [List.all_eq_true] at ha
          exact Bool.false_ne_true (h.symm.trans (ha _ (List.getElem_mem hjl)))
        rw [this]; rfl
      have HSET := hid (paths_set HN.out.symm hjl)
      have HJ := hid hjn
      generalize ps[j] = x at *
      obtain ⟨xp, xh, xs, xc, xd, xl, xr⟩ := x
      dsimp only at x0 x1 x2 x3 x4 x5 x6 rx hcx HSET
      have b3 := hal wr (.cells #[.string xp, .bool xh, .int .i64 xs, .slice C xc.length cc, .int .i64 xd, .int .i64 xl, .int .i64 xr] 35)
      have px := Blk.new wr [.string xp, .bool xh, .int .i64 xs, .slice C xc.length cc, .int .i64 xd, .int .i64 xl, .int .i64 xr] 35
      have rx3 := rx.below b3
      have cP := rightPiece_any (p := ⟨xp, xh, xs, xc, xd, xl, xr⟩) rx3 hcx hcx2
      go_wp2_with fail
      refine cP.mono ?_
      rintro e w4 ⟨rfl, b4⟩
      simp only
      have px4 := px.below b4
      have b34 := below2 b3 b4
      have pb4 := pb.below b34
      have bw4 := bw.trans (b34.mono bw.size)
      have y0 := px4.cell 0
      simp only [List.getElem?_cons_zero] at y0
      have fz := pb4.frozen j
      have pz := pb4.cell j
      have pb5 := pb4.set_ j (.string xp)
      rw [HSET.out] at pb5
      have hz2 : ∃ u, (strV (pathsOf (ps.take j) ++ List.replicate (n - j) noS))[j]? = some u := ⟨_, List.getElem?_eq_getElem (by rw [strV_length, List.length_append, pathsOf, List.length_map, List.length_take, List.length_replicate]; have := HJ.out; have := HN.out; omega)⟩
      obtain ⟨u, hu⟩ := hz2
      rw [hu] at pz
      clear cP hu x0 x1 x2 x3 x4 x5 x6 rx rx3 b3 px b34 hp pb px4 HSET
      cases hq : pcB ⟨xp, xh, xs, xc, xd, xl, xr⟩
      · have HF := hid (HNE.out hq)
        clear HNE HT2
        go_wp2
        go_ret
        exact ⟨ret_bool HF.out.symm, bw4⟩
      · have HT3 := hid (HT2.out.trans hq)
        clear HNE HT2 hq
        have bw5 := bw4.setCell (p := ⟨g, j, none⟩) hgw (.string xp)
        go_wp2
        go_roundw
        case rel => exact ⟨j + 1, HJ.out, by go_num, HT3, pb5, bw5⟩
        case measure => have := HJ.out; simp [intOf]; omega
    · have hjn2 : j = n := by omega
      have hnl : ¬ (j : Int) < n := by omega
      rw [hjn2, Nat.sub_self, List.replicate_zero, List.append_nil, List.take_of_length_le (by rw [HN.out]; exact Nat.le_refl _)] at pb
      have HF : Hid (Z = sortedL (lst (pathsOf ps))) := by
        have ht := HT.out
        rw [hjn2, List.take_of_length_le (by rw [HN.out]; exact Nat.le_refl _)] at ht
        show _ = _
        rw [HZ.out, ht, Bool.true_and]
        congr 1
        simp [lst, pathsOf, ppth]
      have cS := sorted_any (some ⟨g, 0, none⟩) n n (pathsOf ps) wr (by rw [pathsOf, List.length_map, HN.out]) (Blk.rd pb) (by omega) (fun s hs => by
        obtain ⟨p, hp, rfl⟩ := List.mem_map.1 hs
        exact HSZ.out p hp)
      rw [← HF.out] at cS
      go_wp2_with fail
      refine cS.mono ?_
      rintro e w5 ⟨rfl, b5⟩
      have bw5 := bw.trans (b5.mono bw.size)
      go_wp2
      go_ret
      exact ⟨rfl, bw5⟩
end Go.Proofs.YtgafjbmpaeejbaaDoor
namespace Go.Proofs
open Go.Shelf

def Tryd.lays240_ren : Go.Shelf.Ren := ⟨fun | 240 => 63 | 276 => 79 | n => n, fun | 0 => 0 | 4 => 4 | 9 => 9 | 20 => 20 | 37 => 57 | 70 => 56 | 72 => 59 | 164 => 94 | 5 => 5 | n => n, fun | n => n⟩
theorem Tryd.lays240 : Go.Proofs.Lays.n240 Tryd.prog Tryd.lays240_ren := {
  mixed := by kernel_rfl
  f240 := Tryd.func63.trans (congrArg some (by kernel_rfl))
  f276 := Tryd.func79.trans (congrArg some (by kernel_rfl))
  t0 := Tryd.underlying0
  a0 := Tryd.isAgg0
  z0 := Tryd.sizeOf0
  v0 := Tryd.zeroValue0
  t4 := Tryd.underlying4
  a4 := Tryd.isAgg4
  z4 := Tryd.sizeOf4
  v4 := Tryd.zeroValue4
  t9 := Tryd.underlying9
  a9 := Tryd.isAgg9
  z9 := Tryd.sizeOf9
  v9 := Tryd.zeroValue9
  t20 := Tryd.underlying20
  a20 := Tryd.isAgg20
  z20 := Tryd.sizeOf20
  v20 := Tryd.zeroValue20
  t70 := Tryd.underlying56
  a70 := Tryd.isAgg56
  z70 := Tryd.sizeOf56
  v70 := Tryd.zeroValue56
  t72 := Tryd.underlying59
  a72 := Tryd.isAgg59
  z72 := Tryd.sizeOf59
  v72 := Tryd.zeroValue59
  t164 := Tryd.underlying94
  a164 := Tryd.isAgg94
  z164 := Tryd.sizeOf94
  v164 := Tryd.zeroValue94 }
theorem Tryd.Builder_X72_240 : Builder.X72 Tryd.prog Tryd.lays240_ren := {
  sizeBuilder := by kernel_rfl
  liesBuilder := by kernel_rfl }
namespace YtgafjbmpaeejbaaDoor
open Go.RowKit

/-- Bytes as cells, the library's way. -/
theorem cells_by8 (l : List UInt8) : Lib.byteCells l = by8 l := rfl

/-! ### The blocks that a builder may turn -/
def FB (B b : Nat) (w : World) (k : Nat) : Prop := k = b ∨ (B ≤ k ∧ ∃ cs fr, w.heap[k]? = some (.cells cs 5 fr))
def FrB (B b : Nat) (w w' : World) : Prop := Fr (FB B b w) w w'
section
variable {B b : Nat} {x y z : World}
theorem FrB.refl (B b : Nat) (w : World) : FrB B b w w := Fr.refl _ _
theorem FrB.trans (h : FrB B b x y) (k : FrB B b y z) : FrB B b x z := by
  refine Fr.trans h k fun i hi => ?_
  rcases hi with hi | ⟨hB, cs, fr, hi⟩
  · exact .inl (.inl hi)
  · by_cases hs : i < x.heap.size
    · by_cases hF : FB B b x i
      · exact .inl hF
      · exact .inl (.inr ⟨hB, cs, fr, (h.block i hs hF).symm.trans hi⟩)
    · exact .inr (by omega)
theorem FrB.below (h : FrB B b x y) (hb : B ≤ b) (hx : B ≤ x.heap.size) : Below B x y := by
  refine Fr.to_below h (fun i hi => ?_) hx
  rcases hi with rfl | ⟨h, -⟩
  · exact hb
  · exact h
theorem FrB.of_below (h : Below x.heap.size x y) : FrB B b x y := Fr.of_below _ h
theorem FrB.drewN (h : FrB B b x y) (n : Nat) : FrB B b x (y.drewN n) := ⟨h.os, h.tape, h.output, h.size, h.block⟩
theorem FrB.blk {g : Nat} {cs : List Value} {t : TypeId} (h : FrB B b x y) (hb : Blk x g cs t) (ht : t ≠ 5) (hg : g ≠ b) : Blk y g cs t := by
  unfold Blk
  rw [h.block g hb.lt ?_]
  · exact hb
  · rintro (h1 | ⟨-, cs', fr, h1⟩)
    · exact hg h1
    · unfold Blk at hb
      rw [hb] at h1
      injection h1 with h1
      injection h1 with _ h1 _
      exact ht h1
/-- Where numbers lie that a builder's writes leave as they are. -/
def Far (B : Nat) (w : World) (A : Option Addr) : Prop := ∀ ad, A = some ad → ad.block < B ∨ ∃ cs t fr, w.heap[ad.block]? = some (.cells cs t fr) ∧ t ≠ 5
theorem Far.of_blk {w : World} {g o : Nat} {cs : List Value} {t : TypeId} (h : Blk w g cs t) (ht : t ≠ 5) : Far B w (some ⟨g, o, none⟩) := fun ad e => by
  injection e with e
  subst e
  exact .inr ⟨_, _, _, h, ht⟩
theorem Rd.low {w : World} {A : Option Addr} {l : List Int} (h : Rd w A (intV l)) : l = [] ∨ ∀ W, Far w.heap.size W A := by
  rcases h with h | ⟨ad, rfl, hc⟩
  · exact .inl (by cases l with
      | nil => rfl
      | cons a l => simp [intV] at h)
  · cases l with
    | nil => exact .inl rfl
    | cons a l =>
      refine .inr fun W ad' e => ?_
      injection e with e
      subst e
      have h0 := World.block_lt_of_cell? w _ (hc 0 (.int .i64 a) rfl)
      rw [add_block] at h0
      exact .inl h0
theorem FrB.rd {A : Option Addr} {l : List Int} (h : FrB B b x y) (hr : Rd x A (intV l)) (hA : l = [] ∨ Far B x A) (hb : ∀ o u, x.cell? ⟨b, o, none⟩ = some u → u ∉ intV l) : Rd y A (intV l) := by
  rcases hr with hr | ⟨ad, rfl, hc⟩
  · exact .inl hr
  · refine .inr ⟨ad, rfl, fun j u hu => ?_⟩
    have hin := hc j u hu
    have hlt := World.block_lt_of_cell? x _ hin
    refine (World.cell?_of_block (h.block _ hlt ?_)).trans hin
    rw [add_block]
    rintro (h1 | ⟨hB, cs', fr, h1⟩)
    · have hz := hc 0 _ (List.getElem?_eq_getElem (show 0 < (intV l).length by have := (List.getElem?_eq_some_iff.1 hu).1; omega))
      have hs := World.cell?_spot hz
      obtain ⟨b', o', s⟩ := ad
      have hs' : s = none := by simpa [Addr.add] using hs
      subst hs'
      dsimp only at h1
      subst h1
      rw [Addr.add_lit] at hin
      exact hb _ u hin (List.mem_of_getElem? hu)
    · have hA' : Far B x (some ad) := hA.resolve_left fun e => by rw [e] at hu; simp [intV] at hu
      rcases hA' ad rfl with h2 | ⟨cs, t, fr2, h2, ht⟩
      · omega
      · rw [h2] at h1
        injection h1 with h1
        injection h1 with _ h1 _
        exact ht h1
end

/-! ### copyCheck, Write -/
abbrev Bu (B b : Nat) (l : List UInt8) (w : World) : Prop := Lib.IsBuilder 59 5 B b (by8 l) w
theorem bu_base {B b : Nat} {l : List UInt8} {w : World} (h : Bu B b l w) : B ≤ b := by
  rcases h with h | h <;> exact h.1
theorem bu_lt {B b : Nat} {l : List UInt8} {w : World} (h : Bu B b l w) : b < w.heap.size := by
  rcases h with h | h <;> exact h.lt
theorem bu_cells {B b : Nat} {l : List UInt8} {w : World} (h : Bu B b l w) : ∃ p v, Blk w b [.pointer p, v] 59 ∧ ∀ k n, v ≠ .int k n := by
  rcases h with ⟨-, v, h1, h2, -⟩ | ⟨-, v, h1, h2, -⟩
  all_goals
    refine ⟨_, v, h1, fun k n e => ?_⟩
    subst e
    rcases h2.2 with ⟨h3, -⟩ | ⟨g, cap, cur, h3, -⟩ <;> cases h3
theorem bu_not_int {B b : Nat} {l : List UInt8} {w : World} (h : Bu B b l w) : ∀ o u, w.cell? ⟨b, o, none⟩ = some u → ∀ k n, u ≠ .int k n := by
  obtain ⟨p, v, hb, hv⟩ := bu_cells h
  intro o u hu k n
  rw [hb.cell o] at hu
  match o, hu with
  | 0, hu => simp at hu; subst hu; intro e; cases e
  | 1, hu => simp at hu; subst hu; exact hv k n
theorem bu_below {B b : Nat} {l : List UInt8} {w w' : World} (h : Bu B b l w) (hb : Below w.heap.size w w') : Bu B b l w' := by
  have hl := bu_lt h
  rcases h with ⟨h0, v, h1, h2, h3⟩ | ⟨h0, v, h1, h2, h3⟩
  · exact .inl ⟨h0, v, by rw [hb.block b hl]; exact h1, own_below1 h2 hb, h3⟩
  · exact .inr ⟨h0, v, by rw [hb.block b hl]; exact h1, own_below1 h2 hb, h3⟩

theorem copyCheck_any {B b : Nat} {l : List UInt8} {w : World} (h : Bu B b l w) :
    Calls Tryd.prog 63 #[.pointer (some ⟨b, 0, none⟩)] w fun e w' => e = .returned (.tuple #[]) ∧ Lib.BuilderAt 59 5 B b (.pointer (some ⟨b, 0, none⟩)) (by8 l) w' ∧ (w' = w ∨ w' = w.setCell ⟨b, 0, none⟩ (.pointer (some ⟨b, 0, none⟩))) := by
  rcases h with h | h
  · refine (Any.Builder_copyCheck_fresh Tryd.lays240 Tryd.Builder_X72_240 b w h.cell0 h.shape h.frozen0).mono ?_
    rintro e w' ⟨rfl, rfl⟩
    exact ⟨rfl, h.used _, .inr rfl⟩
  · refine (Any.Builder_copyCheck_used Tryd.lays240 Tryd.Builder_X72_240 b w h.cell0).mono ?_
    rintro e w' ⟨rfl, rfl⟩
    exact ⟨rfl, h, .inl rfl⟩

set_option maxHeartbeats 2000000 in
set_option maxRecDepth 100000 in
theorem bwrite_any {B b : Nat} {l : List UInt8} {w : World} (h : Bu B b l w) (A : Option Addr) (n c : Nat) (xs : List UInt8) (hl : xs.length = n) (hr : Rd w A (by8 xs)) (hlen : l.length + n ≤ 100000000) (hBw : B ≤ w.heap.size) :
    Calls Tryd.prog 38 #[.pointer (some ⟨b, 0, none⟩), .slice A n c] w fun e w' => e = .returned (.tuple #[.int .i64 n, .nilIface]) ∧ Bu B b (l ++ xs) w' ∧ FrB B b w w' := by
  have hni := bu_not_int h
  have hbB := bu_base h
  have HL := hid hl
  clear hl
  go_enter Tryd.func38, Tryd.ntmps38
  go_wp2_with fail
  refine (copyCheck_any h).mono ?_
  rintro e w1 ⟨rfl, h1, hw⟩
  have g1 : w.grownBy w1 (some b) := by
    rcases hw with rfl | rfl
    · exact World.grownBy.refl _ _
    · exact grown_set 0 _
  have hr1 : Rd w1 A (by8 xs) := hr.grown g1 fun o u hu hm => by
    obtain ⟨x, -, rfl⟩ := List.mem_map.1 hm
    exact hni o _ hu _ _ rfl
  have f1 : FrB B b w w1 := Fr.of_grown g1 fun k e => .inl (by injection e with e; exact e.symm)
  clear hw hr hni
  obtain ⟨hB, v, hbk, hown, hne⟩ := h1
  have c0 : w1.cell? ⟨b, 0, none⟩ = some (.pointer (some ⟨b, 0, none⟩)) := by rw [Lib.cell_of_heap hbk]; rfl
  have c1 : w1.cell? ⟨b, 1, none⟩ = some v := by rw [Lib.cell_of_heap hbk]; rfl
  obtain ⟨-, A1, q1, rfl, -, -⟩ := own_form hown
  rw [by8_length] at c1 hown hbk hne
  obtain ⟨A2, c2, w2, HRUN, o2, g2⟩ := run_app (P := Tryd.prog) w1 B 57 57 5 (.int .u8 0) 1 Tryd.underlying57 Tryd.info8 rfl A1 l.length q1 (by8 l) hown A n c (by8 xs) (by rw [by8_length]; exact HL.out) hr1 (by8_one _) (by omega) (Nat.le_trans hBw f1.size) (by unfold maxLen; omega)
  have HRUN2 := hid HRUN
  clear HRUN
  have hlt : b < w1.heap.size := by
    rcases Nat.lt_or_ge b w1.heap.size with h' | h'
    · exact h'
    · simp [Array.getElem?_eq_none h'] at hbk
  have hb2 : w2.heap[b]? = some (.cells #[.pointer (some ⟨b, 0, none⟩), .slice A1 l.length q1] 59 (0, 0)) := by
    rw [g2.block b hlt (fun e => hne e.symm)]
    exact hbk
  have d0 : w2.cell? ⟨b, 0, none⟩ = some (.pointer (some ⟨b, 0, none⟩)) := by rw [Lib.cell_of_heap hb2]; rfl
  have d1 : w2.cell? ⟨b, 1, none⟩ = some (.slice A1 l.length q1) := by rw [Lib.cell_of_heap hb2]; rfl
  have fz : w2.frozen? ⟨b, 1, none⟩ = false := Lib.frozen_of_heap hb2 1
  have f2 : FrB B b w1 w2 := Fr.of_grown g2 fun k e => by
    rcases hown.2 with ⟨h3, -⟩ | ⟨g, cap, cur, h3, h4, h5, -⟩
    · rw [h3] at e; cases e
    · rw [h3] at e
      simp only [Value.ownBlock, Option.some.injEq] at e
      subst e
      exact .inr ⟨h4, _, _, h5⟩
  have f3 : FrB B b w2 (w2.setCell ⟨b, 1, none⟩ (.slice A2 (l.length + n) c2)) := Fr.of_grown (grown_set 1 _) fun k e => .inl (by injection e with e; exact e.symm)
  have put := Lib.BuilderAt.put (T := 59) (e := 5) (bs' := by8 (l ++ xs)) hB hb2 (by rw [by8_length, List.length_append, HL.out, by8_append]; exact o2) (by decide)
  have fr := (f1.trans f2).trans f3
  clear g1 g2 f1 f2 f3 hr1 hown hbk hne o2 hb2 h
  go_wp2_with (at_builtin; refine Lib.wpList_append_run _ rfl _ _ _ _ rfl _ _ rfl rfl _ _ HRUN2.out ?_)
  go_ret2
  exact ⟨rfl, .inr put, fr⟩
end YtgafjbmpaeejbaaDoor
end Go.Proofs
namespace Go.Proofs.YtgafjbmpaeejbaaDoor
open Go.RowKit

/-- What the landed code's reader takes at most. -/
abbrev L0 : Lim := ⟨4294967295, 4294967295, 4294967295, 4294967295, 4294967295, 4294967295, 4294967295, 32, 16384, 1, 600, 4294967295, 1073741824, 1073741824, 10, 4294967295⟩
theorem L0_ok : L0.Ok := by constructor <;> decide
theorem rdr_below {w w' : World} {g : Nat} {A : Option Addr} {c : Nat} {l : List UInt8} {p : Nat} {e : Int} (h : RdrAt w g A c l p e) (hb : Below w.heap.size w w') : RdrAt w' g A c l p e :=
  RdrAt.far (row := none) h h (grown_below hb) (Nat.le_refl _) (by simp)
theorem rdr_lt {w : World} {g : Nat} {A : Option Addr} {c : Nat} {l : List UInt8} {p : Nat} {e : Int} (h : RdrAt w g A c l p e) : g < w.heap.size := Blk.lt h.1

theorem next_any (bx g : Nat) (A : Option Addr) (c : Nat) (l : List UInt8) (p : Nat) (e : Int) (W : World) (hx : W.cell? ⟨bx, 0, none⟩ = some (.pointer (some ⟨g, 0, none⟩))) (h : RdrAt W g A c l p e) (hl : l.length ≤ 140737488355328) :
    Calls Tryd.prog 68 (#[] ++ #[.pointer (some ⟨bx, 0, none⟩)]) W (RdrPost W g A c l (.int .i64 (rNum l p e 4294967295).1) (rNum l p e 4294967295).2) := by
  have cc := rdNumber g A c l p e 4294967295 W h hl
  go_enter Tryd.func68, Tryd.ntmps68
  go_wp2_with fail
  refine cc.mono ?_
  rintro r w1 ⟨rfl, hq, hg⟩
  go_wp2
  go_ret
  exact ⟨rfl, hq, hg⟩

/-- Eight stores into a block. -/
theorem sets8 (w : World) (b : Nat) (u0 u1 u2 u3 u4 u5 u6 u7 : Value) :
    w.grownBy ((((((((w.setCell ⟨b, 0, none⟩ u0).setCell ⟨b, 1, none⟩ u1).setCell ⟨b, 2, none⟩ u2).setCell ⟨b, 3, none⟩ u3).setCell ⟨b, 4, none⟩ u4).setCell ⟨b, 5, none⟩ u5).setCell ⟨b, 6, none⟩ u6).setCell ⟨b, 7, none⟩ u7) (some b) :=
  grown_trans (grown_trans (grown_trans (grown_trans (grown_trans (grown_trans (grown_trans (grown_set 0 u0) (grown_set 1 u1)) (grown_set 2 u2)) (grown_set 3 u3)) (grown_set 4 u4)) (grown_set 5 u5)) (grown_set 6 u6)) (grown_set 7 u7)
theorem far_row {n b : Nat} (h : n ≤ b) : ∀ k, some b = some k → n ≤ k := fun k e => by injection e with e; omega
/-- The numbers of a manifest itself were read. -/
def NumsPost (w : World) (g : Nat) (A : Option Addr) (c : Nat) (l : List UInt8) (p : Nat) (e0 : Int) (e : Ending) (w' : World) : Prop :=
  ∃ v1 v2 v3 v4 v5 v6 v7 q e1, rInts l p e0 4294967295 7 = ([v1, v2, v3, v4, v5, v6, v7], q, e1) ∧ e = .returned (.agg #[.int .i64 v1, .int .i64 v2, .int .i64 v3, .int .i64 v4, .int .i64 v5, .int .i64 v6, .int .i64 v7, .slice none 0 0]) ∧ RdrAt w' g A c l q e1 ∧ w.grownBy w' (some g)
set_option maxHeartbeats 4000000 in
set_option maxRecDepth 20000 in
theorem readNumbers_any (g : Nat) (A : Option Addr) (c : Nat) (l : List UInt8) (p : Nat) (e0 : Int) (w : World) (h : RdrAt w g A c l p e0) (hl : l.length ≤ 140737488355328) :
    Calls Tryd.prog 44 #[.pointer (some ⟨g, 0, none⟩)] w (NumsPost w g A c l p e0) := by
  have hmf : ∀ (fn : Fn) (first cap : Array Value) (w : World), (Instr.makeFunc fn first cap).run Tryd.prog w = .ok (.func fn first cap) w := fun _ _ _ _ => rfl
  have eg := enters_of Tryd.func68 (by kernel_rfl) rfl
  have HL := hid hl
  clear hl
  have hgl := rdr_lt h
  have hal : ∀ (W : World) (o : Obj), Below W.heap.size W (W.alloc o) := fun W o => (Below.refl _ _).alloc (Nat.le_refl _) o
  have b0 := below2 (hal w (.cells #[.pointer (some ⟨g, 0, none⟩)] 68)) (hal _ (.cells #[.int .i64 0, .int .i64 0, .int .i64 0, .int .i64 0, .int .i64 0, .int .i64 0, .int .i64 0, .slice none 0 0] 24))
  have q0 := rdr_below h b0
  have g0 : w.grownBy ((w.alloc (.cells #[.pointer (some ⟨g, 0, none⟩)] 68)).alloc (.cells #[.int .i64 0, .int .i64 0, .int .i64 0, .int .i64 0, .int .i64 0, .int .i64 0, .int .i64 0, .slice none 0 0] 24)) (some g) := grown_below b0
  have kx := (Blk.new w [.pointer (some ⟨g, 0, none⟩)] 68).below (hal _ (.cells #[.int .i64 0, .int .i64 0, .int .i64 0, .int .i64 0, .int .i64 0, .int .i64 0, .int .i64 0, .slice none 0 0] 24))
  have kr := Blk.new (w.alloc (.cells #[.pointer (some ⟨g, 0, none⟩)] 68)) [.int .i64 0, .int .i64 0, .int .i64 0, .int .i64 0, .int .i64 0, .int .i64 0, .int .i64 0, .slice none 0 0] 24
  rw [World.size_alloc] at kr
  go_enter Tryd.func44, Tryd.ntmps44
  go_wp2_with fail
  generalize (w.alloc (.cells #[.pointer (some ⟨g, 0, none⟩)] 68)).alloc (.cells #[.int .i64 0, .int .i64 0, .int .i64 0, .int .i64 0, .int .i64 0, .int .i64 0, .int .i64 0, .slice none 0 0] 24) = w0 at *
  have hne1 : w.heap.size ≠ g := by omega
  have hne2 : w.heap.size + 1 ≠ g := by omega
  have x0 := kx.cell 0
  simp only [List.getElem?_cons_zero] at x0
  have cN := next_any w.heap.size g A c l p e0 w0 x0 q0 HL.out
  obtain ⟨⟨v1, p1, e1⟩, H1⟩ : ∃ z, rNum l p e0 4294967295 = z := ⟨_, rfl⟩
  rw [H1] at cN
  have H1 := hid H1
  refine cN.mono ?_
  rintro r w1 ⟨rfl, q1, hg⟩
  simp only
  have g1 := grown_trans g0 hg
  replace kx := kx.grown hg (by intro e; injection e with e; exact hne1 e.symm)
  replace kr := kr.grown hg (by intro e; injection e with e; exact hne2 e.symm)
  clear x0 cN hg q0 g0
  have x0 := kx.cell 0
  simp only [List.getElem?_cons_zero] at x0
  have cN := next_any w.heap.size g A c l p1 e1 w1 x0 q1 HL.out
  obtain ⟨⟨v2, p2, e2⟩, H2⟩ : ∃ z, rNum l p1 e1 4294967295 = z := ⟨_, rfl⟩
  rw [H2] at cN
  have H2 := hid H2
  go_wp2_with fail
  refine cN.mono ?_
  rintro r w2 ⟨rfl, q2, hg⟩
  simp only
  have g2 := grown_trans g1 hg
  replace kx := kx.grown hg (by intro e; injection e with e; exact hne1 e.symm)
  replace kr := kr.grown hg (by intro e; injection e with e; exact hne2 e.symm)
  clear x0 cN hg q1 g1
  have x0 := kx.cell 0
  simp only [List.getElem?_cons_zero] at x0
  have cN := next_any w.heap.size g A c l p2 e2 w2 x0 q2 HL.out
  obtain ⟨⟨v3, p3, e3⟩, H3⟩ : ∃ z, rNum l p2 e2 4294967295 = z := ⟨_, rfl⟩
  rw [H3] at cN
  have H3 := hid H3
  go_wp2_with fail
  refine cN.mono ?_
  rintro r w3 ⟨rfl, q3, hg⟩
  simp only
  have g3 := grown_trans g2 hg
  replace kx := kx.grown hg (by intro e; injection e with e; exact hne1 e.symm)
  replace kr := kr.grown hg (by intro e; injection e with e; exact hne2 e.symm)
  clear x0 cN hg q2 g2
  have x0 := kx.cell 0
  simp only [List.getElem?_cons_zero] at x0
  have cN := next_any w.heap.size g A c l p3 e3 w3 x0 q3 HL.out
  obtain ⟨⟨v4, p4, e4⟩, H4⟩ : ∃ z, rNum l p3 e3 4294967295 = z := ⟨_, rfl⟩
  rw [H4] at cN
  have H4 := hid H4
  go_wp2_with fail
  refine cN.mono ?_
  rintro r w4 ⟨rfl, q4, hg⟩
  simp only
  have g4 := grown_trans g3 hg
  replace kx := kx.grown hg (by intro e; injection e with e; exact hne1 e.symm)
  replace kr := kr.grown hg (by intro e; injection e with e; exact hne2 e.symm)
  clear x0 cN hg q3 g3
  have x0 := kx.cell 0
  simp only [List.getElem?_cons_zero] at x0
  have cN := next_any w.heap.size g A c l p4 e4 w4 x0 q4 HL.out
  obtain ⟨⟨v5, p5, e5⟩, H5⟩ : ∃ z, rNum l p4 e4 4294967295 = z := ⟨_, rfl⟩
  rw [H5] at cN
  have H5 := hid H5
  go_wp2_with fail
  refine cN.mono ?_
  rintro r w5 ⟨rfl, q5, hg⟩
  simp only
  have g5 := grown_trans g4 hg
  replace kx := kx.grown hg (by intro e; injection e with e; exact hne1 e.symm)
  replace kr := kr.grown hg (by intro e; injection e with e; exact hne2 e.symm)
  clear x0 cN hg q4 g4
  have x0 := kx.cell 0
  simp only [List.getElem?_cons_zero] at x0
  have cN := next_any w.heap.size g A c l p5 e5 w5 x0 q5 HL.out
  obtain ⟨⟨v6, p6, e6⟩, H6⟩ : ∃ z, rNum l p5 e5 4294967295 = z := ⟨_, rfl⟩
  rw [H6] at cN
  have H6 := hid H6
  go_wp2_with fail
  refine cN.mono ?_
  rintro r w6 ⟨rfl, q6, hg⟩
  simp only
  have g6 := grown_trans g5 hg
  replace kx := kx.grown hg (by intro e; injection e with e; exact hne1 e.symm)
  replace kr := kr.grown hg (by intro e; injection e with e; exact hne2 e.symm)
  clear x0 cN hg q5 g5
  have x0 := kx.cell 0
  simp only [List.getElem?_cons_zero] at x0
  have cN := next_any w.heap.size g A c l p6 e6 w6 x0 q6 HL.out
  obtain ⟨⟨v7, p7, e7⟩, H7⟩ : ∃ z, rNum l p6 e6 4294967295 = z := ⟨_, rfl⟩
  rw [H7] at cN
  have H7 := hid H7
  go_wp2_with fail
  refine cN.mono ?_
  rintro r w7 ⟨rfl, q7, hg⟩
  simp only
  have g7 := grown_trans g6 hg
  replace kx := kx.grown hg (by intro e; injection e with e; exact hne1 e.symm)
  replace kr := kr.grown hg (by intro e; injection e with e; exact hne2 e.symm)
  clear x0 cN hg q6 g6
  have x0 := kx.cell 0
  simp only [List.getElem?_cons_zero] at x0
  clear x0 kx
  have f0 := kr.frozen 0
  have f1 := kr.frozen 1
  have f2 := kr.frozen 2
  have f3 := kr.frozen 3
  have f4 := kr.frozen 4
  have f5 := kr.frozen 5
  have f6 := kr.frozen 6
  have f7 := kr.frozen 7
  have z0 := kr.cell 0
  have z1 := kr.cell 1
  have z2 := kr.cell 2
  have z3 := kr.cell 3
  have z4 := kr.cell 4
  have z5 := kr.cell 5
  have z6 := kr.cell 6
  have z7 := kr.cell 7
  have ks := ((((((((kr.set_ 0 (.int .i64 v1)).set_ 1 (.int .i64 v2)).set_ 2 (.int .i64 v3)).set_ 3 (.int .i64 v4)).set_ 4 (.int .i64 v5)).set_ 5 (.int .i64 v6)).set_ 6 (.int .i64 v7)).set_ 7 (.slice none 0 0))
  simp only [List.getElem?_cons_zero, List.getElem?_cons_succ] at z0 z1 z2 z3 z4 z5 z6 z7
  simp only [List.set_cons_zero, List.set_cons_succ] at ks
  have r0 := ks.cell 0
  have r1 := ks.cell 1
  have r2 := ks.cell 2
  have r3 := ks.cell 3
  have r4 := ks.cell 4
  have r5 := ks.cell 5
  have r6 := ks.cell 6
  have r7 := ks.cell 7
  simp only [List.getElem?_cons_zero, List.getElem?_cons_succ] at r0 r1 r2 r3 r4 r5 r6 r7
  have gs := sets8 w7 (w.heap.size + 1) (.int .i64 v1) (.int .i64 v2) (.int .i64 v3) (.int .i64 v4) (.int .i64 v5) (.int .i64 v6) (.int .i64 v7) (.slice none 0 0)
  have gS := grown_far g7 gs (far_row (by omega))
  have qS := RdrAt.far h q7 gs g7.size (far_row (by omega))
  have HI : Hid (rInts l p e0 4294967295 7 = ([v1, v2, v3, v4, v5, v6, v7], p7, e7)) := by
    show _ = _
    simp only [rInts, H1.out, H2.out, H3.out, H4.out, H5.out, H6.out, H7.out]
    rfl
  clear kr ks q7 g7 gs H1 H2 H3 H4 H5 H6 H7
  go_wp2
  refine bodyPost_ret (v := .agg #[.int .i64 v1, .int .i64 v2, .int .i64 v3, .int .i64 v4, .int .i64 v5, .int .i64 v6, .int .i64 v7, .slice none 0 0]) (by simp [results, Tryd.results44, go_sem, r0, r1, r2, r3, r4, r5, r6, r7]) rfl ?_
  exact ⟨v1, v2, v3, v4, v5, v6, v7, p7, e7, HI.out, rfl, qS, gS⟩
end Go.Proofs.YtgafjbmpaeejbaaDoor
namespace Go.Proofs.YtgafjbmpaeejbaaDoor
open Go.RowKit

/-- A piece as it is read, but for its chunks. -/
def rPc0 (l : List UInt8) (p : Nat) (e : Int) : Pce × Nat × Int :=
  let a := rStr l p e 16384
  let b := rNum l a.2.1 a.2.2 1
  let c := rNum l b.2.1 b.2.2 600
  let d := rNum l c.2.1 c.2.2 4294967295
  let f := rNum l d.2.1 d.2.2 1073741824
  let g := rNum l f.2.1 f.2.2 1073741824
  (⟨toS a.1, decide (b.1 = 1), c.1, [], d.1, f.1, g.1⟩, g.2)
theorem rPce_pc0 (l : List UInt8) (p : Nat) (e : Int) : rPce L0 l p e =
    ({ (rPc0 l p e).1 with chunks := (rInts l (rNum l (rPc0 l p e).2.1 (rPc0 l p e).2.2 10).2.1 (rNum l (rPc0 l p e).2.1 (rPc0 l p e).2.2 10).2.2 4294967295 (rNum l (rPc0 l p e).2.1 (rPc0 l p e).2.2 10).1.toNat).1 },
      (rInts l (rNum l (rPc0 l p e).2.1 (rPc0 l p e).2.2 10).2.1 (rNum l (rPc0 l p e).2.1 (rPc0 l p e).2.2 10).2.2 4294967295 (rNum l (rPc0 l p e).2.1 (rPc0 l p e).2.2 10).1.toNat).2) := rfl
theorem rNum_le (l : List UInt8) (p : Nat) (e most : Int) (hm : 0 ≤ most) : ∃ k : Nat, (rNum l p e most).1 = k ∧ (k : Int) ≤ most := by
  rcases rNum_cases l p e most with ⟨e', -, h⟩ | ⟨n, h1, -, -, -, -, h⟩
  · exact ⟨0, by rw [h]; rfl, hm⟩
  · exact ⟨n, by rw [h], h1⟩
theorem rStr_len (l : List UInt8) (p : Nat) (e most : Int) : (rStr l p e most).1.length ≤ 16384 := by
  unfold rStr strOf
  rcases rNum_cases l p e (min most 16384) with ⟨e', he, h⟩ | ⟨n, h1, -, -, -, -, h⟩
  · rw [h, if_pos he]; simp
  · rw [h, if_neg (by simp)]
    split
    · simp
    · rw [List.length_take]
      simp only [Int.toNat_natCast]
      omega
theorem rPc0_len (l : List UInt8) (p : Nat) (e : Int) : (rPc0 l p e).1.path.size ≤ 16384 := by
  show (toS (rStr l p e 16384).1).size ≤ 16384
  rw [toS_size]
  exact rStr_len l p e 16384
theorem sets7 (w : World) (b : Nat) (u0 u1 u2 u3 u4 u5 u6 : Value) :
    w.grownBy (((((((w.setCell ⟨b, 0, none⟩ u0).setCell ⟨b, 1, none⟩ u1).setCell ⟨b, 2, none⟩ u2).setCell ⟨b, 3, none⟩ u3).setCell ⟨b, 4, none⟩ u4).setCell ⟨b, 5, none⟩ u5).setCell ⟨b, 6, none⟩ u6) (some b) :=
  grown_trans (grown_trans (grown_trans (grown_trans (grown_trans (grown_trans (grown_set 0 u0) (grown_set 1 u1)) (grown_set 2 u2)) (grown_set 3 u3)) (grown_set 4 u4)) (grown_set 5 u5)) (grown_set 6 u6)

/-- A piece was read, but for its chunks. -/
def PcPost (w : World) (g : Nat) (A : Option Addr) (c : Nat) (l : List UInt8) (p : Nat) (e0 : Int) (e : Ending) (w' : World) : Prop :=
  ∃ x q e1, rPc0 l p e0 = (x, q, e1) ∧ e = .returned (.agg #[.string x.path, .bool x.has, .int .i64 x.size, .slice none 0 0, .int .i64 x.digest, .int .i64 x.l, .int .i64 x.r]) ∧ RdrAt w' g A c l q e1 ∧ w.grownBy w' (some g)
set_option maxHeartbeats 4000000 in
set_option maxRecDepth 20000 in
theorem readPiece_any (g : Nat) (A : Option Addr) (c : Nat) (l : List UInt8) (p : Nat) (e0 : Int) (w : World) (h : RdrAt w g A c l p e0) (hl : l.length ≤ 140737488355328) :
    Calls Tryd.prog 46 #[.pointer (some ⟨g, 0, none⟩)] w (PcPost w g A c l p e0) := by
  have HL := hid hl
  clear hl
  have hgl := rdr_lt h
  have hal : ∀ (W : World) (o : Obj), Below W.heap.size W (W.alloc o) := fun W o => (Below.refl _ _).alloc (Nat.le_refl _) o
  have b0 := hal w (.cells #[.string ⟨#[]⟩, .bool false, .int .i64 0, .slice none 0 0, .int .i64 0, .int .i64 0, .int .i64 0] 35)
  have q0 := rdr_below h b0
  have g0 : w.grownBy (w.alloc (.cells #[.string ⟨#[]⟩, .bool false, .int .i64 0, .slice none 0 0, .int .i64 0, .int .i64 0, .int .i64 0] 35)) (some g) := grown_below b0
  have kr := Blk.new w [.string ⟨#[]⟩, .bool false, .int .i64 0, .slice none 0 0, .int .i64 0, .int .i64 0, .int .i64 0] 35
  go_enter Tryd.func46, Tryd.ntmps46
  go_wp2_with fail
  generalize w.alloc (.cells #[.string ⟨#[]⟩, .bool false, .int .i64 0, .slice none 0 0, .int .i64 0, .int .i64 0, .int .i64 0] 35) = w0 at *
  have hne1 : w.heap.size ≠ g := by omega
  have cN := rdString g A c l p e0 16384 w0 q0 HL.out
  obtain ⟨⟨v1, p1, e1⟩, H1⟩ : ∃ z, rStr l p e0 16384 = z := ⟨_, rfl⟩
  rw [H1] at cN
  have H1 := hid H1
  refine cN.mono ?_
  rintro r w1 ⟨rfl, q1, hg⟩
  simp only
  have g1 := grown_trans g0 hg
  replace kr := kr.grown hg (by intro e; injection e with e; exact hne1 e.symm)
  clear cN hg q0 g0
  have cN := rdNumber g A c l p1 e1 1 w1 q1 HL.out
  obtain ⟨⟨v2, p2, e2⟩, H2⟩ : ∃ z, rNum l p1 e1 1 = z := ⟨_, rfl⟩
  rw [H2] at cN
  have H2 := hid H2
  go_wp2_with fail
  refine cN.mono ?_
  rintro r w2 ⟨rfl, q2, hg⟩
  simp only
  have g2 := grown_trans g1 hg
  replace kr := kr.grown hg (by intro e; injection e with e; exact hne1 e.symm)
  clear cN hg q1 g1
  obtain ⟨hb, hbe⟩ : ∃ hb : Bool, (v2 == 1) = hb := ⟨_, rfl⟩
  have HBB : Hid (decide (v2 = 1) = hb) := by rw [← hbe]; rfl
  have cN := rdNumber g A c l p2 e2 600 w2 q2 HL.out
  obtain ⟨⟨v3, p3, e3⟩, H3⟩ : ∃ z, rNum l p2 e2 600 = z := ⟨_, rfl⟩
  rw [H3] at cN
  have H3 := hid H3
  go_wp2_with fail
  refine cN.mono ?_
  rintro r w3 ⟨rfl, q3, hg⟩
  simp only
  have g3 := grown_trans g2 hg
  replace kr := kr.grown hg (by intro e; injection e with e; exact hne1 e.symm)
  clear cN hg q2 g2
  have cN := rdNumber g A c l p3 e3 4294967295 w3 q3 HL.out
  obtain ⟨⟨v4, p4, e4⟩, H4⟩ : ∃ z, rNum l p3 e3 4294967295 = z := ⟨_, rfl⟩
  rw [H4] at cN
  have H4 := hid H4
  go_wp2_with fail
  refine cN.mono ?_
  rintro r w4 ⟨rfl, q4, hg⟩
  simp only
  have g4 := grown_trans g3 hg
  replace kr := kr.grown hg (by intro e; injection e with e; exact hne1 e.symm)
  clear cN hg q3 g3
  have b5 := hal w4 (.cells #[.string ⟨v1.toArray⟩, .bool hb, .int .i64 v3, .slice none 0 0, .int .i64 v4, .int .i64 0, .int .i64 0] 35)
  have q5 := rdr_below q4 b5
  have g5 := grown_far g4 (grown_below (row := none) b5) (by simp)
  have hw4 : w.heap.size < w4.heap.size := Nat.lt_of_lt_of_le kr.lt (Nat.le_refl _)
  have hgl4 := rdr_lt q4
  have hne2 : w4.heap.size ≠ g := by omega
  have hne3 : w.heap.size ≠ w4.heap.size := by omega
  replace kr := kr.below b5
  have km := Blk.new w4 [.string ⟨v1.toArray⟩, .bool hb, .int .i64 v3, .slice none 0 0, .int .i64 v4, .int .i64 0, .int .i64 0] 35
  go_wp2_with fail
  generalize w4.alloc (.cells #[.string ⟨v1.toArray⟩, .bool hb, .int .i64 v3, .slice none 0 0, .int .i64 v4, .int .i64 0, .int .i64 0] 35) = w5 at *
  generalize w4.heap.size = b2 at *
  clear b5 hgl4 q4 g4
  have cN := rdNumber g A c l p4 e4 1073741824 w5 q5 HL.out
  obtain ⟨⟨v6, p6, e6⟩, H6⟩ : ∃ z, rNum l p4 e4 1073741824 = z := ⟨_, rfl⟩
  rw [H6] at cN
  have H6 := hid H6
  refine cN.mono ?_
  rintro r w6 ⟨rfl, q6, hg⟩
  simp only
  have g6 := grown_trans g5 hg
  replace kr := kr.grown hg (by intro e; injection e with e; exact hne1 e.symm)
  replace km := km.grown hg (by intro e; injection e with e; exact hne2 e.symm)
  clear cN hg q5 g5
  have cN := rdNumber g A c l p6 e6 1073741824 w6 q6 HL.out
  obtain ⟨⟨v7, p7, e7⟩, H7⟩ : ∃ z, rNum l p6 e6 1073741824 = z := ⟨_, rfl⟩
  rw [H7] at cN
  have H7 := hid H7
  go_wp2_with fail
  refine cN.mono ?_
  rintro r w7 ⟨rfl, q7, hg⟩
  simp only
  have g7 := grown_trans g6 hg
  replace kr := kr.grown hg (by intro e; injection e with e; exact hne1 e.symm)
  replace km := km.grown hg (by intro e; injection e with e; exact hne2 e.symm)
  clear cN hg q6 g6
  have hgw := g7.size
  have hb2w : w.heap.size ≤ b2 := by omega
  have m0 := km.cell 0
  have m1 := km.cell 1
  have m2 := km.cell 2
  have m3 := km.cell 3
  have m4 := km.cell 4
  have m5 := km.cell 5
  have m6 := km.cell 6
  have mf5 := km.frozen 5
  have mf6 := km.frozen 6
  have km2 := (km.set_ 5 (.int .i64 v6)).set_ 6 (.int .i64 v7)
  have kr2 := (kr.other hne3 5 (.int .i64 v6)).other hne3 6 (.int .i64 v7)
  have gm : w7.grownBy ((w7.setCell ⟨b2, 5, none⟩ (.int .i64 v6)).setCell ⟨b2, 6, none⟩ (.int .i64 v7)) (some b2) := grown_trans (grown_set 5 _) (grown_set 6 _)
  have q8 := RdrAt.far h q7 gm g7.size (far_row hb2w)
  have g8 := grown_far g7 gm (far_row hb2w)
  simp only [List.getElem?_cons_zero, List.getElem?_cons_succ] at m0 m1 m2 m3 m4 m5 m6
  simp only [List.set_cons_zero, List.set_cons_succ] at km2
  have n0 := km2.cell 0
  have n1 := km2.cell 1
  have n2 := km2.cell 2
  have n3 := km2.cell 3
  have n4 := km2.cell 4
  have n5 := km2.cell 5
  have n6 := km2.cell 6
  have z0 := kr2.cell 0
  have z1 := kr2.cell 1
  have z2 := kr2.cell 2
  have z3 := kr2.cell 3
  have z4 := kr2.cell 4
  have z5 := kr2.cell 5
  have z6 := kr2.cell 6
  have f0 := kr2.frozen 0
  have f1 := kr2.frozen 1
  have f2 := kr2.frozen 2
  have f3 := kr2.frozen 3
  have f4 := kr2.frozen 4
  have f5 := kr2.frozen 5
  have f6 := kr2.frozen 6
  simp only [List.getElem?_cons_zero, List.getElem?_cons_succ] at n0 z0 n1 z1 n2 z2 n3 z3 n4 z4 n5 z5 n6 z6
  have ks := (((((((kr2.set_ 0 (.string ⟨v1.toArray⟩)).set_ 1 (.bool hb)).set_ 2 (.int .i64 v3)).set_ 3 (.slice none 0 0)).set_ 4 (.int .i64 v4)).set_ 5 (.int .i64 v6)).set_ 6 (.int .i64 v7))
  simp only [List.set_cons_zero, List.set_cons_succ] at ks
  have r0 := ks.cell 0
  have r1 := ks.cell 1
  have r2 := ks.cell 2
  have r3 := ks.cell 3
  have r4 := ks.cell 4
  have r5 := ks.cell 5
  have r6 := ks.cell 6
  simp only [List.getElem?_cons_zero, List.getElem?_cons_succ] at r0 r1 r2 r3 r4 r5 r6
  have gs := sets7 ((w7.setCell ⟨b2, 5, none⟩ (.int .i64 v6)).setCell ⟨b2, 6, none⟩ (.int .i64 v7)) w.heap.size (.string ⟨v1.toArray⟩) (.bool hb) (.int .i64 v3) (.slice none 0 0) (.int .i64 v4) (.int .i64 v6) (.int .i64 v7)
  have gS := grown_far g8 gs (far_row (Nat.le_refl _))
  have qS := RdrAt.far h q8 gs g8.size (far_row (Nat.le_refl _))
  have HI : Hid (rPc0 l p e0 = (⟨toS v1, hb, v3, [], v4, v6, v7⟩, p7, e7)) := by
    show _ = _
    unfold rPc0
    simp only [H1.out, H2.out, H3.out, H4.out, H6.out, H7.out, HBB.out]
  clear kr ks km km2 kr2 q7 g7 q8 g8 gm gs hbe H1 H2 H3 H4 H6 H7
  go_wp2
  refine bodyPost_ret (v := .agg #[.string ⟨v1.toArray⟩, .bool hb, .int .i64 v3, .slice none 0 0, .int .i64 v4, .int .i64 v6, .int .i64 v7]) (by simp [results, Tryd.results46, go_sem, r0, r1, r2, r3, r4, r5, r6]) rfl ?_
  exact ⟨⟨toS v1, hb, v3, [], v4, v6, v7⟩, p7, e7, HI.out, rfl, qS, gS⟩
end Go.Proofs.YtgafjbmpaeejbaaDoor
namespace Go.Proofs.YtgafjbmpaeejbaaDoor
open Go.RowKit

/-! ### Rows of the call's own, kept -/
theorem rdr_turnM {w w' : World} {g : Nat} {A : Option Addr} {c : Nat} {l : List UInt8} {p : Nat} {e : Int} (h : RdrAt w g A c l p e) {b : Nat} {v1 v2 v3 v4 v5 v6 v7 : Int} {B : Option Addr} {n d : Nat} (hB : Blk w b [.int .i64 v1, .int .i64 v2, .int .i64 v3, .int .i64 v4, .int .i64 v5, .int .i64 v6, .int .i64 v7, .slice B n d] 24) (hg : w.grownBy w' (some b)) (hne : b ≠ g) : RdrAt w' g A c l p e := by
  obtain ⟨h0, hr, h1, h2, h3⟩ := h
  refine ⟨h0.grown hg (by intro e; injection e with e; exact hne e), hr.grown hg fun o u hu hm => ?_, h1, h2, h3⟩
  obtain ⟨x, -, rfl⟩ := List.mem_map.1 hm
  rw [hB.cell o] at hu
  have := List.mem_of_getElem? hu
  simp at this
def OwnC (base : Nat) (w : World) (x : Pw) : Prop := w.ownsRow base 3 1 (.slice x.C x.p.chunks.length x.c) x.p.chunks.length (intV x.p.chunks)
theorem OwnC.ck {base : Nat} {w : World} {x : Pw} (h : OwnC base w x) : CkAt w x := by
  obtain ⟨-, A', c', e, h1, h2⟩ := own_form h
  injection e with _ _ e3
  rw [← e3] at h1 h2
  exact ⟨Rd.of_own h, h1, h2⟩
theorem row_turn {w w' : World} {base : Nat} {e : TypeId} {sz : Nat} {v : Value} {n : Nat} {xs : List Value} (h : w.ownsRow base e sz v n xs) {g : Nat} (hg : w.grownBy w' (some g)) {cs : List Value} {t : TypeId} (hB : Blk w g cs t) (hne : t ≠ e) : w'.ownsRow base e sz v n xs := by
  refine ⟨h.1, ?_⟩
  rcases h.2 with h2 | ⟨k, cap, cur, hv, hb, hk, rest⟩
  · exact .inl h2
  · refine .inr ⟨k, cap, cur, hv, hb, ?_, rest⟩
    have hkl : k < w.heap.size := (Array.getElem?_eq_some_iff.1 hk).1
    rw [hg.block k hkl (fun e => by
      injection e.symm with e
      subst e
      unfold Blk at hB
      rw [hB] at hk
      injection hk with hk
      injection hk with _ hk _
      exact hne hk)]
    exact hk
/-- A row is kept where another one, of another type, grows. -/
theorem row_row {w w' : World} {base base' : Nat} {e e' : TypeId} {sz sz' : Nat} {v v' : Value} {n n' : Nat} {xs xs' : List Value} (h : w.ownsRow base e sz v n xs) (k : w.ownsRow base' e' sz' v' n' xs') (hg : w.grownBy w' v'.ownBlock) (hne : e' ≠ e) : w'.ownsRow base e sz v n xs := by
  refine ⟨h.1, ?_⟩
  rcases h.2 with h2 | ⟨i, cap, cur, hv, hb, hi, rest⟩
  · exact .inl h2
  · refine .inr ⟨i, cap, cur, hv, hb, ?_, rest⟩
    have hil : i < w.heap.size := (Array.getElem?_eq_some_iff.1 hi).1
    rw [hg.block i hil (fun e => by
      rcases k.2 with ⟨k2, -⟩ | ⟨j, cap', cur', k1, -, k3, -⟩
      · rw [k2] at e; cases e
      · rw [k1] at e
        simp only [Value.ownBlock, Option.some.injEq] at e
        subst e
        rw [hi] at k3
        injection k3 with k3
        injection k3 with _ k3 _
        exact hne k3.symm)]
    exact hi
theorem blk_row {w w' : World} {base : Nat} {e : TypeId} {sz : Nat} {v : Value} {n : Nat} {xs : List Value} {g : Nat} {cs : List Value} {t : TypeId} (hB : Blk w g cs t) (k : w.ownsRow base e sz v n xs) (hg : w.grownBy w' v.ownBlock) (hne : e ≠ t) : Blk w' g cs t := by
  refine hB.grown hg fun e' => ?_
  rcases k.2 with ⟨k2, -⟩ | ⟨j, cap', cur', k1, -, k3, -⟩
  · rw [k2] at e'; cases e'
  · rw [k1] at e'
    simp only [Value.ownBlock, Option.some.injEq] at e'
    subst e'
    unfold Blk at hB
    rw [hB] at k3
    injection k3 with k3
    injection k3 with _ k3 _
    exact hne k3.symm
theorem row_lt {w : World} {base : Nat} {e : TypeId} {sz : Nat} {v : Value} {n : Nat} {xs : List Value} (k : w.ownsRow base e sz v n xs) : ∀ i, v.ownBlock = some i → base ≤ i := by
  intro i hi
  rcases k.2 with ⟨k2, -⟩ | ⟨j, cap', cur', k1, kb, -⟩
  · rw [k2] at hi; cases hi
  · rw [k1] at hi
    simp only [Value.ownBlock, Option.some.injEq] at hi
    omega
theorem pce_e {M : List UInt8} {p : Nat} {e : Int} (h : (rPce L0 M p e).2.2 = 0) : e = 0 := (pce_one L0_ok h).1
theorem pces_e {M : List UInt8} {p : Nat} {e : Int} : ∀ k j, j ≤ k → (rPces L0 M p e k).2.2 = 0 → (rPces L0 M p e j).2.2 = 0
  | 0, j, hj, h => by
    have : j = 0 := by omega
    subst this; exact h
  | k + 1, j, hj, h => by
    by_cases e : j = k + 1
    · subst e; exact h
    · rw [rPces] at h
      exact pces_e k j (by omega) (pce_e h)
/-- What the whole comes to, by its parts. -/
theorem rMan_parts {l : List UInt8} {v1 v2 v3 v4 v5 v6 v7 : Int} {q : Nat} {e : Int} (h : rInts l 0 0 4294967295 7 = ([v1, v2, v3, v4, v5, v6, v7], q, e)) :
    rMan L0 l = (⟨v1, v2, v3, v4, v5, v6, v7, (rPces L0 l (rNum l q e 32).2.1 (rNum l q e 32).2.2 (rNum l q e 32).1.toNat).1⟩, (rPces L0 l (rNum l q e 32).2.1 (rNum l q e 32).2.2 (rNum l q e 32).1.toNat).2) := by
  simp only [rInts, List.nil_append, List.cons_append, Prod.mk.injEq, List.cons.injEq, and_true] at h
  obtain ⟨⟨h1, h2, h3, h4, h5, h6, h7⟩, h8⟩ := h
  unfold rMan
  dsimp only
  rw [h8]
  dsimp only
  subst h1 h2 h3 h4 h5 h6 h7
  rfl
theorem read_bad1 {l : List UInt8} (h : (rMan L0 l).2.2 ≠ 0) : readN L0 l = 4 := by
  refine (read_no fun k => ?_).1
  exact h (rEnd_zero.1 (readN_zero.1 k).1).1

/-- Read answered. -/
def ReadPost (w : World) (n : Nat) (m : Man) (e : Ending) (w' : World) : Prop :=
  ∃ A c, e = .returned (.tuple #[manV m A c, .int .i64 n]) ∧ Mt w' A c m ∧ Below w.heap.size w w'
/-- Read's label. -/
def RdJump (w : World) (gz : Nat) (l : List UInt8) (a' : Act) (w' : World) : Prop :=
  ∃ (u0 u1 u3 u4 u5 u6 u7 u8 u9 u10 u11 u12 u13 u14 u15 u16 u17 u18 u19 u20 u21 u22 u23 u24 u25 u26 u27 u28 u29 u30 u31 u32 u33 u34 u35 u36 u37 u38 u39 u40 u41 u42 u43 u44 u45 u46 u47 u48 u49 u50 : Value), a' = { tmps := #[u0, u1, .pointer (some ⟨gz, 0, none⟩), u3, u4, u5, u6, u7, u8, u9, u10, u11, u12, u13, u14, u15, u16, u17, u18, u19, u20, u21, u22, u23, u24, u25, u26, u27, u28, u29, u30, u31, u32, u33, u34, u35, u36, u37, u38, u39, u40, u41, u42, u43, u44, u45, u46, u47, u48, u49, u50], defers := [] } ∧ Hid (readN L0 l = 4) ∧ Blk w' gz [.int .i64 0, .int .i64 0, .int .i64 0, .int .i64 0, .int .i64 0, .int .i64 0, .int .i64 0, .slice none 0 0] 24 ∧ Below w.heap.size w w'
/-- What holds where the pieces are read. -/
def RdSt (w wB wr : World) (g gm gz : Nat) (A : Option Addr) (c : Nat) (l : List UInt8) (v1 v2 v3 v4 v5 v6 v7 : Int) (p0 : Nat) (e0 : Int) (j : Nat) : Prop :=
  ∃ (xs : List Pw) (pj : Nat) (ej : Int) (B : Option Addr) (d : Nat), Hid (rPces L0 l p0 e0 j = (pcesOf xs, pj, ej)) ∧ RdrAt wr g A c l pj ej ∧ Blk wr gm [.int .i64 v1, .int .i64 v2, .int .i64 v3, .int .i64 v4, .int .i64 v5, .int .i64 v6, .int .i64 v7, .slice B j d] 24 ∧ Blk wr gz [.int .i64 0, .int .i64 0, .int .i64 0, .int .i64 0, .int .i64 0, .int .i64 0, .int .i64 0, .slice none 0 0] 24 ∧
    OwnP wB.heap.size wr B j d xs ∧ Hid (∀ x ∈ xs, OwnC wB.heap.size wr x) ∧ Hid (∀ x ∈ xs, x.p.path.size ≤ 16384) ∧ Below w.heap.size w wr ∧ wB.heap.size ≤ wr.heap.size
theorem ccnt10 (w : World) : Calls Tryd.prog 25 #[.int .i64 600] w fun e w' => e = .returned (.int .i64 10) ∧ w' = w :=
  (ccnt_is 600 w (by omega) (by omega)).mono fun _ _ k => ⟨k.1, k.2⟩

set_option maxHeartbeats 8000000 in
set_option maxRecDepth 20000 in
theorem read12_any (s : ByteArray) (w : World) (hs : s.size ≤ 1000000000) :
    Calls Tryd.prog 22 #[.string s] w (ReadPost w (readN L0 s.data.toList) (readA L0 s.data.toList)) := by
  have hal : ∀ (W : World) (o : Obj), Below W.heap.size W (W.alloc o) := fun W o => (Below.refl _ _).alloc (Nat.le_refl _) o
  have bz := hal w (.cells #[.int .i64 0, .int .i64 0, .int .i64 0, .int .i64 0, .int .i64 0, .int .i64 0, .int .i64 0, .slice none 0 0] 24)
  have kz := Blk.new w [.int .i64 0, .int .i64 0, .int .i64 0, .int .i64 0, .int .i64 0, .int .i64 0, .int .i64 0, .slice none 0 0] 24
  obtain ⟨cq, wc, hcq1, hcq2, hconv, hby, bc⟩ := conv_bytesC s (w.alloc (.cells #[.int .i64 0, .int .i64 0, .int .i64 0, .int .i64 0, .int .i64 0, .int .i64 0, .int .i64 0, .slice none 0 0] 24)) (by omega)
  have HL : Hid (s.data.toList.length = s.size) := size_list s
  have hl9 : s.data.toList.length ≤ 140737488355328 := by rw [HL.out]; omega
  have HL9 := hid hl9
  have HQ := hid (readN_zero (L := L0) (M := s.data.toList))
  have HA : Hid (readA L0 s.data.toList = if readN L0 s.data.toList = 0 then (rMan L0 s.data.toList).1 else zeroM) := rfl
  have hrB := Bytes8.rd hby
  rw [World.size_alloc] at hrB
  generalize s.data.toList = l at *
  have HC := hid hconv
  clear hl9 hconv
  go_enter Tryd.func22, Tryd.ntmps22
  go_wp2_with fail
  refine wp_scope_jumps 0 (RdJump w w.heap.size l) (fun _ _ => 0) (by rfl) ?_ ?_
  · have hcv := HC.out
    go_wp2_with fail
    have kz1 := kz.below bc
    have bw1 := bz.trans (bc.mono bz.size)
    refine (read_any (some ⟨w.heap.size + 1, 0, none⟩) s.size cq l wc HL.out hrB (by omega)).mono ?_
    rintro r w2 ⟨g, A, c, rfl, q2, hg2, b2⟩
    simp only
    have kz2 := kz1.below b2
    have bw2 := bw1.trans (b2.mono bw1.size)
    have hgw : w.heap.size < g := by have := bc.size; simp only [World.size_alloc] at this; omega
    clear kz kz1 bz bc bw1 b2 hby hcv hrB HC
    go_wp2_with fail
    refine (readNumbers_any g A c l 0 0 w2 q2 HL9.out).mono ?_
    rintro r w3 ⟨v1, v2, v3, v4, v5, v6, v7, q, e, HI, rfl, q3, hg3⟩
    simp only
    have HP := hid (rMan_parts HI)
    have kz3 := kz2.grown hg3 (by intro e; injection e with e; omega)
    have bw3 := bw2.trans (below_grown bw2.size (far_row (by omega)) hg3)
    have b4 := hal w3 (.cells #[.int .i64 v1, .int .i64 v2, .int .i64 v3, .int .i64 v4, .int .i64 v5, .int .i64 v6, .int .i64 v7, .slice none 0 0] 24)
    have km4 := Blk.new w3 [.int .i64 v1, .int .i64 v2, .int .i64 v3, .int .i64 v4, .int .i64 v5, .int .i64 v6, .int .i64 v7, .slice none 0 0] 24
    have q4 := rdr_below q3 b4
    have kz4 := kz3.below b4
    have bw4 := bw3.trans (b4.mono bw3.size)
    have hg3l := rdr_lt q3
    have hz3 : w.heap.size < w3.heap.size := by omega
    clear HI kz2 kz3 q2 q3 hg3 bw2 bw3 b4 hg2
    go_wp2_with fail
    generalize w3.alloc (.cells #[.int .i64 v1, .int .i64 v2, .int .i64 v3, .int .i64 v4, .int .i64 v5, .int .i64 v6, .int .i64 v7, .slice none 0 0] 24) = w4 at *
    have hgm : w3.heap.size ≠ g := by omega
    have hgz : w3.heap.size ≠ w.heap.size := by omega
    have hmw : w.heap.size ≤ w3.heap.size := by omega
    clear hz3
    generalize w3.heap.size = gm at *
    refine (rdNumber g A c l q e 32 w4 q4 HL9.out).mono ?_
    rintro r w5 ⟨rfl, q5, hg5⟩
    simp only
    have km5 := km4.grown hg5 (by intro e; injection e with e; omega)
    have kz5 := kz4.grown hg5 (by intro e; injection e with e; omega)
    have bw5 := bw4.trans (below_grown bw4.size (far_row (by omega)) hg5)
    obtain ⟨n, HN, hn⟩ := rNum_le l q e 32 (by omega)
    rw [HN]
    rw [HN] at HP
    rw [Int.toNat_natCast] at HP
    generalize (rNum l q e 32).2.1 = p0 at *
    generalize (rNum l q e 32).2.2 = e0 at *
    have hgB := rdr_lt q5
    have hmB := km5.lt
    have hzB := kz5.lt
    clear kz4 km4 q4 hg5 bw4 HN
    obtain ⟨wB, hwB⟩ : ∃ wB, wB = w5 := ⟨_, rfl⟩
    have qB : RdrAt wB g A c l p0 e0 := by rw [hwB]; exact q5
    have hst : RdSt w wB w5 g gm w.heap.size A c l v1 v2 v3 v4 v5 v6 v7 p0 e0 0 := ⟨[], p0, e0, none, 0, rfl, q5, km5, kz5, OwnP.nil _ _, hid (by simp), hid (by simp), bw5, by rw [hwB]; exact Nat.le_refl _⟩
    rw [← hwB] at hgB hmB hzB
    have hn32 : n ≤ 32 := by omega
    clear hwB q5 km5 kz5 bw5
    go_wp2_with fail
    go_loopw [14] (fun i wr => ∃ j : Nat, j ≤ n ∧ i = .int .i64 j ∧ RdSt w wB wr g gm w.heap.size A c l v1 v2 v3 v4 v5 v6 v7 p0 e0 j) (fun i _ => n - (intOf i).toNat)
    case atStart => exact ⟨0, by omega, rfl, hst⟩
    case round =>
      clear hst
      obtain ⟨j, hj, rfl, xs, pj, ej, B, d, HR, qj, km, kz, op, oc, sz, bw, hBw⟩ := hrel
      by_cases hjn : j < n
      · have hz : (0 : Int) ≤ j := by omega
        have hlt : (j : Int) < n := by omega
        have HJ := hid hjn
        go_wp2_with fail
        refine (readPiece_any g A c l pj ej wr qj HL9.out).mono ?_
        rintro r w1 ⟨x, p1, e1, HX, rfl, q1, hg1⟩
        simp only
        have HXS : Hid (x.path.size ≤ 16384) := by have := rPc0_len l pj ej; rw [HX] at this; exact this
        have HXC : Hid (x.chunks = []) := by
          have := congrArg (fun z => z.1.chunks) HX
          exact this.symm
        have HX := hid HX
        obtain ⟨xp, xh, xs', xc, xd, xl, xr⟩ := x
        dsimp only at HXS HXC ⊢
        have b2 := hal w1 (.cells #[.string xp, .bool xh, .int .i64 xs', .slice none 0 0, .int .i64 xd, .int .i64 xl, .int .i64 xr] 35)
        have kp := Blk.new w1 [.string xp, .bool xh, .int .i64 xs', .slice none 0 0, .int .i64 xd, .int .i64 xl, .int .i64 xr] 35
        have q2 := rdr_below q1 b2
        have g2 := grown_far hg1 (grown_below (row := none) b2) (by simp)
        have hgp : w1.heap.size ≠ g := by have := rdr_lt q1; omega
        have hpw : wr.heap.size ≤ w1.heap.size := hg1.size
        clear q1 hg1 b2
        go_wp2_with fail
        generalize w1.alloc (.cells #[.string xp, .bool xh, .int .i64 xs', .slice none 0 0, .int .i64 xd, .int .i64 xl, .int .i64 xr] 35) = w2 at *
        generalize w1.heap.size = gp at *
        refine (ccnt10 w2).mono ?_
        rintro r w5 ⟨rfl, rfl⟩
        simp only
        go_wp2_with fail
        refine (rdNumber g A c l p1 e1 10 w5 q2 HL9.out).mono ?_
        rintro r w3 ⟨rfl, q3, hg3⟩
        simp only
        have kp3 := kp.grown hg3 (by intro e; injection e with e; exact hgp e.symm)
        have g3 := grown_trans g2 hg3
        obtain ⟨k, HK, hk⟩ := rNum_le l p1 e1 10 (by omega)
        have HPC : Hid (rPce L0 l pj ej = (⟨xp, xh, xs', (rInts l (rNum l p1 e1 10).2.1 (rNum l p1 e1 10).2.2 4294967295 k).1, xd, xl, xr⟩, (rInts l (rNum l p1 e1 10).2.1 (rNum l p1 e1 10).2.2 4294967295 k).2)) := by
          show _ = _
          rw [rPce_pc0, HX.out]
          dsimp only
          rw [HK, Int.toNat_natCast]
        rw [HK]
        generalize (rNum l p1 e1 10).2.1 = p2 at *
        generalize (rNum l p1 e1 10).2.2 = e2 at *
        clear kp q2 hg3 g2 HK HX
        have hin : ∃ (C : Option Addr) (cc : Nat) (ys : List Int) (p' : Nat) (e' : Int), Hid (rInts l p2 e2 4294967295 0 = (ys, p', e')) ∧ RdrAt w3 g A c l p' e' ∧ Blk w3 gp [.string xp, .bool xh, .int .i64 xs', .slice C 0 cc, .int .i64 xd, .int .i64 xl, .int .i64 xr] 35 ∧ w3.ownsRow wr.heap.size 3 1 (.slice C 0 cc) 0 (intV ys) ∧ wr.grownBy w3 (some g) := ⟨none, 0, [], p2, e2, rfl, q3, kp3, World.ownsRow_nil _ _ _ _, g3⟩
        clear kp3 q3 g3
        go_wp2_with fail
        go_loopw [21] (fun i W => ∃ t : Nat, t ≤ k ∧ i = .int .i64 t ∧ ∃ (C : Option Addr) (cc : Nat) (ys : List Int) (p' : Nat) (e' : Int), Hid (rInts l p2 e2 4294967295 t = (ys, p', e')) ∧ RdrAt W g A c l p' e' ∧ Blk W gp [.string xp, .bool xh, .int .i64 xs', .slice C t cc, .int .i64 xd, .int .i64 xl, .int .i64 xr] 35 ∧ W.ownsRow wr.heap.size 3 1 (.slice C t cc) t (intV ys) ∧ wr.grownBy W (some g)) (fun i _ => k - (intOf i).toNat)
        case atStart => exact ⟨0, by omega, rfl, hin⟩
        case round =>
          rename World => W
          clear hin
          obtain ⟨t, ht, rfl, C, cc, ys, p', e', HY, qW, kp, oy, gW⟩ := hrel
          by_cases htk : t < k
          · have hz : (0 : Int) ≤ t := by omega
            have hlt : (t : Int) < k := by omega
            have HT := hid htk
            obtain ⟨⟨y, p6, e6⟩, HN⟩ : ∃ z, rNum l p' e' 4294967295 = z := ⟨_, rfl⟩
            have HY2 : Hid (rInts l p2 e2 4294967295 (t + 1) = (ys ++ [y], p6, e6)) := by
              show _ = _
              rw [rInts, HY.out]
              dsimp only
              rw [HN]
            have cN := rdNumber g A c l p' e' 4294967295 W.drew qW HL9.out
            rw [HN] at cN
            clear HN HY
            have c3 : W.drew.cell? ⟨gp, 3, none⟩ = some (.slice C t cc) := by have := kp.cell 3; simpa using this
            have kpd : Blk W.drew gp [.string xp, .bool xh, .int .i64 xs', .slice C t cc, .int .i64 xd, .int .i64 xl, .int .i64 xr] 35 := kp
            have oyd : W.drew.ownsRow wr.heap.size 3 1 (.slice C t cc) t (intV ys) := oy
            have qWd : RdrAt W.drew g A c l p' e' := qW
            have gWd : wr.grownBy W.drew (some g) := ⟨gW.os, gW.tape, gW.output, gW.size, gW.block⟩
            clear kp oy gW qW
            go_wp2_with fail
            refine wp_region_held_drew (S := fun _ => True) (by kernel_rfl) trivial (fun hHeld => ?_)
            refine wpAnyH_take (i := 0) (oi := ⟨_, _, _, _, _, _⟩) (v := ?_) rfl (by kernel_rfl) (by kernel_rfl) (by kernel_rfl) (fun _ _ _ h => h) (Or.inl ⟨by rfl, ?_⟩) (by assumption) ?_
            rotate_left
            · intro w hSw; (try dsimp only at hSw); go_simp; (try (with_reducible rfl))
            try simp only [Act.put, List.setIfInBounds_toArray, List.set_cons_zero, List.set_cons_succ]
            refine wpAnyH_take (i := 2) (oi := ⟨_, _, _, _, _, _⟩) (v := ?_) rfl (by kernel_rfl) (by kernel_rfl) (by kernel_rfl) (fun _ _ _ h => h) (Or.inl ⟨by rfl, ?_⟩) (by assumption) ?_
            rotate_left
            · intro w hSw; (try dsimp only at hSw); go_simp; (try (with_reducible rfl))
            try simp only [Act.put, List.setIfInBounds_toArray, List.set_cons_zero, List.set_cons_succ]
            refine wpAnyH_ready (rs := [1, 3]) (by kernel_rfl) (by simp) ?_
            refine AllReadyH.cons (o := ⟨_, _, _, _, _, _⟩) rfl (fun K hK => ?_) (AllReadyH.cons (o := ⟨_, _, _, _, _, _⟩) rfl (fun K hK => ?_) (AllReadyH.nil))
            · go_simp
              refine hK.out _ _ trivial (fun hHeld => ?_)
              clear hK K
              try simp only [Act.put, List.setIfInBounds_toArray, List.set_cons_zero, List.set_cons_succ]
              refine wpAnyH_ready (rs := [3]) (by kernel_rfl) (by simp) ?_
              refine AllReadyH.cons (o := ⟨_, _, _, _, _, _⟩) rfl (fun K hK => ?_) (AllReadyH.nil)
              go_simp
              refine cN.mono ?_
              rintro r w5 ⟨rfl, q5, hg5⟩
              simp only
              have kp5 := kpd.grown hg5 (by intro e; injection e with e; exact hgp e.symm)
              have c35 : w5.cell? ⟨gp, 3, none⟩ = some (.slice C t cc) := by have := kp5.cell 3; simpa using this
              have oy5 := row_turn oyd hg5 qWd.1 (by decide)
              have gW5 := grown_trans gWd hg5
              refine hK.out _ _ trivial (fun hHeld => ?_)
              clear hK K
              try simp only [Act.put, List.setIfInBounds_toArray, List.set_cons_zero, List.set_cons_succ]
              refine wpAnyH_ready (rs := [4]) (by kernel_rfl) (by simp) ?_
              refine AllReadyH.cons (o := ⟨_, _, _, _, _, _⟩) rfl (fun K hK => ?_) (AllReadyH.nil)
              go_simp
              have b6 : Below w5.heap.size w5 (w5.alloc (.cells #[.int .i64 y] 3)) := (Below.refl _ _).alloc (Nat.le_refl _) _
              have kp6 := kp5.below b6
              have c36 : (w5.alloc (.cells #[.int .i64 y] 3)).cell? ⟨gp, 3, none⟩ = some (.slice C t cc) := by have := kp6.cell 3; simpa using this
              have oy6 := own_below1 oy5 b6
              have gW6 := grown_far gW5 (grown_below (row := none) b6) (by simp)
              have q6 := rdr_below q5 b6
              have hy6 : (w5.alloc (.cells #[.int .i64 y] 3)).cell? ⟨w5.heap.size, 0, none⟩ = some (.int .i64 y) := by simp
              obtain ⟨C7, cc7, w7, HRUN, oy7, g7⟩ := run_appI oy6 ⟨w5.heap.size, 0, none⟩ 1 y hy6 (by omega) gW6.size
              refine hK.out _ _ trivial (fun hHeld => ?_)
              clear hK K
              try simp only [Act.put, List.setIfInBounds_toArray, List.set_cons_zero, List.set_cons_succ]
              refine wpAnyH_ready (rs := [5]) (by kernel_rfl) (by simp) ?_
              refine AllReadyH.cons (o := ⟨_, _, _, _, _, _⟩) rfl (fun K hK => ?_) (AllReadyH.nil)
              refine stepApp2 (by rfl) (.tmp 24) (.tmp 27) 30 rfl _ _ _ rfl rfl (HRUN.out _) ?_
              refine hK.out _ _ trivial (fun hHeld => ?_)
              clear hK K
              try simp only [Act.put, List.setIfInBounds_toArray, List.set_cons_zero, List.set_cons_succ]
              refine wpAnyH_take (i := 6) (oi := ⟨_, _, _, _, _, _⟩) (v := ?_) rfl (by kernel_rfl) (by kernel_rfl) (by kernel_rfl) (fun _ _ _ h => h) (Or.inl ⟨by rfl, ?_⟩) (by assumption) ?_
              rotate_left
              · intro w hSw; (try dsimp only at hSw); go_simp; (try (with_reducible rfl))
              try simp only [Act.put, List.setIfInBounds_toArray, List.set_cons_zero, List.set_cons_succ]
              have kp7 := blk_row kp6 oy6 g7 (by decide)
              have f7 := kp7.frozen 3
              have c37 := kp7.cell 3
              simp only [List.getElem?_cons_zero, List.getElem?_cons_succ] at c37
              have gs : w7.grownBy (w7.setCell ⟨gp, 3, none⟩ (.slice C7 (t + 1) cc7)) (some gp) := grown_set 3 _
              have kp8 := kp7.set_ 3 (.slice C7 (t + 1) cc7)
              simp only [List.set_cons_zero, List.set_cons_succ] at kp8
              have rl := row_lt oy6
              have hs6 := gW6.size
              have hs7 := g7.size
              have q7 := RdrAt.far qB q6 g7 (by omega) (fun k hk => by have := rl k hk; omega)
              have q8 := RdrAt.far qB q7 gs (by omega) (far_row (by omega))
              have oy8 := row_turn oy7 gs kp7 (by decide)
              have gW7 := grown_far gW6 g7 rl
              have gW8 := grown_far gW7 gs (far_row hpw)
              refine wpAnyH_ready (rs := [7]) (by kernel_rfl) (by simp) ?_
              refine AllReadyH.cons (o := ⟨_, _, _, _, _, _⟩) rfl (fun K hK => ?_) (AllReadyH.nil)
              go_simp
              refine hK.out _ _ trivial (fun hHeld => ?_)
              clear hK K
              try simp only [Act.put, List.setIfInBounds_toArray, List.set_cons_zero, List.set_cons_succ]
              refine wpAnyH_done (by kernel_rfl) ?_ _
              clear hHeld
              clear q5 q6 q7 kp5 kp6 kp7 kpd c3 c35 c36 c37 f7 oy5 oy6 oy7 oyd gW5 gW6 gW7 gWd qWd HRUN g7 gs rl hs6 hs7 hy6 b6 hg5 km kz op oc sz qj bw
              go_wp2
              go_roundw
              case rel => exact ⟨t + 1, HT.out, by go_num, C7, cc7, ys ++ [y], p6, e6, HY2, q8, kp8, oy8, gW8⟩
              case measure => have := HT.out; simp [intOf]; omega
            · go_simp
              refine cN.mono ?_
              rintro r w5 ⟨rfl, q5, hg5⟩
              simp only
              have kp5 := kpd.grown hg5 (by intro e; injection e with e; exact hgp e.symm)
              have c35 : w5.cell? ⟨gp, 3, none⟩ = some (.slice C t cc) := by have := kp5.cell 3; simpa using this
              have oy5 := row_turn oyd hg5 qWd.1 (by decide)
              have gW5 := grown_trans gWd hg5
              refine hK.out _ _ trivial (fun hHeld => ?_)
              clear hK K
              try simp only [Act.put, List.setIfInBounds_toArray, List.set_cons_zero, List.set_cons_succ]
              refine wpAnyH_ready (rs := [1, 4]) (by kernel_rfl) (by simp) ?_
              refine AllReadyH.cons (o := ⟨_, _, _, _, _, _⟩) rfl (fun K hK => ?_) (AllReadyH.cons (o := ⟨_, _, _, _, _, _⟩) rfl (fun K hK => ?_) (AllReadyH.nil))
              · go_simp
                refine hK.out _ _ trivial (fun hHeld => ?_)
                clear hK K
                try simp only [Act.put, List.setIfInBounds_toArray, List.set_cons_zero, List.set_cons_succ]
                refine wpAnyH_ready (rs := [4]) (by kernel_rfl) (by simp) ?_
                refine AllReadyH.cons (o := ⟨_, _, _, _, _, _⟩) rfl (fun K hK => ?_) (AllReadyH.nil)
                go_simp
                have b6 : Below w5.heap.size w5 (w5.alloc (.cells #[.int .i64 y] 3)) := (Below.refl _ _).alloc (Nat.le_refl _) _
                have kp6 := kp5.below b6
                have c36 : (w5.alloc (.cells #[.int .i64 y] 3)).cell? ⟨gp, 3, none⟩ = some (.slice C t cc) := by have := kp6.cell 3; simpa using this
                have oy6 := own_below1 oy5 b6
                have gW6 := grown_far gW5 (grown_below (row := none) b6) (by simp)
                have q6 := rdr_below q5 b6
                have hy6 : (w5.alloc (.cells #[.int .i64 y] 3)).cell? ⟨w5.heap.size, 0, none⟩ = some (.int .i64 y) := by simp
                obtain ⟨C7, cc7, w7, HRUN, oy7, g7⟩ := run_appI oy6 ⟨w5.heap.size, 0, none⟩ 1 y hy6 (by omega) gW6.size
                refine hK.out _ _ trivial (fun hHeld => ?_)
                clear hK K
                try simp only [Act.put, List.setIfInBounds_toArray, List.set_cons_zero, List.set_cons_succ]
                refine wpAnyH_ready (rs := [5]) (by kernel_rfl) (by simp) ?_
                refine AllReadyH.cons (o := ⟨_, _, _, _, _, _⟩) rfl (fun K hK => ?_) (AllReadyH.nil)
                refine stepApp2 (by rfl) (.tmp 24) (.tmp 27) 30 rfl _ _ _ rfl rfl (HRUN.out _) ?_
                refine hK.out _ _ trivial (fun hHeld => ?_)
                clear hK K
                try simp only [Act.put, List.setIfInBounds_toArray, List.set_cons_zero, List.set_cons_succ]
                refine wpAnyH_take (i := 6) (oi := ⟨_, _, _, _, _, _⟩) (v := ?_) rfl (by kernel_rfl) (by kernel_rfl) (by kernel_rfl) (fun _ _ _ h => h) (Or.inl ⟨by rfl, ?_⟩) (by assumption) ?_
                rotate_left
                · intro w hSw; (try dsimp only at hSw); go_simp; (try (with_reducible rfl))
                try simp only [Act.put, List.setIfInBounds_toArray, List.set_cons_zero, List.set_cons_succ]
                have kp7 := blk_row kp6 oy6 g7 (by decide)
                have f7 := kp7.frozen 3
                have c37 := kp7.cell 3
                simp only [List.getElem?_cons_zero, List.getElem?_cons_succ] at c37
                have gs : w7.grownBy (w7.setCell ⟨gp, 3, none⟩ (.slice C7 (t + 1) cc7)) (some gp) := grown_set 3 _
                have kp8 := kp7.set_ 3 (.slice C7 (t + 1) cc7)
                simp only [List.set_cons_zero, List.set_cons_succ] at kp8
                have rl := row_lt oy6
                have hs6 := gW6.size
                have hs7 := g7.size
                have q7 := RdrAt.far qB q6 g7 (by omega) (fun k hk => by have := rl k hk; omega)
                have q8 := RdrAt.far qB q7 gs (by omega) (far_row (by omega))
                have oy8 := row_turn oy7 gs kp7 (by decide)
                have gW7 := grown_far gW6 g7 rl
                have gW8 := grown_far gW7 gs (far_row hpw)
                refine wpAnyH_ready (rs := [7]) (by kernel_rfl) (by simp) ?_
                refine AllReadyH.cons (o := ⟨_, _, _, _, _, _⟩) rfl (fun K hK => ?_) (AllReadyH.nil)
                go_simp
                refine hK.out _ _ trivial (fun hHeld => ?_)
                clear hK K
                try simp only [Act.put, List.setIfInBounds_toArray, List.set_cons_zero, List.set_cons_succ]
                refine wpAnyH_done (by kernel_rfl) ?_ _
                clear hHeld
                clear q5 q6 q7 kp5 kp6 kp7 kpd c3 c35 c36 c37 f7 oy5 oy6 oy7 oyd gW5 gW6 gW7 gWd qWd HRUN g7 gs rl hs6 hs7 hy6 b6 hg5 km kz op oc sz qj bw
                go_wp2
                go_roundw
                case rel => exact ⟨t + 1, HT.out, by go_num, C7, cc7, ys ++ [y], p6, e6, HY2, q8, kp8, oy8, gW8⟩
                case measure => have := HT.out; simp [intOf]; omega
              · go_simp
                have b6 : Below w5.heap.size w5 (w5.alloc (.cells #[.int .i64 y] 3)) := (Below.refl _ _).alloc (Nat.le_refl _) _
                have kp6 := kp5.below b6
                have c36 : (w5.alloc (.cells #[.int .i64 y] 3)).cell? ⟨gp, 3, none⟩ = some (.slice C t cc) := by have := kp6.cell 3; simpa using this
                have oy6 := own_below1 oy5 b6
                have gW6 := grown_far gW5 (grown_below (row := none) b6) (by simp)
                have q6 := rdr_below q5 b6
                have hy6 : (w5.alloc (.cells #[.int .i64 y] 3)).cell? ⟨w5.heap.size, 0, none⟩ = some (.int .i64 y) := by simp
                obtain ⟨C7, cc7, w7, HRUN, oy7, g7⟩ := run_appI oy6 ⟨w5.heap.size, 0, none⟩ 1 y hy6 (by omega) gW6.size
                refine hK.out _ _ trivial (fun hHeld => ?_)
                clear hK K
                try simp only [Act.put, List.setIfInBounds_toArray, List.set_cons_zero, List.set_cons_succ]
                refine wpAnyH_ready (rs := [1]) (by kernel_rfl) (by simp) ?_
                refine AllReadyH.cons (o := ⟨_, _, _, _, _, _⟩) rfl (fun K hK => ?_) (AllReadyH.nil)
                go_simp
                refine hK.out _ _ trivial (fun hHeld => ?_)
                clear hK K
                try simp only [Act.put, List.setIfInBounds_toArray, List.set_cons_zero, List.set_cons_succ]
                refine wpAnyH_ready (rs := [5]) (by kernel_rfl) (by simp) ?_
                refine AllReadyH.cons (o := ⟨_, _, _, _, _, _⟩) rfl (fun K hK => ?_) (AllReadyH.nil)
                refine stepApp2 (by rfl) (.tmp 24) (.tmp 27) 30 rfl _ _ _ rfl rfl (HRUN.out _) ?_
                refine hK.out _ _ trivial (fun hHeld => ?_)
                clear hK K
                try simp only [Act.put, List.setIfInBounds_toArray, List.set_cons_zero, List.set_cons_succ]
                refine wpAnyH_take (i := 6) (oi := ⟨_, _, _, _, _, _⟩) (v := ?_) rfl (by kernel_rfl) (by kernel_rfl) (by kernel_rfl) (fun _ _ _ h => h) (Or.inl ⟨by rfl, ?_⟩) (by assumption) ?_
                rotate_left
                · intro w hSw; (try dsimp only at hSw); go_simp; (try (with_reducible rfl))
                try simp only [Act.put, List.setIfInBounds_toArray, List.set_cons_zero, List.set_cons_succ]
                have kp7 := blk_row kp6 oy6 g7 (by decide)
                have f7 := kp7.frozen 3
                have c37 := kp7.cell 3
                simp only [List.getElem?_cons_zero, List.getElem?_cons_succ] at c37
                have gs : w7.grownBy (w7.setCell ⟨gp, 3, none⟩ (.slice C7 (t + 1) cc7)) (some gp) := grown_set 3 _
                have kp8 := kp7.set_ 3 (.slice C7 (t + 1) cc7)
                simp only [List.set_cons_zero, List.set_cons_succ] at kp8
                have rl := row_lt oy6
                have hs6 := gW6.size
                have hs7 := g7.size
                have q7 := RdrAt.far qB q6 g7 (by omega) (fun k hk => by have := rl k hk; omega)
                have q8 := RdrAt.far qB q7 gs (by omega) (far_row (by omega))
                have oy8 := row_turn oy7 gs kp7 (by decide)
                have gW7 := grown_far gW6 g7 rl
                have gW8 := grown_far gW7 gs (far_row hpw)
                refine wpAnyH_ready (rs := [7]) (by kernel_rfl) (by simp) ?_
                refine AllReadyH.cons (o := ⟨_, _, _, _, _, _⟩) rfl (fun K hK => ?_) (AllReadyH.nil)
                go_simp
                refine hK.out _ _ trivial (fun hHeld => ?_)
                clear hK K
                try simp only [Act.put, List.setIfInBounds_toArray, List.set_cons_zero, List.set_cons_succ]
                refine wpAnyH_done (by kernel_rfl) ?_ _
                clear hHeld
                clear q5 q6 q7 kp5 kp6 kp7 kpd c3 c35 c36 c37 f7 oy5 oy6 oy7 oyd gW5 gW6 gW7 gWd qWd HRUN g7 gs rl hs6 hs7 hy6 b6 hg5 km kz op oc sz qj bw
                go_wp2
                go_roundw
                case rel => exact ⟨t + 1, HT.out, by go_num, C7, cc7, ys ++ [y], p6, e6, HY2, q8, kp8, oy8, gW8⟩
                case measure => have := HT.out; simp [intOf]; omega
          · have htk2 : t = k := by omega
            have hnl : ¬ (t : Int) < k := by omega
            subst htk2
            rw [HY.out] at HPC
            go_wp2_with fail
            refine (rdErr g A c l p' e' W qW).mono ?_
            rintro r w5 ⟨rfl, rfl⟩
            simp only
            have HR2 : Hid (rPces L0 l p0 e0 (j + 1) = (pcesOf xs ++ [⟨xp, xh, xs', ys, xd, xl, xr⟩], p', e')) := by
              show _ = _
              rw [rPces, HR.out]
              dsimp only
              rw [HPC.out]
            have bwW := bw.trans (below_grown bw.size (far_row (by omega)) gW)
            have kzW := kz.grown gW (by intro e; injection e with e; omega)
            by_cases he : e' = 0
            · subst he
              have kmW := km.grown gW (by intro e; injection e with e; exact hgm e.symm)
              have opW : OwnP wB.heap.size W B j d xs := ⟨op.1, row_turn op.2 gW qj.1 (by decide)⟩
              have ocW : Hid (∀ x ∈ xs, OwnC wB.heap.size W x) := hid fun x hx => row_turn (oc.out x hx) gW qj.1 (by decide)
              have hBW : wB.heap.size ≤ W.heap.size := Nat.le_trans hBw gW.size
              have oyB := own_low1 oy hBw
              clear km kz op oc bw gW qj oy HY HPC HR
              have m7 := kmW.cell 7
              have p0c := kp.cell 0
              have p1c := kp.cell 1
              have p2c := kp.cell 2
              have p3c := kp.cell 3
              have p4c := kp.cell 4
              have p5c := kp.cell 5
              have p6c := kp.cell 6
              simp only [List.getElem?_cons_zero, List.getElem?_cons_succ] at m7 p0c p1c p2c p3c p4c p5c p6c
              have b6 := hal W (.cells #[.string xp, .bool xh, .int .i64 xs', .slice C t cc, .int .i64 xd, .int .i64 xl, .int .i64 xr] 35)
              have kn := Blk.new W [.string xp, .bool xh, .int .i64 xs', .slice C t cc, .int .i64 xd, .int .i64 xl, .int .i64 xr] 35
              have hyl : ys.length = t := by have := oyB.1; rw [intV_length] at this; omega
              have op6 := opW.below b6
              have hnw : (⟨⟨xp, xh, xs', ys, xd, xl, xr⟩, C, cc⟩ : Pw).p.chunks.length = t := hyl
              obtain ⟨B', d', w7, HRUN, op7, g7⟩ := run_appP op6 ⟨W.heap.size, 0, none⟩ 1 ⟨⟨xp, xh, xs', ys, xd, xl, xr⟩, C, cc⟩ (fun i u hu => by rw [Addr.add_lit, Nat.zero_add, kn.cell i, ← hyl]; exact hu) (by omega) (Nat.le_trans hBW b6.size)
              have km6 := kmW.below b6
              have kz6 := kzW.below b6
              have q6 := rdr_below qW b6
              have bw6 := bwW.trans (b6.mono bwW.size)
              have km7 := blk_row km6 op6.2 g7 (by decide)
              have kz7 := blk_row kz6 op6.2 g7 (by decide)
              have rl := row_lt op6.2
              have q7 := RdrAt.far qB q6 g7 (Nat.le_trans hBW b6.size) rl
              have bw7 := bw6.trans (below_grown bw6.size (fun k hk => by have := rl k hk; omega) g7)
              have oc7 : Hid (∀ x ∈ xs ++ [⟨⟨xp, xh, xs', ys, xd, xl, xr⟩, C, cc⟩], OwnC wB.heap.size w7 x) := hid fun x hx => by
                rcases List.mem_append.1 hx with hx | hx
                · exact row_row (own_below1 (ocW.out x hx) b6) op6.2 g7 (by decide)
                · obtain rfl := List.mem_singleton.1 hx
                  have h9 := row_row (own_below1 oyB b6) op6.2 g7 (by decide)
                  unfold OwnC
                  dsimp only
                  rw [hyl]
                  exact h9
              have m77 := km7.cell 7
              have mf7 := km7.frozen 7
              simp only [List.getElem?_cons_zero, List.getElem?_cons_succ] at m77
              have gs : w7.grownBy (w7.setCell ⟨gm, 7, none⟩ (.slice B' (j + 1) d')) (some gm) := grown_set 7 _
              have km8 := km7.set_ 7 (.slice B' (j + 1) d')
              simp only [List.set_cons_zero, List.set_cons_succ] at km8
              have kz8 := kz7.grown gs (by intro e; injection e with e; exact hgz e)
              have q8 := rdr_turnM q7 km7 gs hgm
              have op8 : OwnP wB.heap.size (w7.setCell ⟨gm, 7, none⟩ (.slice B' (j + 1) d')) B' (j + 1) d' (xs ++ [⟨⟨xp, xh, xs', ys, xd, xl, xr⟩, C, cc⟩]) := ⟨op7.1, row_turn op7.2 gs km7 (by decide)⟩
              have oc8 : Hid (∀ x ∈ xs ++ [⟨⟨xp, xh, xs', ys, xd, xl, xr⟩, C, cc⟩], OwnC wB.heap.size (w7.setCell ⟨gm, 7, none⟩ (.slice B' (j + 1) d')) x) := hid fun x hx => row_turn (oc7.out x hx) gs km7 (by decide)
              have bw8 := bw7.setCell (p := ⟨gm, 7, none⟩) hmw (.slice B' (j + 1) d')
              have sz8 : Hid (∀ x ∈ xs ++ [⟨⟨xp, xh, xs', ys, xd, xl, xr⟩, C, cc⟩], x.p.path.size ≤ 16384) := hid fun x hx => by
                rcases List.mem_append.1 hx with hx | hx
                · exact sz.out x hx
                · obtain rfl := List.mem_singleton.1 hx
                  exact HXS.out
              have HR8 : Hid (rPces L0 l p0 e0 (j + 1) = (pcesOf (xs ++ [⟨⟨xp, xh, xs', ys, xd, xl, xr⟩, C, cc⟩]), p', 0)) := by
                show _ = _
                rw [HR2.out]
                simp [pcesOf]
              have hB8 : wB.heap.size ≤ (w7.setCell ⟨gm, 7, none⟩ (.slice B' (j + 1) d')).heap.size := by have := b6.size; have := g7.size; have := gs.size; omega
              have HFIN := hid (show RdSt w wB (w7.setCell ⟨gm, 7, none⟩ (.slice B' (j + 1) d')) g gm w.heap.size A c l v1 v2 v3 v4 v5 v6 v7 p0 e0 (j + 1) from ⟨_, _, _, B', d', HR8, q8, km8, kz8, op8, oc8, sz8, bw8, hB8⟩)
              have HRUN2 := hid (HRUN.out 22)
              clear HR8 q8 km8 kz8 op8 oc8 sz8 bw8 hB8 HRUN HR2 km6 kz6 q6 bw6 km7 kz7 q7 bw7 oc7 op7 op6 opW ocW oyB kmW kzW bwW b6 kn kp gs rl g7 hnw qW
              go_wp2_with (at_builtin; refine Lib.wpList_append_run _ rfl _ _ _ _ rfl _ _ rfl rfl _ _ HRUN2.out ?_)
              go_roundw
              case rel => exact ⟨j + 1, HJ.out, by go_num, HFIN.out⟩
              case measure => have := HJ.out; simp [intOf]; omega
            · have hne : (e' != 0) = true := by simp [he]
              have HF : Hid (readN L0 l = 4) := by
                refine hid (read_bad1 fun h0 => he ?_)
                rw [HP.out] at h0
                have h1 := pces_e n (j + 1) HJ.out h0
                rw [HR2.out] at h1
                exact h1
              clear km op oc gW qj oy HY HPC HR HR2 qW kp kz
              go_wp2
              go_step3
              exact ⟨rfl, _, _, _, _, _, _, _, _, _, _, _, _, _, _, _, _, _, _, _, _, _, _, _, _, _, _, _, _, _, _, _, _, _, _, _, _, _, _, _, _, _, _, _, _, _, _, _, _, _, _, rfl, HF, kzW, bwW⟩
      · have hjn2 : j = n := by omega
        have hnl : ¬ (j : Int) < n := by omega
        subst hjn2
        rw [HR.out] at HP
        go_wp2_with fail
        refine (rdEnd g A c l pj ej wr qj HL9.out).mono ?_
        rintro r w1 ⟨rfl, q1, hg1⟩
        simp only
        have kz1 := kz.grown hg1 (by intro e; injection e with e; omega)
        have km1 := km.grown hg1 (by intro e; injection e with e; exact hgm e.symm)
        have bw1 := bw.trans (below_grown bw.size (far_row (by omega)) hg1)
        have op1 : OwnP wB.heap.size w1 B j d xs := ⟨op.1, row_turn op.2 hg1 qj.1 (by decide)⟩
        have oc1 : ∀ x ∈ xs, OwnC wB.heap.size w1 x := fun x hx => row_turn (oc.out x hx) hg1 qj.1 (by decide)
        by_cases he : rEnd l pj ej = 0
        · rw [he]
          have mt1 := op1.mt (fun x hx => (oc1 x hx).ck) v1 v2 v3 v4 v5 v6 v7
          have hlen : (pcesOf xs).length = j := by rw [pcesOf_length]; exact op.1
          have cR := right12_any mt1 (fun p hp => by
            obtain ⟨x, hx, rfl⟩ := List.mem_map.1 hp
            have := sz.out x hx
            omega)
          unfold manV at cR
          dsimp only at cR
          rw [hlen] at cR
          have HRM : Hid ((rMan L0 l).1 = ⟨v1, v2, v3, v4, v5, v6, v7, pcesOf xs⟩ ∧ rEnd l (rMan L0 l).2.1 (rMan L0 l).2.2 = 0) := by
            refine hid ?_
            rw [HP.out]
            exact ⟨rfl, he⟩
          have m0 := km1.cell 0
          have m1 := km1.cell 1
          have m2 := km1.cell 2
          have m3 := km1.cell 3
          have m4 := km1.cell 4
          have m5 := km1.cell 5
          have m6 := km1.cell 6
          have m7 := km1.cell 7
          simp only [List.getElem?_cons_zero, List.getElem?_cons_succ] at m0 m1 m2 m3 m4 m5 m6 m7
          clear km kz op oc qj hg1 q1 bw HP HR he
          go_wp2_with fail
          refine cR.mono ?_
          rintro r w2 ⟨rfl, b2⟩
          simp only
          have km2 := km1.below b2
          have kz2 := kz1.below b2
          have bw2 := bw1.trans (b2.mono bw1.size)
          have op2 := op1.below b2
          have oc2 : Hid (∀ x ∈ xs, OwnC wB.heap.size w2 x) := hid fun x hx => own_below1 (oc1 x hx) b2
          clear cR m0 m1 m2 m3 m4 m5 m6 m7 km1 kz1 bw1 b2 mt1 op1 oc1
          cases hM : manR ⟨v1, v2, v3, v4, v5, v6, v7, pcesOf xs⟩
          · have HF : Hid (readN L0 l = 4) := by
              refine hid (read_no fun h0 => ?_).1
              have h1 := ((readN_zero (L := L0)).1 h0).2
              rw [HRM.out.1, hM] at h1
              cases h1
            clear km2 op2 oc2
            go_wp2
            go_step3
            exact ⟨rfl, _, _, _, _, _, _, _, _, _, _, _, _, _, _, _, _, _, _, _, _, _, _, _, _, _, _, _, _, _, _, _, _, _, _, _, _, _, _, _, _, _, _, _, _, _, _, _, _, _, _, rfl, HF, kz2, bw2⟩
          · have HF : Hid (readN L0 l = 0 ∧ readA L0 l = ⟨v1, v2, v3, v4, v5, v6, v7, pcesOf xs⟩) := by
              have h0 : readN L0 l = 0 := HQ.out.2 ⟨HRM.out.2, by rw [HRM.out.1]; exact hM⟩
              refine hid ⟨h0, ?_⟩
              rw [HA.out, if_pos h0, HRM.out.1]
            clear hM
            have m0 := km2.cell 0
            have m1 := km2.cell 1
            have m2 := km2.cell 2
            have m3 := km2.cell 3
            have m4 := km2.cell 4
            have m5 := km2.cell 5
            have m6 := km2.cell 6
            have m7 := km2.cell 7
            have z0 := kz2.cell 0
            have z1 := kz2.cell 1
            have z2 := kz2.cell 2
            have z3 := kz2.cell 3
            have z4 := kz2.cell 4
            have z5 := kz2.cell 5
            have z6 := kz2.cell 6
            have z7 := kz2.cell 7
            have f0 := kz2.frozen 0
            have f1 := kz2.frozen 1
            have f2 := kz2.frozen 2
            have f3 := kz2.frozen 3
            have f4 := kz2.frozen 4
            have f5 := kz2.frozen 5
            have f6 := kz2.frozen 6
            have f7 := kz2.frozen 7
            simp only [List.getElem?_cons_zero, List.getElem?_cons_succ] at m0 z0 m1 z1 m2 z2 m3 z3 m4 z4 m5 z5 m6 z6 m7 z7
            have ks := ((((((((kz2.set_ 0 (.int .i64 v1)).set_ 1 (.int .i64 v2)).set_ 2 (.int .i64 v3)).set_ 3 (.int .i64 v4)).set_ 4 (.int .i64 v5)).set_ 5 (.int .i64 v6)).set_ 6 (.int .i64 v7)).set_ 7 (.slice B j d))
            simp only [List.set_cons_zero, List.set_cons_succ] at ks
            have r0 := ks.cell 0
            have r1 := ks.cell 1
            have r2 := ks.cell 2
            have r3 := ks.cell 3
            have r4 := ks.cell 4
            have r5 := ks.cell 5
            have r6 := ks.cell 6
            have r7 := ks.cell 7
            simp only [List.getElem?_cons_zero, List.getElem?_cons_succ] at r0 r1 r2 r3 r4 r5 r6 r7
            have gs := sets8 w2 w.heap.size (.int .i64 v1) (.int .i64 v2) (.int .i64 v3) (.int .i64 v4) (.int .i64 v5) (.int .i64 v6) (.int .i64 v7) (.slice B j d)
            have bS := bw2.trans (below_grown bw2.size (far_row (Nat.le_refl _)) gs)
            have mtS := OwnP.mt (⟨op2.1, row_turn op2.2 gs kz2 (by decide)⟩ : OwnP wB.heap.size ((((((((w2.setCell ⟨w.heap.size, 0, none⟩ (.int .i64 v1)).setCell ⟨w.heap.size, 1, none⟩ (.int .i64 v2)).setCell ⟨w.heap.size, 2, none⟩ (.int .i64 v3)).setCell ⟨w.heap.size, 3, none⟩ (.int .i64 v4)).setCell ⟨w.heap.size, 4, none⟩ (.int .i64 v5)).setCell ⟨w.heap.size, 5, none⟩ (.int .i64 v6)).setCell ⟨w.heap.size, 6, none⟩ (.int .i64 v7)).setCell ⟨w.heap.size, 7, none⟩ (.slice B j d)) B j d xs) (fun x hx => OwnC.ck (base := wB.heap.size) (row_turn (oc2.out x hx) gs kz2 (by decide))) v1 v2 v3 v4 v5 v6 v7
            clear ks km2 kz2 gs bw2 op2 oc2
            go_wp2
            simp only [Exit.jump]
            refine bodyPost_ret (v := .tuple #[.agg #[.int .i64 v1, .int .i64 v2, .int .i64 v3, .int .i64 v4, .int .i64 v5, .int .i64 v6, .int .i64 v7, .slice B j d], .int .i64 0]) (by simp [results, Tryd.results22, go_sem, r0, r1, r2, r3, r4, r5, r6, r7]) rfl ?_
            rw [HF.out.1, HF.out.2]
            exact ⟨B, d, by unfold manV; dsimp only; rw [hlen]; rfl, mtS, bS⟩
        · have hne : (rEnd l pj ej != 0) = true := by simp [he]
          have HF : Hid (readN L0 l = 4) := by
            refine hid (read_no fun h0 => he ?_).1
            have h1 := ((readN_zero (L := L0)).1 h0).1
            rw [HP.out] at h1
            exact h1
          clear km op oc qj q1 km1 op1 oc1 kz HR
          go_wp2
          go_step3
          exact ⟨rfl, _, _, _, _, _, _, _, _, _, _, _, _, _, _, _, _, _, _, _, _, _, _, _, _, _, _, _, _, _, _, _, _, _, _, _, _, _, _, _, _, _, _, _, _, _, _, _, _, _, _, rfl, HF, kz1, bw1⟩
  · rintro a' w' ⟨u0, u1, u3, u4, u5, u6, u7, u8, u9, u10, u11, u12, u13, u14, u15, u16, u17, u18, u19, u20, u21, u22, u23, u24, u25, u26, u27, u28, u29, u30, u31, u32, u33, u34, u35, u36, u37, u38, u39, u40, u41, u42, u43, u44, u45, u46, u47, u48, u49, u50, rfl, HF, kz', bw'⟩
    have z0 := kz'.cell 0
    have z1 := kz'.cell 1
    have z2 := kz'.cell 2
    have z3 := kz'.cell 3
    have z4 := kz'.cell 4
    have z5 := kz'.cell 5
    have z6 := kz'.cell 6
    have z7 := kz'.cell 7
    have f0 := kz'.frozen 0
    have f1 := kz'.frozen 1
    have f2 := kz'.frozen 2
    have f3 := kz'.frozen 3
    have f4 := kz'.frozen 4
    have f5 := kz'.frozen 5
    have f6 := kz'.frozen 6
    have f7 := kz'.frozen 7
    simp only [List.getElem?_cons_zero, List.getElem?_cons_succ] at z0 z1 z2 z3 z4 z5 z6 z7
    have ks := ((((((((kz'.set_ 0 (.int .i64 0)).set_ 1 (.int .i64 0)).set_ 2 (.int .i64 0)).set_ 3 (.int .i64 0)).set_ 4 (.int .i64 0)).set_ 5 (.int .i64 0)).set_ 6 (.int .i64 0)).set_ 7 (.slice none 0 0))
    simp only [List.set_cons_zero, List.set_cons_succ] at ks
    have r0 := ks.cell 0
    have r1 := ks.cell 1
    have r2 := ks.cell 2
    have r3 := ks.cell 3
    have r4 := ks.cell 4
    have r5 := ks.cell 5
    have r6 := ks.cell 6
    have r7 := ks.cell 7
    simp only [List.getElem?_cons_zero, List.getElem?_cons_succ] at r0 r1 r2 r3 r4 r5 r6 r7
    have gs := sets8 w' w.heap.size (.int .i64 0) (.int .i64 0) (.int .i64 0) (.int .i64 0) (.int .i64 0) (.int .i64 0) (.int .i64 0) (.slice none 0 0)
    have bS := bw'.trans (below_grown bw'.size (far_row (Nat.le_refl _)) gs)
    clear ks kz' gs
    go_wp2
    simp only [Exit.jump]
    refine bodyPost_ret (v := .tuple #[.agg #[.int .i64 0, .int .i64 0, .int .i64 0, .int .i64 0, .int .i64 0, .int .i64 0, .int .i64 0, .slice none 0 0], .int .i64 4]) (by simp [results, Tryd.results22, go_sem, r0, r1, r2, r3, r4, r5, r6, r7]) rfl ?_
    have hA : readA L0 l = zeroM := by rw [HA.out, if_neg (by rw [HF.out]; decide)]
    rw [HF.out, hA]
    exact ⟨none, 0, rfl, ⟨.inl rfl, Nat.le_refl _, by unfold maxLen; omega⟩, bS⟩
end Go.Proofs.YtgafjbmpaeejbaaDoor
namespace Go.Proofs.YtgafjbmpaeejbaaDoor
open Go.RowKit

theorem numbers_any (A : Option Addr) (n c : Nat) (a1 a2 a3 a4 a5 a6 a7 : Int) (w : World) :
    Calls Tryd.prog 29 #[.agg #[.int .i64 a1, .int .i64 a2, .int .i64 a3, .int .i64 a4, .int .i64 a5, .int .i64 a6, .int .i64 a7, .slice A n c]] w fun e w' => e = .returned (.agg #[.int .i64 a1, .int .i64 a2, .int .i64 a3, .int .i64 a4, .int .i64 a5, .int .i64 a6, .int .i64 a7]) ∧ Below w.heap.size w w' := by
  go_enter Tryd.func29, Tryd.ntmps29
  go_wp2
  go_returns
  refine ⟨rfl, ?_⟩
  go_grown

set_option maxHeartbeats 1000000 in
theorem write_any {B b : Nat} {l : List UInt8} {w : World} (h : Bu B b l w) (A : Option Addr) (n c : Nat) (xs : List Int) (hl : xs.length = n) (hr : Rd w A (intV xs)) (hA : xs = [] ∨ Far B w A) (hlen : l.length + 4 * n ≤ 100000000) (hBw : B ≤ w.heap.size) :
    Calls Tryd.prog 37 #[.pointer (some ⟨b, 0, none⟩), .slice A n c] w fun e w' => e = .returned (.tuple #[]) ∧ Bu B b (l ++ intsB xs) w' ∧ FrB B b w w' := by
  have hni := bu_not_int h
  have HL := hid hl
  clear hl
  go_enter Tryd.func37, Tryd.ntmps37
  go_wp2_with fail
  go_loopw [8] (fun i wr => ∃ j : Nat, j ≤ n ∧ i = .int .i64 j ∧ Bu B b (l ++ intsB (xs.take j)) wr ∧ FrB B b w wr) (fun i _ => n - (intOf i).toNat)
  case atStart => exact ⟨0, by omega, rfl, by simpa [intsB] using h, FrB.refl _ _ _⟩
  case round =>
    obtain ⟨j, hj, rfl, hb, fr⟩ := hrel
    by_cases hjn : j < n
    · have hjl : j < xs.length := by rw [HL.out]; exact hjn
      have hr1 := fr.rd hr hA fun o u hu hm => by
        obtain ⟨x, -, rfl⟩ := List.mem_map.1 hm
        exact hni o _ hu _ _ rfl
      obtain ⟨g, og, rfl, x0, -⟩ := int_at hr1 hjl
      have hz : (0 : Int) ≤ j := by omega
      have hlt : (j : Int) < n := by omega
      have hll : (l ++ intsB (xs.take j)).length ≤ l.length + 4 * j := by rw [List.length_append, intsB_length, List.length_take]; omega
      have HM : Hid ((l ++ intsB (xs.take j)) ++ numB xs[j] = l ++ intsB (xs.take (j + 1))) := by
        show _ = _
        rw [List.take_add_one, List.getElem?_eq_getElem hjl, List.append_assoc, ← intsB_snoc]
        rfl
      generalize xs[j] = x at *
      have cN := number_any none 0 0 [] x wr rfl (.inl rfl) (by omega)
      clear hr1
      go_wp2_with fail
      refine cN.mono ?_
      rintro e w1 ⟨A1, c1, rfl, o1, b1⟩
      have hbu := bu_below hb b1
      have f1 := fr.trans (FrB.of_below b1)
      have r1 : Rd w1 A1 (by8 (numB x)) := Rd.of_own o1
      have cW := bwrite_any hbu A1 4 c1 (numB x) (numB_length x) r1 (by omega) (Nat.le_trans hBw f1.size)
      rw [HM.out] at cW
      clear cN hb fr b1 o1 x0 HM hll r1 hbu
      go_wp2_with fail
      refine cW.mono ?_
      rintro e w2 ⟨rfl, hb2, f2⟩
      have f3 := f1.trans f2
      clear cW f1 f2
      go_wp2
      go_roundw
      case rel => exact ⟨j + 1, by omega, by go_num, hb2, f3⟩
      case measure => simp [intOf]; omega
    · have hjn2 : j = n := by omega
      rw [hjn2, List.take_of_length_le (by rw [HL.out]; exact Nat.le_refl _)] at hb
      have hnl : ¬ (j : Int) < n := by omega
      go_wp2
      go_end0
      exact ⟨rfl, hb, fr⟩

theorem head_ints (m : Man) : manB m = (intsB [m.author, m.version, m.prev, m.epoch, m.next, m.seen, m.head] ++ intsB [(m.pieces.length : Int)]) ++ pcesB m.pieces := by
  unfold manB
  simp [intsB]
theorem piece_ints (x : Pce) : pceB x = (strB x.path ++ intsB [bitI x.has, x.size, x.digest, x.l, x.r, (x.chunks.length : Int)]) ++ intsB x.chunks := by
  unfold pceB
  simp [intsB]
theorem pcesB_le : ∀ (ps : List Pce), (∀ p ∈ ps, p.chunks.length ≤ 1000) → (pcesB ps).length ≤ 20412 * ps.length
  | [], _ => by simp [pcesB]
  | p :: ps, h => by
    have h1 := h p List.mem_cons_self
    have h2 := pcesB_le ps fun q hq => h q (List.mem_cons_of_mem _ hq)
    rw [pcesB_cons, List.length_append, pceB_length, List.length_cons]
    omega

set_option maxHeartbeats 4000000 in
set_option maxRecDepth 20000 in
theorem bytes12_any {w : World} {A : Option Addr} {c : Nat} {m : Man} (h : Mt w A c m) (hn : m.pieces.length ≤ 1000) (hk : ∀ p ∈ m.pieces, p.path.size ≤ maxLen ∧ p.chunks.length ≤ 1000) :
    Calls Tryd.prog 20 #[manV m A c] w fun e w' => e = .returned (.string (toS (manB m))) ∧ Below w.heap.size w w' := by
  have HB := hid (head_ints m)
  obtain ⟨a1, a2, a3, a4, a5, a6, a7, ps⟩ := m
  obtain ⟨hps, hcap, hcm⟩ := h
  dsimp only at hps hcap hn hk HB
  unfold manV
  dsimp only
  have hal : ∀ (W : World) (o : Obj), Below W.heap.size W (W.alloc o) := fun W o => (Below.refl _ _).alloc (Nat.le_refl _) o
  obtain ⟨n, hn0⟩ : ∃ n, n = ps.length := ⟨_, rfl⟩
  rw [← hn0] at hn HB ⊢
  have HN := hid hn0
  have HK := hid hk
  clear hn0 hk hcap hcm
  generalize manB ⟨a1, a2, a3, a4, a5, a6, a7, ps⟩ = Z at *
  have b0 := hal w (.cells #[.int .i64 a1, .int .i64 a2, .int .i64 a3, .int .i64 a4, .int .i64 a5, .int .i64 a6, .int .i64 a7, .slice A n c] 24)
  have pk0 := (Blk.new w [.int .i64 a1, .int .i64 a2, .int .i64 a3, .int .i64 a4, .int .i64 a5, .int .i64 a6, .int .i64 a7, .slice A n c] 24).below (hal _ (.cells #[.pointer none, .slice none 0 0] 59))
  have b1 := below2 b0 (hal _ (.cells #[.pointer none, .slice none 0 0] 59))
  have hbu : Bu w.heap.size (w.heap.size + 1) [] ((w.alloc (.cells #[.int .i64 a1, .int .i64 a2, .int .i64 a3, .int .i64 a4, .int .i64 a5, .int .i64 a6, .int .i64 a7, .slice A n c] 24)).alloc (.cells #[.pointer none, .slice none 0 0] 59)) := .inl ⟨by omega, .slice none 0 0, by have := heap_alloc_new (w.alloc (.cells #[.int .i64 a1, .int .i64 a2, .int .i64 a3, .int .i64 a4, .int .i64 a5, .int .i64 a6, .int .i64 a7, .slice A n c] 24)) (.cells #[.pointer none, .slice none 0 0] 59); rw [World.size_alloc] at this; exact this, World.ownsRow_nil _ _ _ _, by simp [Value.ownBlock]⟩
  go_enter Tryd.func20, Tryd.ntmps20
  go_wp2_with fail
  refine (numbers_any A n c a1 a2 a3 a4 a5 a6 a7 _).mono ?_
  rintro e w2 ⟨rfl, b2⟩
  simp only
  generalize (w.alloc (.cells #[.int .i64 a1, .int .i64 a2, .int .i64 a3, .int .i64 a4, .int .i64 a5, .int .i64 a6, .int .i64 a7, .slice A n c] 24)).alloc (.cells #[.pointer none, .slice none 0 0] 59) = w1 at *
  have b2w := below2 b1 b2
  have pk2 := pk0.below b2
  have hb2 := bu_below hbu b2
  clear b0 b1 b2 pk0 hbu
  have b3 := hal w2 (.cells #[.int .i64 a1, .int .i64 a2, .int .i64 a3, .int .i64 a4, .int .i64 a5, .int .i64 a6, .int .i64 a7] 48)
  have pf := Blk.new w2 [.int .i64 a1, .int .i64 a2, .int .i64 a3, .int .i64 a4, .int .i64 a5, .int .i64 a6, .int .i64 a7] 48
  have r3 := new_cells w2 48 (intV [a1, a2, a3, a4, a5, a6, a7])
  have pk3 := pk2.below b3
  have hb3 := bu_below hb2 b3
  have b3w := b2w.trans (b3.mono b2w.size)
  have cW := write_any hb3 (some ⟨w2.heap.size, 0, none⟩) 7 7 [a1, a2, a3, a4, a5, a6, a7] rfl (.inr ⟨_, rfl, r3⟩) (.inr (Far.of_blk pf (by decide))) (by simp) b3w.size
  clear pk2 hb2 hb3 r3 pf b3
  go_wp2_with fail
  generalize w2.alloc (.cells #[.int .i64 a1, .int .i64 a2, .int .i64 a3, .int .i64 a4, .int .i64 a5, .int .i64 a6, .int .i64 a7] 48) = w3 at *
  refine cW.mono ?_
  rintro e w4 ⟨rfl, hb4, f4⟩
  simp only
  have pk4 := f4.blk pk3 (by decide) (by omega)
  have b4w := b3w.trans (f4.below (by omega) b3w.size)
  clear cW pk3 f4 b3w b2w
  have k7 := pk4.cell 7
  simp only [List.getElem?_cons_zero, List.getElem?_cons_succ] at k7
  have b5 := hal w4 (.cells #[.int .i64 n] 3)
  have pf := Blk.new w4 [.int .i64 n] 3
  have r5 := new_cells w4 3 (intV [(n : Int)])
  have pk5 := pk4.below b5
  have hb5 := bu_below hb4 b5
  have b5w := b4w.trans (b5.mono b4w.size)
  have cW := write_any hb5 (some ⟨w4.heap.size, 0, none⟩) 1 1 [(n : Int)] rfl (.inr ⟨_, rfl, r5⟩) (.inr (Far.of_blk pf (by decide))) (by rw [List.length_append, intsB_length]; simp) b5w.size
  clear pk4 hb4 hb5 r5 pf b5
  go_wp2_with fail
  generalize w4.alloc (.cells #[.int .i64 n] 3) = w5 at *
  refine cW.mono ?_
  rintro e w6 ⟨rfl, hb6, f6⟩
  simp only
  have pk6 := f6.blk pk5 (by decide) (by omega)
  have b6w := b5w.trans (f6.below (by omega) b5w.size)
  clear cW pk5 f6 b5w b4w k7
  have k7 := pk6.cell 7
  simp only [List.getElem?_cons_zero, List.getElem?_cons_succ] at k7
  rw [List.nil_append] at hb6
  have hhl : (intsB [a1, a2, a3, a4, a5, a6, a7] ++ intsB [(n : Int)]).length = 32 := by rw [List.length_append, intsB_length, intsB_length]; rfl
  generalize intsB [a1, a2, a3, a4, a5, a6, a7] ++ intsB [(n : Int)] = hd at *
  clear pk6
  go_wp2_with fail
  go_loopw [20] (fun i wr => ∃ j : Nat, j ≤ n ∧ i = .int .i64 j ∧ Bu w.heap.size (w.heap.size + 1) (hd ++ pcesB (ps.take j)) wr ∧ Below w.heap.size w wr) (fun i _ => n - (intOf i).toNat)
  case atStart => exact ⟨0, by omega, rfl, by simpa [pcesB] using hb6, b6w⟩
  case round =>
    clear hb6 b6w k7
    obtain ⟨j, hj, rfl, hb, bw⟩ := hrel
    by_cases hjn : j < n
    · have hjl : j < ps.length := by rw [← HN.out]; exact hjn
      have hz : (0 : Int) ≤ j := by omega
      have hlt : (j : Int) < n := by omega
      have HJ := hid hjn
      obtain ⟨b, og, C, cc, rfl, x0, x1, x2, x3, x4, x5, x6, rx, hcx, hcx2, lgb⟩ := hps.pc hjl
      have hlow := rx.low
      have hll := pcesB_le (ps.take j) fun q hq => (HK.out q (List.mem_of_mem_take hq)).2
      rw [List.length_take] at hll
      have hx1 := HK.out _ (List.getElem_mem hjl)
      have HM : Hid ((((hd ++ pcesB (ps.take j)) ++ strB ps[j].path) ++ intsB [bitI ps[j].has, ps[j].size, ps[j].digest, ps[j].l, ps[j].r, (ps[j].chunks.length : Int)]) ++ intsB ps[j].chunks = hd ++ pcesB (ps.take (j + 1))) := by
        show _ = _
        rw [List.take_add_one, List.getElem?_eq_getElem hjl, show (ps.take j ++ (some ps[j]).toList) = ps.take j ++ [ps[j]] from rfl, pcesB_snoc, piece_ints]
        simp only [List.append_assoc]
      generalize ps[j] = x at *
      obtain ⟨xp, xh, xs, xc, xd, xl, xr⟩ := x
      dsimp only at x0 x1 x2 x3 x4 x5 x6 rx hcx hlow HM hx1
      have y0 := (bw.cell (p := ⟨b, og + j * 7, none⟩) lgb).trans x0
      have y1 := (bw.cell (p := ⟨b, og + j * 7 + 1, none⟩) lgb).trans x1
      have y2 := (bw.cell (p := ⟨b, og + j * 7 + 2, none⟩) lgb).trans x2
      have y3 := (bw.cell (p := ⟨b, og + j * 7 + 3, none⟩) lgb).trans x3
      have y4 := (bw.cell (p := ⟨b, og + j * 7 + 4, none⟩) lgb).trans x4
      have y5 := (bw.cell (p := ⟨b, og + j * 7 + 5, none⟩) lgb).trans x5
      have y6 := (bw.cell (p := ⟨b, og + j * 7 + 6, none⟩) lgb).trans x6
      clear x0 x1 x2 x3 x4 x5 x6
      have hblt := bu_lt hb
      have hbl : (hd ++ pcesB (ps.take j)).length ≤ 20500000 := by rw [List.length_append]; omega
      generalize hd ++ pcesB (ps.take j) = pre at *
      have HSL := hid (strB_length xp)
      cases xh
      · have b3 := hal wr (.cells #[.string xp, .bool false, .int .i64 xs, .slice C xc.length cc, .int .i64 xd, .int .i64 xl, .int .i64 xr] 35)
        have px := Blk.new wr [.string xp, .bool false, .int .i64 xs, .slice C xc.length cc, .int .i64 xd, .int .i64 xl, .int .i64 xr] 35
        have hb3 := bu_below hb b3
        have cS := string_any none 0 0 [] xp (wr.alloc (.cells #[.string xp, .bool false, .int .i64 xs, .slice C xc.length cc, .int .i64 xd, .int .i64 xl, .int .i64 xr] 35)) rfl (.inl rfl) (by omega) hx1.1
        simp only [Nat.zero_add, List.nil_append] at cS
        have b3w := bw.trans (b3.mono bw.size)
        clear hb b3
        have hg := hid (show wr.heap.size ≠ w.heap.size + 1 by omega)
        go_wp2_with fail
        generalize wr.alloc (.cells #[.string xp, .bool false, .int .i64 xs, .slice C xc.length cc, .int .i64 xd, .int .i64 xl, .int .i64 xr] 35) = wa at *
        refine cS.mono ?_
        rintro e w1 ⟨A1, c1, rfl, o1, b1⟩
        have hb1 := bu_below hb3 b1
        have px1 := px.below b1
        have b1w := b3w.trans (b1.mono b3w.size)
        have r1 := Rd.of_own o1
        have cW := bwrite_any hb1 A1 (strB xp).length c1 (strB xp) rfl r1 (by have := HSL.out; omega) b1w.size
        clear cS o1 px hb3 b1 b3w r1
        go_wp2_with fail
        refine cW.mono ?_
        rintro e w2 ⟨rfl, hb2, f2⟩
        have px2 := f2.blk px1 (by decide) hg.out
        have b2w := b1w.trans (f2.below (by omega) b1w.size)
        clear cW px1 f2 b1w hb1
        have c2 := px2.cell 2
        have c3 := px2.cell 3
        have c4 := px2.cell 4
        have c5 := px2.cell 5
        have c6 := px2.cell 6
        simp only [List.getElem?_cons_zero, List.getElem?_cons_succ] at c2 c3 c4 c5 c6
        have b5 := hal w2 (.cells #[.int .i64 0, .int .i64 xs, .int .i64 xd, .int .i64 xl, .int .i64 xr, .int .i64 xc.length] 3)
        have pf := Blk.new w2 [.int .i64 0, .int .i64 xs, .int .i64 xd, .int .i64 xl, .int .i64 xr, .int .i64 xc.length] 3
        have r5 := new_cells w2 3 (intV [0, xs, xd, xl, xr, (xc.length : Int)])
        have px5 := px2.below b5
        have hb5 := bu_below hb2 b5
        have b5w := b2w.trans (b5.mono b2w.size)
        have hpl : (pre ++ strB xp).length ≤ 20600000 := by rw [List.length_append, HSL.out]; omega
        have cW := write_any hb5 (some ⟨w2.heap.size, 0, none⟩) 6 6 [0, xs, xd, xl, xr, (xc.length : Int)] rfl (.inr ⟨_, rfl, r5⟩) (.inr (Far.of_blk pf (by decide))) (by omega) b5w.size
        clear hb5 hb2 r5 pf b5 px2 b2w
        go_wp2_with fail
        generalize w2.alloc (.cells #[.int .i64 0, .int .i64 xs, .int .i64 xd, .int .i64 xl, .int .i64 xr, .int .i64 xc.length] 3) = w5 at *
        refine cW.mono ?_
        rintro e w6 ⟨rfl, hb6, f6⟩
        have px6 := f6.blk px5 (by decide) hg.out
        have b6w := b5w.trans (f6.below (by omega) b5w.size)
        clear cW px5 f6 b5w c2 c3 c4 c5 c6
        have c3 := px6.cell 3
        simp only [List.getElem?_cons_zero, List.getElem?_cons_succ] at c3
        have cW := write_any hb6 C xc.length cc xc rfl (rx.below b6w) (hlow.imp id fun k => k w6) (by rw [List.length_append, intsB_length]; simp only [List.length_cons, List.length_nil]; omega) b6w.size
        rw [show (pre ++ strB xp) ++ intsB [0, xs, xd, xl, xr, (xc.length : Int)] ++ intsB xc = hd ++ pcesB (ps.take (j + 1)) from HM.out] at cW
        clear hb6 rx
        go_wp2_with fail
        refine cW.mono ?_
        rintro e w7 ⟨rfl, hb7, f7⟩
        have b7w := b6w.trans (f7.below (by omega) b6w.size)
        clear cW f7 px6 hlow
        go_wp2
        go_roundw
        case rel => exact ⟨j + 1, HJ.out, by go_num, hb7, b7w⟩
        case measure => have := HJ.out; simp [intOf]; omega
      · have b3 := hal wr (.cells #[.string xp, .bool true, .int .i64 xs, .slice C xc.length cc, .int .i64 xd, .int .i64 xl, .int .i64 xr] 35)
        have px := Blk.new wr [.string xp, .bool true, .int .i64 xs, .slice C xc.length cc, .int .i64 xd, .int .i64 xl, .int .i64 xr] 35
        have hb3 := bu_below hb b3
        have cS := string_any none 0 0 [] xp (wr.alloc (.cells #[.string xp, .bool true, .int .i64 xs, .slice C xc.length cc, .int .i64 xd, .int .i64 xl, .int .i64 xr] 35)) rfl (.inl rfl) (by omega) hx1.1
        simp only [Nat.zero_add, List.nil_append] at cS
        have b3w := bw.trans (b3.mono bw.size)
        clear hb b3
        have hg := hid (show wr.heap.size ≠ w.heap.size + 1 by omega)
        go_wp2_with fail
        generalize wr.alloc (.cells #[.string xp, .bool true, .int .i64 xs, .slice C xc.length cc, .int .i64 xd, .int .i64 xl, .int .i64 xr] 35) = wa at *
        refine cS.mono ?_
        rintro e w1 ⟨A1, c1, rfl, o1, b1⟩
        have hb1 := bu_below hb3 b1
        have px1 := px.below b1
        have b1w := b3w.trans (b1.mono b3w.size)
        have r1 := Rd.of_own o1
        have cW := bwrite_any hb1 A1 (strB xp).length c1 (strB xp) rfl r1 (by have := HSL.out; omega) b1w.size
        clear cS o1 px hb3 b1 b3w r1
        go_wp2_with fail
        refine cW.mono ?_
        rintro e w2 ⟨rfl, hb2, f2⟩
        have px2 := f2.blk px1 (by decide) hg.out
        have b2w := b1w.trans (f2.below (by omega) b1w.size)
        clear cW px1 f2 b1w hb1
        have c2 := px2.cell 2
        have c3 := px2.cell 3
        have c4 := px2.cell 4
        have c5 := px2.cell 5
        have c6 := px2.cell 6
        simp only [List.getElem?_cons_zero, List.getElem?_cons_succ] at c2 c3 c4 c5 c6
        have b5 := hal w2 (.cells #[.int .i64 1, .int .i64 xs, .int .i64 xd, .int .i64 xl, .int .i64 xr, .int .i64 xc.length] 3)
        have pf := Blk.new w2 [.int .i64 1, .int .i64 xs, .int .i64 xd, .int .i64 xl, .int .i64 xr, .int .i64 xc.length] 3
        have r5 := new_cells w2 3 (intV [1, xs, xd, xl, xr, (xc.length : Int)])
        have px5 := px2.below b5
        have hb5 := bu_below hb2 b5
        have b5w := b2w.trans (b5.mono b2w.size)
        have hpl : (pre ++ strB xp).length ≤ 20600000 := by rw [List.length_append, HSL.out]; omega
        have cW := write_any hb5 (some ⟨w2.heap.size, 0, none⟩) 6 6 [1, xs, xd, xl, xr, (xc.length : Int)] rfl (.inr ⟨_, rfl, r5⟩) (.inr (Far.of_blk pf (by decide))) (by omega) b5w.size
        clear hb5 hb2 r5 pf b5 px2 b2w
        go_wp2_with fail
        generalize w2.alloc (.cells #[.int .i64 1, .int .i64 xs, .int .i64 xd, .int .i64 xl, .int .i64 xr, .int .i64 xc.length] 3) = w5 at *
        refine cW.mono ?_
        rintro e w6 ⟨rfl, hb6, f6⟩
        have px6 := f6.blk px5 (by decide) hg.out
        have b6w := b5w.trans (f6.below (by omega) b5w.size)
        clear cW px5 f6 b5w c2 c3 c4 c5 c6
        have c3 := px6.cell 3
        simp only [List.getElem?_cons_zero, List.getElem?_cons_succ] at c3
        have cW := write_any hb6 C xc.length cc xc rfl (rx.below b6w) (hlow.imp id fun k => k w6) (by rw [List.length_append, intsB_length]; simp only [List.length_cons, List.length_nil]; omega) b6w.size
        rw [show (pre ++ strB xp) ++ intsB [1, xs, xd, xl, xr, (xc.length : Int)] ++ intsB xc = hd ++ pcesB (ps.take (j + 1)) from HM.out] at cW
        clear hb6 rx
        go_wp2_with fail
        refine cW.mono ?_
        rintro e w7 ⟨rfl, hb7, f7⟩
        have b7w := b6w.trans (f7.below (by omega) b6w.size)
        clear cW f7 px6 hlow
        go_wp2
        go_roundw
        case rel => exact ⟨j + 1, HJ.out, by go_num, hb7, b7w⟩
        case measure => have := HJ.out; simp [intOf]; omega
    · have hjn2 : j = n := by omega
      have hnl : ¬ (j : Int) < n := by omega
      rw [hjn2, List.take_of_length_le (by rw [HN.out]; exact Nat.le_refl _), ← HB.out] at hb
      have cS := Tryd.Builder_String_any w.heap.size (w.heap.size + 1) _ wr hb bw.size
      go_wp2_with fail
      refine cS.mono ?_
      rintro e w7 ⟨rfl, b7⟩
      have b7w := bw.trans b7
      go_wp2
      go_ret
      exact ⟨rfl, b7w⟩
end Go.Proofs.YtgafjbmpaeejbaaDoor
namespace Go.Proofs.YtgafjbmpaeejbaaDoor
open Go.RowKit

set_option maxHeartbeats 1000000 in
theorem eqInts_any (A B : Option Addr) (n m c d : Nat) (xs ys : List Int) (w : World) (hl : xs.length = n) (hl2 : ys.length = m) (hr : Rd w A (intV xs)) (hr2 : Rd w B (intV ys)) (hn : n ≤ 9223372036854775807) :
    Calls Tryd.prog 54 #[.slice A n c, .slice B m d] w fun e w' => e = .returned (.bool (decide (xs = ys))) ∧ Below w.heap.size w w' := by
  by_cases hnm : n = m
  · subst hnm
    have HL := hid hl
    have HL2 := hid hl2
    clear hl hl2
    go_enter Tryd.func54, Tryd.ntmps54
    go_wp2_with fail
    go_loopw [13] (fun i wr => ∃ j : Nat, j ≤ n ∧ i = .int .i64 j ∧ Hid (xs.take j = ys.take j) ∧ ∃ q, wr = w.drewN q) (fun i _ => n - (intOf i).toNat)
    case atStart => exact ⟨0, by omega, rfl, rfl, 0, rfl⟩
    case round =>
      obtain ⟨j, hj, rfl, HT, q, rfl⟩ := hrel
      by_cases hjn : j < n
      · have hjl : j < xs.length := by rw [HL.out]; exact hjn
        have hjl2 : j < ys.length := by rw [HL2.out]; exact hjn
        obtain ⟨b, off, rfl, x0, -⟩ := int_at hr hjl
        obtain ⟨b2, off2, rfl, y0, -⟩ := int_at hr2 hjl2
        have hz : (0 : Int) ≤ j := by omega
        have hlt : (j : Int) < n := by omega
        have HXY : Hid (xs.take (j + 1) = ys.take (j + 1) ↔ xs[j] = ys[j]) := by
          show _ ↔ _
          have e1 : xs.take (j + 1) = ys.take j ++ [xs[j]] := by rw [List.take_add_one, List.getElem?_eq_getElem hjl, HT.out]; rfl
          have e2 : ys.take (j + 1) = ys.take j ++ [ys[j]] := by rw [List.take_add_one, List.getElem?_eq_getElem hjl2]; rfl
          rw [e1, e2]
          exact ⟨fun h => by have := List.append_cancel_left h; injection this, fun h => by rw [h]⟩
        have HNE : Hid (xs[j] ≠ ys[j] → decide (xs = ys) = false) := fun h => decide_eq_false fun e => h (by subst e; rfl)
        generalize xs[j] = x at *
        generalize ys[j] = y at *
        by_cases hq : x = y
        · have HT2 : Hid (xs.take (j + 1) = ys.take (j + 1)) := HXY.out.2 hq
          subst hq
          clear HXY HNE HT
          go_wp2_with fail
          go_quiet (fail)
          go_wp2
          go_roundw
          case rel => exact ⟨j + 1, by omega, by go_num, HT2, _, rfl⟩
          case measure => simp [intOf]; omega
        · have HF : Hid (decide (xs = ys) = false) := HNE.out hq
          have hqb : (x == y) = false := by simp [hq]
          clear HXY HNE HT
          go_wp2_with fail
          go_quiet (fail)
          go_wp2
          go_ret
          exact ⟨ret_bool HF.out.symm, ⟨rfl, rfl, rfl, Nat.le_refl _, fun _ _ => rfl⟩⟩
      · have HE := hid (show j = n by omega)
        have hnlt : ¬ (j : Int) < n := by omega
        have HF : Hid (decide (xs = ys) = true) := by
          refine decide_eq_true ?_
          have h1 := HT.out
          rw [HE.out] at h1
          rw [← List.take_of_length_le (l := xs) (i := n) (by rw [HL.out]; omega), h1, List.take_of_length_le (by rw [HL2.out]; omega)]
        go_wp2
        go_ret
        exact ⟨ret_bool HF.out.symm, ⟨rfl, rfl, rfl, Nat.le_refl _, fun _ _ => rfl⟩⟩
  · have HF : Hid (decide (xs = ys) = false) := decide_eq_false fun e => hnm (by rw [← hl, ← hl2, e])
    have hne : ((n : Int) == (m : Int)) = false := by simp; omega
    have hne2 : ¬ (n : Int) = m := by omega
    go_enter Tryd.func54, Tryd.ntmps54
    go_wp2
    go_ret
    exact ⟨ret_bool HF.out.symm, Below.refl _ _⟩


set_option maxHeartbeats 4000000 in
set_option maxRecDepth 20000 in
theorem samePiece_any {w : World} {C D : Option Addr} {c d : Nat} {x y : Pce} (rx : Rd w C (intV x.chunks)) (ry : Rd w D (intV y.chunks)) (hc : x.chunks.length ≤ c) (hcm : c ≤ maxLen) :
    Calls Tryd.prog 31 #[pcA x C c, pcA y D d] w fun e w' => e = .returned (.bool (decide (x = y))) ∧ Below w.heap.size w w' := by
  obtain ⟨xp, xh, xs, xc, xd, xl, xr⟩ := x
  obtain ⟨yp, yh, ys, yc, yd, yl, yr⟩ := y
  dsimp only [pcA] at rx ry hc ⊢
  have hal : ∀ (W : World) (o : Obj), Below W.heap.size W (W.alloc o) := fun W o => (Below.refl _ _).alloc (Nat.le_refl _) o
  have bb := below2 (hal w (.cells #[.string xp, .bool xh, .int .i64 xs, .slice C xc.length c, .int .i64 xd, .int .i64 xl, .int .i64 xr] 35)) (hal _ (.cells #[.string yp, .bool yh, .int .i64 ys, .slice D yc.length d, .int .i64 yd, .int .i64 yl, .int .i64 yr] 35))
  have rx2 := rx.below bb
  have ry2 := ry.below bb
  have HNE : Hid ((⟨xp, xh, xs, xc, xd, xl, xr⟩ : Pce) ≠ ⟨yp, yh, ys, yc, yd, yl, yr⟩ → decide ((⟨xp, xh, xs, xc, xd, xl, xr⟩ : Pce) = ⟨yp, yh, ys, yc, yd, yl, yr⟩) = false) := fun h => decide_eq_false h
  have HEQ : Hid ((⟨xp, xh, xs, xc, xd, xl, xr⟩ : Pce) = ⟨yp, yh, ys, yc, yd, yl, yr⟩ → decide ((⟨xp, xh, xs, xc, xd, xl, xr⟩ : Pce) = ⟨yp, yh, ys, yc, yd, yl, yr⟩) = true) := fun h => decide_eq_true h
  have hsq := str_eqb1 xp yp
  have hpr := eqP xl xr yl yr
  have ci := eqInts_any C D xc.length yc.length c d xc yc _ rfl rfl rx2 ry2 (by unfold maxLen at hcm; omega)
  generalize hZ : decide ((⟨xp, xh, xs, xc, xd, xl, xr⟩ : Pce) = ⟨yp, yh, ys, yc, yd, yl, yr⟩) = Z at *
  clear hZ rx ry rx2 ry2 hcm
  by_cases h1 : xp = yp
  rotate_left
  · have HF := hid (HNE.out fun e => h1 (by injection e))
    rw [decide_eq_false h1] at hsq
    clear HNE HEQ ci
    go_enter Tryd.func31, Tryd.ntmps31
    go_wp2
    go_ret
    exact ⟨ret_bool HF.out.symm, bb⟩
  rw [decide_eq_true h1] at hsq
  have Hh1 := hid h1
  clear h1
  by_cases h2 : xh = yh
  rotate_left
  · have HF := hid (HNE.out fun e => h2 (by injection e))
    have hbb : (xh == yh) = false := by simp [h2]
    clear HNE HEQ ci
    go_enter Tryd.func31, Tryd.ntmps31
    go_wp2
    go_ret
    exact ⟨ret_bool HF.out.symm, bb⟩
  have hbb2 : (xh == yh) = true := by simp [h2]
  have Hh2 := hid h2
  clear h2
  by_cases h3 : xs = ys
  rotate_left
  · have HF := hid (HNE.out fun e => h3 (by injection e))
    have hbb : (xs == ys) = false := by simp [h3]
    clear HNE HEQ ci
    go_enter Tryd.func31, Tryd.ntmps31
    go_wp2
    go_ret
    exact ⟨ret_bool HF.out.symm, bb⟩
  have hbb3 : (xs == ys) = true := by simp [h3]
  have Hh3 := hid h3
  clear h3
  by_cases h4 : xd = yd
  rotate_left
  · have HF := hid (HNE.out fun e => h4 (by injection e))
    have hbb : (xd == yd) = false := by simp [h4]
    clear HNE HEQ ci
    go_enter Tryd.func31, Tryd.ntmps31
    go_wp2
    go_ret
    exact ⟨ret_bool HF.out.symm, bb⟩
  have hbb4 : (xd == yd) = true := by simp [h4]
  have Hh4 := hid h4
  clear h4
  by_cases h5 : xl = yl ∧ xr = yr
  rotate_left
  · have HF := hid (HNE.out fun e => h5 (by injection e with _ _ _ _ _ e1 e2; exact ⟨e1, e2⟩))
    rw [show (decide (xl = yl) && decide (xr = yr)) = false by simpa using h5] at hpr
    clear HNE HEQ ci
    go_enter Tryd.func31, Tryd.ntmps31
    go_wp2
    go_ret
    exact ⟨ret_bool HF.out.symm, bb⟩
  rw [decide_eq_true h5.1, decide_eq_true h5.2, show (true && true) = true from rfl] at hpr
  have Hh5 := hid h5
  clear h5
  by_cases h6 : xc = yc
  · have HF := hid (HEQ.out (by rw [Hh1.out, Hh2.out, Hh3.out, h6, Hh4.out, Hh5.out.1, Hh5.out.2]))
    rw [decide_eq_true h6] at ci
    clear h6 HNE HEQ
    go_enter Tryd.func31, Tryd.ntmps31
    go_wp2_with fail
    refine ci.mono ?_
    rintro e w5 ⟨rfl, b5⟩
    simp only
    have bz := below2 bb b5
    clear ci
    go_wp2
    go_ret
    exact ⟨ret_bool HF.out.symm, bz⟩
  · have HF := hid (HNE.out fun e => h6 (by injection e))
    rw [decide_eq_false h6] at ci
    clear h6 HNE HEQ
    go_enter Tryd.func31, Tryd.ntmps31
    go_wp2_with fail
    refine ci.mono ?_
    rintro e w5 ⟨rfl, b5⟩
    simp only
    have bz := below2 bb b5
    clear ci
    go_wp2
    go_ret
    exact ⟨ret_bool HF.out.symm, bz⟩

set_option maxHeartbeats 4000000 in
set_option maxRecDepth 20000 in
theorem eqPcs_any {w : World} {A B : Option Addr} {n m c d : Nat} {ps qs : List Pce} (hl : ps.length = n) (hl2 : qs.length = m) (hp : PcsAt w A ps) (hq : PcsAt w B qs) (hn : n ≤ 9223372036854775807) :
    Calls Tryd.prog 30 #[.slice A n c, .slice B m d, .func (.func 31) #[] #[]] w fun e w' => e = .returned (.bool (decide (ps = qs))) ∧ Below w.heap.size w w' := by
  have eg := enters_of Tryd.func31 (by kernel_rfl) rfl
  have hal : ∀ (W : World) (o : Obj), Below W.heap.size W (W.alloc o) := fun W o => (Below.refl _ _).alloc (Nat.le_refl _) o
  by_cases hnm : n = m
  rotate_left
  · have HF : Hid (decide (ps = qs) = false) := decide_eq_false fun e => hnm (by rw [← hl, ← hl2, e])
    have hne : ((n : Int) == (m : Int)) = false := by simp; omega
    have hne2 : ¬ (n : Int) = m := by omega
    go_enter Tryd.func30, Tryd.ntmps30
    go_wp2
    go_ret
    exact ⟨ret_bool HF.out.symm, Below.refl _ _⟩
  subst hnm
  have HN := hid hl
  have HN2 := hid hl2
  clear hl hl2
  go_enter Tryd.func30, Tryd.ntmps30
  go_wp2_with fail
  go_loopw [17] (fun i wr => ∃ j : Nat, j ≤ n ∧ i = .int .i64 j ∧ Hid (ps.take j = qs.take j) ∧ Below w.heap.size w wr) (fun i _ => n - (intOf i).toNat)
  case atStart => exact ⟨0, by omega, rfl, rfl, Below.refl _ _⟩
  case round =>
    obtain ⟨j, hj, rfl, HT, b⟩ := hrel
    by_cases hjn : j < n
    · have hjl : j < ps.length := by rw [HN.out]; exact hjn
      have hjl2 : j < qs.length := by rw [HN2.out]; exact hjn
      have hz : (0 : Int) ≤ j := by omega
      have HJ := hid hjn
      have hlt : (j : Int) < n := by omega
      obtain ⟨g, og, C, cc, rfl, x0, x1, x2, x3, x4, x5, x6, rx, hcx, hcx2, -⟩ := (hp.below b).pc hjl
      have HXY : Hid (ps.take (j + 1) = qs.take (j + 1) ↔ ps[j] = qs[j]) := by
        show _ ↔ _
        have e1 : ps.take (j + 1) = qs.take j ++ [ps[j]] := by rw [List.take_add_one, List.getElem?_eq_getElem hjl, HT.out]; rfl
        have e2 : qs.take (j + 1) = qs.take j ++ [qs[j]] := by rw [List.take_add_one, List.getElem?_eq_getElem hjl2]; rfl
        rw [e1, e2]
        exact ⟨fun h => by have := List.append_cancel_left h; injection this, fun h => by rw [h]⟩
      have HNE : Hid (ps[j] ≠ qs[j] → decide (ps = qs) = false) := by
        refine hid fun h => ?_
        refine decide_eq_false fun e => h ?_
        exact Option.some.inj ((List.getElem?_eq_getElem hjl).symm.trans ((congrArg (·[j]?) e).trans (List.getElem?_eq_getElem hjl2)))
      generalize ps[j] = x at *
      obtain ⟨xp, xh, xs, xc, xd, xl, xr⟩ := x
      have b1 := hal wr (.cells #[.string xp, .bool xh, .int .i64 xs, .slice C xc.length cc, .int .i64 xd, .int .i64 xl, .int .i64 xr] 35)
      obtain ⟨g', og', C', cc', rfl, y0, y1, y2, y3, y4, y5, y6, ry, hcy, hcy2, -⟩ := (hq.below (b.trans (b1.mono b.size))).pc hjl2
      generalize qs[j] = y at *
      obtain ⟨yp, yh, ys, yc, yd, yl, yr⟩ := y
      dsimp only at x0 x1 x2 x3 x4 x5 x6 y0 y1 y2 y3 y4 y5 y6 rx ry hcx hcy
      have b2 := hal (wr.alloc (.cells #[.string xp, .bool xh, .int .i64 xs, .slice C xc.length cc, .int .i64 xd, .int .i64 xl, .int .i64 xr] 35)) (.cells #[.string yp, .bool yh, .int .i64 ys, .slice C' yc.length cc', .int .i64 yd, .int .i64 yl, .int .i64 yr] 35)
      have b3 := below2 b1 b2
      have cS := samePiece_any (x := ⟨xp, xh, xs, xc, xd, xl, xr⟩) (y := ⟨yp, yh, ys, yc, yd, yl, yr⟩) (d := cc') (rx.below b3) (ry.below b2) hcx hcx2
      have bq := b.trans (b3.mono b.size)
      clear rx ry hcx hcy b1 b2 b3
      by_cases hxy : (⟨xp, xh, xs, xc, xd, xl, xr⟩ : Pce) = ⟨yp, yh, ys, yc, yd, yl, yr⟩
      · have HT2 := hid (HXY.out.2 hxy)
        rw [decide_eq_true hxy] at cS
        clear hxy HXY HNE HT
        go_wp2_with fail
        refine cS.mono ?_
        rintro e w5 ⟨rfl, b5⟩
        simp only
        have bz := bq.trans (b5.mono bq.size)
        clear cS b5 x0 x1 x2 x3 x4 x5 x6 y0 y1 y2 y3 y4 y5 y6
        go_wp2
        go_roundw
        case rel => exact ⟨j + 1, HJ.out, by go_num, HT2, bz⟩
        case measure => have := HJ.out; simp [intOf]; omega
      · have HF := hid (HNE.out hxy)
        rw [decide_eq_false hxy] at cS
        clear hxy HXY HNE HT
        go_wp2_with fail
        refine cS.mono ?_
        rintro e w5 ⟨rfl, b5⟩
        simp only
        have bz := bq.trans (b5.mono bq.size)
        clear cS b5
        go_wp2
        go_ret
        exact ⟨ret_bool HF.out.symm, bz⟩
    · have hjn2 : j = n := by omega
      have HF : Hid (decide (ps = qs) = true) := by
        have ht := HT.out
        rw [hjn2, List.take_of_length_le (by rw [HN.out]; exact Nat.le_refl _), List.take_of_length_le (by rw [HN2.out]; exact Nat.le_refl _)] at ht
        exact decide_eq_true ht
      have hnl : ¬ (j : Int) < n := by omega
      go_wp2
      go_ret
      exact ⟨ret_bool HF.out.symm, b⟩

theorem eq_arr7 (a1 a2 a3 a4 a5 a6 a7 e1 e2 e3 e4 e5 e6 e7 : Int) (w : World) : (Op.equalIn 10000 48 (.agg #[.int .i64 a1, .int .i64 a2, .int .i64 a3, .int .i64 a4, .int .i64 a5, .int .i64 a6, .int .i64 a7]) (.agg #[.int .i64 e1, .int .i64 e2, .int .i64 e3, .int .i64 e4, .int .i64 e5, .int .i64 e6, .int .i64 e7])).run Tryd.prog w = .ok (decide (a1 = e1 ∧ a2 = e2 ∧ a3 = e3 ∧ a4 = e4 ∧ a5 = e5 ∧ a6 = e6 ∧ a7 = e7)) w := by
  have u3 := Tryd.underlying3
  have a3' := Tryd.isAgg3
  have z3 := Tryd.sizeOf3
  rw [show (10000 : Nat) = 9999 + 1 from rfl, Op.equalIn]
  simp only [Sem.run_bind, run_underlying Tryd.underlying48, Result.andThen_ok]
  simp only [Std.Legacy.Range.forIn_eq_forIn_range', Std.Legacy.Range.size, Nat.sub_zero, Nat.add_sub_cancel, Nat.div_one, List.range'_succ, List.range'_zero, List.forIn_cons, List.forIn_nil]
  go_simp
  by_cases h1 : a1 = e1
  rotate_left
  · simp [h1]
  by_cases h2 : a2 = e2
  rotate_left
  · simp [h1, h2]
  by_cases h3 : a3 = e3
  rotate_left
  · simp [h1, h2, h3]
  by_cases h4 : a4 = e4
  rotate_left
  · simp [h1, h2, h3, h4]
  by_cases h5 : a5 = e5
  rotate_left
  · simp [h1, h2, h3, h4, h5]
  by_cases h6 : a6 = e6
  rotate_left
  · simp [h1, h2, h3, h4, h5, h6]
  by_cases h7 : a7 = e7
  rotate_left
  · simp [h1, h2, h3, h4, h5, h6, h7]
  simp [h1, h2, h3, h4, h5, h6, h7]

set_option maxHeartbeats 4000000 in
set_option maxRecDepth 20000 in
theorem same12_any {w : World} {A B : Option Addr} {c d : Nat} {m o : Man} (h : Mt w A c m) (k : Mt w B d o) :
    Calls Tryd.prog 14 #[manV m A c, manV o B d] w fun e w' => e = .returned (.bool (decide (m = o))) ∧ Below w.heap.size w w' := by
  obtain ⟨a1, a2, a3, a4, a5, a6, a7, ps⟩ := m
  obtain ⟨e1, e2, e3, e4, e5, e6, e7, qs⟩ := o
  obtain ⟨hps, hcap, hcm⟩ := h
  obtain ⟨kps, kcap, kcm⟩ := k
  dsimp only at hps hcap kps kcap
  unfold manV
  dsimp only
  have hal : ∀ (W : World) (o : Obj), Below W.heap.size W (W.alloc o) := fun W o => (Below.refl _ _).alloc (Nat.le_refl _) o
  obtain ⟨n, hn0⟩ : ∃ n, n = ps.length := ⟨_, rfl⟩
  obtain ⟨m, hm0⟩ : ∃ m, m = qs.length := ⟨_, rfl⟩
  have hnb : n ≤ 9223372036854775807 := by unfold maxLen at hcm; omega
  rw [← hn0, ← hm0]
  have HN := hid hn0
  have HM := hid hm0
  clear hn0 hm0 hcap kcap hcm kcm
  have HD : Hid (decide ((⟨a1, a2, a3, a4, a5, a6, a7, ps⟩ : Man) = ⟨e1, e2, e3, e4, e5, e6, e7, qs⟩) = (decide (a1 = e1 ∧ a2 = e2 ∧ a3 = e3 ∧ a4 = e4 ∧ a5 = e5 ∧ a6 = e6 ∧ a7 = e7) && decide (ps = qs))) := by
    show _ = _
    by_cases h1 : a1 = e1 ∧ a2 = e2 ∧ a3 = e3 ∧ a4 = e4 ∧ a5 = e5 ∧ a6 = e6 ∧ a7 = e7
    · rw [decide_eq_true h1, Bool.true_and]
      obtain ⟨rfl, rfl, rfl, rfl, rfl, rfl, rfl⟩ := h1
      by_cases hpq : ps = qs
      · subst hpq; rw [decide_eq_true rfl, decide_eq_true rfl]
      · rw [decide_eq_false hpq, decide_eq_false fun e => hpq (by injection e)]
    · rw [decide_eq_false h1, Bool.false_and]
      exact decide_eq_false fun e => h1 (by injection e with q1 q2 q3 q4 q5 q6 q7 _; exact ⟨q1, q2, q3, q4, q5, q6, q7⟩)
  generalize decide ((⟨a1, a2, a3, a4, a5, a6, a7, ps⟩ : Man) = ⟨e1, e2, e3, e4, e5, e6, e7, qs⟩) = Z at *
  have bb := below2 (hal w (.cells #[.int .i64 a1, .int .i64 a2, .int .i64 a3, .int .i64 a4, .int .i64 a5, .int .i64 a6, .int .i64 a7, .slice A n c] 24)) (hal _ (.cells #[.int .i64 e1, .int .i64 e2, .int .i64 e3, .int .i64 e4, .int .i64 e5, .int .i64 e6, .int .i64 e7, .slice B m d] 24))
  have pk1 := (Blk.new w [.int .i64 a1, .int .i64 a2, .int .i64 a3, .int .i64 a4, .int .i64 a5, .int .i64 a6, .int .i64 a7, .slice A n c] 24).below (hal _ (.cells #[.int .i64 e1, .int .i64 e2, .int .i64 e3, .int .i64 e4, .int .i64 e5, .int .i64 e6, .int .i64 e7, .slice B m d] 24))
  have pk2 := Blk.new (w.alloc (.cells #[.int .i64 a1, .int .i64 a2, .int .i64 a3, .int .i64 a4, .int .i64 a5, .int .i64 a6, .int .i64 a7, .slice A n c] 24)) [.int .i64 e1, .int .i64 e2, .int .i64 e3, .int .i64 e4, .int .i64 e5, .int .i64 e6, .int .i64 e7, .slice B m d] 24
  rw [World.size_alloc] at pk2
  have heq := eq_arr7 a1 a2 a3 a4 a5 a6 a7 e1 e2 e3 e4 e5 e6 e7
  go_enter Tryd.func14, Tryd.ntmps14
  go_wp2_with fail
  generalize (w.alloc (.cells #[.int .i64 a1, .int .i64 a2, .int .i64 a3, .int .i64 a4, .int .i64 a5, .int .i64 a6, .int .i64 a7, .slice A n c] 24)).alloc (.cells #[.int .i64 e1, .int .i64 e2, .int .i64 e3, .int .i64 e4, .int .i64 e5, .int .i64 e6, .int .i64 e7, .slice B m d] 24) = w0 at *
  have HS : Hid (∀ W, Below w0.heap.size w0 W → (fun w' => w'.cell? ⟨w.heap.size, 0, none⟩ = some (.int .i64 a1) ∧ w'.cell? ⟨w.heap.size, 1, none⟩ = some (.int .i64 a2) ∧ w'.cell? ⟨w.heap.size, 2, none⟩ = some (.int .i64 a3) ∧ w'.cell? ⟨w.heap.size, 3, none⟩ = some (.int .i64 a4) ∧ w'.cell? ⟨w.heap.size, 4, none⟩ = some (.int .i64 a5) ∧ w'.cell? ⟨w.heap.size, 5, none⟩ = some (.int .i64 a6) ∧ w'.cell? ⟨w.heap.size, 6, none⟩ = some (.int .i64 a7) ∧ w'.cell? ⟨w.heap.size, 7, none⟩ = some (.slice A n c) ∧ w'.cell? ⟨w.heap.size + 1, 0, none⟩ = some (.int .i64 e1) ∧ w'.cell? ⟨w.heap.size + 1, 1, none⟩ = some (.int .i64 e2) ∧ w'.cell? ⟨w.heap.size + 1, 2, none⟩ = some (.int .i64 e3) ∧ w'.cell? ⟨w.heap.size + 1, 3, none⟩ = some (.int .i64 e4) ∧ w'.cell? ⟨w.heap.size + 1, 4, none⟩ = some (.int .i64 e5) ∧ w'.cell? ⟨w.heap.size + 1, 5, none⟩ = some (.int .i64 e6) ∧ w'.cell? ⟨w.heap.size + 1, 6, none⟩ = some (.int .i64 e7) ∧ w'.cell? ⟨w.heap.size + 1, 7, none⟩ = some (.slice B m d)) W) := hid fun W hb => by
    have k1 := pk1.below hb
    have k2 := pk2.below hb
    exact ⟨k1.cell 0, k1.cell 1, k1.cell 2, k1.cell 3, k1.cell 4, k1.cell 5, k1.cell 6, k1.cell 7, k2.cell 0, k2.cell 1, k2.cell 2, k2.cell 3, k2.cell 4, k2.cell 5, k2.cell 6, k2.cell 7⟩
  have bd : Below w0.heap.size w0 w0.drew := (Below.refl _ _).drew
  have hS0 := HS.out _ bd
  clear pk1 pk2
  by_cases hE : a1 = e1 ∧ a2 = e2 ∧ a3 = e3 ∧ a4 = e4 ∧ a5 = e5 ∧ a6 = e6 ∧ a7 = e7
  rotate_left
  · have HF : Hid (Z = false) := by show _ = _; rw [HD.out, decide_eq_false hE]; rfl
    rw [decide_eq_false hE] at heq
    clear hE HD
    refine wp_region_held_drew (S := fun w' => w'.cell? ⟨w.heap.size, 0, none⟩ = some (.int .i64 a1) ∧ w'.cell? ⟨w.heap.size, 1, none⟩ = some (.int .i64 a2) ∧ w'.cell? ⟨w.heap.size, 2, none⟩ = some (.int .i64 a3) ∧ w'.cell? ⟨w.heap.size, 3, none⟩ = some (.int .i64 a4) ∧ w'.cell? ⟨w.heap.size, 4, none⟩ = some (.int .i64 a5) ∧ w'.cell? ⟨w.heap.size, 5, none⟩ = some (.int .i64 a6) ∧ w'.cell? ⟨w.heap.size, 6, none⟩ = some (.int .i64 a7) ∧ w'.cell? ⟨w.heap.size, 7, none⟩ = some (.slice A n c) ∧ w'.cell? ⟨w.heap.size + 1, 0, none⟩ = some (.int .i64 e1) ∧ w'.cell? ⟨w.heap.size + 1, 1, none⟩ = some (.int .i64 e2) ∧ w'.cell? ⟨w.heap.size + 1, 2, none⟩ = some (.int .i64 e3) ∧ w'.cell? ⟨w.heap.size + 1, 3, none⟩ = some (.int .i64 e4) ∧ w'.cell? ⟨w.heap.size + 1, 4, none⟩ = some (.int .i64 e5) ∧ w'.cell? ⟨w.heap.size + 1, 5, none⟩ = some (.int .i64 e6) ∧ w'.cell? ⟨w.heap.size + 1, 6, none⟩ = some (.int .i64 e7) ∧ w'.cell? ⟨w.heap.size + 1, 7, none⟩ = some (.slice B m d)) (by kernel_rfl) hS0 (fun hHeld => ?_)
    refine wpAnyH_take (i := 0) (oi := ⟨_, _, _, _, _, _⟩) (v := ?_) rfl (by kernel_rfl) (by kernel_rfl) (by kernel_rfl) (fun _ _ _ h => h) (Or.inl ⟨by rfl, ?_⟩) (by assumption) ?_
    rotate_left
    · intro w hSw; (try dsimp only at hSw); go_simp; (try (with_reducible rfl))
    try simp only [Act.put, List.setIfInBounds_toArray, List.set_cons_zero, List.set_cons_succ]
    refine wpAnyH_take (i := 2) (oi := ⟨_, _, _, _, _, _⟩) (v := ?_) rfl (by kernel_rfl) (by kernel_rfl) (by kernel_rfl) (fun _ _ _ h => h) (Or.inl ⟨by rfl, ?_⟩) (by assumption) ?_
    rotate_left
    · intro w hSw; (try dsimp only at hSw); go_simp; (try (with_reducible rfl))
    try simp only [Act.put, List.setIfInBounds_toArray, List.set_cons_zero, List.set_cons_succ]
    refine wpAnyH_ready (rs := [1]) (by kernel_rfl) (by simp) ?_
    refine AllReadyH.cons (o := ⟨_, _, _, _, _, _⟩) rfl (fun K hK => ?_) AllReadyH.nil
    go_simp
    refine (numbers_any A n c a1 a2 a3 a4 a5 a6 a7 _).mono ?_
    rintro e w1 ⟨rfl, b1⟩
    have d1 := below2 bd b1
    have hS1 := HS.out _ d1
    refine hK.out _ _ hS1 (fun hHeld => ?_)
    clear hK K
    try simp only [Act.put, List.setIfInBounds_toArray, List.set_cons_zero, List.set_cons_succ]
    refine wpAnyH_ready (rs := [3]) (by kernel_rfl) (by simp) ?_
    refine AllReadyH.cons (o := ⟨_, _, _, _, _, _⟩) rfl (fun K hK => ?_) AllReadyH.nil
    go_simp
    refine (numbers_any B m d e1 e2 e3 e4 e5 e6 e7 _).mono ?_
    rintro e w2 ⟨rfl, b2⟩
    have d2 := below2 d1 b2
    have hS2 := HS.out _ d2
    refine hK.out _ _ hS2 (fun hHeld => ?_)
    clear hK K
    try simp only [Act.put, List.setIfInBounds_toArray, List.set_cons_zero, List.set_cons_succ]
    refine wpAnyH_take (i := 4) (oi := ⟨_, _, _, _, _, _⟩) (v := ?_) rfl (by kernel_rfl) (by kernel_rfl) (by kernel_rfl) (fun _ _ _ h => h) (Or.inl ⟨by rfl, ?_⟩) (by assumption) ?_
    rotate_left
    · intro w hSw; (try dsimp only at hSw); go_simp; (try (with_reducible rfl))
    try simp only [Act.put, List.setIfInBounds_toArray, List.set_cons_zero, List.set_cons_succ]
    refine wpAnyH_take (i := 5) (oi := ⟨_, _, _, _, _, _⟩) (v := ?_) rfl (by kernel_rfl) (by kernel_rfl) (by kernel_rfl) (fun _ _ _ h => h) (Or.inl ⟨by rfl, ?_⟩) (by assumption) ?_
    rotate_left
    · intro w hSw; (try dsimp only at hSw); go_simp; (try (with_reducible rfl))
    try simp only [Act.put, List.setIfInBounds_toArray, List.set_cons_zero, List.set_cons_succ]
    refine wpAnyH_take (i := 6) (oi := ⟨_, _, _, _, _, _⟩) (v := undef) rfl (by kernel_rfl) (by kernel_rfl) (by kernel_rfl) (fun _ _ _ h => h) (Or.inr ⟨by rfl, rfl⟩) (by assumption) ?_
    try simp only [Act.put, List.setIfInBounds_toArray, List.set_cons_zero, List.set_cons_succ]
    refine wpAnyH_take (i := 7) (oi := ⟨_, _, _, _, _, _⟩) (v := undef) rfl (by kernel_rfl) (by kernel_rfl) (by kernel_rfl) (fun _ _ _ h => h) (Or.inr ⟨by rfl, rfl⟩) (by assumption) ?_
    try simp only [Act.put, List.setIfInBounds_toArray, List.set_cons_zero, List.set_cons_succ]
    refine wpAnyH_take (i := 8) (oi := ⟨_, _, _, _, _, _⟩) (v := undef) rfl (by kernel_rfl) (by kernel_rfl) (by kernel_rfl) (fun _ _ _ h => h) (Or.inr ⟨by rfl, rfl⟩) (by assumption) ?_
    try simp only [Act.put, List.setIfInBounds_toArray, List.set_cons_zero, List.set_cons_succ]
    refine wpAnyH_take (i := 9) (oi := ⟨_, _, _, _, _, _⟩) (v := undef) rfl (by kernel_rfl) (by kernel_rfl) (by kernel_rfl) (fun _ _ _ h => h) (Or.inr ⟨by rfl, rfl⟩) (by assumption) ?_
    try simp only [Act.put, List.setIfInBounds_toArray, List.set_cons_zero, List.set_cons_succ]
    refine wpAnyH_take (i := 10) (oi := ⟨_, _, _, _, _, _⟩) (v := undef) rfl (by kernel_rfl) (by kernel_rfl) (by kernel_rfl) (fun _ _ _ h => h) (Or.inr ⟨by rfl, rfl⟩) (by assumption) ?_
    try simp only [Act.put, List.setIfInBounds_toArray, List.set_cons_zero, List.set_cons_succ]
    refine wpAnyH_take (i := 11) (oi := ⟨_, _, _, _, _, _⟩) (v := ?_) rfl (by kernel_rfl) (by kernel_rfl) (by kernel_rfl) (fun _ _ _ h => h) (Or.inl ⟨by rfl, ?_⟩) (by assumption) ?_
    rotate_left
    · intro w hSw; (try dsimp only at hSw); go_simp; (try (with_reducible rfl))
    try simp only [Act.put, List.setIfInBounds_toArray, List.set_cons_zero, List.set_cons_succ]
    refine wpAnyH_take (i := 12) (oi := ⟨_, _, _, _, _, _⟩) (v := ?_) rfl (by kernel_rfl) (by kernel_rfl) (by kernel_rfl) (fun _ _ _ h => h) (Or.inl ⟨by rfl, ?_⟩) (by assumption) ?_
    rotate_left
    · intro w hSw; (try dsimp only at hSw); go_simp; (try (with_reducible rfl))
    try simp only [Act.put, List.setIfInBounds_toArray, List.set_cons_zero, List.set_cons_succ]
    refine wpAnyH_done (by kernel_rfl) ?_ _
    clear hHeld
    have bz := bb.trans (d2.mono bb.size)
    go_wp2
    go_ret
    exact ⟨ret_bool HF.out.symm, bz⟩
  have HF : Hid (Z = decide (ps = qs)) := by show _ = _; rw [HD.out, decide_eq_true hE]; rfl
  rw [decide_eq_true hE] at heq
  clear hE HD
  refine wp_region_held_drew (S := fun w' => w'.cell? ⟨w.heap.size, 0, none⟩ = some (.int .i64 a1) ∧ w'.cell? ⟨w.heap.size, 1, none⟩ = some (.int .i64 a2) ∧ w'.cell? ⟨w.heap.size, 2, none⟩ = some (.int .i64 a3) ∧ w'.cell? ⟨w.heap.size, 3, none⟩ = some (.int .i64 a4) ∧ w'.cell? ⟨w.heap.size, 4, none⟩ = some (.int .i64 a5) ∧ w'.cell? ⟨w.heap.size, 5, none⟩ = some (.int .i64 a6) ∧ w'.cell? ⟨w.heap.size, 6, none⟩ = some (.int .i64 a7) ∧ w'.cell? ⟨w.heap.size, 7, none⟩ = some (.slice A n c) ∧ w'.cell? ⟨w.heap.size + 1, 0, none⟩ = some (.int .i64 e1) ∧ w'.cell? ⟨w.heap.size + 1, 1, none⟩ = some (.int .i64 e2) ∧ w'.cell? ⟨w.heap.size + 1, 2, none⟩ = some (.int .i64 e3) ∧ w'.cell? ⟨w.heap.size + 1, 3, none⟩ = some (.int .i64 e4) ∧ w'.cell? ⟨w.heap.size + 1, 4, none⟩ = some (.int .i64 e5) ∧ w'.cell? ⟨w.heap.size + 1, 5, none⟩ = some (.int .i64 e6) ∧ w'.cell? ⟨w.heap.size + 1, 6, none⟩ = some (.int .i64 e7) ∧ w'.cell? ⟨w.heap.size + 1, 7, none⟩ = some (.slice B m d)) (by kernel_rfl) hS0 (fun hHeld => ?_)
  refine wpAnyH_take (i := 0) (oi := ⟨_, _, _, _, _, _⟩) (v := ?_) rfl (by kernel_rfl) (by kernel_rfl) (by kernel_rfl) (fun _ _ _ h => h) (Or.inl ⟨by rfl, ?_⟩) (by assumption) ?_
  rotate_left
  · intro w hSw; (try dsimp only at hSw); go_simp; (try (with_reducible rfl))
  try simp only [Act.put, List.setIfInBounds_toArray, List.set_cons_zero, List.set_cons_succ]
  refine wpAnyH_take (i := 2) (oi := ⟨_, _, _, _, _, _⟩) (v := ?_) rfl (by kernel_rfl) (by kernel_rfl) (by kernel_rfl) (fun _ _ _ h => h) (Or.inl ⟨by rfl, ?_⟩) (by assumption) ?_
  rotate_left
  · intro w hSw; (try dsimp only at hSw); go_simp; (try (with_reducible rfl))
  try simp only [Act.put, List.setIfInBounds_toArray, List.set_cons_zero, List.set_cons_succ]
  refine wpAnyH_ready (rs := [1]) (by kernel_rfl) (by simp) ?_
  refine AllReadyH.cons (o := ⟨_, _, _, _, _, _⟩) rfl (fun K hK => ?_) AllReadyH.nil
  go_simp
  refine (numbers_any A n c a1 a2 a3 a4 a5 a6 a7 _).mono ?_
  rintro e w1 ⟨rfl, b1⟩
  have d1 := below2 bd b1
  have hS1 := HS.out _ d1
  refine hK.out _ _ hS1 (fun hHeld => ?_)
  clear hK K
  try simp only [Act.put, List.setIfInBounds_toArray, List.set_cons_zero, List.set_cons_succ]
  refine wpAnyH_ready (rs := [3]) (by kernel_rfl) (by simp) ?_
  refine AllReadyH.cons (o := ⟨_, _, _, _, _, _⟩) rfl (fun K hK => ?_) AllReadyH.nil
  go_simp
  refine (numbers_any B m d e1 e2 e3 e4 e5 e6 e7 _).mono ?_
  rintro e w2 ⟨rfl, b2⟩
  have d2 := below2 d1 b2
  have hS2 := HS.out _ d2
  refine hK.out _ _ hS2 (fun hHeld => ?_)
  clear hK K
  try simp only [Act.put, List.setIfInBounds_toArray, List.set_cons_zero, List.set_cons_succ]
  refine wpAnyH_take (i := 4) (oi := ⟨_, _, _, _, _, _⟩) (v := ?_) rfl (by kernel_rfl) (by kernel_rfl) (by kernel_rfl) (fun _ _ _ h => h) (Or.inl ⟨by rfl, ?_⟩) (by assumption) ?_
  rotate_left
  · intro w hSw; (try dsimp only at hSw); go_simp; (try (with_reducible rfl))
  try simp only [Act.put, List.setIfInBounds_toArray, List.set_cons_zero, List.set_cons_succ]
  refine wpAnyH_take (i := 5) (oi := ⟨_, _, _, _, _, _⟩) (v := ?_) rfl (by kernel_rfl) (by kernel_rfl) (by kernel_rfl) (fun _ _ _ h => h) (Or.inl ⟨by rfl, ?_⟩) (by assumption) ?_
  rotate_left
  · intro w hSw; (try dsimp only at hSw); go_simp; (try (with_reducible rfl))
  try simp only [Act.put, List.setIfInBounds_toArray, List.set_cons_zero, List.set_cons_succ]
  refine wpAnyH_take (i := 6) (oi := ⟨_, _, _, _, _, _⟩) (v := ?_) rfl (by kernel_rfl) (by kernel_rfl) (by kernel_rfl) (fun _ _ _ h => h) (Or.inl ⟨by rfl, ?_⟩) (by assumption) ?_
  rotate_left
  · intro w hSw; (try dsimp only at hSw); go_simp; (try (with_reducible rfl))
  try simp only [Act.put, List.setIfInBounds_toArray, List.set_cons_zero, List.set_cons_succ]
  refine wpAnyH_take (i := 7) (oi := ⟨_, _, _, _, _, _⟩) (v := ?_) rfl (by kernel_rfl) (by kernel_rfl) (by kernel_rfl) (fun _ _ _ h => h) (Or.inl ⟨by rfl, ?_⟩) (by assumption) ?_
  rotate_left
  · intro w hSw; (try dsimp only at hSw); go_simp; (try (with_reducible rfl))
  try simp only [Act.put, List.setIfInBounds_toArray, List.set_cons_zero, List.set_cons_succ]
  refine wpAnyH_take (i := 8) (oi := ⟨_, _, _, _, _, _⟩) (v := ?_) rfl (by kernel_rfl) (by kernel_rfl) (by kernel_rfl) (fun _ _ _ h => h) (Or.inl ⟨by rfl, ?_⟩) (by assumption) ?_
  rotate_left
  · intro w hSw; (try dsimp only at hSw); go_simp; (try (with_reducible rfl))
  try simp only [Act.put, List.setIfInBounds_toArray, List.set_cons_zero, List.set_cons_succ]
  refine wpAnyH_take (i := 9) (oi := ⟨_, _, _, _, _, _⟩) (v := ?_) rfl (by kernel_rfl) (by kernel_rfl) (by kernel_rfl) (fun _ _ _ h => h) (Or.inl ⟨by rfl, ?_⟩) (by assumption) ?_
  rotate_left
  · intro w hSw; (try dsimp only at hSw); go_simp; (try (with_reducible rfl))
  try simp only [Act.put, List.setIfInBounds_toArray, List.set_cons_zero, List.set_cons_succ]
  have cE := eqPcs_any (c := c) (d := d) HN.out.symm HM.out.symm (hps.below (bb.trans (d2.mono bb.size))) (kps.below (bb.trans (d2.mono bb.size))) hnb
  rw [← HF.out] at cE
  refine wpAnyH_ready (rs := [10]) (by kernel_rfl) (by simp) ?_
  refine AllReadyH.cons (o := ⟨_, _, _, _, _, _⟩) rfl (fun K hK => ?_) AllReadyH.nil
  go_simp
  refine cE.mono ?_
  rintro e w3 ⟨rfl, b3⟩
  have d3 := below2 d2 b3
  have hS3 := HS.out _ d3
  refine hK.out _ _ hS3 (fun hHeld => ?_)
  clear hK K
  try simp only [Act.put, List.setIfInBounds_toArray, List.set_cons_zero, List.set_cons_succ]
  refine wpAnyH_take (i := 11) (oi := ⟨_, _, _, _, _, _⟩) (v := ?_) rfl (by kernel_rfl) (by kernel_rfl) (by kernel_rfl) (fun _ _ _ h => h) (Or.inl ⟨by rfl, ?_⟩) (by assumption) ?_
  rotate_left
  · intro w hSw; (try dsimp only at hSw); go_simp; (try (with_reducible rfl))
  try simp only [Act.put, List.setIfInBounds_toArray, List.set_cons_zero, List.set_cons_succ]
  refine wpAnyH_take (i := 12) (oi := ⟨_, _, _, _, _, _⟩) (v := ?_) rfl (by kernel_rfl) (by kernel_rfl) (by kernel_rfl) (fun _ _ _ h => h) (Or.inl ⟨by rfl, ?_⟩) (by assumption) ?_
  rotate_left
  · intro w hSw; (try dsimp only at hSw); go_simp; (try (with_reducible rfl))
  try simp only [Act.put, List.setIfInBounds_toArray, List.set_cons_zero, List.set_cons_succ]
  refine wpAnyH_done (by kernel_rfl) ?_ _
  clear hHeld cE
  have bz := bb.trans (d3.mono bb.size)
  go_wp2
  go_ret
  exact ⟨rfl, bz⟩

set_option maxHeartbeats 2000000 in
theorem chunks12_any {w : World} {A : Option Addr} {c : Nat} {m : Man} (h : Mt w A c m) (hn : m.pieces.length ≤ 1000) (hk : ∀ p ∈ m.pieces, p.chunks.length ≤ 1000) :
    Calls Tryd.prog 16 #[manV m A c] w (IntsA w (chunksM m)) := by
  obtain ⟨au, ve, pr, ep, ne, se, he, ps⟩ := m
  obtain ⟨hps, hcap, hcm⟩ := h
  dsimp only at hps hcap hn hk
  unfold manV
  dsimp only
  have hal : ∀ (W : World) (o : Obj), Below W.heap.size W (W.alloc o) := fun W o => (Below.refl _ _).alloc (Nat.le_refl _) o
  have bb := hal w (.cells #[.int .i64 au, .int .i64 ve, .int .i64 pr, .int .i64 ep, .int .i64 ne, .int .i64 se, .int .i64 he, .slice A ps.length c] 24)
  have pk := Blk.new w [.int .i64 au, .int .i64 ve, .int .i64 pr, .int .i64 ep, .int .i64 ne, .int .i64 se, .int .i64 he, .slice A ps.length c] 24
  have hpb := hps.below bb
  have HN : Hid (∃ n, n = ps.length) := ⟨_, rfl⟩
  obtain ⟨n, hn0⟩ := HN.out
  rw [← hn0] at bb pk hpb hn ⊢
  have HN := hid hn0
  have HK := hid hk
  clear hn0 hps hk
  go_enter Tryd.func16, Tryd.ntmps16
  go_wp2_with fail
  generalize w.alloc (.cells #[.int .i64 au, .int .i64 ve, .int .i64 pr, .int .i64 ep, .int .i64 ne, .int .i64 se, .int .i64 he, .slice A n c] 24) = w1 at *
  have lg := pk.lt
  have k7 := pk.cell 7
  simp only [List.getElem?_cons_zero, List.getElem?_cons_succ] at k7
  go_loopw [3, 9] (fun v i wr => ∃ j : Nat, j ≤ n ∧ i = .int .i64 j ∧ wr.ownsRow w1.heap.size 3 1 v ((ps.take j).flatMap (·.chunks)).length (intV ((ps.take j).flatMap (·.chunks))) ∧ Below w1.heap.size w1 wr) (fun _ i _ => n - (intOf i).toNat)
  case atStart => exact ⟨0, by omega, rfl, World.ownsRow_nil _ _ _ _, Below.refl _ _⟩
  case round =>
    obtain ⟨j, hj, rfl, o, b⟩ := hrel
    by_cases hjn : j < n
    · have hjl : j < ps.length := by rw [← HN.out]; exact hjn
      have hz : (0 : Int) ≤ j := by omega
      have hlt : (j : Int) < n := by omega
      obtain ⟨g, og, C, cc, rfl, x0, x1, x2, x3, x4, x5, x6, rc, hcc, hcc2, -⟩ := (hpb.below b).pc hjl
      have HM := hid (chunks_more ps j hjl)
      have hck := HK.out _ (List.getElem_mem hjl)
      have hle := chunks_le (ps.take j) fun q hq => HK.out q (List.mem_of_mem_take hq)
      rw [List.length_take] at hle
      generalize (ps.take j).flatMap (·.chunks) = xs at *
      generalize ps[j] = x at *
      obtain ⟨xp, xh, xs', ys, xd, xl, xr⟩ := x
      dsimp only at x0 x1 x2 x3 x4 x5 x6 rc hcc hck HM
      have bx : Below wr.heap.size wr (wr.alloc (.cells #[.string xp, .bool xh, .int .i64 xs', .slice C ys.length cc, .int .i64 xd, .int .i64 xl, .int .i64 xr] 35)) := (Below.refl _ _).alloc (Nat.le_refl _) _
      have o := own_below1 o bx
      have b := b.trans (bx.mono b.size)
      have rc := rc.below bx
      have kx := Blk.new wr [.string xp, .bool xh, .int .i64 xs', .slice C ys.length cc, .int .i64 xd, .int .i64 xl, .int .i64 xr] 35
      obtain ⟨-, A5, c5, rfl, -, -⟩ := own_form o
      obtain ⟨A6, c6, w6, HRUN, o6, g6⟩ := run_app (P := Tryd.prog) (wr.alloc (.cells #[.string xp, .bool xh, .int .i64 xs', .slice C ys.length cc, .int .i64 xd, .int .i64 xl, .int .i64 xr] 35)) w1.heap.size 30 30 3 (.int .i64 0) 8 Tryd.underlying30 Tryd.infoI rfl A5 xs.length c5 (intV xs) o C ys.length cc (intV ys) (intV_length ys) rc (intV_one _) (by omega) b.size (by unfold maxLen; omega)
      have b6 := b.trans (below_grown b.size (fun k hk => (o.lt k hk).1) g6)
      rw [← intV_append, ← List.length_append, ← HM.out] at o6
      rw [← List.length_append, ← HM.out] at HRUN
      have HRUN2 := hid HRUN
      clear HRUN
      clear o b g6 rc bx kx
      generalize hzs : (ps.take (j + 1)).flatMap (·.chunks) = zs at *
      have HZ := hid hzs
      clear hzs
      go_wp2_with (at_builtin; refine Lib.wpList_append_run _ rfl _ _ _ _ rfl _ _ rfl rfl _ _ HRUN2.out ?_)
      go_roundw
      case rel => exact ⟨j + 1, by omega, by go_num, by rw [HZ.out]; exact o6, b6⟩
      case measure => simp [intOf]; omega
    · have HE := hid (show j = ps.length by have := HN.out; omega)
      have hnlt : ¬ (j : Int) < n := by omega
      rw [HE.out, List.take_length] at o
      have HZ : Hid (ps.flatMap (·.chunks) = chunksM ⟨au, ve, pr, ep, ne, se, he, ps⟩) := rfl
      rw [HZ.out] at o
      generalize chunksM ⟨au, ve, pr, ep, ne, se, he, ps⟩ = zs at *
      obtain ⟨-, A5, c5, rfl, -, -⟩ := own_form o
      have o5 := own_low1 (base' := w.heap.size) o bb.size
      have b5 := bb.trans (b.mono bb.size)
      clear o b hpb pk
      go_wp2
      go_ret
      exact ⟨A5, c5, rfl, o5, b5⟩
end Go.Proofs.YtgafjbmpaeejbaaDoor
namespace Go.Proofs
open Go.Shelf
def Tryd.laysNm215_ren : Go.Shelf.Ren := ⟨fun | 15 => 28 | n => n, fun | 22 => 30 | 3 => 3 | 4 => 4 | n => n, fun | n => n⟩
theorem Tryd.laysNm215 : Go.Proofs.Lays2.n15 Tryd.prog Tryd.laysNm215_ren := {
  mixed := by kernel_rfl
  f15 := Tryd.func28.trans (congrArg some (by kernel_rfl))
  t3 := Tryd.underlying3
  a3 := Tryd.isAgg3
  z3 := Tryd.sizeOf3
  v3 := Tryd.zeroValue3
  t4 := Tryd.underlying4
  a4 := Tryd.isAgg4
  z4 := Tryd.sizeOf4
  v4 := Tryd.zeroValue4
  t22 := Tryd.underlying30
  a22 := Tryd.isAgg30
  z22 := Tryd.sizeOf30
  v22 := Tryd.zeroValue30
  i3 := by kernel_rfl }
open Go.RowKit Go.Lib in
theorem Tryd.slices_Clone_int (b off n c : Nat) (zs : List Int) (w : World) (hz : n ≤ zs.length) (hbig : n * 8 ≤ 140737488355328) (hc : ∀ j, j < zs.length → w.cell? ⟨b, off + j, none⟩ = some (.int .i64 (zs.getD j 0))) :
    Calls Tryd.prog 28 #[.slice (some ⟨b, off, none⟩) n c] w fun e w' => ∃ v', e = .returned v' ∧ w'.ownsRow w.heap.size 3 1 v' n ((zs.take n).map (Value.int .i64)) ∧ v' ≠ .slice none 0 0 ∧ Below w.heap.size w w' := Any.slices_Clone_int Tryd.laysNm215 b off n c zs w hz hbig hc
open Go.RowKit Go.Lib in
theorem Tryd.slices_Clone_int_nil (n c : Nat) (w : World) :
    Calls Tryd.prog 28 #[.slice none n c] w fun e w' => e = .returned (.slice none 0 0) ∧ w' = w := Any.slices_Clone_int_nil Tryd.laysNm215 n c w
open Go.RowKit Go.Lib in
theorem Tryd.slices_Clone_int_zero (a : Addr) (c : Nat) (w : World) :
    Calls Tryd.prog 28 #[.slice (some a) 0 c] w fun e w' => ∃ v', e = .returned v' ∧ w'.ownsRow w.heap.size 3 1 v' 0 [] ∧ v' ≠ .slice none 0 0 ∧ Below w.heap.size w w' := Any.slices_Clone_int_zero Tryd.laysNm215 a c w
end Go.Proofs
namespace Go.Proofs.YtgafjbmpaeejbaaDoor
open Go.RowKit

abbrev zPw : Pw := ⟨⟨noS, false, 0, [], 0, 0, 0⟩, none, 0⟩
theorem pw_set : ∀ (xs : List Pw) (j : Nat) (_ : j < xs.length) (x : Pw), (((((((pwV xs).set (j * 7) (.string x.p.path)).set (j * 7 + 1) (.bool x.p.has)).set (j * 7 + 2) (.int .i64 x.p.size)).set (j * 7 + 3) (.slice x.C x.p.chunks.length x.c)).set (j * 7 + 4) (.int .i64 x.p.digest)).set (j * 7 + 5) (.int .i64 x.p.l)).set (j * 7 + 6) (.int .i64 x.p.r) = pwV (xs.set j x)
  | y :: xs, 0, _, x => by
    rw [List.set_cons_zero, Nat.zero_mul]
    rfl
  | y :: xs, j + 1, h, x => by
    have ih := pw_set xs j (by simpa using h) x
    rw [List.set_cons_succ, pwV_cons, pwV_cons, ← ih]
    have e0 : (j + 1) * 7 = (j * 7) + 1 + 1 + 1 + 1 + 1 + 1 + 1 := by omega
    have e1 : (j + 1) * 7 + 1 = (j * 7 + 1) + 1 + 1 + 1 + 1 + 1 + 1 + 1 := by omega
    have e2 : (j + 1) * 7 + 2 = (j * 7 + 2) + 1 + 1 + 1 + 1 + 1 + 1 + 1 := by omega
    have e3 : (j + 1) * 7 + 3 = (j * 7 + 3) + 1 + 1 + 1 + 1 + 1 + 1 + 1 := by omega
    have e4 : (j + 1) * 7 + 4 = (j * 7 + 4) + 1 + 1 + 1 + 1 + 1 + 1 + 1 := by omega
    have e5 : (j + 1) * 7 + 5 = (j * 7 + 5) + 1 + 1 + 1 + 1 + 1 + 1 + 1 := by omega
    have e6 : (j + 1) * 7 + 6 = (j * 7 + 6) + 1 + 1 + 1 + 1 + 1 + 1 + 1 := by omega
    rw [e1, e2, e3, e4, e5, e6, e0]
    simp only [pcV, List.cons_append, List.nil_append, List.set_cons_succ]
theorem made_pcs (n : Nat) : madeCells (pcV zPw.p none 0).toArray (n * 7) = (pwV (List.replicate n zPw)).toArray := by
  apply Array.ext
  · simp [madeCells, pwV_length]
  · intro i h1 h2
    have hi : i < n * 7 := by simpa [pwV_length] using h2
    have e := pwV_at (List.replicate n zPw) (i / 7) (by simp; omega) (i % 7) (by omega)
    rw [show i / 7 * 7 + i % 7 = i by omega] at e
    simp only [madeCells, Array.getElem_map, Array.getElem_range, List.getElem_toArray]
    have e2 : (pwV (List.replicate n zPw))[i]? = some ((pwV (List.replicate n zPw))[i]'(by simpa using h2)) := List.getElem?_eq_getElem _
    rw [e2, List.getElem_replicate] at e
    have h7 : (pcV zPw.p none 0).toArray.size = 7 := rfl
    rw [h7]
    have h6 : (pcV zPw.p none 0)[i % 7]? = some ((pcV zPw.p none 0).toArray[i % 7]!) := by
      have : i % 7 < 7 := by omega
      match i % 7, this with
      | 0, _ => rfl
      | 1, _ => rfl
      | 2, _ => rfl
      | 3, _ => rfl
      | 4, _ => rfl
      | 5, _ => rfl
      | 6, _ => rfl
    rw [show zPw.C = none from rfl, show zPw.c = 0 from rfl, h6] at e
    injection e with e
    rw [e]
theorem make_pcs (n : Nat) (hn : n ≤ 1000000) (w : World) : (Instr.makeSlice 22 (.int .i64 (n : Int)) (.int .i64 (n : Int))).run Tryd.prog w = .ok (.slice (some ⟨w.heap.size, 0, none⟩) n n) (w.alloc (.cells (pwV (List.replicate n zPw)).toArray 35)) := by
  obtain ⟨i, hi, hz0, hz1, hz2⟩ := info_parts Tryd.infoPc
  have h := run_make (P := Tryd.prog) w 22 35 i _ Tryd.underlying22 hi hz0 .i64 .i64 n n (by omega) (Int.le_refl _) (by rw [hz2]; omega) (by omega)
  rw [h, hz1, Int.toNat_natCast, ← made_pcs]
  rfl
theorem cloneI_any {w : World} {C : Option Addr} {n c : Nat} {xs : List Int} (hr : Rd w C (intV xs)) (hl : xs.length = n) (hn : n ≤ 1000000) :
    Calls Tryd.prog 28 #[.slice C n c] w fun e w' => ∃ D d, e = .returned (.slice D n d) ∧ w'.ownsRow w.heap.size 3 1 (.slice D n d) n (intV xs) ∧ Below w.heap.size w w' := by
  cases C with
  | none =>
    have hx : xs = [] := by
      rcases hr with hr | ⟨ad, h, -⟩
      · cases xs with
        | nil => rfl
        | cons a l => simp [intV] at hr
      · cases h
    subst hx
    subst hl
    refine (Tryd.slices_Clone_int_nil 0 c w).mono ?_
    rintro e w' ⟨rfl, rfl⟩
    exact ⟨none, 0, rfl, World.ownsRow_nil _ _ _ _, Below.refl _ _⟩
  | some ad =>
    by_cases h0 : n = 0
    · subst h0
      have hx : xs = [] := List.eq_nil_of_length_eq_zero hl
      subst hx
      refine (Tryd.slices_Clone_int_zero ad c w).mono ?_
      rintro e w' ⟨v', rfl, h1, -, h3⟩
      obtain ⟨-, D, d, rfl, -, -⟩ := own_form h1
      exact ⟨D, d, rfl, h1, h3⟩
    · obtain ⟨b, off, e, -, -⟩ := int_at hr (j := 0) (by omega)
      injection e with e
      subst e
      refine (Tryd.slices_Clone_int b off n c xs w (by omega) (by omega) (fun j hj => ?_)).mono ?_
      · obtain ⟨b', off', e, h2, -⟩ := int_at hr hj
        injection e with e
        injection e with e1 e2
        subst e1 e2
        rw [h2]
        simp [List.getD, hj]
      · rintro e w' ⟨v', rfl, h1, -, h3⟩
        obtain ⟨-, D, d, rfl, -, -⟩ := own_form h1
        rw [List.take_of_length_le (by omega)] at h1
        exact ⟨D, d, rfl, h1, h3⟩

/-- The block in which a piece's chunks lie. -/
def ckB (x : Pw) : Option Nat := (Value.slice x.C x.p.chunks.length x.c).ownBlock
/-- No two pieces' chunks lie in one block. -/
def Apart (xs : List Pw) : Prop := xs.Pairwise fun x y => ∀ k, ckB x = some k → ckB y ≠ some k
theorem apart_snoc {w : World} {base : Nat} {xs : List Pw} (h : Apart xs) (oc : ∀ x ∈ xs, OwnC base w x) {y : Pw} (hy : ∀ k, ckB y = some k → w.heap.size ≤ k) : Apart (xs ++ [y]) := by
  refine List.pairwise_append.2 ⟨h, List.pairwise_singleton _ _, fun x hx z hz k hk hk2 => ?_⟩
  obtain rfl := List.mem_singleton.1 hz
  have h1 := hy k hk2
  rcases (oc x hx).2 with ⟨e, -⟩ | ⟨g, cap, cur, e, -, hg, -⟩
  · unfold ckB at hk; rw [e] at hk; cases hk
  · unfold ckB at hk
    rw [e] at hk
    simp only [Value.ownBlock, Option.some.injEq] at hk
    subst hk
    have := (Array.getElem?_eq_some_iff.1 hg).1
    omega
/-- Copy answered. -/
def CopyPost (w : World) (m : Man) (e : Ending) (w' : World) : Prop :=
  ∃ (g : Nat) (xs : List Pw), e = .returned (manV m (some ⟨g, 0, none⟩) m.pieces.length) ∧ pcesOf xs = m.pieces ∧ Blk w' g (pwV xs) 35 ∧ Hid (∀ x ∈ xs, OwnC w.heap.size w' x) ∧ Hid (Apart xs) ∧ w.heap.size ≤ g ∧ Below w.heap.size w w'
theorem take_pces {xs : List Pw} {ps : List Pce} {j : Nat} (h : pcesOf xs = ps.take j) (hj : j < ps.length) (y : Pw) (hy : y.p = ps[j]) : pcesOf (xs ++ [y]) = ps.take (j + 1) := by
  rw [List.take_add_one, List.getElem?_eq_getElem hj, ← h, ← hy]
  simp [pcesOf]
theorem fill_pw {xs : List Pw} {n j : Nat} (hx : xs.length = j) (hj : j < n) (y : Pw) : (xs ++ List.replicate (n - j) zPw).set j y = (xs ++ [y]) ++ List.replicate (n - (j + 1)) zPw := by
  rw [List.set_append_right _ _ (by omega), hx, Nat.sub_self, show n - j = (n - (j + 1)) + 1 by omega, List.replicate_succ, List.set_cons_zero, List.append_assoc]
  rfl
theorem other7 {w : World} {k : Nat} {cs : List Value} {t : TypeId} (h : Blk w k cs t) {g : Nat} (hne : k ≠ g) (i0 i1 i2 i3 i4 i5 i6 : Nat) (u0 u1 u2 u3 u4 u5 u6 : Value) :
    Blk (((((((w.setCell ⟨g, i0, none⟩ u0).setCell ⟨g, i1, none⟩ u1).setCell ⟨g, i2, none⟩ u2).setCell ⟨g, i3, none⟩ u3).setCell ⟨g, i4, none⟩ u4).setCell ⟨g, i5, none⟩ u5).setCell ⟨g, i6, none⟩ u6) k cs t :=
  ((((((h.other hne i0 u0).other hne i1 u1).other hne i2 u2).other hne i3 u3).other hne i4 u4).other hne i5 u5).other hne i6 u6
theorem sets7at (w : World) (b : Nat) (i0 i1 i2 i3 i4 i5 i6 : Nat) (u0 u1 u2 u3 u4 u5 u6 : Value) :
    w.grownBy (((((((w.setCell ⟨b, i0, none⟩ u0).setCell ⟨b, i1, none⟩ u1).setCell ⟨b, i2, none⟩ u2).setCell ⟨b, i3, none⟩ u3).setCell ⟨b, i4, none⟩ u4).setCell ⟨b, i5, none⟩ u5).setCell ⟨b, i6, none⟩ u6) (some b) :=
  grown_trans (grown_trans (grown_trans (grown_trans (grown_trans (grown_trans (grown_set i0 u0) (grown_set i1 u1)) (grown_set i2 u2)) (grown_set i3 u3)) (grown_set i4 u4)) (grown_set i5 u5)) (grown_set i6 u6)

set_option maxHeartbeats 4000000 in
set_option maxRecDepth 20000 in
theorem copy12_any {w : World} {A : Option Addr} {c : Nat} {m : Man} (h : Mt w A c m) (hn : m.pieces.length ≤ 1000) (hk : ∀ p ∈ m.pieces, p.path.size ≤ 100000 ∧ p.chunks.length ≤ 1000) :
    Calls Tryd.prog 12 #[manV m A c] w (CopyPost w m) := by
  obtain ⟨a1, a2, a3, a4, a5, a6, a7, ps⟩ := m
  obtain ⟨hps, hcap, hcm⟩ := h
  dsimp only at hps hcap hn hk
  unfold manV
  dsimp only
  have hal : ∀ (W : World) (o : Obj), Below W.heap.size W (W.alloc o) := fun W o => (Below.refl _ _).alloc (Nat.le_refl _) o
  obtain ⟨n, hn0⟩ : ∃ n, n = ps.length := ⟨_, rfl⟩
  rw [← hn0] at hn ⊢
  have HN := hid hn0
  have HK := hid hk
  clear hn0 hk hcap hcm
  have b1 := below2 (hal w (.cells #[.int .i64 a1, .int .i64 a2, .int .i64 a3, .int .i64 a4, .int .i64 a5, .int .i64 a6, .int .i64 a7, .slice A n c] 24)) (hal _ (.cells #[.int .i64 0, .int .i64 0, .int .i64 0, .int .i64 0, .int .i64 0, .int .i64 0, .int .i64 0, .slice none 0 0] 24))
  have pm1 := (Blk.new w [.int .i64 a1, .int .i64 a2, .int .i64 a3, .int .i64 a4, .int .i64 a5, .int .i64 a6, .int .i64 a7, .slice A n c] 24).below (hal _ (.cells #[.int .i64 0, .int .i64 0, .int .i64 0, .int .i64 0, .int .i64 0, .int .i64 0, .int .i64 0, .slice none 0 0] 24))
  have pz1 := Blk.new (w.alloc (.cells #[.int .i64 a1, .int .i64 a2, .int .i64 a3, .int .i64 a4, .int .i64 a5, .int .i64 a6, .int .i64 a7, .slice A n c] 24)) [.int .i64 0, .int .i64 0, .int .i64 0, .int .i64 0, .int .i64 0, .int .i64 0, .int .i64 0, .slice none 0 0] 24
  rw [World.size_alloc] at pz1
  have hmk := make_pcs n (by omega) ((w.alloc (.cells #[.int .i64 a1, .int .i64 a2, .int .i64 a3, .int .i64 a4, .int .i64 a5, .int .i64 a6, .int .i64 a7, .slice A n c] 24)).alloc (.cells #[.int .i64 0, .int .i64 0, .int .i64 0, .int .i64 0, .int .i64 0, .int .i64 0, .int .i64 0, .slice none 0 0] 24))
  have pb2 := Blk.new ((w.alloc (.cells #[.int .i64 a1, .int .i64 a2, .int .i64 a3, .int .i64 a4, .int .i64 a5, .int .i64 a6, .int .i64 a7, .slice A n c] 24)).alloc (.cells #[.int .i64 0, .int .i64 0, .int .i64 0, .int .i64 0, .int .i64 0, .int .i64 0, .int .i64 0, .slice none 0 0] 24)) (pwV (List.replicate n zPw)) 35
  have b2 := hal ((w.alloc (.cells #[.int .i64 a1, .int .i64 a2, .int .i64 a3, .int .i64 a4, .int .i64 a5, .int .i64 a6, .int .i64 a7, .slice A n c] 24)).alloc (.cells #[.int .i64 0, .int .i64 0, .int .i64 0, .int .i64 0, .int .i64 0, .int .i64 0, .int .i64 0, .slice none 0 0] 24)) (.cells (pwV (List.replicate n zPw)).toArray 35)
  have pm2 := pm1.below b2
  have pz2 := pz1.below b2
  have bw2 := below2 b1 b2
  simp only [World.size_alloc] at pb2 hmk
  clear b1 b2 pm1 pz1
  go_enter Tryd.func12, Tryd.ntmps12
  go_wp2_with fail
  generalize ((w.alloc (.cells #[.int .i64 a1, .int .i64 a2, .int .i64 a3, .int .i64 a4, .int .i64 a5, .int .i64 a6, .int .i64 a7, .slice A n c] 24)).alloc (.cells #[.int .i64 0, .int .i64 0, .int .i64 0, .int .i64 0, .int .i64 0, .int .i64 0, .int .i64 0, .slice none 0 0] 24)).alloc (.cells (pwV (List.replicate n zPw)).toArray 35) = w2 at *
  have hgm : w.heap.size ≠ w.heap.size + 1 + 1 := by omega
  have hgz : w.heap.size + 1 ≠ w.heap.size + 1 + 1 := by omega
  have hgw : w.heap.size ≤ w.heap.size + 1 + 1 := by omega
  generalize hgdef : w.heap.size + 1 + 1 = g at *
  have HG := hid hgdef
  clear hgdef hmk
  go_loopw [13] (fun i wr => ∃ j : Nat, j ≤ n ∧ i = .int .i64 j ∧ ∃ xs : List Pw, xs.length = j ∧ Hid (pcesOf xs = ps.take j) ∧ Blk wr g (pwV (xs ++ List.replicate (n - j) zPw)) 35 ∧ Hid (∀ x ∈ xs, OwnC w.heap.size wr x) ∧ Hid (Apart xs) ∧ Blk wr w.heap.size [.int .i64 a1, .int .i64 a2, .int .i64 a3, .int .i64 a4, .int .i64 a5, .int .i64 a6, .int .i64 a7, .slice A n c] 24 ∧ Blk wr (w.heap.size + 1) [.int .i64 0, .int .i64 0, .int .i64 0, .int .i64 0, .int .i64 0, .int .i64 0, .int .i64 0, .slice none 0 0] 24 ∧ Below w.heap.size w wr) (fun i _ => n - (intOf i).toNat)
  case atStart => exact ⟨0, by omega, rfl, [], rfl, rfl, by simpa using pb2, hid (by simp), hid List.Pairwise.nil, pm2, pz2, bw2⟩
  case round =>
    clear pb2 pm2 pz2 bw2
    obtain ⟨j, hj, rfl, xs, hxl, HX, pb, oc, ap, pm, pz, bw⟩ := hrel
    have HXL := hid hxl
    clear hxl
    by_cases hjn : j < n
    · have hjl : j < ps.length := by rw [← HN.out]; exact hjn
      have hz : (0 : Int) ≤ j := by omega
      have hlt : (j : Int) < n := by omega
      have HJ := hid hjn
      obtain ⟨b, og, C, cc, rfl, x0, x1, x2, x3, x4, x5, x6, rx, hcx, hcx2, -⟩ := (hps.below bw).pc hjl
      have hkx := HK.out _ (List.getElem_mem hjl)
      have HT := hid (fun (y : Pw) (hy : y.p = ps[j]) => take_pces HX.out hjl y hy)
      generalize ps[j] = x at *
      obtain ⟨xp, xh, xs', xc, xd, xl, xr⟩ := x
      dsimp only at x0 x1 x2 x3 x4 x5 x6 rx hcx hkx
      have b3 := hal wr (.cells #[.string xp, .bool xh, .int .i64 xs', .slice C xc.length cc, .int .i64 xd, .int .i64 xl, .int .i64 xr] 35)
      have kp := Blk.new wr [.string xp, .bool xh, .int .i64 xs', .slice C xc.length cc, .int .i64 xd, .int .i64 xl, .int .i64 xr] 35
      have pb3 := pb.below b3
      have pm3 := pm.below b3
      have pz3 := pz.below b3
      have oc3 : Hid (∀ x ∈ xs, OwnC w.heap.size (wr.alloc (.cells #[.string xp, .bool xh, .int .i64 xs', .slice C xc.length cc, .int .i64 xd, .int .i64 xl, .int .i64 xr] 35)) x) := hid fun x hx => own_below1 (oc.out x hx) b3
      have bw3 := bw.trans (b3.mono bw.size)
      have rx3 := rx.below b3
      have hpg : wr.heap.size ≠ g := by have := pb.lt; omega
      have hpw : w.heap.size ≤ wr.heap.size := bw.size
      have hwr := pz.lt
      go_wp2_with fail
      clear x0 x1 x2 x3 x4 x5 x6 rx b3 pb pm pz oc bw
      generalize wr.alloc (.cells #[.string xp, .bool xh, .int .i64 xs', .slice C xc.length cc, .int .i64 xd, .int .i64 xl, .int .i64 xr] 35) = w3 at *
      generalize wr.heap.size = gp at *
      have k0 := kp.cell 0
      have k3 : w3.drew.cell? ⟨gp, 3, none⟩ = some (.slice C xc.length cc) := by have := kp.cell 3; simpa using this
      simp only [List.getElem?_cons_zero] at k0
      have bd : Below w3.heap.size w3 w3.drew := (Below.refl _ _).drew
      have hxn : xc.length ≤ 1000000 := by omega
      refine wp_region_held_drew (S := fun w' => w'.cell? ⟨gp, 0, none⟩ = some (.string xp)) (by kernel_rfl) k0 (fun hHeld => ?_)
      refine wpAnyH_take (i := 0) (oi := ⟨_, _, _, _, _, _⟩) (v := ?_) rfl (by kernel_rfl) (by kernel_rfl) (by kernel_rfl) (fun _ _ _ h => h) (Or.inl ⟨by rfl, ?_⟩) (by assumption) ?_
      rotate_left
      · intro w hSw; (try dsimp only at hSw); go_simp; (try (with_reducible rfl))
      try simp only [Act.put, List.setIfInBounds_toArray, List.set_cons_zero, List.set_cons_succ]
      refine wpAnyH_take (i := 1) (oi := ⟨_, _, _, _, _, _⟩) (v := ?_) rfl (by kernel_rfl) (by kernel_rfl) (by kernel_rfl) (fun _ _ _ h => h) (Or.inl ⟨by rfl, ?_⟩) (by assumption) ?_
      rotate_left
      · intro w hSw; (try dsimp only at hSw); go_simp; (try (with_reducible rfl))
      try simp only [Act.put, List.setIfInBounds_toArray, List.set_cons_zero, List.set_cons_succ]
      refine wpAnyH_take (i := 3) (oi := ⟨_, _, _, _, _, _⟩) (v := ?_) rfl (by kernel_rfl) (by kernel_rfl) (by kernel_rfl) (fun _ _ _ h => h) (Or.inl ⟨by rfl, ?_⟩) (by assumption) ?_
      rotate_left
      · intro w hSw; (try dsimp only at hSw); go_simp; (try (with_reducible rfl))
      try simp only [Act.put, List.setIfInBounds_toArray, List.set_cons_zero, List.set_cons_succ]
      refine wpAnyH_ready (rs := [2, 4]) (by kernel_rfl) (by simp) ?_
      refine AllReadyH.cons (o := ⟨_, _, _, _, _, _⟩) rfl (fun K hK => ?_) (AllReadyH.cons (o := ⟨_, _, _, _, _, _⟩) rfl (fun K hK => ?_) (AllReadyH.nil))
      · go_simp
        refine (clone_any xp _ (by omega)).mono ?_
        rintro e w4 ⟨rfl, b4⟩
        have d4 := below2 bd b4
        have kp4 := kp.below d4
        have e0 := kp4.cell 0
        have e3 : w4.cell? ⟨gp, 3, none⟩ = some (.slice C xc.length cc) := by have := kp4.cell 3; simpa using this
        simp only [List.getElem?_cons_zero] at e0
        refine hK.out _ _ e0 (fun hHeld => ?_)
        clear hK K
        try simp only [Act.put, List.setIfInBounds_toArray, List.set_cons_zero, List.set_cons_succ]
        refine wpAnyH_ready (rs := [4]) (by kernel_rfl) (by simp) ?_
        refine AllReadyH.cons (o := ⟨_, _, _, _, _, _⟩) rfl (fun K hK => ?_) (AllReadyH.nil)
        go_simp
        refine hK.out _ _ e0 (fun hHeld => ?_)
        clear hK K
        try simp only [Act.put, List.setIfInBounds_toArray, List.set_cons_zero, List.set_cons_succ]
        refine wpAnyH_take (i := 6) (oi := ⟨_, _, _, _, _, _⟩) (v := ?_) rfl (by kernel_rfl) (by kernel_rfl) (by kernel_rfl) (fun _ _ _ h => h) (Or.inl ⟨by rfl, ?_⟩) (by assumption) ?_
        rotate_left
        · intro w hSw; (try dsimp only at hSw); go_simp; (try (with_reducible rfl))
        try simp only [Act.put, List.setIfInBounds_toArray, List.set_cons_zero, List.set_cons_succ]
        refine wpAnyH_ready (rs := [5]) (by kernel_rfl) (by simp) ?_
        refine AllReadyH.cons (o := ⟨_, _, _, _, _, _⟩) rfl (fun K hK => ?_) (AllReadyH.nil)
        go_simp
        refine (cloneI_any (c := cc) (rx3.below d4) rfl hxn).mono ?_
        rintro e w5 ⟨D, dd, rfl, o5, b5⟩
        have d5 := below2 d4 b5
        have kp5 := kp4.below b5
        have i0 := kp5.cell 0
        have i3 := kp5.cell 3
        have if0 := kp5.frozen 0
        simp only [List.getElem?_cons_zero, List.getElem?_cons_succ] at i0 i3
        refine hK.out _ _ i0 (fun hHeld => ?_)
        clear hK K
        try simp only [Act.put, List.setIfInBounds_toArray, List.set_cons_zero, List.set_cons_succ]
        have kp6 := kp5.set_ 0 (.string xp)
        simp only [List.set_cons_zero] at kp6
        have m0 := kp6.cell 0
        have m3 := kp6.cell 3
        have mf3 := kp6.frozen 3
        simp only [List.getElem?_cons_zero, List.getElem?_cons_succ] at m0 m3
        refine wpAnyH_ready (rs := [7]) (by kernel_rfl) (by simp) ?_
        refine AllReadyH.cons (o := ⟨_, _, _, _, _, _⟩) rfl (fun K hK => ?_) (AllReadyH.nil)
        go_simp
        refine hK.out _ _ m0 (fun hHeld => ?_)
        clear hK K
        try simp only [Act.put, List.setIfInBounds_toArray, List.set_cons_zero, List.set_cons_succ]
        refine wpAnyH_take (i := 8) (oi := ⟨_, _, _, _, _, _⟩) (v := ?_) rfl (by kernel_rfl) (by kernel_rfl) (by kernel_rfl) (fun _ _ _ h => h) (Or.inl ⟨by rfl, ?_⟩) (by assumption) ?_
        rotate_left
        · intro w hSw; (try dsimp only at hSw); go_simp; (try (with_reducible rfl))
        try simp only [Act.put, List.setIfInBounds_toArray, List.set_cons_zero, List.set_cons_succ]
        have kp7 := kp6.set_ 3 (.slice D xc.length dd)
        simp only [List.set_cons_zero, List.set_cons_succ] at kp7
        have n0 := kp7.cell 0
        simp only [List.getElem?_cons_zero] at n0
        refine wpAnyH_ready (rs := [9]) (by kernel_rfl) (by simp) ?_
        refine AllReadyH.cons (o := ⟨_, _, _, _, _, _⟩) rfl (fun K hK => ?_) (AllReadyH.nil)
        go_simp
        refine hK.out _ _ n0 (fun hHeld => ?_)
        clear hK K
        try simp only [Act.put, List.setIfInBounds_toArray, List.set_cons_zero, List.set_cons_succ]
        refine wpAnyH_done (by kernel_rfl) ?_ _
        clear hHeld
        have g7 : w5.grownBy ((w5.setCell ⟨gp, 0, none⟩ (.string xp)).setCell ⟨gp, 3, none⟩ (.slice D xc.length dd)) (some gp) := grown_trans (grown_set 0 _) (grown_set 3 _)
        have pb7 := (pb3.below d5).grown g7 (by intro e; injection e with e; exact hpg e)
        have pm7 := (pm3.below d5).grown g7 (by intro e; injection e with e; omega)
        have pz7 := (pz3.below d5).grown g7 (by intro e; injection e with e; omega)
        have oc7 : Hid (∀ x ∈ xs, OwnC w.heap.size ((w5.setCell ⟨gp, 0, none⟩ (.string xp)).setCell ⟨gp, 3, none⟩ (.slice D xc.length dd)) x) := hid fun x hx => row_turn (own_below1 (oc3.out x hx) d5) g7 kp5 (by decide)
        have o7 := row_turn (own_low1 (base' := w.heap.size) o5 (by have := d4.size; have := bw3.size; omega)) g7 kp5 (by decide)
        have bw5 := bw3.trans (d5.mono bw3.size)
        have bw7 := bw5.trans (below_grown bw5.size (far_row hpw) g7)
        have hj2 : j < (xs ++ List.replicate (n - j) zPw).length := by have := HXL.out; have := HJ.out; rw [List.length_append, List.length_replicate]; omega
        have HSET := hid (pw_set _ j hj2 (⟨⟨xp, xh, xs', xc, xd, xl, xr⟩, D, dd⟩ : Pw))
        have HFL := hid (fill_pw HXL.out HJ.out (⟨⟨xp, xh, xs', xc, xd, xl, xr⟩, D, dd⟩ : Pw))
        have hcs : ∀ k, k < 7 → ∃ u, ((w5.setCell ⟨gp, 0, none⟩ (.string xp)).setCell ⟨gp, 3, none⟩ (.slice D xc.length dd)).cell? ⟨g, j * 7 + k, none⟩ = some u := fun k hk => by
          rw [pb7.cell, pwV_at _ j hj2 k hk]
          exact ⟨_, List.getElem?_eq_getElem (by simpa [pcV] using hk)⟩
        obtain ⟨u0, c0⟩ := hcs 0 (by omega)
        obtain ⟨u1, c1⟩ := hcs 1 (by omega)
        obtain ⟨u2, c2⟩ := hcs 2 (by omega)
        obtain ⟨u3, c3⟩ := hcs 3 (by omega)
        obtain ⟨u4, c4⟩ := hcs 4 (by omega)
        obtain ⟨u5, c5⟩ := hcs 5 (by omega)
        obtain ⟨u6, c6⟩ := hcs 6 (by omega)
        have f0 := pb7.frozen (j * 7)
        have f1 := pb7.frozen (j * 7 + 1)
        have f2 := pb7.frozen (j * 7 + 2)
        have f3 := pb7.frozen (j * 7 + 3)
        have f4 := pb7.frozen (j * 7 + 4)
        have f5 := pb7.frozen (j * 7 + 5)
        have f6 := pb7.frozen (j * 7 + 6)
        rw [Nat.add_zero] at c0
        have n1 := kp7.cell 1
        have n2 := kp7.cell 2
        have n3 := kp7.cell 3
        have n4 := kp7.cell 4
        have n5 := kp7.cell 5
        have n6 := kp7.cell 6
        simp only [List.getElem?_cons_zero, List.getElem?_cons_succ] at n1 n2 n3 n4 n5 n6
        have pb8 := (((((((pb7.set_ (j * 7) (.string xp)).set_ (j * 7 + 1) (.bool xh)).set_ (j * 7 + 2) (.int .i64 xs')).set_ (j * 7 + 3) (.slice D xc.length dd)).set_ (j * 7 + 4) (.int .i64 xd)).set_ (j * 7 + 5) (.int .i64 xl)).set_ (j * 7 + 6) (.int .i64 xr))
        rw [show _ = pwV ((xs ++ List.replicate (n - j) zPw).set j (⟨⟨xp, xh, xs', xc, xd, xl, xr⟩, D, dd⟩ : Pw)) from HSET.out, HFL.out] at pb8
        have g8 := sets7at ((w5.setCell ⟨gp, 0, none⟩ (.string xp)).setCell ⟨gp, 3, none⟩ (.slice D xc.length dd)) g (j * 7) (j * 7 + 1) (j * 7 + 2) (j * 7 + 3) (j * 7 + 4) (j * 7 + 5) (j * 7 + 6) (.string xp) (.bool xh) (.int .i64 xs') (.slice D xc.length dd) (.int .i64 xd) (.int .i64 xl) (.int .i64 xr)
        have pm8 := other7 pm7 hgm (j * 7) (j * 7 + 1) (j * 7 + 2) (j * 7 + 3) (j * 7 + 4) (j * 7 + 5) (j * 7 + 6) (.string xp) (.bool xh) (.int .i64 xs') (.slice D xc.length dd) (.int .i64 xd) (.int .i64 xl) (.int .i64 xr)
        have pz8 := other7 pz7 hgz (j * 7) (j * 7 + 1) (j * 7 + 2) (j * 7 + 3) (j * 7 + 4) (j * 7 + 5) (j * 7 + 6) (.string xp) (.bool xh) (.int .i64 xs') (.slice D xc.length dd) (.int .i64 xd) (.int .i64 xl) (.int .i64 xr)
        have bw8 := bw7.trans (below_grown bw7.size (far_row hgw) g8)
        have oc8 : Hid (∀ x ∈ xs ++ [(⟨⟨xp, xh, xs', xc, xd, xl, xr⟩, D, dd⟩ : Pw)], OwnC w.heap.size (((((((((w5.setCell ⟨gp, 0, none⟩ (.string xp)).setCell ⟨gp, 3, none⟩ (.slice D xc.length dd)).setCell ⟨g, j * 7, none⟩ (.string xp)).setCell ⟨g, j * 7 + 1, none⟩ (.bool xh)).setCell ⟨g, j * 7 + 2, none⟩ (.int .i64 xs')).setCell ⟨g, j * 7 + 3, none⟩ (.slice D xc.length dd)).setCell ⟨g, j * 7 + 4, none⟩ (.int .i64 xd)).setCell ⟨g, j * 7 + 5, none⟩ (.int .i64 xl)).setCell ⟨g, j * 7 + 6, none⟩ (.int .i64 xr)) x) := hid fun x hx => by
          rcases List.mem_append.1 hx with hx | hx
          · exact row_turn (oc7.out x hx) g8 pb7 (by decide)
          · obtain rfl := List.mem_singleton.1 hx
            exact row_turn o7 g8 pb7 (by decide)
        have ap8 : Hid (Apart (xs ++ [(⟨⟨xp, xh, xs', xc, xd, xl, xr⟩, D, dd⟩ : Pw)])) := hid (apart_snoc ap.out (oc3.out) (fun k hk => by have := row_lt o5 k hk; have := d4.size; omega))
        have HX8 : Hid (pcesOf (xs ++ [(⟨⟨xp, xh, xs', xc, xd, xl, xr⟩, D, dd⟩ : Pw)]) = ps.take (j + 1)) := hid (HT.out _ rfl)
        have HL8 : Hid ((xs ++ [(⟨⟨xp, xh, xs', xc, xd, xl, xr⟩, D, dd⟩ : Pw)]).length = j + 1) := by show _ = _; rw [List.length_append, HXL.out]; rfl
        clear pb7 pm7 pz7 oc7 o7 bw7 g7 g8 HSET HFL hcs kp7 kp6 kp5 kp4 o5 b5 d5 b4 d4 hj2 bw5 oc3 pb3 pm3 pz3 bw3 rx3 kp HT k0 k3 e0 e3 i0 i3 if0 m0 m3 mf3
        go_wp2
        go_roundw
        case rel => exact ⟨j + 1, HJ.out, by go_num, _, HL8.out, HX8, pb8, oc8, ap8, pm8, pz8, bw8⟩
        case measure => have := HJ.out; simp [intOf]; omega
      · go_simp
        refine hK.out _ _ k0 (fun hHeld => ?_)
        clear hK K
        try simp only [Act.put, List.setIfInBounds_toArray, List.set_cons_zero, List.set_cons_succ]
        refine wpAnyH_ready (rs := [2]) (by kernel_rfl) (by simp) ?_
        refine AllReadyH.cons (o := ⟨_, _, _, _, _, _⟩) rfl (fun K hK => ?_) (AllReadyH.nil)
        go_simp
        refine (clone_any xp _ (by omega)).mono ?_
        rintro e w4 ⟨rfl, b4⟩
        have d4 := below2 bd b4
        have kp4 := kp.below d4
        have e0 := kp4.cell 0
        have e3 : w4.cell? ⟨gp, 3, none⟩ = some (.slice C xc.length cc) := by have := kp4.cell 3; simpa using this
        simp only [List.getElem?_cons_zero] at e0
        refine hK.out _ _ e0 (fun hHeld => ?_)
        clear hK K
        try simp only [Act.put, List.setIfInBounds_toArray, List.set_cons_zero, List.set_cons_succ]
        refine wpAnyH_take (i := 6) (oi := ⟨_, _, _, _, _, _⟩) (v := ?_) rfl (by kernel_rfl) (by kernel_rfl) (by kernel_rfl) (fun _ _ _ h => h) (Or.inl ⟨by rfl, ?_⟩) (by assumption) ?_
        rotate_left
        · intro w hSw; (try dsimp only at hSw); go_simp; (try (with_reducible rfl))
        try simp only [Act.put, List.setIfInBounds_toArray, List.set_cons_zero, List.set_cons_succ]
        refine wpAnyH_ready (rs := [5]) (by kernel_rfl) (by simp) ?_
        refine AllReadyH.cons (o := ⟨_, _, _, _, _, _⟩) rfl (fun K hK => ?_) (AllReadyH.nil)
        go_simp
        refine (cloneI_any (c := cc) (rx3.below d4) rfl hxn).mono ?_
        rintro e w5 ⟨D, dd, rfl, o5, b5⟩
        have d5 := below2 d4 b5
        have kp5 := kp4.below b5
        have i0 := kp5.cell 0
        have i3 := kp5.cell 3
        have if0 := kp5.frozen 0
        simp only [List.getElem?_cons_zero, List.getElem?_cons_succ] at i0 i3
        refine hK.out _ _ i0 (fun hHeld => ?_)
        clear hK K
        try simp only [Act.put, List.setIfInBounds_toArray, List.set_cons_zero, List.set_cons_succ]
        have kp6 := kp5.set_ 0 (.string xp)
        simp only [List.set_cons_zero] at kp6
        have m0 := kp6.cell 0
        have m3 := kp6.cell 3
        have mf3 := kp6.frozen 3
        simp only [List.getElem?_cons_zero, List.getElem?_cons_succ] at m0 m3
        refine wpAnyH_ready (rs := [7]) (by kernel_rfl) (by simp) ?_
        refine AllReadyH.cons (o := ⟨_, _, _, _, _, _⟩) rfl (fun K hK => ?_) (AllReadyH.nil)
        go_simp
        refine hK.out _ _ m0 (fun hHeld => ?_)
        clear hK K
        try simp only [Act.put, List.setIfInBounds_toArray, List.set_cons_zero, List.set_cons_succ]
        refine wpAnyH_take (i := 8) (oi := ⟨_, _, _, _, _, _⟩) (v := ?_) rfl (by kernel_rfl) (by kernel_rfl) (by kernel_rfl) (fun _ _ _ h => h) (Or.inl ⟨by rfl, ?_⟩) (by assumption) ?_
        rotate_left
        · intro w hSw; (try dsimp only at hSw); go_simp; (try (with_reducible rfl))
        try simp only [Act.put, List.setIfInBounds_toArray, List.set_cons_zero, List.set_cons_succ]
        have kp7 := kp6.set_ 3 (.slice D xc.length dd)
        simp only [List.set_cons_zero, List.set_cons_succ] at kp7
        have n0 := kp7.cell 0
        simp only [List.getElem?_cons_zero] at n0
        refine wpAnyH_ready (rs := [9]) (by kernel_rfl) (by simp) ?_
        refine AllReadyH.cons (o := ⟨_, _, _, _, _, _⟩) rfl (fun K hK => ?_) (AllReadyH.nil)
        go_simp
        refine hK.out _ _ n0 (fun hHeld => ?_)
        clear hK K
        try simp only [Act.put, List.setIfInBounds_toArray, List.set_cons_zero, List.set_cons_succ]
        refine wpAnyH_done (by kernel_rfl) ?_ _
        clear hHeld
        have g7 : w5.grownBy ((w5.setCell ⟨gp, 0, none⟩ (.string xp)).setCell ⟨gp, 3, none⟩ (.slice D xc.length dd)) (some gp) := grown_trans (grown_set 0 _) (grown_set 3 _)
        have pb7 := (pb3.below d5).grown g7 (by intro e; injection e with e; exact hpg e)
        have pm7 := (pm3.below d5).grown g7 (by intro e; injection e with e; omega)
        have pz7 := (pz3.below d5).grown g7 (by intro e; injection e with e; omega)
        have oc7 : Hid (∀ x ∈ xs, OwnC w.heap.size ((w5.setCell ⟨gp, 0, none⟩ (.string xp)).setCell ⟨gp, 3, none⟩ (.slice D xc.length dd)) x) := hid fun x hx => row_turn (own_below1 (oc3.out x hx) d5) g7 kp5 (by decide)
        have o7 := row_turn (own_low1 (base' := w.heap.size) o5 (by have := d4.size; have := bw3.size; omega)) g7 kp5 (by decide)
        have bw5 := bw3.trans (d5.mono bw3.size)
        have bw7 := bw5.trans (below_grown bw5.size (far_row hpw) g7)
        have hj2 : j < (xs ++ List.replicate (n - j) zPw).length := by have := HXL.out; have := HJ.out; rw [List.length_append, List.length_replicate]; omega
        have HSET := hid (pw_set _ j hj2 (⟨⟨xp, xh, xs', xc, xd, xl, xr⟩, D, dd⟩ : Pw))
        have HFL := hid (fill_pw HXL.out HJ.out (⟨⟨xp, xh, xs', xc, xd, xl, xr⟩, D, dd⟩ : Pw))
        have hcs : ∀ k, k < 7 → ∃ u, ((w5.setCell ⟨gp, 0, none⟩ (.string xp)).setCell ⟨gp, 3, none⟩ (.slice D xc.length dd)).cell? ⟨g, j * 7 + k, none⟩ = some u := fun k hk => by
          rw [pb7.cell, pwV_at _ j hj2 k hk]
          exact ⟨_, List.getElem?_eq_getElem (by simpa [pcV] using hk)⟩
        obtain ⟨u0, c0⟩ := hcs 0 (by omega)
        obtain ⟨u1, c1⟩ := hcs 1 (by omega)
        obtain ⟨u2, c2⟩ := hcs 2 (by omega)
        obtain ⟨u3, c3⟩ := hcs 3 (by omega)
        obtain ⟨u4, c4⟩ := hcs 4 (by omega)
        obtain ⟨u5, c5⟩ := hcs 5 (by omega)
        obtain ⟨u6, c6⟩ := hcs 6 (by omega)
        have f0 := pb7.frozen (j * 7)
        have f1 := pb7.frozen (j * 7 + 1)
        have f2 := pb7.frozen (j * 7 + 2)
        have f3 := pb7.frozen (j * 7 + 3)
        have f4 := pb7.frozen (j * 7 + 4)
        have f5 := pb7.frozen (j * 7 + 5)
        have f6 := pb7.frozen (j * 7 + 6)
        rw [Nat.add_zero] at c0
        have n1 := kp7.cell 1
        have n2 := kp7.cell 2
        have n3 := kp7.cell 3
        have n4 := kp7.cell 4
        have n5 := kp7.cell 5
        have n6 := kp7.cell 6
        simp only [List.getElem?_cons_zero, List.getElem?_cons_succ] at n1 n2 n3 n4 n5 n6
        have pb8 := (((((((pb7.set_ (j * 7) (.string xp)).set_ (j * 7 + 1) (.bool xh)).set_ (j * 7 + 2) (.int .i64 xs')).set_ (j * 7 + 3) (.slice D xc.length dd)).set_ (j * 7 + 4) (.int .i64 xd)).set_ (j * 7 + 5) (.int .i64 xl)).set_ (j * 7 + 6) (.int .i64 xr))
        rw [show _ = pwV ((xs ++ List.replicate (n - j) zPw).set j (⟨⟨xp, xh, xs', xc, xd, xl, xr⟩, D, dd⟩ : Pw)) from HSET.out, HFL.out] at pb8
        have g8 := sets7at ((w5.setCell ⟨gp, 0, none⟩ (.string xp)).setCell ⟨gp, 3, none⟩ (.slice D xc.length dd)) g (j * 7) (j * 7 + 1) (j * 7 + 2) (j * 7 + 3) (j * 7 + 4) (j * 7 + 5) (j * 7 + 6) (.string xp) (.bool xh) (.int .i64 xs') (.slice D xc.length dd) (.int .i64 xd) (.int .i64 xl) (.int .i64 xr)
        have pm8 := other7 pm7 hgm (j * 7) (j * 7 + 1) (j * 7 + 2) (j * 7 + 3) (j * 7 + 4) (j * 7 + 5) (j * 7 + 6) (.string xp) (.bool xh) (.int .i64 xs') (.slice D xc.length dd) (.int .i64 xd) (.int .i64 xl) (.int .i64 xr)
        have pz8 := other7 pz7 hgz (j * 7) (j * 7 + 1) (j * 7 + 2) (j * 7 + 3) (j * 7 + 4) (j * 7 + 5) (j * 7 + 6) (.string xp) (.bool xh) (.int .i64 xs') (.slice D xc.length dd) (.int .i64 xd) (.int .i64 xl) (.int .i64 xr)
        have bw8 := bw7.trans (below_grown bw7.size (far_row hgw) g8)
        have oc8 : Hid (∀ x ∈ xs ++ [(⟨⟨xp, xh, xs', xc, xd, xl, xr⟩, D, dd⟩ : Pw)], OwnC w.heap.size (((((((((w5.setCell ⟨gp, 0, none⟩ (.string xp)).setCell ⟨gp, 3, none⟩ (.slice D xc.length dd)).setCell ⟨g, j * 7, none⟩ (.string xp)).setCell ⟨g, j * 7 + 1, none⟩ (.bool xh)).setCell ⟨g, j * 7 + 2, none⟩ (.int .i64 xs')).setCell ⟨g, j * 7 + 3, none⟩ (.slice D xc.length dd)).setCell ⟨g, j * 7 + 4, none⟩ (.int .i64 xd)).setCell ⟨g, j * 7 + 5, none⟩ (.int .i64 xl)).setCell ⟨g, j * 7 + 6, none⟩ (.int .i64 xr)) x) := hid fun x hx => by
          rcases List.mem_append.1 hx with hx | hx
          · exact row_turn (oc7.out x hx) g8 pb7 (by decide)
          · obtain rfl := List.mem_singleton.1 hx
            exact row_turn o7 g8 pb7 (by decide)
        have ap8 : Hid (Apart (xs ++ [(⟨⟨xp, xh, xs', xc, xd, xl, xr⟩, D, dd⟩ : Pw)])) := hid (apart_snoc ap.out (oc3.out) (fun k hk => by have := row_lt o5 k hk; have := d4.size; omega))
        have HX8 : Hid (pcesOf (xs ++ [(⟨⟨xp, xh, xs', xc, xd, xl, xr⟩, D, dd⟩ : Pw)]) = ps.take (j + 1)) := hid (HT.out _ rfl)
        have HL8 : Hid ((xs ++ [(⟨⟨xp, xh, xs', xc, xd, xl, xr⟩, D, dd⟩ : Pw)]).length = j + 1) := by show _ = _; rw [List.length_append, HXL.out]; rfl
        clear pb7 pm7 pz7 oc7 o7 bw7 g7 g8 HSET HFL hcs kp7 kp6 kp5 kp4 o5 b5 d5 b4 d4 hj2 bw5 oc3 pb3 pm3 pz3 bw3 rx3 kp HT k0 k3 e0 e3 i0 i3 if0 m0 m3 mf3
        go_wp2
        go_roundw
        case rel => exact ⟨j + 1, HJ.out, by go_num, _, HL8.out, HX8, pb8, oc8, ap8, pm8, pz8, bw8⟩
        case measure => have := HJ.out; simp [intOf]; omega
    · have hjn2 : j = n := by omega
      have hnl : ¬ (j : Int) < n := by omega
      subst hjn2
      rw [Nat.sub_self, List.replicate_zero, List.append_nil] at pb
      have hpx : pcesOf xs = ps := by rw [HX.out, List.take_of_length_le (by rw [← HN.out]; exact Nat.le_refl _)]
      have HPX := hid hpx
      clear hpx HX HXL
      have hgl := pb.lt
      have mf7 := pm.frozen 7
      have pm9 := pm.set_ 7 (.slice (some ⟨g, 0, none⟩) j j)
      have pz9 := pz.other (g' := w.heap.size) (by omega) 7 (.slice (some ⟨g, 0, none⟩) j j)
      have pb9 := pb.other (g' := w.heap.size) (by omega) 7 (.slice (some ⟨g, 0, none⟩) j j)
      have gm9 : wr.grownBy (wr.setCell ⟨w.heap.size, 7, none⟩ (.slice (some ⟨g, 0, none⟩) j j)) (some w.heap.size) := grown_set 7 _
      have oc9 : Hid (∀ x ∈ xs, OwnC w.heap.size (wr.setCell ⟨w.heap.size, 7, none⟩ (.slice (some ⟨g, 0, none⟩) j j)) x) := hid fun x hx => row_turn (oc.out x hx) gm9 pm (by decide)
      have bw9 := bw.trans (below_grown bw.size (far_row (Nat.le_refl _)) gm9)
      have m7 := pm.cell 7
      simp only [List.set_cons_zero, List.set_cons_succ] at pm9
      have q0 := pm9.cell 0
      have z0 := pz9.cell 0
      have f0 := pz9.frozen 0
      have q1 := pm9.cell 1
      have z1 := pz9.cell 1
      have f1 := pz9.frozen 1
      have q2 := pm9.cell 2
      have z2 := pz9.cell 2
      have f2 := pz9.frozen 2
      have q3 := pm9.cell 3
      have z3 := pz9.cell 3
      have f3 := pz9.frozen 3
      have q4 := pm9.cell 4
      have z4 := pz9.cell 4
      have f4 := pz9.frozen 4
      have q5 := pm9.cell 5
      have z5 := pz9.cell 5
      have f5 := pz9.frozen 5
      have q6 := pm9.cell 6
      have z6 := pz9.cell 6
      have f6 := pz9.frozen 6
      have q7 := pm9.cell 7
      have z7 := pz9.cell 7
      have f7 := pz9.frozen 7
      simp only [List.getElem?_cons_zero, List.getElem?_cons_succ] at m7 q0 z0 q1 z1 q2 z2 q3 z3 q4 z4 q5 z5 q6 z6 q7 z7
      have ks := ((((((((pz9.set_ 0 (.int .i64 a1)).set_ 1 (.int .i64 a2)).set_ 2 (.int .i64 a3)).set_ 3 (.int .i64 a4)).set_ 4 (.int .i64 a5)).set_ 5 (.int .i64 a6)).set_ 6 (.int .i64 a7)).set_ 7 (.slice (some ⟨g, 0, none⟩) j j))
      simp only [List.set_cons_zero, List.set_cons_succ] at ks
      have r0 := ks.cell 0
      have r1 := ks.cell 1
      have r2 := ks.cell 2
      have r3 := ks.cell 3
      have r4 := ks.cell 4
      have r5 := ks.cell 5
      have r6 := ks.cell 6
      have r7 := ks.cell 7
      simp only [List.getElem?_cons_zero, List.getElem?_cons_succ] at r0 r1 r2 r3 r4 r5 r6 r7
      have gs := sets8 (wr.setCell ⟨w.heap.size, 7, none⟩ (.slice (some ⟨g, 0, none⟩) j j)) (w.heap.size + 1) (.int .i64 a1) (.int .i64 a2) (.int .i64 a3) (.int .i64 a4) (.int .i64 a5) (.int .i64 a6) (.int .i64 a7) (.slice (some ⟨g, 0, none⟩) j j)
      have pbS := pb9.grown gs (by intro e; injection e with e; omega)
      have ocS := fun x hx => row_turn (oc9.out x hx) gs pz9 (by decide)
      have bwS := bw9.trans (below_grown bw9.size (far_row (by omega)) gs)
      clear pm9 pz9 pb9 gm9 oc9 bw9 pm pz pb oc bw ks gs
      go_wp2
      refine bodyPost_ret (v := .agg #[.int .i64 a1, .int .i64 a2, .int .i64 a3, .int .i64 a4, .int .i64 a5, .int .i64 a6, .int .i64 a7, .slice (some ⟨g, 0, none⟩) j j]) (by simp [results, Tryd.results12, go_sem, r0, r1, r2, r3, r4, r5, r6, r7]) rfl ?_
      exact ⟨g, xs, by unfold manV; dsimp only; rw [← HN.out], HPX.out, pbS, hid ocS, ap, hgw, bwS⟩
end Go.Proofs.YtgafjbmpaeejbaaDoor
namespace Go.Proofs.YtgafjbmpaeejbaaDoor
open Go.RowKit

def p1M : Pce := ⟨⟨#[97, 47, 98]⟩, true, 65, [8, 9], 5, 0, 1⟩
def p2M : Pce := ⟨⟨#[99]⟩, false, 0, [], 0, 1, 0⟩
def oneM : Man := ⟨1, 2, 7, 3, 4, 0, 0, [p1M, p2M]⟩
def p3M : Pce := ⟨⟨#[97, 47, 98]⟩, true, 64, [8, 9], 5, 0, 1⟩
def twoM : Man := ⟨1, 2, 7, 3, 4, 0, 0, [p3M, p2M]⟩
abbrev oneW (p : Pce) (h : Nat) : List Pw := [⟨p, some ⟨h, 0, none⟩, 2⟩, ⟨p2M, none, 0⟩]
theorem oneM_right : RightM oneM := (manR_iff oneM).1 (by decide +kernel)
theorem twoM_not : manR twoM = false := by decide +kernel
theorem zero_not : manR ⟨0, 0, 0, 0, 0, 0, 0, []⟩ = false := by decide +kernel
theorem oneM_len : (manB oneM).length = 100 := by decide +kernel
theorem tinyM_len : (manB ⟨1, 2, 0, 0, 0, 0, 0, []⟩).length = 32 := by decide +kernel
theorem chunks_one : chunksM oneM = [8, 9] := rfl
theorem one_two : decide (oneM = twoM) = false := decide_eq_false fun e => by
  have h := congrArg (fun m => m.pieces.map (·.size)) e
  simp [oneM, twoM, p1M, p3M] at h
theorem copy_mt {w : World} {base g : Nat} {xs : List Pw} {m : Man} (hx : pcesOf xs = m.pieces) (hg : Blk w g (pwV xs) 35) (oc : ∀ x ∈ xs, OwnC base w x) (hn : m.pieces.length ≤ 1000) : Mt w (some ⟨g, 0, none⟩) m.pieces.length m :=
  ⟨by rw [← hx]; exact pcs_of (Blk.rd hg) fun x h => (oc x h).ck, Nat.le_refl _, by unfold maxLen; omega⟩
theorem one_mt {w : World} {g h : Nat} {p : Pce} (hc : p.chunks = [8, 9]) (hg : Blk w g (pwV (oneW p h)) 35) (hh : Blk w h (intV [8, 9]) 3) (a1 a2 a3 a4 a5 a6 a7 : Int) : Mt w (some ⟨g, 0, none⟩) 2 ⟨a1, a2, a3, a4, a5, a6, a7, [p, p2M]⟩ := by
  refine ⟨pcs_of (xs := oneW p h) (Blk.rd hg) fun x hx => ?_, Nat.le_refl _, by unfold maxLen; omega⟩
  simp only [List.mem_cons, List.not_mem_nil, or_false] at hx
  rcases hx with rfl | rfl
  · exact ⟨by rw [hc]; exact Blk.rd hh, by rw [hc]; exact Nat.le_refl _, by show 2 ≤ maxLen; unfold maxLen; omega⟩
  · exact ⟨.inl rfl, Nat.le_refl _, by show 0 ≤ maxLen; omega⟩

def OnePost (w : World) (e : Ending) (w' : World) : Prop :=
  ∃ g h, e = .returned (manV oneM (some ⟨g, 0, none⟩) 2) ∧ Blk w' g (pwV (oneW p1M h)) 35 ∧ Blk w' h (intV [8, 9]) 3 ∧ g ≠ h ∧ w.heap.size ≤ g ∧ w.heap.size ≤ h ∧ Below w.heap.size w w'
set_option maxHeartbeats 1000000 in
set_option maxRecDepth 20000 in
theorem one12_any (w : World) : Calls Tryd.prog 26 #[] w (OnePost w) := by
  have hal : ∀ (W : World) (o : Obj), Below W.heap.size W (W.alloc o) := fun W o => (Below.refl _ _).alloc (Nat.le_refl _) o
  have b1 := below2 (hal w (.cells #[.int .i64 1, .int .i64 2, .int .i64 7, .int .i64 3, .int .i64 4, .int .i64 0, .int .i64 0, .slice (some ⟨w.heap.size + 1 + 1, 0, none⟩) 2 2] 24)) (hal _ (.cells #[.int .i64 8, .int .i64 9] 3))
  have kh := (Blk.new (w.alloc (.cells #[.int .i64 1, .int .i64 2, .int .i64 7, .int .i64 3, .int .i64 4, .int .i64 0, .int .i64 0, .slice (some ⟨w.heap.size + 1 + 1, 0, none⟩) 2 2] 24)) [.int .i64 8, .int .i64 9] 3).below (hal _ (.cells #[.string ⟨#[97, 47, 98]⟩, .bool true, .int .i64 65, .slice (some ⟨w.heap.size + 1, 0, none⟩) 2 2, .int .i64 5, .int .i64 0, .int .i64 1, .string ⟨#[99]⟩, .bool false, .int .i64 0, .slice none 0 0, .int .i64 0, .int .i64 1, .int .i64 0] 35))
  have b2 := below2 b1 (hal _ (.cells #[.string ⟨#[97, 47, 98]⟩, .bool true, .int .i64 65, .slice (some ⟨w.heap.size + 1, 0, none⟩) 2 2, .int .i64 5, .int .i64 0, .int .i64 1, .string ⟨#[99]⟩, .bool false, .int .i64 0, .slice none 0 0, .int .i64 0, .int .i64 1, .int .i64 0] 35))
  have kg := Blk.new ((w.alloc (.cells #[.int .i64 1, .int .i64 2, .int .i64 7, .int .i64 3, .int .i64 4, .int .i64 0, .int .i64 0, .slice (some ⟨w.heap.size + 1 + 1, 0, none⟩) 2 2] 24)).alloc (.cells #[.int .i64 8, .int .i64 9] 3)) [.string ⟨#[97, 47, 98]⟩, .bool true, .int .i64 65, .slice (some ⟨w.heap.size + 1, 0, none⟩) 2 2, .int .i64 5, .int .i64 0, .int .i64 1, .string ⟨#[99]⟩, .bool false, .int .i64 0, .slice none 0 0, .int .i64 0, .int .i64 1, .int .i64 0] 35
  simp only [World.size_alloc] at kh kg
  go_enter Tryd.func26, Tryd.ntmps26
  go_wp2
  go_returns
  exact ⟨w.heap.size + 1 + 1, w.heap.size + 1, rfl, kg, kh, by omega, by omega, by omega, b2⟩

set_option maxHeartbeats 4000000 in
set_option maxRecDepth 20000 in
theorem small12_any (w : World) : Calls Tryd.prog 10 #[] w fun e w' => e = .returned (.bool true) ∧ Below w.heap.size w w' := by
  have hal : ∀ (W : World) (o : Obj), Below W.heap.size W (W.alloc o) := fun W o => (Below.refl _ _).alloc (Nat.le_refl _) o
  obtain ⟨sB, hsB⟩ : ∃ s, toS (manB oneM) = s := ⟨_, rfl⟩
  have HSL : Hid (sB.data.toList = manB oneM) := by rw [← hsB]; rfl
  have HSZ : Hid (sB.size = 100) := by show _ = _; rw [← size_list, HSL.out]; exact oneM_len
  have HSB := hid hsB
  clear hsB
  have HR1 := hid (read_back L0_ok oneM_right)
  have HR2 : Hid (readN L0 (sB ++ ⟨#[0]⟩).data.toList = 4 ∧ readA L0 (sB ++ ⟨#[0]⟩).data.toList = zeroM) := by
    have h := more_no L0_ok oneM_right (more := [0]) (by simp)
    have e : (sB ++ ⟨#[0]⟩).data.toList = manB oneM ++ [0] := by rw [app_data, HSL.out]
    rw [e]
    exact hid ⟨h, (read_no (by rw [h]; decide)).2⟩
  have HR3 : Hid (readN L0 (sB.extract 0 36).data.toList = 4 ∧ readA L0 (sB.extract 0 36).data.toList = zeroM) := by
    have h := cut_no L0_ok oneM_right (cut := 36) (by rw [oneM_len]; omega)
    have e : (sB.extract 0 36).data.toList = (manB oneM).take 36 := by rw [extract_list, HSL.out]
    rw [e]
    exact hid ⟨h, (read_no (by rw [h]; decide)).2⟩
  have hss := HSZ.out
  have hsum : ¬ 9223372036854775807 < sB.size + (⟨#[0]⟩ : ByteArray).size := by rw [HSZ.out]; decide
  go_enter Tryd.func10, Tryd.ntmps10
  go_wp2_with fail
  refine (one12_any w).mono ?_
  rintro e w1 ⟨g1, h1, rfl, kg1, kh1, -, -, -, b1⟩
  rw [show manV oneM (some ⟨g1, 0, none⟩) 2 = .agg #[.int .i64 1, .int .i64 2, .int .i64 7, .int .i64 3, .int .i64 4, .int .i64 0, .int .i64 0, .slice (some ⟨g1, 0, none⟩) 2 2] from rfl]
  have bx := hal w1 (.cells #[.int .i64 1, .int .i64 2, .int .i64 7, .int .i64 3, .int .i64 4, .int .i64 0, .int .i64 0, .slice (some ⟨g1, 0, none⟩) 2 2] 24)
  have pm := Blk.new w1 [.int .i64 1, .int .i64 2, .int .i64 7, .int .i64 3, .int .i64 4, .int .i64 0, .int .i64 0, .slice (some ⟨g1, 0, none⟩) 2 2] 24
  replace kg1 := kg1.below bx
  replace kh1 := kh1.below bx
  have cc := bytes12_any (one_mt (p := p1M) rfl kg1 kh1 1 2 7 3 4 0 0) (by decide) (by decide)
  rw [show (⟨1, 2, 7, 3, 4, 0, 0, [p1M, p2M]⟩ : Man) = oneM from rfl, HSB.out] at cc
  go_wp2_with fail
  refine cc.mono ?_
  clear cc
  have b2 := below2 b1 bx
  clear bx b1
  generalize hgs2 : w1.heap.size = z2 at *
  generalize w1.alloc (.cells #[.int .i64 1, .int .i64 2, .int .i64 7, .int .i64 3, .int .i64 4, .int .i64 0, .int .i64 0, .slice (some ⟨g1, 0, none⟩) 2 2] 24) = w2 at *
  clear hgs2
  rintro e w3 ⟨rfl, bx⟩
  simp only
  replace kg1 := kg1.below bx
  replace kh1 := kh1.below bx
  replace pm := pm.below bx
  have b3 := below2 b2 bx
  clear bx b2
  have cc := read12_any sB w3 (by have := HSZ.out; omega)
  rw [HSL.out, HR1.out.1, HR1.out.2] at cc
  go_wp2_with fail
  refine cc.mono ?_
  clear cc
  rintro e w4 ⟨A2, c2, rfl, mx, bx⟩
  simp only
  replace kg1 := kg1.below bx
  replace kh1 := kh1.below bx
  replace pm := pm.below bx
  have b4 := below2 b3 bx
  clear bx b3
  rw [show manV oneM A2 c2 = .agg #[.int .i64 1, .int .i64 2, .int .i64 7, .int .i64 3, .int .i64 4, .int .i64 0, .int .i64 0, .slice A2 2 c2] from rfl]
  have bx := hal w4 (.cells #[.int .i64 1, .int .i64 2, .int .i64 7, .int .i64 3, .int .i64 4, .int .i64 0, .int .i64 0, .slice A2 2 c2] 24)
  have px := Blk.new w4 [.int .i64 1, .int .i64 2, .int .i64 7, .int .i64 3, .int .i64 4, .int .i64 0, .int .i64 0, .slice A2 2 c2] 24
  replace kg1 := kg1.below bx
  replace kh1 := kh1.below bx
  replace pm := pm.below bx
  replace mx := mx.below bx
  have cc := read12_any (sB ++ ⟨#[0]⟩) (w4.alloc (.cells #[.int .i64 1, .int .i64 2, .int .i64 7, .int .i64 3, .int .i64 4, .int .i64 0, .int .i64 0, .slice A2 2 c2] 24)) (by rw [app_size, HSZ.out]; decide)
  rw [HR2.out.1, HR2.out.2] at cc
  go_wp2_with fail
  refine cc.mono ?_
  clear cc
  have b5 := below2 b4 bx
  clear bx b4
  generalize hgs5 : w4.heap.size = z5 at *
  generalize w4.alloc (.cells #[.int .i64 1, .int .i64 2, .int .i64 7, .int .i64 3, .int .i64 4, .int .i64 0, .int .i64 0, .slice A2 2 c2] 24) = w5 at *
  clear hgs5
  rintro e w6 ⟨A3, c3, rfl, -, bx⟩
  simp only
  replace kg1 := kg1.below bx
  replace kh1 := kh1.below bx
  replace pm := pm.below bx
  replace mx := mx.below bx
  replace px := px.below bx
  have b6 := below2 b5 bx
  clear bx b5
  rw [show manV zeroM A3 c3 = .agg #[.int .i64 0, .int .i64 0, .int .i64 0, .int .i64 0, .int .i64 0, .int .i64 0, .int .i64 0, .slice A3 0 c3] from rfl]
  have bx := hal w6 (.cells #[.int .i64 0, .int .i64 0, .int .i64 0, .int .i64 0, .int .i64 0, .int .i64 0, .int .i64 0, .slice A3 0 c3] 24)
  have py := Blk.new w6 [.int .i64 0, .int .i64 0, .int .i64 0, .int .i64 0, .int .i64 0, .int .i64 0, .int .i64 0, .slice A3 0 c3] 24
  replace kg1 := kg1.below bx
  replace kh1 := kh1.below bx
  replace pm := pm.below bx
  replace mx := mx.below bx
  replace px := px.below bx
  have cc := read12_any (sB.extract 0 36) (w6.alloc (.cells #[.int .i64 0, .int .i64 0, .int .i64 0, .int .i64 0, .int .i64 0, .int .i64 0, .int .i64 0, .slice A3 0 c3] 24)) (by have h := congrArg List.length (extract_list sB 36); rw [size_list, List.length_take, size_list, HSZ.out] at h; omega)
  clear py
  rw [HR3.out.1, HR3.out.2] at cc
  go_wp2_with fail
  refine cc.mono ?_
  clear cc
  have b7 := below2 b6 bx
  clear bx b6
  generalize hgs7 : w6.heap.size = z7 at *
  generalize w6.alloc (.cells #[.int .i64 0, .int .i64 0, .int .i64 0, .int .i64 0, .int .i64 0, .int .i64 0, .int .i64 0, .slice A3 0 c3] 24) = w7 at *
  clear hgs7
  rintro e w8 ⟨A4, c4, rfl, -, bx⟩
  simp only
  replace kg1 := kg1.below bx
  replace kh1 := kh1.below bx
  replace pm := pm.below bx
  replace mx := mx.below bx
  replace px := px.below bx
  have b8 := below2 b7 bx
  clear bx b7
  rw [show manV zeroM A4 c4 = .agg #[.int .i64 0, .int .i64 0, .int .i64 0, .int .i64 0, .int .i64 0, .int .i64 0, .int .i64 0, .slice A4 0 c4] from rfl]
  have bx := hal w8 (.cells #[.int .i64 0, .int .i64 0, .int .i64 0, .int .i64 0, .int .i64 0, .int .i64 0, .int .i64 0, .slice A4 0 c4] 24)
  have py := Blk.new w8 [.int .i64 0, .int .i64 0, .int .i64 0, .int .i64 0, .int .i64 0, .int .i64 0, .int .i64 0, .slice A4 0 c4] 24
  replace kg1 := kg1.below bx
  replace kh1 := kh1.below bx
  replace pm := pm.below bx
  replace mx := mx.below bx
  replace px := px.below bx
  have q0 := pm.cell 0
  have q1 := pm.cell 1
  have q2 := pm.cell 2
  have q3 := pm.cell 3
  have q4 := pm.cell 4
  have q5 := pm.cell 5
  have q6 := pm.cell 6
  have q7 := pm.cell 7
  simp only [List.getElem?_cons_zero, List.getElem?_cons_succ] at q0 q1 q2 q3 q4 q5 q6 q7
  have cc := copy12_any (m := oneM) (one_mt (p := p1M) rfl kg1 kh1 1 2 7 3 4 0 0) (by decide) (by decide)
  clear py
  go_wp2_with fail
  refine cc.mono ?_
  clear cc
  have b9 := below2 b8 bx
  clear bx b8
  generalize hgs9 : w8.heap.size = z9 at *
  generalize w8.alloc (.cells #[.int .i64 0, .int .i64 0, .int .i64 0, .int .i64 0, .int .i64 0, .int .i64 0, .int .i64 0, .slice A4 0 c4] 24) = w9 at *
  clear hgs9
  rintro e w10 ⟨gc, xs, rfl, hxs, kc, oc, -, -, bx⟩
  simp only
  replace kg1 := kg1.below bx
  replace kh1 := kh1.below bx
  replace pm := pm.below bx
  replace mx := mx.below bx
  replace px := px.below bx
  have b10 := below2 b9 bx
  clear bx b9
  clear q0 q1 q2 q3 q4 q5 q6 q7
  have mc := copy_mt hxs kc oc.out (by decide)
  clear hxs kc oc
  rw [show manV oneM (some ⟨gc, 0, none⟩) oneM.pieces.length = .agg #[.int .i64 1, .int .i64 2, .int .i64 7, .int .i64 3, .int .i64 4, .int .i64 0, .int .i64 0, .slice (some ⟨gc, 0, none⟩) 2 2] from rfl]
  have bx := hal w10 (.cells #[.int .i64 1, .int .i64 2, .int .i64 7, .int .i64 3, .int .i64 4, .int .i64 0, .int .i64 0, .slice (some ⟨gc, 0, none⟩) 2 2] 24)
  have pc := Blk.new w10 [.int .i64 1, .int .i64 2, .int .i64 7, .int .i64 3, .int .i64 4, .int .i64 0, .int .i64 0, .slice (some ⟨gc, 0, none⟩) 2 2] 24
  replace kg1 := kg1.below bx
  replace kh1 := kh1.below bx
  replace pm := pm.below bx
  replace mx := mx.below bx
  replace px := px.below bx
  replace mc := mc.below bx
  have q0 := pm.cell 0
  have q1 := pm.cell 1
  have q2 := pm.cell 2
  have q3 := pm.cell 3
  have q4 := pm.cell 4
  have q5 := pm.cell 5
  have q6 := pm.cell 6
  have q7 := pm.cell 7
  simp only [List.getElem?_cons_zero, List.getElem?_cons_succ] at q0 q1 q2 q3 q4 q5 q6 q7
  have cc := chunks12_any (m := oneM) (one_mt (p := p1M) rfl kg1 kh1 1 2 7 3 4 0 0) (by decide) (by decide)
  go_wp2_with fail
  refine cc.mono ?_
  clear cc
  have b11 := below2 b10 bx
  clear bx b10
  generalize hgs11 : w10.heap.size = z11 at *
  generalize w10.alloc (.cells #[.int .i64 1, .int .i64 2, .int .i64 7, .int .i64 3, .int .i64 4, .int .i64 0, .int .i64 0, .slice (some ⟨gc, 0, none⟩) 2 2] 24) = w11 at *
  clear hgs11
  rintro e w12 ⟨B, d, rfl, ol, bx⟩
  simp only
  replace kg1 := kg1.below bx
  replace kh1 := kh1.below bx
  replace pm := pm.below bx
  replace mx := mx.below bx
  replace px := px.below bx
  replace mc := mc.below bx
  replace pc := pc.below bx
  have b12 := below2 b11 bx
  clear bx b11
  clear q0 q1 q2 q3 q4 q5 q6 q7
  have rl : Rd w12 B (intV [8, 9]) := Rd.of_own ol
  rw [show (chunksM oneM).length = 2 from rfl]
  clear ol
  have cc := one12_any w12
  go_wp2_with fail
  refine cc.mono ?_
  clear cc
  rintro e v1 ⟨g2, h2, rfl, kg2, kh2, hgh, hg2, hh2, by1⟩
  simp only
  rw [show manV oneM (some ⟨g2, 0, none⟩) 2 = .agg #[.int .i64 1, .int .i64 2, .int .i64 7, .int .i64 3, .int .i64 4, .int .i64 0, .int .i64 0, .slice (some ⟨g2, 0, none⟩) 2 2] from rfl]
  have c42 := kg2.cell 2
  have f42 := kg2.frozen 2
  have c42 : v1.cell? ⟨g2, 2, none⟩ = some (.int .i64 65) := c42
  have hgl := kg2.lt
  have pn0 := Blk.new v1 [.int .i64 1, .int .i64 2, .int .i64 7, .int .i64 3, .int .i64 4, .int .i64 0, .int .i64 0, .slice (some ⟨g2, 0, none⟩) 2 2] 24
  have n7 := pn0.cell 7
  simp only [List.getElem?_cons_zero, List.getElem?_cons_succ] at n7
  have kg4 : Blk (v1.setCell ⟨g2, 2, none⟩ (.int .i64 64)) g2 (pwV (oneW p3M h2)) 35 := kg2.set_ 2 (.int .i64 64)
  have kh4 := kh2.other (g' := g2) (Ne.symm hgh) 2 (.int .i64 64)
  have by3 := by1.setCell (p := ⟨g2, 2, none⟩) hg2 (.int .i64 64)
  have hsS : (v1.setCell ⟨g2, 2, none⟩ (.int .i64 64)).heap.size = v1.heap.size := by simp [World.setCell]
  have by2 := hal (v1.setCell ⟨g2, 2, none⟩ (.int .i64 64)) (.cells #[.int .i64 1, .int .i64 2, .int .i64 7, .int .i64 3, .int .i64 4, .int .i64 0, .int .i64 0, .slice (some ⟨g2, 0, none⟩) 2 2] 24)
  have pn5 := Blk.new (v1.setCell ⟨g2, 2, none⟩ (.int .i64 64)) [.int .i64 1, .int .i64 2, .int .i64 7, .int .i64 3, .int .i64 4, .int .i64 0, .int .i64 0, .slice (some ⟨g2, 0, none⟩) 2 2] 24
  rw [hsS] at pn5
  have kg5 := kg4.below by2
  have kh5 := kh4.below by2
  have bx := by3.trans (by2.mono by3.size)
  replace kg1 := kg1.below bx
  replace kh1 := kh1.below bx
  replace pm := pm.below bx
  replace mx := mx.below bx
  replace px := px.below bx
  replace mc := mc.below bx
  replace pc := pc.below bx
  replace rl := rl.below bx
  clear kg2 kh2 kg4 kh4 pn0 by1 by2 by3 hsS
  have b13 := below2 b12 bx
  clear bx b12
  go_upto_region 10 with (fail)
  generalize (v1.setCell ⟨g2, 2, none⟩ (.int .i64 64)).alloc (.cells #[.int .i64 1, .int .i64 2, .int .i64 7, .int .i64 3, .int .i64 4, .int .i64 0, .int .i64 0, .slice (some ⟨g2, 0, none⟩) 2 2] 24) = wS at *
  generalize v1.heap.size = zN at *
  clear n7 c42 f42 hgl
  have q0 := pm.cell 0
  have q1 := pm.cell 1
  have q2 := pm.cell 2
  have q3 := pm.cell 3
  have q4 := pm.cell 4
  have q5 := pm.cell 5
  have q6 := pm.cell 6
  have q7 := pm.cell 7
  simp only [List.getElem?_cons_zero, List.getElem?_cons_succ] at q0 q1 q2 q3 q4 q5 q6 q7
  have cc := right12_any (one_mt (p := p1M) rfl kg1 kh1 1 2 7 3 4 0 0) (by decide)
  rw [show (⟨1, 2, 7, 3, 4, 0, 0, [p1M, p2M]⟩ : Man) = oneM from rfl, (manR_iff _).2 oneM_right] at cc
  go_wp2_with fail
  refine cc.mono ?_
  clear cc
  clear q0 q1 q2 q3 q4 q5 q6 q7
  rintro e w14 ⟨rfl, bx⟩
  simp only
  replace kg1 := kg1.below bx
  replace kh1 := kh1.below bx
  replace pm := pm.below bx
  replace mx := mx.below bx
  replace px := px.below bx
  replace mc := mc.below bx
  replace pc := pc.below bx
  replace rl := rl.below bx
  replace kg5 := kg5.below bx
  replace kh5 := kh5.below bx
  replace pn5 := pn5.below bx
  have b14 := below2 b13 bx
  clear bx b13
  have x0 := px.cell 0
  have x1 := px.cell 1
  have x2 := px.cell 2
  have x3 := px.cell 3
  have x4 := px.cell 4
  have x5 := px.cell 5
  have x6 := px.cell 6
  have x7 := px.cell 7
  simp only [List.getElem?_cons_zero, List.getElem?_cons_succ] at x0 x1 x2 x3 x4 x5 x6 x7
  have q0 := pm.cell 0
  have q1 := pm.cell 1
  have q2 := pm.cell 2
  have q3 := pm.cell 3
  have q4 := pm.cell 4
  have q5 := pm.cell 5
  have q6 := pm.cell 6
  have q7 := pm.cell 7
  simp only [List.getElem?_cons_zero, List.getElem?_cons_succ] at q0 q1 q2 q3 q4 q5 q6 q7
  have cc := same12_any mx (one_mt (p := p1M) rfl kg1 kh1 1 2 7 3 4 0 0)
  rw [show (⟨1, 2, 7, 3, 4, 0, 0, [p1M, p2M]⟩ : Man) = oneM from rfl, decide_eq_true (rfl : oneM = oneM)] at cc
  go_wp2_with fail
  refine cc.mono ?_
  clear cc x0 x1 x2 x3 x4 x5 x6 x7 q0 q1 q2 q3 q4 q5 q6 q7
  rintro e w15 ⟨rfl, bx⟩
  simp only
  replace kg1 := kg1.below bx
  replace kh1 := kh1.below bx
  replace pm := pm.below bx
  replace mx := mx.below bx
  replace px := px.below bx
  replace mc := mc.below bx
  replace pc := pc.below bx
  replace rl := rl.below bx
  replace kg5 := kg5.below bx
  replace kh5 := kh5.below bx
  replace pn5 := pn5.below bx
  have b15 := below2 b14 bx
  clear bx b14
  have x0 := pc.cell 0
  have x1 := pc.cell 1
  have x2 := pc.cell 2
  have x3 := pc.cell 3
  have x4 := pc.cell 4
  have x5 := pc.cell 5
  have x6 := pc.cell 6
  have x7 := pc.cell 7
  simp only [List.getElem?_cons_zero, List.getElem?_cons_succ] at x0 x1 x2 x3 x4 x5 x6 x7
  have q0 := pm.cell 0
  have q1 := pm.cell 1
  have q2 := pm.cell 2
  have q3 := pm.cell 3
  have q4 := pm.cell 4
  have q5 := pm.cell 5
  have q6 := pm.cell 6
  have q7 := pm.cell 7
  simp only [List.getElem?_cons_zero, List.getElem?_cons_succ] at q0 q1 q2 q3 q4 q5 q6 q7
  have cc := same12_any mc (one_mt (p := p1M) rfl kg1 kh1 1 2 7 3 4 0 0)
  rw [show (⟨1, 2, 7, 3, 4, 0, 0, [p1M, p2M]⟩ : Man) = oneM from rfl, decide_eq_true (rfl : oneM = oneM)] at cc
  go_wp2_with fail
  refine cc.mono ?_
  clear cc x0 x1 x2 x3 x4 x5 x6 x7 q0 q1 q2 q3 q4 q5 q6 q7
  rintro e w16 ⟨rfl, bx⟩
  simp only
  replace kg1 := kg1.below bx
  replace kh1 := kh1.below bx
  replace pm := pm.below bx
  replace mx := mx.below bx
  replace px := px.below bx
  replace mc := mc.below bx
  replace pc := pc.below bx
  replace rl := rl.below bx
  replace kg5 := kg5.below bx
  replace kh5 := kh5.below bx
  replace pn5 := pn5.below bx
  have b16 := below2 b15 bx
  clear bx b15
  obtain ⟨bl, ol, rfl, l1, -⟩ := int_at rl (j := 1) (by decide)
  have l1 : w16.cell? ⟨bl, ol + 1, none⟩ = some (.int .i64 9) := l1
  have x0 := pn5.cell 0
  have x1 := pn5.cell 1
  have x2 := pn5.cell 2
  have x3 := pn5.cell 3
  have x4 := pn5.cell 4
  have x5 := pn5.cell 5
  have x6 := pn5.cell 6
  have x7 := pn5.cell 7
  simp only [List.getElem?_cons_zero, List.getElem?_cons_succ] at x0 x1 x2 x3 x4 x5 x6 x7
  have cc := right12_any (one_mt (p := p3M) rfl kg5 kh5 1 2 7 3 4 0 0) (by decide)
  rw [show (⟨1, 2, 7, 3, 4, 0, 0, [p3M, p2M]⟩ : Man) = twoM from rfl, twoM_not] at cc
  go_wp2_with fail
  refine cc.mono ?_
  clear cc x0 x1 x2 x3 x4 x5 x6 x7
  rintro e w17 ⟨rfl, bx⟩
  simp only
  replace kg1 := kg1.below bx
  replace kh1 := kh1.below bx
  replace pm := pm.below bx
  replace mx := mx.below bx
  replace px := px.below bx
  replace mc := mc.below bx
  replace pc := pc.below bx
  replace rl := rl.below bx
  replace kg5 := kg5.below bx
  replace kh5 := kh5.below bx
  replace pn5 := pn5.below bx
  have b17 := below2 b16 bx
  clear bx b16
  clear l1
  have cc := right12_any (⟨.inl rfl, Nat.le_refl _, by unfold maxLen; omega⟩ : Mt w17 none 0 ⟨0, 0, 0, 0, 0, 0, 0, []⟩) (by simp)
  rw [zero_not] at cc
  go_wp2_with fail
  refine cc.mono ?_
  clear cc 
  rintro e w18 ⟨rfl, bx⟩
  simp only
  replace kg1 := kg1.below bx
  replace kh1 := kh1.below bx
  replace pm := pm.below bx
  replace mx := mx.below bx
  replace px := px.below bx
  replace mc := mc.below bx
  replace pc := pc.below bx
  replace rl := rl.below bx
  replace kg5 := kg5.below bx
  replace kh5 := kh5.below bx
  replace pn5 := pn5.below bx
  have b18 := below2 b17 bx
  clear bx b17
  have q0 := pm.cell 0
  have q1 := pm.cell 1
  have q2 := pm.cell 2
  have q3 := pm.cell 3
  have q4 := pm.cell 4
  have q5 := pm.cell 5
  have q6 := pm.cell 6
  have q7 := pm.cell 7
  simp only [List.getElem?_cons_zero, List.getElem?_cons_succ] at q0 q1 q2 q3 q4 q5 q6 q7
  have x0 := pn5.cell 0
  have x1 := pn5.cell 1
  have x2 := pn5.cell 2
  have x3 := pn5.cell 3
  have x4 := pn5.cell 4
  have x5 := pn5.cell 5
  have x6 := pn5.cell 6
  have x7 := pn5.cell 7
  simp only [List.getElem?_cons_zero, List.getElem?_cons_succ] at x0 x1 x2 x3 x4 x5 x6 x7
  have cc := same12_any (one_mt (p := p1M) rfl kg1 kh1 1 2 7 3 4 0 0) (one_mt (p := p3M) rfl kg5 kh5 1 2 7 3 4 0 0)
  rw [show (⟨1, 2, 7, 3, 4, 0, 0, [p1M, p2M]⟩ : Man) = oneM from rfl, show (⟨1, 2, 7, 3, 4, 0, 0, [p3M, p2M]⟩ : Man) = twoM from rfl, one_two] at cc
  go_wp2_with fail
  refine cc.mono ?_
  clear cc q0 q1 q2 q3 q4 q5 q6 q7 x0 x1 x2 x3 x4 x5 x6 x7
  rintro e w19 ⟨rfl, bx⟩
  simp only
  replace kg1 := kg1.below bx
  replace kh1 := kh1.below bx
  replace pm := pm.below bx
  replace mx := mx.below bx
  replace px := px.below bx
  replace mc := mc.below bx
  replace pc := pc.below bx
  replace rl := rl.below bx
  replace kg5 := kg5.below bx
  replace kh5 := kh5.below bx
  replace pn5 := pn5.below bx
  have b19 := below2 b18 bx
  clear bx b18
  have hts : (toS (manB ⟨1, 2, 0, 0, 0, 0, 0, []⟩)).size = 32 := by rw [toS_size]; exact tinyM_len
  obtain ⟨sT, hsT⟩ : ∃ s, toS (manB ⟨1, 2, 0, 0, 0, 0, 0, []⟩) = s := ⟨_, rfl⟩
  rw [hsT] at hts
  have cc := bytes12_any (⟨.inl rfl, Nat.le_refl _, by unfold maxLen; omega⟩ : Mt w19 none 0 ⟨1, 2, 0, 0, 0, 0, 0, []⟩) (by decide) (by decide)
  rw [hsT] at cc
  go_wp2_with fail
  refine cc.mono ?_
  clear cc 
  rintro e w20 ⟨rfl, bx⟩
  simp only
  replace kg1 := kg1.below bx
  replace kh1 := kh1.below bx
  replace pm := pm.below bx
  replace mx := mx.below bx
  replace px := px.below bx
  replace mc := mc.below bx
  replace pc := pc.below bx
  replace rl := rl.below bx
  replace kg5 := kg5.below bx
  replace kh5 := kh5.below bx
  replace pn5 := pn5.below bx
  have b20 := below2 b19 bx
  clear bx b19
  go_wp2
  go_ret
  exact ⟨rfl, b20⟩
end Go.Proofs.YtgafjbmpaeejbaaDoor
namespace Go.Proofs.YtgafjbmpaeejbaaDoor
open Go.RowKit

theorem cat_list (a b : ByteArray) : (a ++ b).data.toList = a.data.toList ++ b.data.toList := app_data a b
theorem few_len {m : Man} (h : fewM m = true) : (manB m).length ≤ 100000 := by
  have h1 := fewM_sz h
  have h2 := pcesB_le m.pieces fun p hp => by have := (h1.2 p hp).2; omega
  have h3 : ∀ (ps : List Pce), (∀ p ∈ ps, p.path.size ≤ 200 ∧ p.chunks.length ≤ 30) → (pcesB ps).length ≤ 348 * ps.length := by
    intro ps
    induction ps with
    | nil => intro _; simp [pcesB]
    | cons p ps ih =>
      intro hp
      have q1 := hp p List.mem_cons_self
      have q2 := ih fun x hx => hp x (List.mem_cons_of_mem _ hx)
      rw [pcesB_cons, List.length_append, pceB_length, List.length_cons]
      omega
  have := h3 m.pieces h1.2
  rw [manB_length]
  omega
theorem few_paths {m : Man} (h : fewM m = true) : ∀ p ∈ m.pieces, p.path.size < 4294967281 := fun p hp => by have := ((fewM_sz h).2 p hp).1; omega
theorem few_bytes {m : Man} (h : fewM m = true) : ∀ p ∈ m.pieces, p.path.size ≤ maxLen ∧ p.chunks.length ≤ 1000 := fun p hp => by have := (fewM_sz h).2 p hp; unfold maxLen; omega
theorem few_pcs {m : Man} (h : fewM m = true) : m.pieces.length ≤ 1000 := by have := (fewM_sz h).1; omega
theorem few_copy {m : Man} (h : fewM m = true) : ∀ p ∈ m.pieces, p.path.size ≤ 100000 ∧ p.chunks.length ≤ 1000 := fun p hp => by have := (fewM_sz h).2 p hp; omega
theorem man_size (m : Man) : (toS (manB m)).size = (manB m).length := toS_size _
set_option maxHeartbeats 4000000 in
set_option maxRecDepth 20000 in
theorem recordCut_walk (A : Option Addr) (c : Nat) (m : Man) (cut : Int) (more : ByteArray) (w : World) (hm : Mt w A c m) (_ : (Lit.int .i64 cut).wf = true) (hs : more.size ≤ 140737488351232) :
    Calls Tryd.prog 8 #[manV m A c, .int .i64 cut, .string more] w fun e w' => e = .returned (.bool true) ∧ Below w.heap.size w w' := by
  have hal : ∀ (W : World) (o : Obj), Below W.heap.size W (W.alloc o) := fun W o => (Below.refl _ _).alloc (Nat.le_refl _) o
  obtain ⟨a1, a2, a3, a4, a5, a6, a7, ps⟩ := m
  unfold manV
  dsimp only
  go_enter Tryd.func8, Tryd.ntmps8
  have bx := hal w (.cells #[.int .i64 a1, .int .i64 a2, .int .i64 a3, .int .i64 a4, .int .i64 a5, .int .i64 a6, .int .i64 a7, .slice A ps.length c] 24)
  have pm := Blk.new w [.int .i64 a1, .int .i64 a2, .int .i64 a3, .int .i64 a4, .int .i64 a5, .int .i64 a6, .int .i64 a7, .slice A ps.length c] 24
  replace hm := hm.below bx
  have cc := small12_any (w.alloc (.cells #[.int .i64 a1, .int .i64 a2, .int .i64 a3, .int .i64 a4, .int .i64 a5, .int .i64 a6, .int .i64 a7, .slice A ps.length c] 24))
  go_wp2_with fail
  refine cc.mono ?_
  clear cc
  have b1 := bx
  clear bx
  generalize w.alloc (.cells #[.int .i64 a1, .int .i64 a2, .int .i64 a3, .int .i64 a4, .int .i64 a5, .int .i64 a6, .int .i64 a7, .slice A ps.length c] 24) = w1 at *
  rintro e w2 ⟨rfl, bx⟩
  simp only
  replace hm := hm.below bx
  replace pm := pm.below bx
  have b2 := below2 b1 bx
  clear bx b1
  have q0 := pm.cell 0
  have q1 := pm.cell 1
  have q2 := pm.cell 2
  have q3 := pm.cell 3
  have q4 := pm.cell 4
  have q5 := pm.cell 5
  have q6 := pm.cell 6
  have q7 := pm.cell 7
  simp only [List.getElem?_cons_zero, List.getElem?_cons_succ] at q0 q1 q2 q3 q4 q5 q6 q7
  have cc := fewM_any hm
  go_wp2_with fail
  refine cc.mono ?_
  clear cc q0 q1 q2 q3 q4 q5 q6 q7
  rintro e w3 ⟨rfl, bx⟩
  simp only
  replace hm := hm.below bx
  replace pm := pm.below bx
  have b3 := below2 b2 bx
  clear bx b2
  cases hq : fewM (⟨a1, a2, a3, a4, a5, a6, a7, ps⟩ : Man)
  · clear hq
    go_wp2
    go_ret
    exact ⟨rfl, b3⟩
  have hqr := few_paths hq
  have hqb := few_bytes hq
  have hqp := few_pcs hq
  have HLEN := hid (few_len hq)
  clear hq
  have q0 := pm.cell 0
  have q1 := pm.cell 1
  have q2 := pm.cell 2
  have q3 := pm.cell 3
  have q4 := pm.cell 4
  have q5 := pm.cell 5
  have q6 := pm.cell 6
  have q7 := pm.cell 7
  simp only [List.getElem?_cons_zero, List.getElem?_cons_succ] at q0 q1 q2 q3 q4 q5 q6 q7
  have cc := right12_any hm hqr
  go_wp2_with fail
  refine cc.mono ?_
  clear cc q0 q1 q2 q3 q4 q5 q6 q7
  rintro e w4 ⟨rfl, bx⟩
  simp only
  replace hm := hm.below bx
  replace pm := pm.below bx
  have b4 := below2 b3 bx
  clear bx b3
  cases hR : manR (⟨a1, a2, a3, a4, a5, a6, a7, ps⟩ : Man)
  · clear hR
    go_wp2
    go_ret
    exact ⟨rfl, b4⟩
  have HR := hid ((manR_iff _).1 hR)
  clear hR
  by_cases hmo : (100 : Int) < more.size
  · go_wp2
    go_ret
    exact ⟨rfl, b4⟩
  obtain ⟨sB, hsB⟩ : ∃ s, toS (manB (⟨a1, a2, a3, a4, a5, a6, a7, ps⟩ : Man)) = s := ⟨_, rfl⟩
  have HSL : Hid (sB.data.toList = manB (⟨a1, a2, a3, a4, a5, a6, a7, ps⟩ : Man)) := by rw [← hsB]; rfl
  have HSZ : Hid (sB.size ≤ 100000) := by show _ ≤ _; rw [← hsB, man_size]; exact HLEN.out
  have hss := HSZ.out
  have q0 := pm.cell 0
  have q1 := pm.cell 1
  have q2 := pm.cell 2
  have q3 := pm.cell 3
  have q4 := pm.cell 4
  have q5 := pm.cell 5
  have q6 := pm.cell 6
  have q7 := pm.cell 7
  simp only [List.getElem?_cons_zero, List.getElem?_cons_succ] at q0 q1 q2 q3 q4 q5 q6 q7
  have cc := bytes12_any hm hqp hqb
  rw [hsB] at cc
  go_wp2_with fail
  refine cc.mono ?_
  clear cc q0 q1 q2 q3 q4 q5 q6 q7
  rintro e w5 ⟨rfl, bx⟩
  simp only
  replace hm := hm.below bx
  replace pm := pm.below bx
  have b5 := below2 b4 bx
  clear bx b4
  have hcsz : (sB ++ more).size ≤ 1000000000 := by rw [app_size]; omega
  have hsum : ¬ 9223372036854775807 < sB.size + more.size := by omega
  have cc := read12_any (sB ++ more) (w5) hcsz
  go_wp2_with fail
  refine cc.mono ?_
  clear cc
  rintro e w6 ⟨A2, c2, rfl, -, bx⟩
  simp only
  replace hm := hm.below bx
  replace pm := pm.below bx
  have b6 := below2 b5 bx
  clear bx b5
  have HCL : Hid ((sB ++ more).data.toList = manB (⟨a1, a2, a3, a4, a5, a6, a7, ps⟩ : Man) ++ more.data.toList) := by show _ = _; rw [cat_list, HSL.out]
  have hml : more.data.toList = [] ↔ more = ⟨#[]⟩ := by
    constructor
    · intro h
      have : more.size = 0 := by rw [← size_list, h]; rfl
      cases more with
      | mk d => rw [show d = #[] from Array.eq_empty_of_size_eq_zero (by simpa [ByteArray.size] using this)]
    · intro h; rw [h]
  have heqs : more.toList.isEmpty = decide (more = ⟨#[]⟩) := by
    rw [← str_eqb1 more ⟨#[]⟩, Lib.toList_data, Lib.toList_data]
    cases more.data.toList <;> rfl
  generalize hRN : readN L0 (sB ++ more).data.toList = rn at *
  have HRN := hid hRN
  clear hRN hcsz hsum
  have HN : Hid ((rn = 0 ∧ more = ⟨#[]⟩) ∨ (rn = 4 ∧ more ≠ ⟨#[]⟩)) := by
    by_cases he : more = ⟨#[]⟩
    · refine .inl ⟨?_, he⟩
      rw [← HRN.out, HCL.out, hml.2 he, List.append_nil]
      exact (read_back L0_ok HR.out).1
    · refine .inr ⟨?_, he⟩
      rw [← HRN.out, HCL.out]
      exact more_no L0_ok HR.out fun k => he (hml.1 k)
  clear hml
  rw [show manV (readA L0 (sB ++ more).data.toList) A2 c2 = .agg #[.int .i64 (readA L0 (sB ++ more).data.toList).author, .int .i64 (readA L0 (sB ++ more).data.toList).version, .int .i64 (readA L0 (sB ++ more).data.toList).prev, .int .i64 (readA L0 (sB ++ more).data.toList).epoch, .int .i64 (readA L0 (sB ++ more).data.toList).next, .int .i64 (readA L0 (sB ++ more).data.toList).seen, .int .i64 (readA L0 (sB ++ more).data.toList).head, .slice A2 (readA L0 (sB ++ more).data.toList).pieces.length c2] from rfl]
  generalize readA L0 (sB ++ more).data.toList = ra at *
  have bx := hal w6 (.cells #[.int .i64 (ra).author, .int .i64 (ra).version, .int .i64 (ra).prev, .int .i64 (ra).epoch, .int .i64 (ra).next, .int .i64 (ra).seen, .int .i64 (ra).head, .slice A2 (ra).pieces.length c2] 24)
  have py := Blk.new w6 [.int .i64 (ra).author, .int .i64 (ra).version, .int .i64 (ra).prev, .int .i64 (ra).epoch, .int .i64 (ra).next, .int .i64 (ra).seen, .int .i64 (ra).head, .slice A2 (ra).pieces.length c2] 24
  replace hm := hm.below bx
  replace pm := pm.below bx
  clear py
  have bq := below2 b6 bx
  by_cases hc0 : cut < 0
  · rcases HN.out with ⟨h1, h2⟩ | ⟨h1, h2⟩
    · subst h1
      rw [decide_eq_true h2] at heqs
      clear HN HRN h2
      go_wp2
      go_ret
      exact ⟨rfl, bq⟩
    · subst h1
      rw [decide_eq_false h2] at heqs
      clear HN HRN h2
      go_wp2
      go_ret
      exact ⟨rfl, bq⟩
  by_cases hc1 : (sB.size : Int) ≤ cut
  · rcases HN.out with ⟨h1, h2⟩ | ⟨h1, h2⟩
    · subst h1
      rw [decide_eq_true h2] at heqs
      clear HN HRN h2
      go_wp2
      go_ret
      exact ⟨rfl, bq⟩
    · subst h1
      rw [decide_eq_false h2] at heqs
      clear HN HRN h2
      go_wp2
      go_ret
      exact ⟨rfl, bq⟩
  obtain ⟨k, rfl⟩ : ∃ k : Nat, cut = k := ⟨cut.toNat, by omega⟩
  have hks : k < sB.size := by omega
  have hkz : (0 : Int) ≤ k := by omega
  have hkl : (k : Int) ≤ sB.size := by omega
  have HEX : Hid (readN L0 (sB.extract 0 k).data.toList = 4) := by
    show _ = _
    rw [extract_list, HSL.out]
    exact cut_no L0_ok HR.out (by rw [← HSL.out, size_list]; exact hks)
  have hexs : (sB.extract 0 k).size ≤ 1000000000 := by have h := congrArg List.length (extract_list sB k); rw [size_list, List.length_take, size_list] at h; omega
  rcases HN.out with ⟨h1, h2⟩ | ⟨h1, h2⟩
  · subst h1
    rw [decide_eq_true h2] at heqs
    clear HN HRN h2
    have cc := read12_any (sB.extract 0 k) (w6.alloc (.cells #[.int .i64 (ra).author, .int .i64 (ra).version, .int .i64 (ra).prev, .int .i64 (ra).epoch, .int .i64 (ra).next, .int .i64 (ra).seen, .int .i64 (ra).head, .slice A2 (ra).pieces.length c2] 24)) hexs
    rw [HEX.out] at cc
    go_wp2_with fail
    refine cc.mono ?_
    clear cc
    have b7 := below2 b6 bx
    clear bx b6
    generalize hgs7 : w6.heap.size = z7 at *
    generalize w6.alloc (.cells #[.int .i64 (ra).author, .int .i64 (ra).version, .int .i64 (ra).prev, .int .i64 (ra).epoch, .int .i64 (ra).next, .int .i64 (ra).seen, .int .i64 (ra).head, .slice A2 (ra).pieces.length c2] 24) = w7 at *
    clear hgs7
    rintro e w8 ⟨A4, c4, rfl, -, bx⟩
    simp only
    replace hm := hm.below bx
    replace pm := pm.below bx
    have b8 := below2 b7 bx
    clear bx b7
    rw [show manV (readA L0 (sB.extract 0 k).data.toList) A4 c4 = .agg #[.int .i64 (readA L0 (sB.extract 0 k).data.toList).author, .int .i64 (readA L0 (sB.extract 0 k).data.toList).version, .int .i64 (readA L0 (sB.extract 0 k).data.toList).prev, .int .i64 (readA L0 (sB.extract 0 k).data.toList).epoch, .int .i64 (readA L0 (sB.extract 0 k).data.toList).next, .int .i64 (readA L0 (sB.extract 0 k).data.toList).seen, .int .i64 (readA L0 (sB.extract 0 k).data.toList).head, .slice A4 (readA L0 (sB.extract 0 k).data.toList).pieces.length c4] from rfl]
    generalize readA L0 (sB.extract 0 k).data.toList = rb at *
    have bx := hal w8 (.cells #[.int .i64 (rb).author, .int .i64 (rb).version, .int .i64 (rb).prev, .int .i64 (rb).epoch, .int .i64 (rb).next, .int .i64 (rb).seen, .int .i64 (rb).head, .slice A4 (rb).pieces.length c4] 24)
    have py := Blk.new w8 [.int .i64 (rb).author, .int .i64 (rb).version, .int .i64 (rb).prev, .int .i64 (rb).epoch, .int .i64 (rb).next, .int .i64 (rb).seen, .int .i64 (rb).head, .slice A4 (rb).pieces.length c4] 24
    replace hm := hm.below bx
    replace pm := pm.below bx
    have bz := below2 b8 bx
    go_wp2
    go_ret
    exact ⟨rfl, bz⟩
  · subst h1
    rw [decide_eq_false h2] at heqs
    clear HN HRN h2
    have cc := read12_any (sB.extract 0 k) (w6.alloc (.cells #[.int .i64 (ra).author, .int .i64 (ra).version, .int .i64 (ra).prev, .int .i64 (ra).epoch, .int .i64 (ra).next, .int .i64 (ra).seen, .int .i64 (ra).head, .slice A2 (ra).pieces.length c2] 24)) hexs
    rw [HEX.out] at cc
    go_wp2_with fail
    refine cc.mono ?_
    clear cc
    have b7 := below2 b6 bx
    clear bx b6
    generalize hgs7 : w6.heap.size = z7 at *
    generalize w6.alloc (.cells #[.int .i64 (ra).author, .int .i64 (ra).version, .int .i64 (ra).prev, .int .i64 (ra).epoch, .int .i64 (ra).next, .int .i64 (ra).seen, .int .i64 (ra).head, .slice A2 (ra).pieces.length c2] 24) = w7 at *
    clear hgs7
    rintro e w8 ⟨A4, c4, rfl, -, bx⟩
    simp only
    replace hm := hm.below bx
    replace pm := pm.below bx
    have b8 := below2 b7 bx
    clear bx b7
    rw [show manV (readA L0 (sB.extract 0 k).data.toList) A4 c4 = .agg #[.int .i64 (readA L0 (sB.extract 0 k).data.toList).author, .int .i64 (readA L0 (sB.extract 0 k).data.toList).version, .int .i64 (readA L0 (sB.extract 0 k).data.toList).prev, .int .i64 (readA L0 (sB.extract 0 k).data.toList).epoch, .int .i64 (readA L0 (sB.extract 0 k).data.toList).next, .int .i64 (readA L0 (sB.extract 0 k).data.toList).seen, .int .i64 (readA L0 (sB.extract 0 k).data.toList).head, .slice A4 (readA L0 (sB.extract 0 k).data.toList).pieces.length c4] from rfl]
    generalize readA L0 (sB.extract 0 k).data.toList = rb at *
    have bx := hal w8 (.cells #[.int .i64 (rb).author, .int .i64 (rb).version, .int .i64 (rb).prev, .int .i64 (rb).epoch, .int .i64 (rb).next, .int .i64 (rb).seen, .int .i64 (rb).head, .slice A4 (rb).pieces.length c4] 24)
    have py := Blk.new w8 [.int .i64 (rb).author, .int .i64 (rb).version, .int .i64 (rb).prev, .int .i64 (rb).epoch, .int .i64 (rb).next, .int .i64 (rb).seen, .int .i64 (rb).head, .slice A4 (rb).pieces.length c4] 24
    replace hm := hm.below bx
    replace pm := pm.below bx
    have bz := below2 b8 bx
    go_wp2
    go_ret
    exact ⟨rfl, bz⟩
end Go.Proofs.YtgafjbmpaeejbaaDoor
