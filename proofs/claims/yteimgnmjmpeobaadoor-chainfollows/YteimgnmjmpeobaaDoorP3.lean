/- The texts Hb, Ej, Cp, Byt, Ek, Bw, Em, En, Eo, El, Ep, Shelf2, Eq, in one. -/
import Derived.Test.YteimgnmjmpeobaaDoorP2
import Derived.RangeFuncBox
import Derived.RangeFuncCalls
import Derived.RangeFuncLeaves
import Derived.Shelf.Abstract
import Derived.OwnWalkIn
import Derived.TacticsInMore
import Derived.LoopNIn
import Derived.LoopIn
import Derived.Maps.AppendAt
import Derived.Deep.RegionHeld3
import Derived.Deep.AppendSrc
import Derived.Lib.AppendZeros
import Derived.Laws.CopyRow
import Derived.Laws.CopyOwn
import Derived.OpenShut
import Derived.Shelf.Strings.Builder1
import Derived.Laws.AppendOwn
import Derived.WalkMore
import Derived.ScopeJumps
import Derived.Shelf.Slices.Clone
import Derived.Test.YteimgnmjmpeobaaDoorProg
namespace Go.Proofs.YteimgnmjmpeobaaDoor
open Go.RowKit Go.Shelf

attribute [local go_sem] Oper.semAt_some

/-- How many pieces. -/
def countI (n : Int) : Int := if n < 1 then 0 else (n - 1) / 64 + 1
theorem countI_nat (n : Nat) : countI (n : Int) = (cnt n : Int) := by unfold countI cnt; split <;> omega

set_option maxHeartbeats 400000 in
theorem count_any (n : Int) (w : World) (hn : n ≤ 9223372036854775807) :
    Calls Tryd.prog 43 #[.int .i64 n] w fun e w' => e = .returned (.int .i64 (countI n)) ∧ w = w' := by
  by_cases h : n < 1
  · go_enter Tryd.func43, Tryd.ntmps43
    go_wp2
    go_ret
    exact ⟨ret_int (by unfold countI; rw [if_pos (by omega)]), rfl⟩
  · have h0 : 1 ≤ n := by omega
    go_enter Tryd.func43, Tryd.ntmps43
    go_wp2
    go_ret
    exact ⟨ret_int (by unfold countI; rw [if_neg (by omega)]), rfl⟩

theorem count_nat (n : Nat) (w : World) (hn : n ≤ 9223372036854775807) :
    Calls Tryd.prog 43 #[.int .i64 (n : Int)] w fun e w' => e = .returned (.int .i64 (cnt n : Int)) ∧ w = w' := by
  rw [← countI_nat]
  exact count_any _ w (by omega)

theorem piece_at (s : ByteArray) (j : Nat) (h : j < (pcsS s).length) : s.extract (j * 64) (min ((j : Int) * 64 + 64) (s.size : Int)).toNat = (pcsS s)[j] := by
  have hl := pcsS_length s
  have hb : j * 64 ≤ s.size := by unfold cnt at hl; omega
  apply unB_inj
  simp only [pcsS, List.getElem_map, unB_toB]
  simp only [pcs, List.getElem_map, List.getElem_range, pieL, unB]
  rw [ByteArray.data_extract, Array.toList_extract, List.extract, List.take_eq_take_iff]
  have e : (List.drop (j * 64) s.data.toList).length = s.size - j * 64 := by rw [List.length_drop]; rw [Array.length_toList]; rfl
  rw [e]
  omega
theorem take_snoc' {α : Type} (l : List α) (j : Nat) (h : j < l.length) : l.take j ++ [l[j]] = l.take (j + 1) := (List.take_succ_eq_append_getElem h).symm

/-- Strings as long as a piece may be. -/
abbrev SP := { x : ByteArray // x.size ≤ 64 }
theorem pcsS_le (s : ByteArray) : ∀ x ∈ pcsS s, x.size ≤ 64 := by
  intro x hx
  obtain ⟨y, hy, rfl⟩ := List.mem_map.1 hx
  obtain ⟨i, -, rfl⟩ := List.mem_map.1 hy
  rw [toB_size, pieL, List.length_take]
  omega
def pcsT (s : ByteArray) : List SP := (pcsS s).pmap (fun x h => ⟨x, h⟩) (pcsS_le s)
theorem pcsT_length (s : ByteArray) : (pcsT s).length = (pcsS s).length := List.length_pmap ..
theorem pcsT_val (s : ByteArray) : (pcsT s).map (·.1) = pcsS s := by simp [pcsT, List.map_pmap]
theorem piece_le (s : ByteArray) (j : Nat) (h : j < (pcsS s).length) : (s.extract (j * 64) (min ((j : Int) * 64 + 64) (s.size : Int)).toNat).size ≤ 64 := by
  rw [piece_at s j h]
  exact pcsS_le s _ (List.getElem_mem h)
theorem pieceT_at (s : ByteArray) (j : Nat) (h : j < (pcsS s).length) : (pcsT s).take j ++ [⟨s.extract (j * 64) (min ((j : Int) * 64 + 64) (s.size : Int)).toNat, piece_le s j h⟩] = (pcsT s).take (j + 1) := by
  rw [← take_snoc' (pcsT s) j (by rw [pcsT_length]; exact h)]
  congr 2
  simp only [pcsT, List.getElem_pmap]
  exact Subtype.ext (piece_at s j h)

/-- What a round keeps: the string that is cut. -/
def KpS (Bn : Nat) (s : ByteArray) (W W' : World) : Prop := W.cell? ⟨Bn, 0, none⟩ = some (.string s) → W'.cell? ⟨Bn, 0, none⟩ = some (.string s)

theorem KpS.trans {Bn : Nat} {s : ByteArray} {A B C : World} (h : KpS Bn s A B) (k : KpS Bn s B C) : KpS Bn s A C := fun x => k (h x)
theorem KpS.put {Bn : Nat} {s : ByteArray} {W : World} {l : Nat} {o : Obj} (o' : Obj) (hl : W.heap[l]? = some o) (ho : o.isCells = false) : KpS Bn s W (W.putObj l o') :=
  fun x => cell_kept x (grownBy_putObj' W l o') (fun r e => by cases e; exact ⟨o, hl, ho⟩)

end Go.Proofs.YteimgnmjmpeobaaDoor
namespace Go.Proofs.YteimgnmjmpeobaaDoor
open Go.RowKit

/-- From a to b. -/
def inB (n a b : Int) : Bool := decide (a ≤ n) && decide (n ≤ b)
theorem inB_iff {n a b : Int} : inB n a b = true ↔ a ≤ n ∧ n ≤ b := by unfold inB; rw [Bool.and_eq_true, decide_eq_true_eq, decide_eq_true_eq]
theorem inB_zero (n b : Int) : inB n 0 b = inN n b := rfl
theorem isWithin_any (n a b : Int) (w : World) : Calls Tryd.prog 40 #[.int .i64 n, .int .i64 a, .int .i64 b] w fun e w' => e = .returned (.bool (inB n a b)) ∧ w' = w := by
  by_cases h0 : a ≤ n
  · by_cases h1 : n ≤ b
    · have HE : Hid (inB n a b = true) := inB_iff.2 ⟨h0, h1⟩
      go_enter Tryd.func40, Tryd.ntmps40
      go_wp2
      go_ret
      exact ⟨ret_bool HE.out.symm, rfl⟩
    · have HE : Hid (inB n a b = false) := not_true fun k => h1 (inB_iff.1 k).2
      go_enter Tryd.func40, Tryd.ntmps40
      go_wp2
      go_ret
      exact ⟨ret_bool HE.out.symm, rfl⟩
  · have HE : Hid (inB n a b = false) := not_true fun k => h0 (inB_iff.1 k).1
    go_enter Tryd.func40, Tryd.ntmps40
    go_wp2
    go_ret
    exact ⟨ret_bool HE.out.symm, rfl⟩
theorem isWithin_is {n a b : Int} {q : Bool} (h : inB n a b = q) (w : World) : Calls Tryd.prog 40 #[.int .i64 n, .int .i64 a, .int .i64 b] w fun e w' => e = .returned (.bool q) ∧ w' = w := by
  subst h
  exact isWithin_any n a b w

/-- Each is a number that is written as it is. -/
def fitB (l : List Int) : Bool := l.all fun c => inN c 4294967295
set_option maxHeartbeats 1000000 in
theorem fit_any (A : Option Addr) (n c : Nat) (l : List Int) (w : World) (hl : l.length = n) (hr : Rd w A (intV l)) (hn : n ≤ 9223372036854775807) :
    Calls Tryd.prog 41 #[.slice A n c] w fun e w' => e = .returned (.bool (fitB l)) ∧ w' = w := by
  have HL := hid hl
  clear hl
  go_enter Tryd.func41, Tryd.ntmps41
  go_wp2_with fail
  go_loop [7] (fun i => ∃ j : Nat, j ≤ n ∧ i = .int .i64 j ∧ Hid (fitB (l.take j) = true)) (fun i => n - (intOf i).toNat)
  case atStart => exact ⟨0, by omega, rfl, rfl⟩
  case round =>
    obtain ⟨j, hj, rfl, HT⟩ := hrel
    by_cases hjn : j < n
    · have hjl : j < l.length := by rw [HL.out]; exact hjn
      obtain ⟨b, off, rfl, x0, -⟩ := int_at hr hjl
      have hz : (0 : Int) ≤ j := by omega
      have hlt : (j : Int) < n := by omega
      have HXY : Hid (fitB (l.take (j + 1)) = inB l[j] 0 4294967295) := by
        show _ = _
        have ht := HT.out
        unfold fitB at ht ⊢
        rw [List.take_add_one, List.getElem?_eq_getElem hjl, List.all_append, ht]
        simp [inB_zero]
      have HNE : Hid (inB l[j] 0 4294967295 = false → fitB l = false) := by
        refine hid fun h => ?_
        refine Bool.eq_false_iff.2 fun ha => ?_
        unfold fitB at ha
        rw [List.all_eq_true] at ha
        exact Bool.false_ne_true (h.symm.trans (ha _ (List.getElem_mem hjl)))
      generalize l[j] = x at *
      cases hX : inB x 0 4294967295
      · have HF := hid (HNE.out hX)
        have cX := isWithin_is hX
        clear HXY HNE HT
        go_wp2_with fail
        refine (cX _).mono ?_
        rintro e w5 ⟨rfl, rfl⟩
        go_wp2
        go_ret
        exact ⟨ret_bool HF.out.symm, rfl⟩
      · have HT2 := hid (HXY.out.trans hX)
        have cX := isWithin_is hX
        clear HXY HNE HT
        go_wp2_with fail
        refine (cX _).mono ?_
        rintro e w5 ⟨rfl, rfl⟩
        go_wp2
        go_round
        case rel => exact ⟨j + 1, by omega, by go_num, HT2⟩
        case measure => simp [intOf]; omega
    · have hjn2 : j = n := by omega
      have HF : Hid (fitB l = true) := by
        have ht := HT.out
        rw [hjn2, List.take_of_length_le (by rw [HL.out]; exact Nat.le_refl _)] at ht
        exact ht
      have hnl : ¬ (j : Int) < n := by omega
      go_wp2
      go_ret
      exact ⟨ret_bool HF.out.symm, rfl⟩
theorem fit_is {l : List Int} {q : Bool} (h : fitB l = q) (A : Option Addr) (n c : Nat) (w : World) (hl : l.length = n) (hr : Rd w A (intV l)) (hn : n ≤ 9223372036854775807) :
    Calls Tryd.prog 41 #[.slice A n c] w fun e w' => e = .returned (.bool q) ∧ w' = w := by
  subst h
  exact fit_any A n c l w hl hr hn

/-! ### rightNumbers -/
def numsR (a1 a2 a3 a4 a5 a6 a7 : Int) : Bool := inB a1 0 1 && inB a2 1 200 && fitB [a3, a6, a7] && inB a4 0 100 && inB a5 a4 (min (a4 + 1) 100)
theorem numsR_iff {a1 a2 a3 a4 a5 a6 a7 : Int} : numsR a1 a2 a3 a4 a5 a6 a7 = true ↔ (inN a1 1 && (decide (1 ≤ a2) && decide (a2 ≤ 200)) && inN a3 4294967295 && inN a6 4294967295 && inN a7 4294967295 && inN a4 100 && inN a5 100 && (decide (a5 = a4) || decide (a5 = a4 + 1))) = true := by
  unfold numsR fitB
  simp only [Bool.and_eq_true, inB_iff, inN_iff, List.all_cons, List.all_nil, Bool.or_eq_true, decide_eq_true_eq, and_true]
  constructor
  · rintro ⟨⟨⟨⟨h1, h2⟩, h3, h4, h5⟩, h6⟩, h7⟩
    refine ⟨⟨⟨⟨⟨⟨⟨h1, h2⟩, h3⟩, h4⟩, h5⟩, h6⟩, ?_⟩, ?_⟩ <;> omega
  · rintro ⟨⟨⟨⟨⟨⟨⟨h1, h2⟩, h3⟩, h4⟩, h5⟩, h6⟩, h7⟩, h8⟩
    refine ⟨⟨⟨⟨h1, h2⟩, h3, h4, h5⟩, h6⟩, ?_⟩
    omega
set_option maxHeartbeats 4000000 in
set_option maxRecDepth 20000 in
theorem rightNumbers_any (A : Option Addr) (c n : Nat) (a1 a2 a3 a4 a5 a6 a7 : Int) (w : World) :
    Calls Tryd.prog 26 #[.agg #[.int .i64 a1, .int .i64 a2, .int .i64 a3, .int .i64 a4, .int .i64 a5, .int .i64 a6, .int .i64 a7, .slice A n c]] w fun e w' => e = .returned (.bool (numsR a1 a2 a3 a4 a5 a6 a7)) ∧ Below w.heap.size w w' := by
  have hal : ∀ (W : World) (o : Obj), Below W.heap.size W (W.alloc o) := fun W o => (Below.refl _ _).alloc (Nat.le_refl _) o
  have b0 := hal w (.cells #[.int .i64 a1, .int .i64 a2, .int .i64 a3, .int .i64 a4, .int .i64 a5, .int .i64 a6, .int .i64 a7, .slice A n c] 26)
  have HR : Hid (numsR a1 a2 a3 a4 a5 a6 a7 = (inB a1 0 1 && inB a2 1 200 && fitB [a3, a6, a7] && inB a4 0 100 && inB a5 a4 (min (a4 + 1) 100))) := rfl
  generalize numsR a1 a2 a3 a4 a5 a6 a7 = Z at *
  go_enter Tryd.func26, Tryd.ntmps26
  go_wp2_with fail
  cases q1 : inB a1 0 1
  · refine (isWithin_is q1 _).mono ?_
    rintro e w5 ⟨rfl, rfl⟩
    simp only
    have HF : Hid (Z = false) := by show _ = _; rw [HR.out, q1]; simp
    go_wp2
    all_goals (go_ret; exact ⟨ret_bool HF.out.symm, b0⟩)
  refine (isWithin_is q1 _).mono ?_
  rintro e w5 ⟨rfl, rfl⟩
  simp only
  go_wp2_with fail
  cases q2 : inB a2 1 200
  · refine (isWithin_is q2 _).mono ?_
    rintro e w5 ⟨rfl, rfl⟩
    simp only
    have HF : Hid (Z = false) := by show _ = _; rw [HR.out, q1, q2]; simp
    go_wp2
    all_goals (go_ret; exact ⟨ret_bool HF.out.symm, b0⟩)
  refine (isWithin_is q2 _).mono ?_
  rintro e w5 ⟨rfl, rfl⟩
  simp only
  go_wp2_with fail
  have b1 := below2 b0 (hal _ (.cells #[.int .i64 a3, .int .i64 a6, .int .i64 a7] 3))
  have hrd : Rd ((w.alloc (.cells #[.int .i64 a1, .int .i64 a2, .int .i64 a3, .int .i64 a4, .int .i64 a5, .int .i64 a6, .int .i64 a7, .slice A n c] 26)).alloc (.cells #[.int .i64 a3, .int .i64 a6, .int .i64 a7] 3)) (some ⟨w.heap.size + 1, 0, none⟩) (intV [a3, a6, a7]) := by
    have h := new_cells (w.alloc (.cells #[.int .i64 a1, .int .i64 a2, .int .i64 a3, .int .i64 a4, .int .i64 a5, .int .i64 a6, .int .i64 a7, .slice A n c] 26)) 3 (intV [a3, a6, a7])
    rw [World.size_alloc] at h
    exact .inr ⟨_, rfl, h⟩
  cases q3 : fitB [a3, a6, a7]
  · refine (fit_is q3 _ 3 3 _ rfl hrd (by omega)).mono ?_
    rintro e w5 ⟨rfl, rfl⟩
    simp only
    have HF : Hid (Z = false) := by show _ = _; rw [HR.out, q1, q2, q3]; simp
    go_wp2
    all_goals (go_ret; exact ⟨ret_bool HF.out.symm, b1⟩)
  refine (fit_is q3 _ 3 3 _ rfl hrd (by omega)).mono ?_
  rintro e w5 ⟨rfl, rfl⟩
  simp only
  clear hrd
  go_wp2_with fail
  cases q4 : inB a4 0 100
  · refine (isWithin_is q4 _).mono ?_
    rintro e w5 ⟨rfl, rfl⟩
    simp only
    have HF : Hid (Z = false) := by show _ = _; rw [HR.out, q1, q2, q3, q4]; simp
    go_wp2
    all_goals (go_ret; exact ⟨ret_bool HF.out.symm, b1⟩)
  refine (isWithin_is q4 _).mono ?_
  rintro e w5 ⟨rfl, rfl⟩
  simp only
  have h4 := inB_iff.1 q4
  have HZ : Hid (Z = inB a5 a4 (min (a4 + 1) 100)) := by show _ = _; rw [HR.out, q1, q2, q3, q4]; simp
  clear q1 q2 q3 q4 HR
  go_wp2_with fail
  refine (isWithin_any _ _ _ _).mono ?_
  rintro e w5 ⟨rfl, rfl⟩
  simp only
  rw [← HZ.out]
  clear HZ
  go_wp2
  go_ret
  exact ⟨rfl, b1⟩

/-! ### rightPiece -/
theorem eqP (a b c d : Int) (w : World) : (binOp .eql 55 (.agg #[.int .i64 a, .int .i64 b]) (.agg #[.int .i64 c, .int .i64 d])).run Tryd.prog w = .ok (.bool (decide (a = c) && decide (b = d))) w := by
  have u3 := Tryd.underlying3
  have a3 := Tryd.isAgg3
  have z3 := Tryd.sizeOf3
  have hS : Tryd.prog.underlying 55 = some (.struct (Tryd.prog.fieldsOf 55)) := by kernel_rfl
  have hp : Tryd.prog.stoodInHeld 55 = false := by kernel_rfl
  rw [run_eql_struct, show (10000 : Nat) = 9999 + 1 from rfl, run_equalIn_agg w 9999 55 _ _ hS hp]
  simp only [Program.fieldsOf, Tryd.underlying55]
  go_simp
  by_cases h1 : a = c
  · by_cases h2 : b = d
    · simp [h1, h2]
    · simp [h1, h2]
  · simp [h1]
theorem ccnt_is (n : Int) (w : World) (h0 : 0 ≤ n) (hn : n ≤ 9223372036854775807) :
    Calls Tryd.prog 43 #[.int .i64 n] w fun e w' => e = .returned (.int .i64 (cnt n.toNat : Nat)) ∧ w' = w := by
  have h := count_nat n.toNat w (by omega)
  rw [show ((n.toNat : Nat) : Int) = n by omega] at h
  exact h.mono fun _ _ k => ⟨k.1, k.2.symm⟩
/-- What is asked of a piece, its path aside. -/
def pcB (p : Pce) : Bool := rt p.l p.r && !(decide (p.l = 0) && decide (p.r = 0)) && (if p.has then inB p.size 0 600 && decide (p.chunks.length = cnt p.size.toNat) && fitB [p.digest] && fitB p.chunks else decide (p.size = 0) && decide (p.digest = 0) && decide (p.chunks.length = 0))
theorem pceR_split (p : Pce) : pceR p = (rightL p.path.data.toList && pcB p) := by
  unfold pceR pcB fitB
  have he : decide (p.chunks.length = 0) = decide (p.chunks = []) := by cases p.chunks <;> rfl
  have hd : ([p.digest].all fun c => inN c 4294967295) = inN p.digest 4294967295 := by simp
  rw [he, hd, inB_zero]
  cases rightL p.path.data.toList <;> cases rt p.l p.r <;> cases (decide (p.l = 0) && decide (p.r = 0)) <;> cases p.has <;> cases inN p.size 600 <;> cases inN p.digest 4294967295 <;> cases decide (p.chunks.length = cnt p.size.toNat) <;> simp
set_option maxHeartbeats 4000000 in
set_option maxRecDepth 20000 in
theorem rightPiece_bad {w : World} {C : Option Addr} {c : Nat} {p : Pce} (hr : Rd w C (intV p.chunks)) (hc : p.chunks.length ≤ c) (hcm : c ≤ maxLen) (hbad : (rt p.l p.r && !(decide (p.l = 0) && decide (p.r = 0))) = false) :
    Calls Tryd.prog 27 #[pcA p C c] w fun e w' => e = .returned (.bool (pcB p)) ∧ Below w.heap.size w w' := by
  obtain ⟨xp, xh, xs, xc, xd, xl, xr⟩ := p
  dsimp only [pcA] at hr hc hbad ⊢
  have hal : ∀ (W : World) (o : Obj), Below W.heap.size W (W.alloc o) := fun W o => (Below.refl _ _).alloc (Nat.le_refl _) o
  obtain ⟨n, hn0⟩ : ∃ n, n = xc.length := ⟨_, rfl⟩
  have hnb : n ≤ c ∧ c ≤ 9223372036854775807 := by unfold maxLen at hcm; omega
  have HN := hid hn0
  rw [← hn0]
  have HR : Hid (pcB ⟨xp, xh, xs, xc, xd, xl, xr⟩ = (rt xl xr && !(decide (xl = 0) && decide (xr = 0)) && (if xh then inB xs 0 600 && decide (n = cnt xs.toNat) && fitB [xd] && fitB xc else decide (xs = 0) && decide (xd = 0) && decide (n = 0)))) := by
    show _ = _
    rw [hn0]
    rfl
  clear hn0 hc hcm
  generalize pcB ⟨xp, xh, xs, xc, xd, xl, xr⟩ = Z at *
  have pk := Blk.new w [.string xp, .bool xh, .int .i64 xs, .slice C n c, .int .i64 xd, .int .i64 xl, .int .i64 xr] 57
  have b0 := hal w (.cells #[.string xp, .bool xh, .int .i64 xs, .slice C n c, .int .i64 xd, .int .i64 xl, .int .i64 xr] 57)
  have hr0 := hr.below b0
  have hpr := eqP xl xr 0 0
  go_enter Tryd.func27, Tryd.ntmps27
  go_wp2_with fail
  generalize w.alloc (.cells #[.string xp, .bool xh, .int .i64 xs, .slice C n c, .int .i64 xd, .int .i64 xl, .int .i64 xr] 57) = w0 at *
  refine (cright_any xl xr _).mono ?_
  rintro e w1 ⟨rfl, b1⟩
  simp only
  have pk1 := pk.below b1
  have bw := b0.trans (b1.mono b0.size)
  have hr1 := hr0.below b1
  clear pk hr0 hr b0 b1
  have c0 := pk1.cell 0
  have c1 := pk1.cell 1
  have c2 := pk1.cell 2
  have c3 := pk1.cell 3
  have c4 := pk1.cell 4
  have c5 := pk1.cell 5
  have c6 := pk1.cell 6
  simp only [List.getElem?_cons_zero, List.getElem?_cons_succ] at c0 c1 c2 c3 c4 c5 c6
  have HF : Hid (Z = false) := by show _ = _; rw [HR.out, hbad]; rfl
  cases hB : rt xl xr
  · go_wp2
    go_ret
    exact ⟨ret_bool HF.out.symm, bw⟩
  have h0 : (decide (xl = 0) && decide (xr = 0)) = true := by rw [hB] at hbad; simpa using hbad
  rw [h0] at hpr
  clear h0 hbad
  go_wp2
  go_ret
  exact ⟨ret_bool HF.out.symm, bw⟩
set_option maxHeartbeats 4000000 in
set_option maxRecDepth 20000 in
theorem rightPiece_good {w : World} {C : Option Addr} {c : Nat} {p : Pce} (hr : Rd w C (intV p.chunks)) (hc : p.chunks.length ≤ c) (hcm : c ≤ maxLen) (hgood : (rt p.l p.r && !(decide (p.l = 0) && decide (p.r = 0))) = true) :
    Calls Tryd.prog 27 #[pcA p C c] w fun e w' => e = .returned (.bool (pcB p)) ∧ Below w.heap.size w w' := by
  obtain ⟨xp, xh, xs, xc, xd, xl, xr⟩ := p
  dsimp only [pcA] at hr hc hgood ⊢
  have hal : ∀ (W : World) (o : Obj), Below W.heap.size W (W.alloc o) := fun W o => (Below.refl _ _).alloc (Nat.le_refl _) o
  obtain ⟨n, hn0⟩ : ∃ n, n = xc.length := ⟨_, rfl⟩
  have hnb : n ≤ c ∧ c ≤ 9223372036854775807 := by unfold maxLen at hcm; omega
  have HN := hid hn0
  rw [← hn0]
  have HR : Hid (pcB ⟨xp, xh, xs, xc, xd, xl, xr⟩ = (rt xl xr && !(decide (xl = 0) && decide (xr = 0)) && (if xh then inB xs 0 600 && decide (n = cnt xs.toNat) && fitB [xd] && fitB xc else decide (xs = 0) && decide (xd = 0) && decide (n = 0)))) := by
    show _ = _
    rw [hn0]
    rfl
  clear hn0 hc hcm
  generalize pcB ⟨xp, xh, xs, xc, xd, xl, xr⟩ = Z at *
  have pk := Blk.new w [.string xp, .bool xh, .int .i64 xs, .slice C n c, .int .i64 xd, .int .i64 xl, .int .i64 xr] 57
  have b0 := hal w (.cells #[.string xp, .bool xh, .int .i64 xs, .slice C n c, .int .i64 xd, .int .i64 xl, .int .i64 xr] 57)
  have hr0 := hr.below b0
  have hpr := eqP xl xr 0 0
  go_enter Tryd.func27, Tryd.ntmps27
  go_wp2_with fail
  generalize w.alloc (.cells #[.string xp, .bool xh, .int .i64 xs, .slice C n c, .int .i64 xd, .int .i64 xl, .int .i64 xr] 57) = w0 at *
  refine (cright_any xl xr _).mono ?_
  rintro e w1 ⟨rfl, b1⟩
  simp only
  have pk1 := pk.below b1
  have bw := b0.trans (b1.mono b0.size)
  have hr1 := hr0.below b1
  clear pk hr0 hr b0 b1
  have c0 := pk1.cell 0
  have c1 := pk1.cell 1
  have c2 := pk1.cell 2
  have c3 := pk1.cell 3
  have c4 := pk1.cell 4
  have c5 := pk1.cell 5
  have c6 := pk1.cell 6
  simp only [List.getElem?_cons_zero, List.getElem?_cons_succ] at c0 c1 c2 c3 c4 c5 c6
  have hB : rt xl xr = true := (Bool.and_eq_true _ _ ▸ hgood).1
  have h0 : (decide (xl = 0) && decide (xr = 0)) = false := by rw [hB, Bool.true_and, Bool.not_eq_true'] at hgood; exact hgood
  rw [h0] at hpr
  rw [hB]
  have HZ : Hid (Z = (if xh then inB xs 0 600 && decide (n = cnt xs.toNat) && fitB [xd] && fitB xc else decide (xs = 0) && decide (xd = 0) && decide (n = 0))) := by show _ = _; rw [HR.out, hgood, Bool.true_and]
  clear h0 hgood hB HR
  cases xh
  · have HZ2 : Hid (Z = (decide (xs = 0) && decide (xd = 0) && decide (n = 0))) := HZ.out.trans (if_neg (by simp))
    by_cases s0 : xs = 0
    rotate_left
    · have hsb : (xs == 0) = false := by simp [s0]
      have HF : Hid (Z = false) := by show _ = _; rw [HZ2.out, decide_eq_false s0]; rfl
      go_wp2
      go_ret
      exact ⟨ret_bool HF.out.symm, bw⟩
    subst s0
    by_cases d0 : xd = 0
    rotate_left
    · have hdb : (xd == 0) = false := by simp [d0]
      have HF : Hid (Z = false) := by show _ = _; rw [HZ2.out, decide_eq_false d0]; rfl
      go_wp2
      go_ret
      exact ⟨ret_bool HF.out.symm, bw⟩
    subst d0
    by_cases n0 : n = 0
    rotate_left
    · have hnb2 : ((n : Int) == 0) = false := by simp [n0]
      have HF : Hid (Z = false) := by show _ = _; rw [HZ2.out, decide_eq_false n0]; rfl
      go_wp2
      go_ret
      exact ⟨ret_bool HF.out.symm, bw⟩
    subst n0
    have HF : Hid (Z = true) := by show _ = _; rw [HZ2.out]; rfl
    go_wp2
    go_ret
    exact ⟨ret_bool HF.out.symm, bw⟩
  have HZ2 : Hid (Z = (inB xs 0 600 && decide (n = cnt xs.toNat) && fitB [xd] && fitB xc)) := HZ.out.trans (if_pos rfl)
  clear HZ
  go_wp2_with fail
  have lg := pk1.lt
  have HS : Hid (∀ W, Below w1.heap.size w1 W → W.cell? ⟨w.heap.size, 2, none⟩ = some (.int .i64 xs) ∧ W.cell? ⟨w.heap.size, 3, none⟩ = some (.slice C n c) ∧ W.cell? ⟨w.heap.size, 4, none⟩ = some (.int .i64 xd)) := hid fun W h => ⟨(h.cell (p := ⟨w.heap.size, 2, none⟩) lg).trans c2, (h.cell (p := ⟨w.heap.size, 3, none⟩) lg).trans c3, (h.cell (p := ⟨w.heap.size, 4, none⟩) lg).trans c4⟩
  have bd : Below w1.heap.size w1 w1.drew := (Below.refl _ _).drew
  have hS1 := HS.out _ bd
  have bwd := bw.drew
  cases qS : inB xs 0 600
  · have HF : Hid (Z = false) := by show _ = _; rw [HZ2.out, qS]; rfl
    refine wp_region_held_drew (S := fun W => W.cell? ⟨w.heap.size, 2, none⟩ = some (.int .i64 xs) ∧ W.cell? ⟨w.heap.size, 3, none⟩ = some (.slice C n c) ∧ W.cell? ⟨w.heap.size, 4, none⟩ = some (.int .i64 xd)) (by kernel_rfl) ⟨c2, c3, c4⟩ (fun hHeld => ?_)
    refine wpAnyH_take (i := 0) (oi := ⟨_, _, _, _, _, _⟩) (v := ?_) rfl (by kernel_rfl) (by kernel_rfl) (by kernel_rfl) (fun _ _ _ h => h) (Or.inl ⟨by rfl, ?_⟩) (by assumption) ?_
    rotate_left
    · intro w hSw; (try dsimp only at hSw); go_simp; (try (with_reducible rfl))
    try simp only [Act.put, List.setIfInBounds_toArray, List.set_cons_zero, List.set_cons_succ]
    refine wpAnyH_take (i := 1) (oi := ⟨_, _, _, _, _, _⟩) (v := ?_) rfl (by kernel_rfl) (by kernel_rfl) (by kernel_rfl) (fun _ _ _ h => h) (Or.inl ⟨by rfl, ?_⟩) (by assumption) ?_
    rotate_left
    · intro w hSw; (try dsimp only at hSw); go_simp; (try (with_reducible rfl))
    try simp only [Act.put, List.setIfInBounds_toArray, List.set_cons_zero, List.set_cons_succ]
    refine wpAnyH_ready (rs := [2]) (by kernel_rfl) (by simp) ?_
    refine AllReadyH.cons (o := ⟨_, _, _, _, _, _⟩) rfl (fun K hK => ?_) AllReadyH.nil
    go_simp
    refine (isWithin_is qS _).mono ?_
    rintro e w5 ⟨rfl, rfl⟩
    refine hK.out _ _ hS1 (fun hHeld => ?_)
    clear hK K
    try simp only [Act.put, List.setIfInBounds_toArray, List.set_cons_zero, List.set_cons_succ]
    refine wpAnyH_take (i := 3) (oi := ⟨_, _, _, _, _, _⟩) (v := ?_) rfl (by kernel_rfl) (by kernel_rfl) (by kernel_rfl) (fun _ _ _ h => h) (Or.inl ⟨by rfl, ?_⟩) (by assumption) ?_
    rotate_left
    · intro w hSw; (try dsimp only at hSw); go_simp; (try (with_reducible rfl))
    try simp only [Act.put, List.setIfInBounds_toArray, List.set_cons_zero, List.set_cons_succ]
    refine wpAnyH_take (i := 4) (oi := ⟨_, _, _, _, _, _⟩) (v := undef) rfl (by kernel_rfl) (by kernel_rfl) (by kernel_rfl) (fun _ _ _ h => h) (Or.inr ⟨by rfl, rfl⟩) (by assumption) ?_
    try simp only [Act.put, List.setIfInBounds_toArray, List.set_cons_zero, List.set_cons_succ]
    refine wpAnyH_take (i := 5) (oi := ⟨_, _, _, _, _, _⟩) (v := undef) rfl (by kernel_rfl) (by kernel_rfl) (by kernel_rfl) (fun _ _ _ h => h) (Or.inr ⟨by rfl, rfl⟩) (by assumption) ?_
    try simp only [Act.put, List.setIfInBounds_toArray, List.set_cons_zero, List.set_cons_succ]
    refine wpAnyH_take (i := 6) (oi := ⟨_, _, _, _, _, _⟩) (v := undef) rfl (by kernel_rfl) (by kernel_rfl) (by kernel_rfl) (fun _ _ _ h => h) (Or.inr ⟨by rfl, rfl⟩) (by assumption) ?_
    try simp only [Act.put, List.setIfInBounds_toArray, List.set_cons_zero, List.set_cons_succ]
    refine wpAnyH_take (i := 7) (oi := ⟨_, _, _, _, _, _⟩) (v := undef) rfl (by kernel_rfl) (by kernel_rfl) (by kernel_rfl) (fun _ _ _ h => h) (Or.inr ⟨by rfl, rfl⟩) (by assumption) ?_
    try simp only [Act.put, List.setIfInBounds_toArray, List.set_cons_zero, List.set_cons_succ]
    refine wpAnyH_take (i := 8) (oi := ⟨_, _, _, _, _, _⟩) (v := undef) rfl (by kernel_rfl) (by kernel_rfl) (by kernel_rfl) (fun _ _ _ h => h) (Or.inr ⟨by rfl, rfl⟩) (by assumption) ?_
    try simp only [Act.put, List.setIfInBounds_toArray, List.set_cons_zero, List.set_cons_succ]
    refine wpAnyH_take (i := 9) (oi := ⟨_, _, _, _, _, _⟩) (v := undef) rfl (by kernel_rfl) (by kernel_rfl) (by kernel_rfl) (fun _ _ _ h => h) (Or.inr ⟨by rfl, rfl⟩) (by assumption) ?_
    try simp only [Act.put, List.setIfInBounds_toArray, List.set_cons_zero, List.set_cons_succ]
    refine wpAnyH_take (i := 10) (oi := ⟨_, _, _, _, _, _⟩) (v := undef) rfl (by kernel_rfl) (by kernel_rfl) (by kernel_rfl) (fun _ _ _ h => h) (Or.inr ⟨by rfl, rfl⟩) (by assumption) ?_
    try simp only [Act.put, List.setIfInBounds_toArray, List.set_cons_zero, List.set_cons_succ]
    refine wpAnyH_take (i := 11) (oi := ⟨_, _, _, _, _, _⟩) (v := ?_) rfl (by kernel_rfl) (by kernel_rfl) (by kernel_rfl) (fun _ _ _ h => h) (Or.inl ⟨by rfl, ?_⟩) (by assumption) ?_
    rotate_left
    · intro w hSw; (try dsimp only at hSw); go_simp; (try (with_reducible rfl))
    try simp only [Act.put, List.setIfInBounds_toArray, List.set_cons_zero, List.set_cons_succ]
    refine wpAnyH_take (i := 12) (oi := ⟨_, _, _, _, _, _⟩) (v := ?_) rfl (by kernel_rfl) (by kernel_rfl) (by kernel_rfl) (fun _ _ _ h => h) (Or.inl ⟨by rfl, ?_⟩) (by assumption) ?_
    rotate_left
    · intro w hSw; (try dsimp only at hSw); go_simp; (try (with_reducible rfl))
    try simp only [Act.put, List.setIfInBounds_toArray, List.set_cons_zero, List.set_cons_succ]
    refine wpAnyH_take (i := 13) (oi := ⟨_, _, _, _, _, _⟩) (v := undef) rfl (by kernel_rfl) (by kernel_rfl) (by kernel_rfl) (fun _ _ _ h => h) (Or.inr ⟨by rfl, rfl⟩) (by assumption) ?_
    try simp only [Act.put, List.setIfInBounds_toArray, List.set_cons_zero, List.set_cons_succ]
    refine wpAnyH_take (i := 14) (oi := ⟨_, _, _, _, _, _⟩) (v := undef) rfl (by kernel_rfl) (by kernel_rfl) (by kernel_rfl) (fun _ _ _ h => h) (Or.inr ⟨by rfl, rfl⟩) (by assumption) ?_
    try simp only [Act.put, List.setIfInBounds_toArray, List.set_cons_zero, List.set_cons_succ]
    refine wpAnyH_take (i := 15) (oi := ⟨_, _, _, _, _, _⟩) (v := undef) rfl (by kernel_rfl) (by kernel_rfl) (by kernel_rfl) (fun _ _ _ h => h) (Or.inr ⟨by rfl, rfl⟩) (by assumption) ?_
    try simp only [Act.put, List.setIfInBounds_toArray, List.set_cons_zero, List.set_cons_succ]
    refine wpAnyH_take (i := 16) (oi := ⟨_, _, _, _, _, _⟩) (v := undef) rfl (by kernel_rfl) (by kernel_rfl) (by kernel_rfl) (fun _ _ _ h => h) (Or.inr ⟨by rfl, rfl⟩) (by assumption) ?_
    try simp only [Act.put, List.setIfInBounds_toArray, List.set_cons_zero, List.set_cons_succ]
    refine wpAnyH_take (i := 17) (oi := ⟨_, _, _, _, _, _⟩) (v := ?_) rfl (by kernel_rfl) (by kernel_rfl) (by kernel_rfl) (fun _ _ _ h => h) (Or.inl ⟨by rfl, ?_⟩) (by assumption) ?_
    rotate_left
    · intro w hSw; (try dsimp only at hSw); go_simp; (try (with_reducible rfl))
    try simp only [Act.put, List.setIfInBounds_toArray, List.set_cons_zero, List.set_cons_succ]
    refine wpAnyH_take (i := 18) (oi := ⟨_, _, _, _, _, _⟩) (v := ?_) rfl (by kernel_rfl) (by kernel_rfl) (by kernel_rfl) (fun _ _ _ h => h) (Or.inl ⟨by rfl, ?_⟩) (by assumption) ?_
    rotate_left
    · intro w hSw; (try dsimp only at hSw); go_simp; (try (with_reducible rfl))
    try simp only [Act.put, List.setIfInBounds_toArray, List.set_cons_zero, List.set_cons_succ]
    refine wpAnyH_take (i := 19) (oi := ⟨_, _, _, _, _, _⟩) (v := undef) rfl (by kernel_rfl) (by kernel_rfl) (by kernel_rfl) (fun _ _ _ h => h) (Or.inr ⟨by rfl, rfl⟩) (by assumption) ?_
    try simp only [Act.put, List.setIfInBounds_toArray, List.set_cons_zero, List.set_cons_succ]
    refine wpAnyH_take (i := 20) (oi := ⟨_, _, _, _, _, _⟩) (v := undef) rfl (by kernel_rfl) (by kernel_rfl) (by kernel_rfl) (fun _ _ _ h => h) (Or.inr ⟨by rfl, rfl⟩) (by assumption) ?_
    try simp only [Act.put, List.setIfInBounds_toArray, List.set_cons_zero, List.set_cons_succ]
    refine wpAnyH_take (i := 21) (oi := ⟨_, _, _, _, _, _⟩) (v := undef) rfl (by kernel_rfl) (by kernel_rfl) (by kernel_rfl) (fun _ _ _ h => h) (Or.inr ⟨by rfl, rfl⟩) (by assumption) ?_
    try simp only [Act.put, List.setIfInBounds_toArray, List.set_cons_zero, List.set_cons_succ]
    refine wpAnyH_take (i := 22) (oi := ⟨_, _, _, _, _, _⟩) (v := ?_) rfl (by kernel_rfl) (by kernel_rfl) (by kernel_rfl) (fun _ _ _ h => h) (Or.inl ⟨by rfl, ?_⟩) (by assumption) ?_
    rotate_left
    · intro w hSw; (try dsimp only at hSw); go_simp; (try (with_reducible rfl))
    try simp only [Act.put, List.setIfInBounds_toArray, List.set_cons_zero, List.set_cons_succ]
    refine wpAnyH_take (i := 23) (oi := ⟨_, _, _, _, _, _⟩) (v := ?_) rfl (by kernel_rfl) (by kernel_rfl) (by kernel_rfl) (fun _ _ _ h => h) (Or.inl ⟨by rfl, ?_⟩) (by assumption) ?_
    rotate_left
    · intro w hSw; (try dsimp only at hSw); go_simp; (try (with_reducible rfl))
    try simp only [Act.put, List.setIfInBounds_toArray, List.set_cons_zero, List.set_cons_succ]
    refine wpAnyH_done (by kernel_rfl) ?_ _
    clear hHeld
    go_wp2
    go_ret
    exact ⟨ret_bool HF.out.symm, bwd⟩
  have hs6 := inB_iff.1 qS
  have cC := fun W => ccnt_is xs W hs6.1 (by omega)
  generalize hk : cnt xs.toNat = k at *
  clear hk
  by_cases hK : n = k
  rotate_left
  · have hkb : ((n : Int) == (k : Int)) = false := by simp; omega
    have HF : Hid (Z = false) := by show _ = _; rw [HZ2.out, qS, decide_eq_false hK]; rfl
    refine wp_region_held_drew (S := fun W => W.cell? ⟨w.heap.size, 2, none⟩ = some (.int .i64 xs) ∧ W.cell? ⟨w.heap.size, 3, none⟩ = some (.slice C n c) ∧ W.cell? ⟨w.heap.size, 4, none⟩ = some (.int .i64 xd)) (by kernel_rfl) ⟨c2, c3, c4⟩ (fun hHeld => ?_)
    refine wpAnyH_take (i := 0) (oi := ⟨_, _, _, _, _, _⟩) (v := ?_) rfl (by kernel_rfl) (by kernel_rfl) (by kernel_rfl) (fun _ _ _ h => h) (Or.inl ⟨by rfl, ?_⟩) (by assumption) ?_
    rotate_left
    · intro w hSw; (try dsimp only at hSw); go_simp; (try (with_reducible rfl))
    try simp only [Act.put, List.setIfInBounds_toArray, List.set_cons_zero, List.set_cons_succ]
    refine wpAnyH_take (i := 1) (oi := ⟨_, _, _, _, _, _⟩) (v := ?_) rfl (by kernel_rfl) (by kernel_rfl) (by kernel_rfl) (fun _ _ _ h => h) (Or.inl ⟨by rfl, ?_⟩) (by assumption) ?_
    rotate_left
    · intro w hSw; (try dsimp only at hSw); go_simp; (try (with_reducible rfl))
    try simp only [Act.put, List.setIfInBounds_toArray, List.set_cons_zero, List.set_cons_succ]
    refine wpAnyH_ready (rs := [2]) (by kernel_rfl) (by simp) ?_
    refine AllReadyH.cons (o := ⟨_, _, _, _, _, _⟩) rfl (fun K hK => ?_) AllReadyH.nil
    go_simp
    refine (isWithin_is qS _).mono ?_
    rintro e w5 ⟨rfl, rfl⟩
    refine hK.out _ _ hS1 (fun hHeld => ?_)
    clear hK K
    try simp only [Act.put, List.setIfInBounds_toArray, List.set_cons_zero, List.set_cons_succ]
    refine wpAnyH_take (i := 3) (oi := ⟨_, _, _, _, _, _⟩) (v := ?_) rfl (by kernel_rfl) (by kernel_rfl) (by kernel_rfl) (fun _ _ _ h => h) (Or.inl ⟨by rfl, ?_⟩) (by assumption) ?_
    rotate_left
    · intro w hSw; (try dsimp only at hSw); go_simp; (try (with_reducible rfl))
    try simp only [Act.put, List.setIfInBounds_toArray, List.set_cons_zero, List.set_cons_succ]
    refine wpAnyH_take (i := 4) (oi := ⟨_, _, _, _, _, _⟩) (v := ?_) rfl (by kernel_rfl) (by kernel_rfl) (by kernel_rfl) (fun _ _ _ h => h) (Or.inl ⟨by rfl, ?_⟩) (by assumption) ?_
    rotate_left
    · intro w hSw; (try dsimp only at hSw); go_simp; (try (with_reducible rfl))
    try simp only [Act.put, List.setIfInBounds_toArray, List.set_cons_zero, List.set_cons_succ]
    refine wpAnyH_take (i := 5) (oi := ⟨_, _, _, _, _, _⟩) (v := ?_) rfl (by kernel_rfl) (by kernel_rfl) (by kernel_rfl) (fun _ _ _ h => h) (Or.inl ⟨by rfl, ?_⟩) (by assumption) ?_
    rotate_left
    · intro w hSw; (try dsimp only at hSw); go_simp; (try (with_reducible rfl))
    try simp only [Act.put, List.setIfInBounds_toArray, List.set_cons_zero, List.set_cons_succ]
    refine wpAnyH_take (i := 6) (oi := ⟨_, _, _, _, _, _⟩) (v := ?_) rfl (by kernel_rfl) (by kernel_rfl) (by kernel_rfl) (fun _ _ _ h => h) (Or.inl ⟨by rfl, ?_⟩) (by assumption) ?_
    rotate_left
    · intro w hSw; (try dsimp only at hSw); go_simp; (try (with_reducible rfl))
    try simp only [Act.put, List.setIfInBounds_toArray, List.set_cons_zero, List.set_cons_succ]
    refine wpAnyH_take (i := 7) (oi := ⟨_, _, _, _, _, _⟩) (v := ?_) rfl (by kernel_rfl) (by kernel_rfl) (by kernel_rfl) (fun _ _ _ h => h) (Or.inl ⟨by rfl, ?_⟩) (by assumption) ?_
    rotate_left
    · intro w hSw; (try dsimp only at hSw); go_simp; (try (with_reducible rfl))
    try simp only [Act.put, List.setIfInBounds_toArray, List.set_cons_zero, List.set_cons_succ]
    refine wpAnyH_take (i := 8) (oi := ⟨_, _, _, _, _, _⟩) (v := ?_) rfl (by kernel_rfl) (by kernel_rfl) (by kernel_rfl) (fun _ _ _ h => h) (Or.inl ⟨by rfl, ?_⟩) (by assumption) ?_
    rotate_left
    · intro w hSw; (try dsimp only at hSw); go_simp; (try (with_reducible rfl))
    try simp only [Act.put, List.setIfInBounds_toArray, List.set_cons_zero, List.set_cons_succ]
    refine wpAnyH_ready (rs := [9]) (by kernel_rfl) (by simp) ?_
    refine AllReadyH.cons (o := ⟨_, _, _, _, _, _⟩) rfl (fun K hK => ?_) AllReadyH.nil
    go_simp
    refine (cC _).mono ?_
    rintro e w5 ⟨rfl, rfl⟩
    refine hK.out _ _ hS1 (fun hHeld => ?_)
    clear hK K
    try simp only [Act.put, List.setIfInBounds_toArray, List.set_cons_zero, List.set_cons_succ]
    refine wpAnyH_take (i := 10) (oi := ⟨_, _, _, _, _, _⟩) (v := ?_) rfl (by kernel_rfl) (by kernel_rfl) (by kernel_rfl) (fun _ _ _ h => h) (Or.inl ⟨by rfl, ?_⟩) (by assumption) ?_
    rotate_left
    · intro w hSw; (try dsimp only at hSw); go_simp; (try (with_reducible rfl))
    try simp only [Act.put, List.setIfInBounds_toArray, List.set_cons_zero, List.set_cons_succ]
    refine wpAnyH_take (i := 11) (oi := ⟨_, _, _, _, _, _⟩) (v := ?_) rfl (by kernel_rfl) (by kernel_rfl) (by kernel_rfl) (fun _ _ _ h => h) (Or.inl ⟨by rfl, ?_⟩) (by assumption) ?_
    rotate_left
    · intro w hSw; (try dsimp only at hSw); go_simp; (try (with_reducible rfl))
    try simp only [Act.put, List.setIfInBounds_toArray, List.set_cons_zero, List.set_cons_succ]
    refine wpAnyH_take (i := 12) (oi := ⟨_, _, _, _, _, _⟩) (v := ?_) rfl (by kernel_rfl) (by kernel_rfl) (by kernel_rfl) (fun _ _ _ h => h) (Or.inl ⟨by rfl, ?_⟩) (by assumption) ?_
    rotate_left
    · intro w hSw; (try dsimp only at hSw); go_simp; (try (with_reducible rfl))
    try simp only [Act.put, List.setIfInBounds_toArray, List.set_cons_zero, List.set_cons_succ]
    refine wpAnyH_take (i := 13) (oi := ⟨_, _, _, _, _, _⟩) (v := undef) rfl (by kernel_rfl) (by kernel_rfl) (by kernel_rfl) (fun _ _ _ h => h) (Or.inr ⟨by rfl, rfl⟩) (by assumption) ?_
    try simp only [Act.put, List.setIfInBounds_toArray, List.set_cons_zero, List.set_cons_succ]
    refine wpAnyH_take (i := 14) (oi := ⟨_, _, _, _, _, _⟩) (v := undef) rfl (by kernel_rfl) (by kernel_rfl) (by kernel_rfl) (fun _ _ _ h => h) (Or.inr ⟨by rfl, rfl⟩) (by assumption) ?_
    try simp only [Act.put, List.setIfInBounds_toArray, List.set_cons_zero, List.set_cons_succ]
    refine wpAnyH_take (i := 15) (oi := ⟨_, _, _, _, _, _⟩) (v := undef) rfl (by kernel_rfl) (by kernel_rfl) (by kernel_rfl) (fun _ _ _ h => h) (Or.inr ⟨by rfl, rfl⟩) (by assumption) ?_
    try simp only [Act.put, List.setIfInBounds_toArray, List.set_cons_zero, List.set_cons_succ]
    refine wpAnyH_take (i := 16) (oi := ⟨_, _, _, _, _, _⟩) (v := undef) rfl (by kernel_rfl) (by kernel_rfl) (by kernel_rfl) (fun _ _ _ h => h) (Or.inr ⟨by rfl, rfl⟩) (by assumption) ?_
    try simp only [Act.put, List.setIfInBounds_toArray, List.set_cons_zero, List.set_cons_succ]
    refine wpAnyH_take (i := 17) (oi := ⟨_, _, _, _, _, _⟩) (v := ?_) rfl (by kernel_rfl) (by kernel_rfl) (by kernel_rfl) (fun _ _ _ h => h) (Or.inl ⟨by rfl, ?_⟩) (by assumption) ?_
    rotate_left
    · intro w hSw; (try dsimp only at hSw); go_simp; (try (with_reducible rfl))
    try simp only [Act.put, List.setIfInBounds_toArray, List.set_cons_zero, List.set_cons_succ]
    refine wpAnyH_take (i := 18) (oi := ⟨_, _, _, _, _, _⟩) (v := ?_) rfl (by kernel_rfl) (by kernel_rfl) (by kernel_rfl) (fun _ _ _ h => h) (Or.inl ⟨by rfl, ?_⟩) (by assumption) ?_
    rotate_left
    · intro w hSw; (try dsimp only at hSw); go_simp; (try (with_reducible rfl))
    try simp only [Act.put, List.setIfInBounds_toArray, List.set_cons_zero, List.set_cons_succ]
    refine wpAnyH_take (i := 19) (oi := ⟨_, _, _, _, _, _⟩) (v := undef) rfl (by kernel_rfl) (by kernel_rfl) (by kernel_rfl) (fun _ _ _ h => h) (Or.inr ⟨by rfl, rfl⟩) (by assumption) ?_
    try simp only [Act.put, List.setIfInBounds_toArray, List.set_cons_zero, List.set_cons_succ]
    refine wpAnyH_take (i := 20) (oi := ⟨_, _, _, _, _, _⟩) (v := undef) rfl (by kernel_rfl) (by kernel_rfl) (by kernel_rfl) (fun _ _ _ h => h) (Or.inr ⟨by rfl, rfl⟩) (by assumption) ?_
    try simp only [Act.put, List.setIfInBounds_toArray, List.set_cons_zero, List.set_cons_succ]
    refine wpAnyH_take (i := 21) (oi := ⟨_, _, _, _, _, _⟩) (v := undef) rfl (by kernel_rfl) (by kernel_rfl) (by kernel_rfl) (fun _ _ _ h => h) (Or.inr ⟨by rfl, rfl⟩) (by assumption) ?_
    try simp only [Act.put, List.setIfInBounds_toArray, List.set_cons_zero, List.set_cons_succ]
    refine wpAnyH_take (i := 22) (oi := ⟨_, _, _, _, _, _⟩) (v := ?_) rfl (by kernel_rfl) (by kernel_rfl) (by kernel_rfl) (fun _ _ _ h => h) (Or.inl ⟨by rfl, ?_⟩) (by assumption) ?_
    rotate_left
    · intro w hSw; (try dsimp only at hSw); go_simp; (try (with_reducible rfl))
    try simp only [Act.put, List.setIfInBounds_toArray, List.set_cons_zero, List.set_cons_succ]
    refine wpAnyH_take (i := 23) (oi := ⟨_, _, _, _, _, _⟩) (v := ?_) rfl (by kernel_rfl) (by kernel_rfl) (by kernel_rfl) (fun _ _ _ h => h) (Or.inl ⟨by rfl, ?_⟩) (by assumption) ?_
    rotate_left
    · intro w hSw; (try dsimp only at hSw); go_simp; (try (with_reducible rfl))
    try simp only [Act.put, List.setIfInBounds_toArray, List.set_cons_zero, List.set_cons_succ]
    refine wpAnyH_done (by kernel_rfl) ?_ _
    clear hHeld
    go_wp2
    go_ret
    exact ⟨ret_bool HF.out.symm, bwd⟩
  subst hK
  have hkb : ((n : Int) == (n : Int)) = true := by simp
  have ba := bd.alloc bd.size (.cells #[.int .i64 xd] 3)
  have bwa := bwd.alloc bwd.size (.cells #[.int .i64 xd] 3)
  have hSa := HS.out _ ba
  have hrd : Rd (w1.drew.alloc (.cells #[.int .i64 xd] 3)) (some ⟨w1.heap.size, 0, none⟩) (intV [xd]) := .inr ⟨_, rfl, new_cells w1.drew 3 (intV [xd])⟩
  have hra := hr1.below ba
  cases qD : fitB [xd]
  · have HF : Hid (Z = false) := by show _ = _; rw [HZ2.out, qS, qD, decide_eq_true rfl]; rfl
    refine wp_region_held_drew (S := fun W => W.cell? ⟨w.heap.size, 2, none⟩ = some (.int .i64 xs) ∧ W.cell? ⟨w.heap.size, 3, none⟩ = some (.slice C n c) ∧ W.cell? ⟨w.heap.size, 4, none⟩ = some (.int .i64 xd)) (by kernel_rfl) ⟨c2, c3, c4⟩ (fun hHeld => ?_)
    refine wpAnyH_take (i := 0) (oi := ⟨_, _, _, _, _, _⟩) (v := ?_) rfl (by kernel_rfl) (by kernel_rfl) (by kernel_rfl) (fun _ _ _ h => h) (Or.inl ⟨by rfl, ?_⟩) (by assumption) ?_
    rotate_left
    · intro w hSw; (try dsimp only at hSw); go_simp; (try (with_reducible rfl))
    try simp only [Act.put, List.setIfInBounds_toArray, List.set_cons_zero, List.set_cons_succ]
    refine wpAnyH_take (i := 1) (oi := ⟨_, _, _, _, _, _⟩) (v := ?_) rfl (by kernel_rfl) (by kernel_rfl) (by kernel_rfl) (fun _ _ _ h => h) (Or.inl ⟨by rfl, ?_⟩) (by assumption) ?_
    rotate_left
    · intro w hSw; (try dsimp only at hSw); go_simp; (try (with_reducible rfl))
    try simp only [Act.put, List.setIfInBounds_toArray, List.set_cons_zero, List.set_cons_succ]
    refine wpAnyH_ready (rs := [2]) (by kernel_rfl) (by simp) ?_
    refine AllReadyH.cons (o := ⟨_, _, _, _, _, _⟩) rfl (fun K hK => ?_) AllReadyH.nil
    go_simp
    refine (isWithin_is qS _).mono ?_
    rintro e w5 ⟨rfl, rfl⟩
    refine hK.out _ _ hS1 (fun hHeld => ?_)
    clear hK K
    try simp only [Act.put, List.setIfInBounds_toArray, List.set_cons_zero, List.set_cons_succ]
    refine wpAnyH_take (i := 3) (oi := ⟨_, _, _, _, _, _⟩) (v := ?_) rfl (by kernel_rfl) (by kernel_rfl) (by kernel_rfl) (fun _ _ _ h => h) (Or.inl ⟨by rfl, ?_⟩) (by assumption) ?_
    rotate_left
    · intro w hSw; (try dsimp only at hSw); go_simp; (try (with_reducible rfl))
    try simp only [Act.put, List.setIfInBounds_toArray, List.set_cons_zero, List.set_cons_succ]
    refine wpAnyH_take (i := 4) (oi := ⟨_, _, _, _, _, _⟩) (v := ?_) rfl (by kernel_rfl) (by kernel_rfl) (by kernel_rfl) (fun _ _ _ h => h) (Or.inl ⟨by rfl, ?_⟩) (by assumption) ?_
    rotate_left
    · intro w hSw; (try dsimp only at hSw); go_simp; (try (with_reducible rfl))
    try simp only [Act.put, List.setIfInBounds_toArray, List.set_cons_zero, List.set_cons_succ]
    refine wpAnyH_take (i := 5) (oi := ⟨_, _, _, _, _, _⟩) (v := ?_) rfl (by kernel_rfl) (by kernel_rfl) (by kernel_rfl) (fun _ _ _ h => h) (Or.inl ⟨by rfl, ?_⟩) (by assumption) ?_
    rotate_left
    · intro w hSw; (try dsimp only at hSw); go_simp; (try (with_reducible rfl))
    try simp only [Act.put, List.setIfInBounds_toArray, List.set_cons_zero, List.set_cons_succ]
    refine wpAnyH_take (i := 6) (oi := ⟨_, _, _, _, _, _⟩) (v := ?_) rfl (by kernel_rfl) (by kernel_rfl) (by kernel_rfl) (fun _ _ _ h => h) (Or.inl ⟨by rfl, ?_⟩) (by assumption) ?_
    rotate_left
    · intro w hSw; (try dsimp only at hSw); go_simp; (try (with_reducible rfl))
    try simp only [Act.put, List.setIfInBounds_toArray, List.set_cons_zero, List.set_cons_succ]
    refine wpAnyH_take (i := 7) (oi := ⟨_, _, _, _, _, _⟩) (v := ?_) rfl (by kernel_rfl) (by kernel_rfl) (by kernel_rfl) (fun _ _ _ h => h) (Or.inl ⟨by rfl, ?_⟩) (by assumption) ?_
    rotate_left
    · intro w hSw; (try dsimp only at hSw); go_simp; (try (with_reducible rfl))
    try simp only [Act.put, List.setIfInBounds_toArray, List.set_cons_zero, List.set_cons_succ]
    refine wpAnyH_take (i := 8) (oi := ⟨_, _, _, _, _, _⟩) (v := ?_) rfl (by kernel_rfl) (by kernel_rfl) (by kernel_rfl) (fun _ _ _ h => h) (Or.inl ⟨by rfl, ?_⟩) (by assumption) ?_
    rotate_left
    · intro w hSw; (try dsimp only at hSw); go_simp; (try (with_reducible rfl))
    try simp only [Act.put, List.setIfInBounds_toArray, List.set_cons_zero, List.set_cons_succ]
    refine wpAnyH_ready (rs := [9]) (by kernel_rfl) (by simp) ?_
    refine AllReadyH.cons (o := ⟨_, _, _, _, _, _⟩) rfl (fun K hK => ?_) AllReadyH.nil
    go_simp
    refine (cC _).mono ?_
    rintro e w5 ⟨rfl, rfl⟩
    refine hK.out _ _ hS1 (fun hHeld => ?_)
    clear hK K
    try simp only [Act.put, List.setIfInBounds_toArray, List.set_cons_zero, List.set_cons_succ]
    refine wpAnyH_take (i := 10) (oi := ⟨_, _, _, _, _, _⟩) (v := ?_) rfl (by kernel_rfl) (by kernel_rfl) (by kernel_rfl) (fun _ _ _ h => h) (Or.inl ⟨by rfl, ?_⟩) (by assumption) ?_
    rotate_left
    · intro w hSw; (try dsimp only at hSw); go_simp; (try (with_reducible rfl))
    try simp only [Act.put, List.setIfInBounds_toArray, List.set_cons_zero, List.set_cons_succ]
    refine wpAnyH_take (i := 11) (oi := ⟨_, _, _, _, _, _⟩) (v := ?_) rfl (by kernel_rfl) (by kernel_rfl) (by kernel_rfl) (fun _ _ _ h => h) (Or.inl ⟨by rfl, ?_⟩) (by assumption) ?_
    rotate_left
    · intro w hSw; (try dsimp only at hSw); go_simp; (try (with_reducible rfl))
    try simp only [Act.put, List.setIfInBounds_toArray, List.set_cons_zero, List.set_cons_succ]
    refine wpAnyH_take (i := 12) (oi := ⟨_, _, _, _, _, _⟩) (v := ?_) rfl (by kernel_rfl) (by kernel_rfl) (by kernel_rfl) (fun _ _ _ h => h) (Or.inl ⟨by rfl, ?_⟩) (by assumption) ?_
    rotate_left
    · intro w hSw; (try dsimp only at hSw); go_simp; (try (with_reducible rfl))
    try simp only [Act.put, List.setIfInBounds_toArray, List.set_cons_zero, List.set_cons_succ]
    refine wpAnyH_take (i := 13) (oi := ⟨_, _, _, _, _, _⟩) (v := ?_) rfl (by kernel_rfl) (by kernel_rfl) (by kernel_rfl) (fun _ _ _ h => h) (Or.inl ⟨by rfl, ?_⟩) (by assumption) ?_
    rotate_left
    · intro w hSw; (try dsimp only at hSw); go_simp; (try (with_reducible rfl))
    try simp only [Act.put, List.setIfInBounds_toArray, List.set_cons_zero, List.set_cons_succ]
    refine wpAnyH_take (i := 14) (oi := ⟨_, _, _, _, _, _⟩) (v := ?_) rfl (by kernel_rfl) (by kernel_rfl) (by kernel_rfl) (fun _ _ _ h => h) (Or.inl ⟨by rfl, ?_⟩) (by assumption) ?_
    rotate_left
    · intro w hSw; (try dsimp only at hSw); go_simp; (try (with_reducible rfl))
    try simp only [Act.put, List.setIfInBounds_toArray, List.set_cons_zero, List.set_cons_succ]
    refine wpAnyH_ready (rs := [15]) (by kernel_rfl) (by simp) ?_
    refine AllReadyH.cons (o := ⟨_, _, _, _, _, _⟩) rfl (fun K hK => ?_) AllReadyH.nil
    go_simp
    refine hK.out _ _ hSa (fun hHeld => ?_)
    clear hK K
    try simp only [Act.put, List.setIfInBounds_toArray, List.set_cons_zero, List.set_cons_succ]
    refine wpAnyH_ready (rs := [16]) (by kernel_rfl) (by simp) ?_
    refine AllReadyH.cons (o := ⟨_, _, _, _, _, _⟩) rfl (fun K hK => ?_) AllReadyH.nil
    go_simp
    refine (fit_is qD _ 1 1 _ rfl hrd (by omega)).mono ?_
    rintro e w5 ⟨rfl, rfl⟩
    refine hK.out _ _ hSa (fun hHeld => ?_)
    clear hK K
    try simp only [Act.put, List.setIfInBounds_toArray, List.set_cons_zero, List.set_cons_succ]
    refine wpAnyH_take (i := 17) (oi := ⟨_, _, _, _, _, _⟩) (v := ?_) rfl (by kernel_rfl) (by kernel_rfl) (by kernel_rfl) (fun _ _ _ h => h) (Or.inl ⟨by rfl, ?_⟩) (by assumption) ?_
    rotate_left
    · intro w hSw; (try dsimp only at hSw); go_simp; (try (with_reducible rfl))
    try simp only [Act.put, List.setIfInBounds_toArray, List.set_cons_zero, List.set_cons_succ]
    refine wpAnyH_take (i := 18) (oi := ⟨_, _, _, _, _, _⟩) (v := ?_) rfl (by kernel_rfl) (by kernel_rfl) (by kernel_rfl) (fun _ _ _ h => h) (Or.inl ⟨by rfl, ?_⟩) (by assumption) ?_
    rotate_left
    · intro w hSw; (try dsimp only at hSw); go_simp; (try (with_reducible rfl))
    try simp only [Act.put, List.setIfInBounds_toArray, List.set_cons_zero, List.set_cons_succ]
    refine wpAnyH_take (i := 19) (oi := ⟨_, _, _, _, _, _⟩) (v := undef) rfl (by kernel_rfl) (by kernel_rfl) (by kernel_rfl) (fun _ _ _ h => h) (Or.inr ⟨by rfl, rfl⟩) (by assumption) ?_
    try simp only [Act.put, List.setIfInBounds_toArray, List.set_cons_zero, List.set_cons_succ]
    refine wpAnyH_take (i := 20) (oi := ⟨_, _, _, _, _, _⟩) (v := undef) rfl (by kernel_rfl) (by kernel_rfl) (by kernel_rfl) (fun _ _ _ h => h) (Or.inr ⟨by rfl, rfl⟩) (by assumption) ?_
    try simp only [Act.put, List.setIfInBounds_toArray, List.set_cons_zero, List.set_cons_succ]
    refine wpAnyH_take (i := 21) (oi := ⟨_, _, _, _, _, _⟩) (v := undef) rfl (by kernel_rfl) (by kernel_rfl) (by kernel_rfl) (fun _ _ _ h => h) (Or.inr ⟨by rfl, rfl⟩) (by assumption) ?_
    try simp only [Act.put, List.setIfInBounds_toArray, List.set_cons_zero, List.set_cons_succ]
    refine wpAnyH_take (i := 22) (oi := ⟨_, _, _, _, _, _⟩) (v := ?_) rfl (by kernel_rfl) (by kernel_rfl) (by kernel_rfl) (fun _ _ _ h => h) (Or.inl ⟨by rfl, ?_⟩) (by assumption) ?_
    rotate_left
    · intro w hSw; (try dsimp only at hSw); go_simp; (try (with_reducible rfl))
    try simp only [Act.put, List.setIfInBounds_toArray, List.set_cons_zero, List.set_cons_succ]
    refine wpAnyH_take (i := 23) (oi := ⟨_, _, _, _, _, _⟩) (v := ?_) rfl (by kernel_rfl) (by kernel_rfl) (by kernel_rfl) (fun _ _ _ h => h) (Or.inl ⟨by rfl, ?_⟩) (by assumption) ?_
    rotate_left
    · intro w hSw; (try dsimp only at hSw); go_simp; (try (with_reducible rfl))
    try simp only [Act.put, List.setIfInBounds_toArray, List.set_cons_zero, List.set_cons_succ]
    refine wpAnyH_done (by kernel_rfl) ?_ _
    clear hHeld
    go_wp2
    go_ret
    exact ⟨ret_bool HF.out.symm, bwa⟩
  cases qF : fitB xc
  · have HF : Hid (Z = false) := by show _ = _; rw [HZ2.out, qS, qD, qF, decide_eq_true rfl]; rfl
    refine wp_region_held_drew (S := fun W => W.cell? ⟨w.heap.size, 2, none⟩ = some (.int .i64 xs) ∧ W.cell? ⟨w.heap.size, 3, none⟩ = some (.slice C n c) ∧ W.cell? ⟨w.heap.size, 4, none⟩ = some (.int .i64 xd)) (by kernel_rfl) ⟨c2, c3, c4⟩ (fun hHeld => ?_)
    refine wpAnyH_take (i := 0) (oi := ⟨_, _, _, _, _, _⟩) (v := ?_) rfl (by kernel_rfl) (by kernel_rfl) (by kernel_rfl) (fun _ _ _ h => h) (Or.inl ⟨by rfl, ?_⟩) (by assumption) ?_
    rotate_left
    · intro w hSw; (try dsimp only at hSw); go_simp; (try (with_reducible rfl))
    try simp only [Act.put, List.setIfInBounds_toArray, List.set_cons_zero, List.set_cons_succ]
    refine wpAnyH_take (i := 1) (oi := ⟨_, _, _, _, _, _⟩) (v := ?_) rfl (by kernel_rfl) (by kernel_rfl) (by kernel_rfl) (fun _ _ _ h => h) (Or.inl ⟨by rfl, ?_⟩) (by assumption) ?_
    rotate_left
    · intro w hSw; (try dsimp only at hSw); go_simp; (try (with_reducible rfl))
    try simp only [Act.put, List.setIfInBounds_toArray, List.set_cons_zero, List.set_cons_succ]
    refine wpAnyH_ready (rs := [2]) (by kernel_rfl) (by simp) ?_
    refine AllReadyH.cons (o := ⟨_, _, _, _, _, _⟩) rfl (fun K hK => ?_) AllReadyH.nil
    go_simp
    refine (isWithin_is qS _).mono ?_
    rintro e w5 ⟨rfl, rfl⟩
    refine hK.out _ _ hS1 (fun hHeld => ?_)
    clear hK K
    try simp only [Act.put, List.setIfInBounds_toArray, List.set_cons_zero, List.set_cons_succ]
    refine wpAnyH_take (i := 3) (oi := ⟨_, _, _, _, _, _⟩) (v := ?_) rfl (by kernel_rfl) (by kernel_rfl) (by kernel_rfl) (fun _ _ _ h => h) (Or.inl ⟨by rfl, ?_⟩) (by assumption) ?_
    rotate_left
    · intro w hSw; (try dsimp only at hSw); go_simp; (try (with_reducible rfl))
    try simp only [Act.put, List.setIfInBounds_toArray, List.set_cons_zero, List.set_cons_succ]
    refine wpAnyH_take (i := 4) (oi := ⟨_, _, _, _, _, _⟩) (v := ?_) rfl (by kernel_rfl) (by kernel_rfl) (by kernel_rfl) (fun _ _ _ h => h) (Or.inl ⟨by rfl, ?_⟩) (by assumption) ?_
    rotate_left
    · intro w hSw; (try dsimp only at hSw); go_simp; (try (with_reducible rfl))
    try simp only [Act.put, List.setIfInBounds_toArray, List.set_cons_zero, List.set_cons_succ]
    refine wpAnyH_take (i := 5) (oi := ⟨_, _, _, _, _, _⟩) (v := ?_) rfl (by kernel_rfl) (by kernel_rfl) (by kernel_rfl) (fun _ _ _ h => h) (Or.inl ⟨by rfl, ?_⟩) (by assumption) ?_
    rotate_left
    · intro w hSw; (try dsimp only at hSw); go_simp; (try (with_reducible rfl))
    try simp only [Act.put, List.setIfInBounds_toArray, List.set_cons_zero, List.set_cons_succ]
    refine wpAnyH_take (i := 6) (oi := ⟨_, _, _, _, _, _⟩) (v := ?_) rfl (by kernel_rfl) (by kernel_rfl) (by kernel_rfl) (fun _ _ _ h => h) (Or.inl ⟨by rfl, ?_⟩) (by assumption) ?_
    rotate_left
    · intro w hSw; (try dsimp only at hSw); go_simp; (try (with_reducible rfl))
    try simp only [Act.put, List.setIfInBounds_toArray, List.set_cons_zero, List.set_cons_succ]
    refine wpAnyH_take (i := 7) (oi := ⟨_, _, _, _, _, _⟩) (v := ?_) rfl (by kernel_rfl) (by kernel_rfl) (by kernel_rfl) (fun _ _ _ h => h) (Or.inl ⟨by rfl, ?_⟩) (by assumption) ?_
    rotate_left
    · intro w hSw; (try dsimp only at hSw); go_simp; (try (with_reducible rfl))
    try simp only [Act.put, List.setIfInBounds_toArray, List.set_cons_zero, List.set_cons_succ]
    refine wpAnyH_take (i := 8) (oi := ⟨_, _, _, _, _, _⟩) (v := ?_) rfl (by kernel_rfl) (by kernel_rfl) (by kernel_rfl) (fun _ _ _ h => h) (Or.inl ⟨by rfl, ?_⟩) (by assumption) ?_
    rotate_left
    · intro w hSw; (try dsimp only at hSw); go_simp; (try (with_reducible rfl))
    try simp only [Act.put, List.setIfInBounds_toArray, List.set_cons_zero, List.set_cons_succ]
    refine wpAnyH_ready (rs := [9]) (by kernel_rfl) (by simp) ?_
    refine AllReadyH.cons (o := ⟨_, _, _, _, _, _⟩) rfl (fun K hK => ?_) AllReadyH.nil
    go_simp
    refine (cC _).mono ?_
    rintro e w5 ⟨rfl, rfl⟩
    refine hK.out _ _ hS1 (fun hHeld => ?_)
    clear hK K
    try simp only [Act.put, List.setIfInBounds_toArray, List.set_cons_zero, List.set_cons_succ]
    refine wpAnyH_take (i := 10) (oi := ⟨_, _, _, _, _, _⟩) (v := ?_) rfl (by kernel_rfl) (by kernel_rfl) (by kernel_rfl) (fun _ _ _ h => h) (Or.inl ⟨by rfl, ?_⟩) (by assumption) ?_
    rotate_left
    · intro w hSw; (try dsimp only at hSw); go_simp; (try (with_reducible rfl))
    try simp only [Act.put, List.setIfInBounds_toArray, List.set_cons_zero, List.set_cons_succ]
    refine wpAnyH_take (i := 11) (oi := ⟨_, _, _, _, _, _⟩) (v := ?_) rfl (by kernel_rfl) (by kernel_rfl) (by kernel_rfl) (fun _ _ _ h => h) (Or.inl ⟨by rfl, ?_⟩) (by assumption) ?_
    rotate_left
    · intro w hSw; (try dsimp only at hSw); go_simp; (try (with_reducible rfl))
    try simp only [Act.put, List.setIfInBounds_toArray, List.set_cons_zero, List.set_cons_succ]
    refine wpAnyH_take (i := 12) (oi := ⟨_, _, _, _, _, _⟩) (v := ?_) rfl (by kernel_rfl) (by kernel_rfl) (by kernel_rfl) (fun _ _ _ h => h) (Or.inl ⟨by rfl, ?_⟩) (by assumption) ?_
    rotate_left
    · intro w hSw; (try dsimp only at hSw); go_simp; (try (with_reducible rfl))
    try simp only [Act.put, List.setIfInBounds_toArray, List.set_cons_zero, List.set_cons_succ]
    refine wpAnyH_take (i := 13) (oi := ⟨_, _, _, _, _, _⟩) (v := ?_) rfl (by kernel_rfl) (by kernel_rfl) (by kernel_rfl) (fun _ _ _ h => h) (Or.inl ⟨by rfl, ?_⟩) (by assumption) ?_
    rotate_left
    · intro w hSw; (try dsimp only at hSw); go_simp; (try (with_reducible rfl))
    try simp only [Act.put, List.setIfInBounds_toArray, List.set_cons_zero, List.set_cons_succ]
    refine wpAnyH_take (i := 14) (oi := ⟨_, _, _, _, _, _⟩) (v := ?_) rfl (by kernel_rfl) (by kernel_rfl) (by kernel_rfl) (fun _ _ _ h => h) (Or.inl ⟨by rfl, ?_⟩) (by assumption) ?_
    rotate_left
    · intro w hSw; (try dsimp only at hSw); go_simp; (try (with_reducible rfl))
    try simp only [Act.put, List.setIfInBounds_toArray, List.set_cons_zero, List.set_cons_succ]
    refine wpAnyH_ready (rs := [15]) (by kernel_rfl) (by simp) ?_
    refine AllReadyH.cons (o := ⟨_, _, _, _, _, _⟩) rfl (fun K hK => ?_) AllReadyH.nil
    go_simp
    refine hK.out _ _ hSa (fun hHeld => ?_)
    clear hK K
    try simp only [Act.put, List.setIfInBounds_toArray, List.set_cons_zero, List.set_cons_succ]
    refine wpAnyH_ready (rs := [16]) (by kernel_rfl) (by simp) ?_
    refine AllReadyH.cons (o := ⟨_, _, _, _, _, _⟩) rfl (fun K hK => ?_) AllReadyH.nil
    go_simp
    refine (fit_is qD _ 1 1 _ rfl hrd (by omega)).mono ?_
    rintro e w5 ⟨rfl, rfl⟩
    refine hK.out _ _ hSa (fun hHeld => ?_)
    clear hK K
    try simp only [Act.put, List.setIfInBounds_toArray, List.set_cons_zero, List.set_cons_succ]
    refine wpAnyH_take (i := 17) (oi := ⟨_, _, _, _, _, _⟩) (v := ?_) rfl (by kernel_rfl) (by kernel_rfl) (by kernel_rfl) (fun _ _ _ h => h) (Or.inl ⟨by rfl, ?_⟩) (by assumption) ?_
    rotate_left
    · intro w hSw; (try dsimp only at hSw); go_simp; (try (with_reducible rfl))
    try simp only [Act.put, List.setIfInBounds_toArray, List.set_cons_zero, List.set_cons_succ]
    refine wpAnyH_take (i := 18) (oi := ⟨_, _, _, _, _, _⟩) (v := ?_) rfl (by kernel_rfl) (by kernel_rfl) (by kernel_rfl) (fun _ _ _ h => h) (Or.inl ⟨by rfl, ?_⟩) (by assumption) ?_
    rotate_left
    · intro w hSw; (try dsimp only at hSw); go_simp; (try (with_reducible rfl))
    try simp only [Act.put, List.setIfInBounds_toArray, List.set_cons_zero, List.set_cons_succ]
    refine wpAnyH_take (i := 19) (oi := ⟨_, _, _, _, _, _⟩) (v := ?_) rfl (by kernel_rfl) (by kernel_rfl) (by kernel_rfl) (fun _ _ _ h => h) (Or.inl ⟨by rfl, ?_⟩) (by assumption) ?_
    rotate_left
    · intro w hSw; (try dsimp only at hSw); go_simp; (try (with_reducible rfl))
    try simp only [Act.put, List.setIfInBounds_toArray, List.set_cons_zero, List.set_cons_succ]
    refine wpAnyH_take (i := 20) (oi := ⟨_, _, _, _, _, _⟩) (v := ?_) rfl (by kernel_rfl) (by kernel_rfl) (by kernel_rfl) (fun _ _ _ h => h) (Or.inl ⟨by rfl, ?_⟩) (by assumption) ?_
    rotate_left
    · intro w hSw; (try dsimp only at hSw); go_simp; (try (with_reducible rfl))
    try simp only [Act.put, List.setIfInBounds_toArray, List.set_cons_zero, List.set_cons_succ]
    refine wpAnyH_ready (rs := [21]) (by kernel_rfl) (by simp) ?_
    refine AllReadyH.cons (o := ⟨_, _, _, _, _, _⟩) rfl (fun K hK => ?_) AllReadyH.nil
    go_simp
    refine (fit_is qF _ n c _ HN.out.symm hra (by omega)).mono ?_
    rintro e w5 ⟨rfl, rfl⟩
    refine hK.out _ _ hSa (fun hHeld => ?_)
    clear hK K
    try simp only [Act.put, List.setIfInBounds_toArray, List.set_cons_zero, List.set_cons_succ]
    refine wpAnyH_take (i := 22) (oi := ⟨_, _, _, _, _, _⟩) (v := ?_) rfl (by kernel_rfl) (by kernel_rfl) (by kernel_rfl) (fun _ _ _ h => h) (Or.inl ⟨by rfl, ?_⟩) (by assumption) ?_
    rotate_left
    · intro w hSw; (try dsimp only at hSw); go_simp; (try (with_reducible rfl))
    try simp only [Act.put, List.setIfInBounds_toArray, List.set_cons_zero, List.set_cons_succ]
    refine wpAnyH_take (i := 23) (oi := ⟨_, _, _, _, _, _⟩) (v := ?_) rfl (by kernel_rfl) (by kernel_rfl) (by kernel_rfl) (fun _ _ _ h => h) (Or.inl ⟨by rfl, ?_⟩) (by assumption) ?_
    rotate_left
    · intro w hSw; (try dsimp only at hSw); go_simp; (try (with_reducible rfl))
    try simp only [Act.put, List.setIfInBounds_toArray, List.set_cons_zero, List.set_cons_succ]
    refine wpAnyH_done (by kernel_rfl) ?_ _
    clear hHeld
    go_wp2
    go_ret
    exact ⟨ret_bool HF.out.symm, bwa⟩
  · have HF : Hid (Z = true) := by show _ = _; rw [HZ2.out, qS, qD, qF, decide_eq_true rfl]; rfl
    refine wp_region_held_drew (S := fun W => W.cell? ⟨w.heap.size, 2, none⟩ = some (.int .i64 xs) ∧ W.cell? ⟨w.heap.size, 3, none⟩ = some (.slice C n c) ∧ W.cell? ⟨w.heap.size, 4, none⟩ = some (.int .i64 xd)) (by kernel_rfl) ⟨c2, c3, c4⟩ (fun hHeld => ?_)
    refine wpAnyH_take (i := 0) (oi := ⟨_, _, _, _, _, _⟩) (v := ?_) rfl (by kernel_rfl) (by kernel_rfl) (by kernel_rfl) (fun _ _ _ h => h) (Or.inl ⟨by rfl, ?_⟩) (by assumption) ?_
    rotate_left
    · intro w hSw; (try dsimp only at hSw); go_simp; (try (with_reducible rfl))
    try simp only [Act.put, List.setIfInBounds_toArray, List.set_cons_zero, List.set_cons_succ]
    refine wpAnyH_take (i := 1) (oi := ⟨_, _, _, _, _, _⟩) (v := ?_) rfl (by kernel_rfl) (by kernel_rfl) (by kernel_rfl) (fun _ _ _ h => h) (Or.inl ⟨by rfl, ?_⟩) (by assumption) ?_
    rotate_left
    · intro w hSw; (try dsimp only at hSw); go_simp; (try (with_reducible rfl))
    try simp only [Act.put, List.setIfInBounds_toArray, List.set_cons_zero, List.set_cons_succ]
    refine wpAnyH_ready (rs := [2]) (by kernel_rfl) (by simp) ?_
    refine AllReadyH.cons (o := ⟨_, _, _, _, _, _⟩) rfl (fun K hK => ?_) AllReadyH.nil
    go_simp
    refine (isWithin_is qS _).mono ?_
    rintro e w5 ⟨rfl, rfl⟩
    refine hK.out _ _ hS1 (fun hHeld => ?_)
    clear hK K
    try simp only [Act.put, List.setIfInBounds_toArray, List.set_cons_zero, List.set_cons_succ]
    refine wpAnyH_take (i := 3) (oi := ⟨_, _, _, _, _, _⟩) (v := ?_) rfl (by kernel_rfl) (by kernel_rfl) (by kernel_rfl) (fun _ _ _ h => h) (Or.inl ⟨by rfl, ?_⟩) (by assumption) ?_
    rotate_left
    · intro w hSw; (try dsimp only at hSw); go_simp; (try (with_reducible rfl))
    try simp only [Act.put, List.setIfInBounds_toArray, List.set_cons_zero, List.set_cons_succ]
    refine wpAnyH_take (i := 4) (oi := ⟨_, _, _, _, _, _⟩) (v := ?_) rfl (by kernel_rfl) (by kernel_rfl) (by kernel_rfl) (fun _ _ _ h => h) (Or.inl ⟨by rfl, ?_⟩) (by assumption) ?_
    rotate_left
    · intro w hSw; (try dsimp only at hSw); go_simp; (try (with_reducible rfl))
    try simp only [Act.put, List.setIfInBounds_toArray, List.set_cons_zero, List.set_cons_succ]
    refine wpAnyH_take (i := 5) (oi := ⟨_, _, _, _, _, _⟩) (v := ?_) rfl (by kernel_rfl) (by kernel_rfl) (by kernel_rfl) (fun _ _ _ h => h) (Or.inl ⟨by rfl, ?_⟩) (by assumption) ?_
    rotate_left
    · intro w hSw; (try dsimp only at hSw); go_simp; (try (with_reducible rfl))
    try simp only [Act.put, List.setIfInBounds_toArray, List.set_cons_zero, List.set_cons_succ]
    refine wpAnyH_take (i := 6) (oi := ⟨_, _, _, _, _, _⟩) (v := ?_) rfl (by kernel_rfl) (by kernel_rfl) (by kernel_rfl) (fun _ _ _ h => h) (Or.inl ⟨by rfl, ?_⟩) (by assumption) ?_
    rotate_left
    · intro w hSw; (try dsimp only at hSw); go_simp; (try (with_reducible rfl))
    try simp only [Act.put, List.setIfInBounds_toArray, List.set_cons_zero, List.set_cons_succ]
    refine wpAnyH_take (i := 7) (oi := ⟨_, _, _, _, _, _⟩) (v := ?_) rfl (by kernel_rfl) (by kernel_rfl) (by kernel_rfl) (fun _ _ _ h => h) (Or.inl ⟨by rfl, ?_⟩) (by assumption) ?_
    rotate_left
    · intro w hSw; (try dsimp only at hSw); go_simp; (try (with_reducible rfl))
    try simp only [Act.put, List.setIfInBounds_toArray, List.set_cons_zero, List.set_cons_succ]
    refine wpAnyH_take (i := 8) (oi := ⟨_, _, _, _, _, _⟩) (v := ?_) rfl (by kernel_rfl) (by kernel_rfl) (by kernel_rfl) (fun _ _ _ h => h) (Or.inl ⟨by rfl, ?_⟩) (by assumption) ?_
    rotate_left
    · intro w hSw; (try dsimp only at hSw); go_simp; (try (with_reducible rfl))
    try simp only [Act.put, List.setIfInBounds_toArray, List.set_cons_zero, List.set_cons_succ]
    refine wpAnyH_ready (rs := [9]) (by kernel_rfl) (by simp) ?_
    refine AllReadyH.cons (o := ⟨_, _, _, _, _, _⟩) rfl (fun K hK => ?_) AllReadyH.nil
    go_simp
    refine (cC _).mono ?_
    rintro e w5 ⟨rfl, rfl⟩
    refine hK.out _ _ hS1 (fun hHeld => ?_)
    clear hK K
    try simp only [Act.put, List.setIfInBounds_toArray, List.set_cons_zero, List.set_cons_succ]
    refine wpAnyH_take (i := 10) (oi := ⟨_, _, _, _, _, _⟩) (v := ?_) rfl (by kernel_rfl) (by kernel_rfl) (by kernel_rfl) (fun _ _ _ h => h) (Or.inl ⟨by rfl, ?_⟩) (by assumption) ?_
    rotate_left
    · intro w hSw; (try dsimp only at hSw); go_simp; (try (with_reducible rfl))
    try simp only [Act.put, List.setIfInBounds_toArray, List.set_cons_zero, List.set_cons_succ]
    refine wpAnyH_take (i := 11) (oi := ⟨_, _, _, _, _, _⟩) (v := ?_) rfl (by kernel_rfl) (by kernel_rfl) (by kernel_rfl) (fun _ _ _ h => h) (Or.inl ⟨by rfl, ?_⟩) (by assumption) ?_
    rotate_left
    · intro w hSw; (try dsimp only at hSw); go_simp; (try (with_reducible rfl))
    try simp only [Act.put, List.setIfInBounds_toArray, List.set_cons_zero, List.set_cons_succ]
    refine wpAnyH_take (i := 12) (oi := ⟨_, _, _, _, _, _⟩) (v := ?_) rfl (by kernel_rfl) (by kernel_rfl) (by kernel_rfl) (fun _ _ _ h => h) (Or.inl ⟨by rfl, ?_⟩) (by assumption) ?_
    rotate_left
    · intro w hSw; (try dsimp only at hSw); go_simp; (try (with_reducible rfl))
    try simp only [Act.put, List.setIfInBounds_toArray, List.set_cons_zero, List.set_cons_succ]
    refine wpAnyH_take (i := 13) (oi := ⟨_, _, _, _, _, _⟩) (v := ?_) rfl (by kernel_rfl) (by kernel_rfl) (by kernel_rfl) (fun _ _ _ h => h) (Or.inl ⟨by rfl, ?_⟩) (by assumption) ?_
    rotate_left
    · intro w hSw; (try dsimp only at hSw); go_simp; (try (with_reducible rfl))
    try simp only [Act.put, List.setIfInBounds_toArray, List.set_cons_zero, List.set_cons_succ]
    refine wpAnyH_take (i := 14) (oi := ⟨_, _, _, _, _, _⟩) (v := ?_) rfl (by kernel_rfl) (by kernel_rfl) (by kernel_rfl) (fun _ _ _ h => h) (Or.inl ⟨by rfl, ?_⟩) (by assumption) ?_
    rotate_left
    · intro w hSw; (try dsimp only at hSw); go_simp; (try (with_reducible rfl))
    try simp only [Act.put, List.setIfInBounds_toArray, List.set_cons_zero, List.set_cons_succ]
    refine wpAnyH_ready (rs := [15]) (by kernel_rfl) (by simp) ?_
    refine AllReadyH.cons (o := ⟨_, _, _, _, _, _⟩) rfl (fun K hK => ?_) AllReadyH.nil
    go_simp
    refine hK.out _ _ hSa (fun hHeld => ?_)
    clear hK K
    try simp only [Act.put, List.setIfInBounds_toArray, List.set_cons_zero, List.set_cons_succ]
    refine wpAnyH_ready (rs := [16]) (by kernel_rfl) (by simp) ?_
    refine AllReadyH.cons (o := ⟨_, _, _, _, _, _⟩) rfl (fun K hK => ?_) AllReadyH.nil
    go_simp
    refine (fit_is qD _ 1 1 _ rfl hrd (by omega)).mono ?_
    rintro e w5 ⟨rfl, rfl⟩
    refine hK.out _ _ hSa (fun hHeld => ?_)
    clear hK K
    try simp only [Act.put, List.setIfInBounds_toArray, List.set_cons_zero, List.set_cons_succ]
    refine wpAnyH_take (i := 17) (oi := ⟨_, _, _, _, _, _⟩) (v := ?_) rfl (by kernel_rfl) (by kernel_rfl) (by kernel_rfl) (fun _ _ _ h => h) (Or.inl ⟨by rfl, ?_⟩) (by assumption) ?_
    rotate_left
    · intro w hSw; (try dsimp only at hSw); go_simp; (try (with_reducible rfl))
    try simp only [Act.put, List.setIfInBounds_toArray, List.set_cons_zero, List.set_cons_succ]
    refine wpAnyH_take (i := 18) (oi := ⟨_, _, _, _, _, _⟩) (v := ?_) rfl (by kernel_rfl) (by kernel_rfl) (by kernel_rfl) (fun _ _ _ h => h) (Or.inl ⟨by rfl, ?_⟩) (by assumption) ?_
    rotate_left
    · intro w hSw; (try dsimp only at hSw); go_simp; (try (with_reducible rfl))
    try simp only [Act.put, List.setIfInBounds_toArray, List.set_cons_zero, List.set_cons_succ]
    refine wpAnyH_take (i := 19) (oi := ⟨_, _, _, _, _, _⟩) (v := ?_) rfl (by kernel_rfl) (by kernel_rfl) (by kernel_rfl) (fun _ _ _ h => h) (Or.inl ⟨by rfl, ?_⟩) (by assumption) ?_
    rotate_left
    · intro w hSw; (try dsimp only at hSw); go_simp; (try (with_reducible rfl))
    try simp only [Act.put, List.setIfInBounds_toArray, List.set_cons_zero, List.set_cons_succ]
    refine wpAnyH_take (i := 20) (oi := ⟨_, _, _, _, _, _⟩) (v := ?_) rfl (by kernel_rfl) (by kernel_rfl) (by kernel_rfl) (fun _ _ _ h => h) (Or.inl ⟨by rfl, ?_⟩) (by assumption) ?_
    rotate_left
    · intro w hSw; (try dsimp only at hSw); go_simp; (try (with_reducible rfl))
    try simp only [Act.put, List.setIfInBounds_toArray, List.set_cons_zero, List.set_cons_succ]
    refine wpAnyH_ready (rs := [21]) (by kernel_rfl) (by simp) ?_
    refine AllReadyH.cons (o := ⟨_, _, _, _, _, _⟩) rfl (fun K hK => ?_) AllReadyH.nil
    go_simp
    refine (fit_is qF _ n c _ HN.out.symm hra (by omega)).mono ?_
    rintro e w5 ⟨rfl, rfl⟩
    refine hK.out _ _ hSa (fun hHeld => ?_)
    clear hK K
    try simp only [Act.put, List.setIfInBounds_toArray, List.set_cons_zero, List.set_cons_succ]
    refine wpAnyH_take (i := 22) (oi := ⟨_, _, _, _, _, _⟩) (v := ?_) rfl (by kernel_rfl) (by kernel_rfl) (by kernel_rfl) (fun _ _ _ h => h) (Or.inl ⟨by rfl, ?_⟩) (by assumption) ?_
    rotate_left
    · intro w hSw; (try dsimp only at hSw); go_simp; (try (with_reducible rfl))
    try simp only [Act.put, List.setIfInBounds_toArray, List.set_cons_zero, List.set_cons_succ]
    refine wpAnyH_take (i := 23) (oi := ⟨_, _, _, _, _, _⟩) (v := ?_) rfl (by kernel_rfl) (by kernel_rfl) (by kernel_rfl) (fun _ _ _ h => h) (Or.inl ⟨by rfl, ?_⟩) (by assumption) ?_
    rotate_left
    · intro w hSw; (try dsimp only at hSw); go_simp; (try (with_reducible rfl))
    try simp only [Act.put, List.setIfInBounds_toArray, List.set_cons_zero, List.set_cons_succ]
    refine wpAnyH_done (by kernel_rfl) ?_ _
    clear hHeld
    go_wp2
    go_ret
    exact ⟨ret_bool HF.out.symm, bwa⟩
theorem rightPiece_any {w : World} {C : Option Addr} {c : Nat} {p : Pce} (hr : Rd w C (intV p.chunks)) (hc : p.chunks.length ≤ c) (hcm : c ≤ maxLen) :
    Calls Tryd.prog 27 #[pcA p C c] w fun e w' => e = .returned (.bool (pcB p)) ∧ Below w.heap.size w w' := by
  cases hk : (rt p.l p.r && !(decide (p.l = 0) && decide (p.r = 0))) with
  | false => exact rightPiece_bad hr hc hcm hk
  | true => exact rightPiece_good hr hc hcm hk
end Go.Proofs.YteimgnmjmpeobaaDoor
namespace Go.Proofs.YteimgnmjmpeobaaDoor
open Go.RowKit

theorem Blk.row {w : World} {g : Nat} {cs cs' : List Value} {t : TypeId} (h : Blk w g cs t) : Blk (w.setRow g cs'.toArray) g cs' t := setRow_heap w g cs.toArray cs'.toArray t (0, 0) h
theorem Blk.rowOther {w : World} {g k : Nat} {cs : List Value} {t : TypeId} (h : Blk w k cs t) (hne : k ≠ g) (x : Array Value) : Blk (w.setRow g x) k cs t := by
  unfold Blk
  rw [setRow_other w g k x hne]
  exact h
theorem Blk.read {w : World} {g : Nat} {cs : List Value} {t : TypeId} (h : Blk w g cs t) (o : Nat) (xs : List Value) (hx : ∀ j u, xs[j]? = some u → cs[o + j]? = some u) : ∀ j u, xs[j]? = some u → w.cell? ((⟨g, o, none⟩ : Addr).add j) = some u := by
  intro j u hu
  rw [Addr.add_lit, h.cell]
  exact hx j u hu
theorem wp_copy2 {P : Program} (w : World) {o : Oper} {a : Act} {K : Act → World → Prop} {Q : Exit → Act → World → Prop} (d s : Operand) (t t' : TypeId)
    (ho : o.op = .call { callee := .builtin .copy, args := #[d, s], argTypes := #[t, t'] }) (v u : Value) (hd : a.eval d = v) (hs : a.eval s = u) {v' : Value} {w' : World}
    (hr : (Builtin.copy_ #[t, t'] o.type #[v, u]).run P w = .ok v' w') (h : K (a.put o.dst v') w') : o.wp P a w K Q := by
  unfold Oper.wp
  simp [execOp, ho, resolve, invoke, builtin, hd, hs, hr, Result.andThen]
  exact h
theorem wpCopy {P : Program} (w : World) {ops : Array Oper} {rest : List Oper} {o : Oper} {a : Act} {Q : Exit → Act → World → Prop} (hgd : o.guard = none) (d s : Operand) (t t' : TypeId)
    (ho : o.op = .call { callee := .builtin .copy, args := #[d, s], argTypes := #[t, t'] }) (v u : Value) (hd : a.eval d = v) (hs : a.eval s = u) {v' : Value} {w' : World}
    (hr : (Builtin.copy_ #[t, t'] o.type #[v, u]).run P w = .ok v' w') (h : wpList P ops Q rest (a.put o.dst v') w') : wpList P ops Q (o :: rest) a w :=
  wpList_plain hgd fun _ hK => wp_copy2 w d s t t' ho v u hd hs hr (hK _ _ h)
theorem stepCopy {P : Program} {w w' : World} {ops : Array Oper} {o : Oper} {a : Act} {K : Act → World → Prop} {Q : Exit → Act → World → Prop} {E : Prop} (hw : Region.wanted o (yielded ops a.tmps) = true) (d s : Operand) (t t' : TypeId)
    (ho : o.op = .call { callee := .builtin .copy, args := #[d, s], argTypes := #[t, t'] }) (v u v' : Value) (hd : a.eval d = v) (hs : a.eval s = u)
    (hr : (Builtin.copy_ #[t, t'] o.type #[v, u]).run P w = .ok v' w') (h : K (a.put o.dst v') w') : if Region.wanted o (yielded ops a.tmps) = true then Oper.wp P o a w K Q else E := by
  rw [if_pos hw]
  exact wp_copy2 w d s t t' ho v u hd hs hr h
theorem stepApp2 {P : Program} {w w' : World} {ops : Array Oper} {o : Oper} {a : Act} {K : Act → World → Prop} {Q : Exit → Act → World → Prop} {E : Prop} (hw : Region.wanted o (yielded ops a.tmps) = true) (s x : Operand) (t : TypeId)
    (ho : o.op = .call { callee := .builtin .append, args := #[s, x], argTypes := #[t, t] }) (v1 v2 v : Value) (hs : a.eval s = v1) (hx : a.eval x = v2)
    (hrun : (Builtin.append_ #[t, t] o.type #[v1, v2]).run P w = .ok v w') (h : K (a.put o.dst v) w') : if Region.wanted o (yielded ops a.tmps) = true then Oper.wp P o a w K Q else E := by
  rw [if_pos hw]
  exact Lib.wp_append_run w s x t t ho v1 v2 hs hx v w' hrun h
end Go.Proofs.YteimgnmjmpeobaaDoor
namespace Go.Proofs.YteimgnmjmpeobaaDoor
open Go.RowKit

/-- A new row begins with these bytes. -/
def Bytes8 (w : World) (g : Nat) (l : List UInt8) : Prop :=
  ∃ C fr t, w.heap[g]? = some (.cells C t fr) ∧ (∀ (i : Nat) (b : UInt8), l[i]? = some b → C[i]? = some (Value.int .u8 (b.toNat : Int))) ∧ ∀ i, i < l.length → i < fr.1
section
variable {w : World} {g : Nat} {l : List UInt8}
theorem Bytes8.cell (h : Bytes8 w g l) (i : Nat) (hi : i < l.length) : w.cell? ⟨g, i, none⟩ = some (.int .u8 (l[i].toNat : Int)) := by
  obtain ⟨C, fr, t, h1, h2, _⟩ := h
  rw [cell_of_row w g i C t fr h1]
  exact h2 i _ (List.getElem?_eq_getElem hi)
theorem Bytes8.rd (h : Bytes8 w g l) : Rd w (some ⟨g, 0, none⟩) (by8 l) := by
  refine .inr ⟨_, rfl, fun j u hu => ?_⟩
  have hj : j < l.length := by have := (List.getElem?_eq_some_iff.1 hu).1; rwa [by8_length] at this
  rw [by8_at l j hj] at hu
  injection hu with hu
  rw [Addr.add_lit, Nat.zero_add, h.cell j hj, hu]
theorem Bytes8.frozen (h : Bytes8 w g l) (i : Nat) (hi : i < l.length) : w.frozen? ⟨g, i, none⟩ = false := by
  obtain ⟨C, fr, t, h1, _, h3⟩ := h
  have := h3 i hi
  simp [World.frozen?, h1]
  omega
theorem Bytes8.set_ (h : Bytes8 w g l) (k : Nat) (b : UInt8) : Bytes8 (w.setCell ⟨g, k, none⟩ (.int .u8 (b.toNat : Int))) g (l.set k b) := by
  obtain ⟨C, fr, t, h1, h2, h3⟩ := h
  refine ⟨C.setIfInBounds k (.int .u8 (b.toNat : Int)), fr, t, by simp [World.setCell, Array.getElem?_modify, h1], ?_, by simpa using h3⟩
  intro i x hx
  rw [List.getElem?_set] at hx
  rw [Array.getElem?_setIfInBounds]
  split at hx
  · rename_i e
    subst e
    split at hx
    · rename_i hk
      injection hx with hx
      have := h2 k _ (List.getElem?_eq_getElem hk)
      rw [if_pos rfl, if_pos (Array.getElem?_eq_some_iff.1 this).1, hx]
    · cases hx
  · rename_i e
    rw [if_neg e]
    exact h2 i x hx
end
theorem conv_bytesC (s : ByteArray) (w : World) (hs : s.size ≤ 140737488355328) : ∃ c w', s.size ≤ c ∧ c ≤ maxLen ∧ (convert 9 72 (.string s)).run Tryd.prog w = .ok (.slice (some ⟨w.heap.size, 0, none⟩) s.size c) w' ∧ Bytes8 w' w.heap.size s.data.toList ∧ Below w.heap.size w w' := by
  refine ⟨_, _, grownCap_ge w _ _ _, grownCap_le_maxLen w _ _ _ (by unfold maxLen; omega), run_bytes_of_string w 9 72 5 s Tryd.underlying9 Tryd.underlying72 Tryd.underlying5, ?_, ?_⟩
  · refine ⟨_, _, _, heap_alloc_new w.drew _, ?_, ?_⟩
    · intro i b hb
      have hi : i < s.data.size := by have := (List.getElem?_eq_some_iff.1 hb).1; simpa using this
      have e : s.data[i] = b := by
        rw [Array.getElem?_toList, Array.getElem?_eq_getElem hi] at hb
        injection hb
      unfold bytesRow
      rw [Array.getElem?_append_left (by simpa using hi), Array.getElem?_map, Array.getElem?_eq_getElem hi, e]
      rfl
    · intro i hi
      have hi' : i < s.data.size := by simpa using hi
      simp only [bytesRow, Array.size_append, Array.size_map]
      omega
  · exact ((Below.refl w.heap.size w).drew).alloc (Nat.le_refl _) _
theorem conv_bytes (s : ByteArray) (w : World) : ∃ c w', (convert 9 72 (.string s)).run Tryd.prog w = .ok (.slice (some ⟨w.heap.size, 0, none⟩) s.size c) w' ∧ Bytes8 w' w.heap.size s.data.toList ∧ Below w.heap.size w w' := by
  refine ⟨_, _, run_bytes_of_string w 9 72 5 s Tryd.underlying9 Tryd.underlying72 Tryd.underlying5, ?_, ?_⟩
  · refine ⟨_, _, _, heap_alloc_new w.drew _, ?_, ?_⟩
    · intro i b hb
      have hi : i < s.data.size := by have := (List.getElem?_eq_some_iff.1 hb).1; simpa using this
      have e : s.data[i] = b := by
        rw [Array.getElem?_toList, Array.getElem?_eq_getElem hi] at hb
        injection hb
      unfold bytesRow
      rw [Array.getElem?_append_left (by simpa using hi), Array.getElem?_map, Array.getElem?_eq_getElem hi, e]
      rfl
    · intro i hi
      have hi' : i < s.data.size := by simpa using hi
      simp only [bytesRow, Array.size_append, Array.size_map]
      omega
  · exact ((Below.refl w.heap.size w).drew).alloc (Nat.le_refl _) _
theorem Bytes8.below {w w' : World} {g : Nat} {l : List UInt8} (h : Bytes8 w g l) (hb : Below w.heap.size w w') : Bytes8 w' g l := by
  obtain ⟨C, fr, t, h1, h2, h3⟩ := h
  exact ⟨C, fr, t, by rw [hb.block g (Array.getElem?_eq_some_iff.1 h1).1]; exact h1, h2, h3⟩
theorem Bytes8.lt {w : World} {g : Nat} {l : List UInt8} (h : Bytes8 w g l) : g < w.heap.size := by
  obtain ⟨C, fr, t, h1, _⟩ := h
  exact (Array.getElem?_eq_some_iff.1 h1).1
theorem Blk.rd {w : World} {g : Nat} {cs : List Value} {t : TypeId} (h : Blk w g cs t) : Rd w (some ⟨g, 0, none⟩) cs :=
  .inr ⟨_, rfl, fun j u hu => by rw [Addr.add_lit, Nat.zero_add, h.cell j, hu]⟩

/-- n zeroes. -/
def zer (n : Nat) : List UInt8 := List.replicate n 0
theorem zer_length (n : Nat) : (zer n).length = n := List.length_replicate
theorem made_zer (n : Nat) : madeCells (Value.int .u8 0).cells n = (by8 (zer n)).toArray := by
  apply Array.ext'
  rw [show (Value.int .u8 0).cells = #[.int .u8 0] from rfl, toList_madeCells_one]
  simp [by8, zer]
/-- make([]byte, n). -/
theorem make_zer (n : Nat) (hn : n ≤ 140737488355328) (w : World) : (Instr.makeSlice 72 (.int .i64 (n : Int)) (.int .i64 (n : Int))).run Tryd.prog w = .ok (.slice (some ⟨w.heap.size, 0, none⟩) n n) (w.alloc (.cells (by8 (zer n)).toArray 5)) := by
  obtain ⟨i, hi, hz0, hz1, hz2⟩ := info_parts Tryd.info8
  rw [run_make w 72 5 i (.int .u8 0) Tryd.underlying72 hi hz0 .i64 .i64 n n (by omega) (by omega) (by rw [hz2]; omega) (by omega), Int.toNat_natCast, hz1, Nat.mul_one, made_zer]
end Go.Proofs.YteimgnmjmpeobaaDoor
namespace Go.Proofs.YteimgnmjmpeobaaDoor
open Go.RowKit

theorem headR_nums (m : Man) : headR m = (numsR m.author m.version m.prev m.epoch m.next m.seen m.head && decide (m.pieces.length ≤ 32)) := by
  unfold headR
  congr 1
  exact (Bool.eq_iff_iff.2 numsR_iff).symm
theorem manR_split (m : Man) : manR m = (numsR m.author m.version m.prev m.epoch m.next m.seen m.head && decide (m.pieces.length ≤ 32) && (m.pieces.all pcB && sortedL (m.pieces.map ppth))) := by
  unfold manR
  rw [headR_nums, Bool.and_assoc]
  congr 1
  cases hs : sortedL (m.pieces.map ppth) with
  | false => simp
  | true =>
    rw [Bool.and_true, Bool.and_true]
    refine Bool.eq_iff_iff.2 ?_
    rw [List.all_eq_true, List.all_eq_true]
    constructor
    · intro h p hp
      have := h p hp
      rw [pceR_split, Bool.and_eq_true] at this
      exact this.2
    · intro h p hp
      rw [pceR_split, Bool.and_eq_true]
      exact ⟨srt_right hs _ (List.mem_map_of_mem hp), h p hp⟩

theorem noSs (n : Nat) : madeCells (Value.string ⟨#[]⟩).cells n = (strV (List.replicate n noS)).toArray := by
  apply Array.ext'
  rw [show (Value.string ⟨#[]⟩).cells = #[.string ⟨#[]⟩] from rfl, toList_madeCells_one]
  simp [strV]
/-- make([]string, n). -/
theorem make_strs (n : Nat) (hn : n ≤ 1000000) (w : World) : (Instr.makeSlice 59 (.int .i64 (n : Int)) (.int .i64 (n : Int))).run Tryd.prog w = .ok (.slice (some ⟨w.heap.size, 0, none⟩) n n) (w.alloc (.cells (strV (List.replicate n noS)).toArray 9)) := by
  obtain ⟨i, hi, hz0, hz1, hz2⟩ := info_parts Tryd.infoS
  rw [run_make w 59 9 i (.string ⟨#[]⟩) Tryd.underlying59 hi hz0 .i64 .i64 n n (by omega) (by omega) (by rw [hz2]; omega) (by omega), Int.toNat_natCast, hz1, Nat.mul_one, noSs]
def pathsOf (ps : List Pce) : List ByteArray := ps.map (·.path)
theorem paths_set {ps : List Pce} {n j : Nat} (hn : ps.length = n) (hj : j < ps.length) : (strV (pathsOf (ps.take j) ++ List.replicate (n - j) noS)).set j (.string ps[j].path) = strV (pathsOf (ps.take (j + 1)) ++ List.replicate (n - (j + 1)) noS) := by
  unfold strV pathsOf
  rw [← List.map_set]
  congr 1
  rw [List.set_append_right _ _ (by simp; omega), List.length_map, List.length_take, Nat.min_eq_left (by omega), Nat.sub_self, show n - j = (n - (j + 1)) + 1 by omega, List.replicate_succ, List.set_cons_zero, List.take_add_one, List.getElem?_eq_getElem hj, List.map_append, List.append_assoc]
  rfl

set_option maxHeartbeats 4000000 in
set_option maxRecDepth 20000 in
theorem right12_any {w : World} {A : Option Addr} {c : Nat} {m : Man} (h : Mt w A c m) (hs : ∀ p ∈ m.pieces, p.path.size < 4294967281) :
    Calls Tryd.prog 19 #[manV m A c] w fun e w' => e = .returned (.bool (manR m)) ∧ Below w.heap.size w w' := by
  obtain ⟨a1, a2, a3, a4, a5, a6, a7, ps⟩ := m
  obtain ⟨hps, hcap, hcm⟩ := h
  dsimp only at hps hcap hs
  unfold manV
  dsimp only
  have hal : ∀ (W : World) (o : Obj), Below W.heap.size W (W.alloc o) := fun W o => (Below.refl _ _).alloc (Nat.le_refl _) o
  obtain ⟨n, hn0⟩ : ∃ n, n = ps.length := ⟨_, rfl⟩
  have hnb : n ≤ c ∧ c ≤ 9223372036854775807 := by unfold maxLen at hcm; omega
  have HR : Hid (manR ⟨a1, a2, a3, a4, a5, a6, a7, ps⟩ = (numsR a1 a2 a3 a4 a5 a6 a7 && decide (n ≤ 32) && (ps.all pcB && sortedL (ps.map ppth)))) := by rw [hn0]; exact manR_split _
  rw [← hn0]
  have HN := hid hn0
  have HSZ := hid hs
  clear hn0 hs hcap hcm
  generalize manR ⟨a1, a2, a3, a4, a5, a6, a7, ps⟩ = Z at *
  have pk := Blk.new w [.int .i64 a1, .int .i64 a2, .int .i64 a3, .int .i64 a4, .int .i64 a5, .int .i64 a6, .int .i64 a7, .slice A n c] 26
  have b0 := hal w (.cells #[.int .i64 a1, .int .i64 a2, .int .i64 a3, .int .i64 a4, .int .i64 a5, .int .i64 a6, .int .i64 a7, .slice A n c] 26)
  by_cases h32 : (32 : Int) < n
  · have HF : Hid (Z = false) := by show _ = _; rw [HR.out, decide_eq_false (by omega)]; simp
    go_enter Tryd.func19, Tryd.ntmps19
    go_wp2
    go_ret
    exact ⟨ret_bool HF.out.symm, b0⟩
  go_enter Tryd.func19, Tryd.ntmps19
  go_wp2_with fail
  refine (rightNumbers_any A c n a1 a2 a3 a4 a5 a6 a7 _).mono ?_
  rintro e w1 ⟨rfl, b1⟩
  simp only
  have pk1 := pk.below b1
  have bw := b0.trans (b1.mono b0.size)
  have k7 := pk1.cell 7
  have lg := pk1.lt
  simp only [List.getElem?_cons_zero, List.getElem?_cons_succ] at k7
  clear pk pk1 b0 b1
  cases hN : numsR a1 a2 a3 a4 a5 a6 a7
  · have HF : Hid (Z = false) := by show _ = _; rw [HR.out, hN]; simp
    go_wp2
    go_ret
    exact ⟨ret_bool HF.out.symm, bw⟩
  have HZ : Hid (Z = (ps.all pcB && sortedL (ps.map ppth))) := by show _ = _; rw [HR.out, hN, decide_eq_true (by omega)]; simp
  have hn32 : n ≤ 32 := by omega
  have hmk := make_strs n (by omega) w1
  have pb := Blk.new w1 (strV (List.replicate n noS)) 9
  have b2 := hal w1 (.cells (strV (List.replicate n noS)).toArray 9)
  have k7b := (b2.cell (p := ⟨w.heap.size, 7, none⟩) lg).trans k7
  clear hN HR
  go_wp2_with fail
  generalize w1.alloc (.cells (strV (List.replicate n noS)).toArray 9) = w2 at *
  have bw2 := bw.trans (b2.mono bw.size)
  have hgw : w.heap.size ≤ w1.heap.size := bw.size
  generalize w1.heap.size = g at *
  have hg2 := pb.lt
  clear k7 k7b b2 bw lg hmk
  go_loopw [22] (fun i wr => ∃ j : Nat, j ≤ n ∧ i = .int .i64 j ∧ Hid ((ps.take j).all pcB = true) ∧ Blk wr g (strV (pathsOf (ps.take j) ++ List.replicate (n - j) noS)) 9 ∧ Below w.heap.size w wr) (fun i _ => n - (intOf i).toNat)
  case atStart => exact ⟨0, by omega, rfl, rfl, by simpa [pathsOf] using pb, bw2⟩
  case round =>
    clear pb bw2 hg2
    obtain ⟨j, hj, rfl, HT, pb, bw⟩ := hrel
    have hp := hps.below bw
    have hg2 := pb.lt
    by_cases hjn : j < n
    · have hjl : j < ps.length := by rw [← HN.out]; exact hjn
      have hz : (0 : Int) ≤ j := by omega
      have hlt : (j : Int) < n := by omega
      obtain ⟨b, og, C, cc, rfl, x0, x1, x2, x3, x4, x5, x6, rx, hcx, hcx2, -⟩ := hp.pc hjl
      have HT2 : Hid ((ps.take (j + 1)).all pcB = pcB ps[j]) := by show _ = _; rw [all_more pcB ps j hjl, HT.out, Bool.true_and]
      have HNE : Hid (pcB ps[j] = false → Z = false) := by
        refine hid fun h => ?_
        rw [HZ.out]
        have : ps.all pcB = false := by
          refine Bool.eq_false_iff.2 fun ha => ?_
          rw [List.all_eq_true] at ha
          exact Bool.false_ne_true (h.symm.trans (ha _ (List.getElem_mem hjl)))
        rw [this]; rfl
      have HSET := hid (paths_set HN.out.symm hjl)
      have HJ := hid hjn
      generalize ps[j] = x at *
      obtain ⟨xp, xh, xs, xc, xd, xl, xr⟩ := x
      dsimp only at x0 x1 x2 x3 x4 x5 x6 rx hcx HSET
      have b3 := hal wr (.cells #[.string xp, .bool xh, .int .i64 xs, .slice C xc.length cc, .int .i64 xd, .int .i64 xl, .int .i64 xr] 57)
      have px := Blk.new wr [.string xp, .bool xh, .int .i64 xs, .slice C xc.length cc, .int .i64 xd, .int .i64 xl, .int .i64 xr] 57
      have rx3 := rx.below b3
      have cP := rightPiece_any (p := ⟨xp, xh, xs, xc, xd, xl, xr⟩) rx3 hcx hcx2
      go_wp2_with fail
      refine cP.mono ?_
      rintro e w4 ⟨rfl, b4⟩
      simp only
      have px4 := px.below b4
      have b34 := below2 b3 b4
      have pb4 := pb.below b34
      have bw4 := bw.trans (b34.mono bw.size)
      have y0 := px4.cell 0
      simp only [List.getElem?_cons_zero] at y0
      have fz := pb4.frozen j
      have pz := pb4.cell j
      have pb5 := pb4.set_ j (.string xp)
      rw [HSET.out] at pb5
      have hz2 : ∃ u, (strV (pathsOf (ps.take j) ++ List.replicate (n - j) noS))[j]? = some u := ⟨_, List.getElem?_eq_getElem (by rw [strV_length, List.length_append, pathsOf, List.length_map, List.length_take, List.length_replicate]; have := HJ.out; have := HN.out; omega)⟩
      obtain ⟨u, hu⟩ := hz2
      rw [hu] at pz
      clear cP hu x0 x1 x2 x3 x4 x5 x6 rx rx3 b3 px b34 hp pb px4 HSET
      cases hq : pcB ⟨xp, xh, xs, xc, xd, xl, xr⟩
      · have HF := hid (HNE.out hq)
        clear HNE HT2
        go_wp2
        go_ret
        exact ⟨ret_bool HF.out.symm, bw4⟩
      · have HT3 := hid (HT2.out.trans hq)
        clear HNE HT2 hq
        have bw5 := bw4.setCell (p := ⟨g, j, none⟩) hgw (.string xp)
        go_wp2
        go_roundw
        case rel => exact ⟨j + 1, HJ.out, by go_num, HT3, pb5, bw5⟩
        case measure => have := HJ.out; simp [intOf]; omega
    · have hjn2 : j = n := by omega
      have hnl : ¬ (j : Int) < n := by omega
      rw [hjn2, Nat.sub_self, List.replicate_zero, List.append_nil, List.take_of_length_le (by rw [HN.out]; exact Nat.le_refl _)] at pb
      have HF : Hid (Z = sortedL (lst (pathsOf ps))) := by
        have ht := HT.out
        rw [hjn2, List.take_of_length_le (by rw [HN.out]; exact Nat.le_refl _)] at ht
        show _ = _
        rw [HZ.out, ht, Bool.true_and]
        congr 1
        simp [lst, pathsOf, ppth]
      have cS := sorted_any (some ⟨g, 0, none⟩) n n (pathsOf ps) wr (by rw [pathsOf, List.length_map, HN.out]) (Blk.rd pb) (by omega) (fun s hs => by
        obtain ⟨p, hp, rfl⟩ := List.mem_map.1 hs
        exact HSZ.out p hp)
      rw [← HF.out] at cS
      go_wp2_with fail
      refine cS.mono ?_
      rintro e w5 ⟨rfl, b5⟩
      have bw5 := bw.trans (b5.mono bw.size)
      go_wp2
      go_ret
      exact ⟨rfl, bw5⟩
end Go.Proofs.YteimgnmjmpeobaaDoor
namespace Go.Proofs
open Go.Shelf

namespace YteimgnmjmpeobaaDoor
open Go.RowKit

/-- Bytes as cells, the library's way. -/
theorem cells_by8 (l : List UInt8) : Lib.byteCells l = by8 l := rfl

/-! ### The blocks that a builder may turn -/
def FB (B b : Nat) (w : World) (k : Nat) : Prop := k = b ∨ (B ≤ k ∧ ∃ cs fr, w.heap[k]? = some (.cells cs 5 fr))
def FrB (B b : Nat) (w w' : World) : Prop := Fr (FB B b w) w w'
section
variable {B b : Nat} {x y z : World}
theorem FrB.refl (B b : Nat) (w : World) : FrB B b w w := Fr.refl _ _
theorem FrB.trans (h : FrB B b x y) (k : FrB B b y z) : FrB B b x z := by
  refine Fr.trans h k fun i hi => ?_
  rcases hi with hi | ⟨hB, cs, fr, hi⟩
  · exact .inl (.inl hi)
  · by_cases hs : i < x.heap.size
    · by_cases hF : FB B b x i
      · exact .inl hF
      · exact .inl (.inr ⟨hB, cs, fr, (h.block i hs hF).symm.trans hi⟩)
    · exact .inr (by omega)
theorem FrB.below (h : FrB B b x y) (hb : B ≤ b) (hx : B ≤ x.heap.size) : Below B x y := by
  refine Fr.to_below h (fun i hi => ?_) hx
  rcases hi with rfl | ⟨h, -⟩
  · exact hb
  · exact h
theorem FrB.of_below (h : Below x.heap.size x y) : FrB B b x y := Fr.of_below _ h
theorem FrB.drewN (h : FrB B b x y) (n : Nat) : FrB B b x (y.drewN n) := ⟨h.os, h.tape, h.output, h.size, h.block⟩
theorem FrB.blk {g : Nat} {cs : List Value} {t : TypeId} (h : FrB B b x y) (hb : Blk x g cs t) (ht : t ≠ 5) (hg : g ≠ b) : Blk y g cs t := by
  unfold Blk
  rw [h.block g hb.lt ?_]
  · exact hb
  · rintro (h1 | ⟨-, cs', fr, h1⟩)
    · exact hg h1
    · unfold Blk at hb
      rw [hb] at h1
      injection h1 with h1
      injection h1 with _ h1 _
      exact ht h1
/-- Where numbers lie that a builder's writes leave as they are. -/
def Far (B : Nat) (w : World) (A : Option Addr) : Prop := ∀ ad, A = some ad → ad.block < B ∨ ∃ cs t fr, w.heap[ad.block]? = some (.cells cs t fr) ∧ t ≠ 5
theorem Far.of_blk {w : World} {g o : Nat} {cs : List Value} {t : TypeId} (h : Blk w g cs t) (ht : t ≠ 5) : Far B w (some ⟨g, o, none⟩) := fun ad e => by
  injection e with e
  subst e
  exact .inr ⟨_, _, _, h, ht⟩
theorem Rd.low {w : World} {A : Option Addr} {l : List Int} (h : Rd w A (intV l)) : l = [] ∨ ∀ W, Far w.heap.size W A := by
  rcases h with h | ⟨ad, rfl, hc⟩
  · exact .inl (by cases l with
      | nil => rfl
      | cons a l => simp [intV] at h)
  · cases l with
    | nil => exact .inl rfl
    | cons a l =>
      refine .inr fun W ad' e => ?_
      injection e with e
      subst e
      have h0 := World.block_lt_of_cell? w _ (hc 0 (.int .i64 a) rfl)
      rw [add_block] at h0
      exact .inl h0
theorem FrB.rd {A : Option Addr} {l : List Int} (h : FrB B b x y) (hr : Rd x A (intV l)) (hA : l = [] ∨ Far B x A) (hb : ∀ o u, x.cell? ⟨b, o, none⟩ = some u → u ∉ intV l) : Rd y A (intV l) := by
  rcases hr with hr | ⟨ad, rfl, hc⟩
  · exact .inl hr
  · refine .inr ⟨ad, rfl, fun j u hu => ?_⟩
    have hin := hc j u hu
    have hlt := World.block_lt_of_cell? x _ hin
    refine (World.cell?_of_block (h.block _ hlt ?_)).trans hin
    rw [add_block]
    rintro (h1 | ⟨hB, cs', fr, h1⟩)
    · have hz := hc 0 _ (List.getElem?_eq_getElem (show 0 < (intV l).length by have := (List.getElem?_eq_some_iff.1 hu).1; omega))
      have hs := World.cell?_spot hz
      obtain ⟨b', o', s⟩ := ad
      have hs' : s = none := by simpa [Addr.add] using hs
      subst hs'
      dsimp only at h1
      subst h1
      rw [Addr.add_lit] at hin
      exact hb _ u hin (List.mem_of_getElem? hu)
    · have hA' : Far B x (some ad) := hA.resolve_left fun e => by rw [e] at hu; simp [intV] at hu
      rcases hA' ad rfl with h2 | ⟨cs, t, fr2, h2, ht⟩
      · omega
      · rw [h2] at h1
        injection h1 with h1
        injection h1 with _ h1 _
        exact ht h1
end

/-! ### copyCheck, Write -/
end YteimgnmjmpeobaaDoor
end Go.Proofs
namespace Go.Proofs.YteimgnmjmpeobaaDoor
open Go.RowKit

/-- What the landed code's reader takes at most. -/
abbrev L0 : Lim := ⟨4294967295, 4294967295, 4294967295, 4294967295, 4294967295, 4294967295, 4294967295, 32, 16384, 1, 600, 4294967295, 1073741824, 1073741824, 10, 4294967295⟩
theorem L0_ok : L0.Ok := by constructor <;> decide
/-- Eight stores into a block. -/
theorem sets8 (w : World) (b : Nat) (u0 u1 u2 u3 u4 u5 u6 u7 : Value) :
    w.grownBy ((((((((w.setCell ⟨b, 0, none⟩ u0).setCell ⟨b, 1, none⟩ u1).setCell ⟨b, 2, none⟩ u2).setCell ⟨b, 3, none⟩ u3).setCell ⟨b, 4, none⟩ u4).setCell ⟨b, 5, none⟩ u5).setCell ⟨b, 6, none⟩ u6).setCell ⟨b, 7, none⟩ u7) (some b) :=
  grown_trans (grown_trans (grown_trans (grown_trans (grown_trans (grown_trans (grown_trans (grown_set 0 u0) (grown_set 1 u1)) (grown_set 2 u2)) (grown_set 3 u3)) (grown_set 4 u4)) (grown_set 5 u5)) (grown_set 6 u6)) (grown_set 7 u7)
theorem far_row {n b : Nat} (h : n ≤ b) : ∀ k, some b = some k → n ≤ k := fun k e => by injection e with e; omega
end Go.Proofs.YteimgnmjmpeobaaDoor
namespace Go.Proofs.YteimgnmjmpeobaaDoor
open Go.RowKit

/-- A piece as it is read, but for its chunks. -/
def rPc0 (l : List UInt8) (p : Nat) (e : Int) : Pce × Nat × Int :=
  let a := rStr l p e 16384
  let b := rNum l a.2.1 a.2.2 1
  let c := rNum l b.2.1 b.2.2 600
  let d := rNum l c.2.1 c.2.2 4294967295
  let f := rNum l d.2.1 d.2.2 1073741824
  let g := rNum l f.2.1 f.2.2 1073741824
  (⟨toS a.1, decide (b.1 = 1), c.1, [], d.1, f.1, g.1⟩, g.2)
theorem rPce_pc0 (l : List UInt8) (p : Nat) (e : Int) : rPce L0 l p e =
    ({ (rPc0 l p e).1 with chunks := (rInts l (rNum l (rPc0 l p e).2.1 (rPc0 l p e).2.2 10).2.1 (rNum l (rPc0 l p e).2.1 (rPc0 l p e).2.2 10).2.2 4294967295 (rNum l (rPc0 l p e).2.1 (rPc0 l p e).2.2 10).1.toNat).1 },
      (rInts l (rNum l (rPc0 l p e).2.1 (rPc0 l p e).2.2 10).2.1 (rNum l (rPc0 l p e).2.1 (rPc0 l p e).2.2 10).2.2 4294967295 (rNum l (rPc0 l p e).2.1 (rPc0 l p e).2.2 10).1.toNat).2) := rfl
theorem rNum_le (l : List UInt8) (p : Nat) (e most : Int) (hm : 0 ≤ most) : ∃ k : Nat, (rNum l p e most).1 = k ∧ (k : Int) ≤ most := by
  rcases rNum_cases l p e most with ⟨e', -, h⟩ | ⟨n, h1, -, -, -, -, h⟩
  · exact ⟨0, by rw [h]; rfl, hm⟩
  · exact ⟨n, by rw [h], h1⟩
theorem rStr_len (l : List UInt8) (p : Nat) (e most : Int) : (rStr l p e most).1.length ≤ 16384 := by
  unfold rStr strOf
  rcases rNum_cases l p e (min most 16384) with ⟨e', he, h⟩ | ⟨n, h1, -, -, -, -, h⟩
  · rw [h, if_pos he]; simp
  · rw [h, if_neg (by simp)]
    split
    · simp
    · rw [List.length_take]
      simp only [Int.toNat_natCast]
      omega
theorem rPc0_len (l : List UInt8) (p : Nat) (e : Int) : (rPc0 l p e).1.path.size ≤ 16384 := by
  show (toS (rStr l p e 16384).1).size ≤ 16384
  rw [toS_size]
  exact rStr_len l p e 16384
theorem sets7 (w : World) (b : Nat) (u0 u1 u2 u3 u4 u5 u6 : Value) :
    w.grownBy (((((((w.setCell ⟨b, 0, none⟩ u0).setCell ⟨b, 1, none⟩ u1).setCell ⟨b, 2, none⟩ u2).setCell ⟨b, 3, none⟩ u3).setCell ⟨b, 4, none⟩ u4).setCell ⟨b, 5, none⟩ u5).setCell ⟨b, 6, none⟩ u6) (some b) :=
  grown_trans (grown_trans (grown_trans (grown_trans (grown_trans (grown_trans (grown_set 0 u0) (grown_set 1 u1)) (grown_set 2 u2)) (grown_set 3 u3)) (grown_set 4 u4)) (grown_set 5 u5)) (grown_set 6 u6)

end Go.Proofs.YteimgnmjmpeobaaDoor
namespace Go.Proofs.YteimgnmjmpeobaaDoor
open Go.RowKit

/-! ### Rows of the call's own, kept -/
def OwnC (base : Nat) (w : World) (x : Pw) : Prop := w.ownsRow base 3 1 (.slice x.C x.p.chunks.length x.c) x.p.chunks.length (intV x.p.chunks)
theorem OwnC.ck {base : Nat} {w : World} {x : Pw} (h : OwnC base w x) : CkAt w x := by
  obtain ⟨-, A', c', e, h1, h2⟩ := own_form h
  injection e with _ _ e3
  rw [← e3] at h1 h2
  exact ⟨Rd.of_own h, h1, h2⟩
theorem row_turn {w w' : World} {base : Nat} {e : TypeId} {sz : Nat} {v : Value} {n : Nat} {xs : List Value} (h : w.ownsRow base e sz v n xs) {g : Nat} (hg : w.grownBy w' (some g)) {cs : List Value} {t : TypeId} (hB : Blk w g cs t) (hne : t ≠ e) : w'.ownsRow base e sz v n xs := by
  refine ⟨h.1, ?_⟩
  rcases h.2 with h2 | ⟨k, cap, cur, hv, hb, hk, rest⟩
  · exact .inl h2
  · refine .inr ⟨k, cap, cur, hv, hb, ?_, rest⟩
    have hkl : k < w.heap.size := (Array.getElem?_eq_some_iff.1 hk).1
    rw [hg.block k hkl (fun e => by
      injection e.symm with e
      subst e
      unfold Blk at hB
      rw [hB] at hk
      injection hk with hk
      injection hk with _ hk _
      exact hne hk)]
    exact hk
/-- A row is kept where another one, of another type, grows. -/
theorem row_row {w w' : World} {base base' : Nat} {e e' : TypeId} {sz sz' : Nat} {v v' : Value} {n n' : Nat} {xs xs' : List Value} (h : w.ownsRow base e sz v n xs) (k : w.ownsRow base' e' sz' v' n' xs') (hg : w.grownBy w' v'.ownBlock) (hne : e' ≠ e) : w'.ownsRow base e sz v n xs := by
  refine ⟨h.1, ?_⟩
  rcases h.2 with h2 | ⟨i, cap, cur, hv, hb, hi, rest⟩
  · exact .inl h2
  · refine .inr ⟨i, cap, cur, hv, hb, ?_, rest⟩
    have hil : i < w.heap.size := (Array.getElem?_eq_some_iff.1 hi).1
    rw [hg.block i hil (fun e => by
      rcases k.2 with ⟨k2, -⟩ | ⟨j, cap', cur', k1, -, k3, -⟩
      · rw [k2] at e; cases e
      · rw [k1] at e
        simp only [Value.ownBlock, Option.some.injEq] at e
        subst e
        rw [hi] at k3
        injection k3 with k3
        injection k3 with _ k3 _
        exact hne k3.symm)]
    exact hi
theorem blk_row {w w' : World} {base : Nat} {e : TypeId} {sz : Nat} {v : Value} {n : Nat} {xs : List Value} {g : Nat} {cs : List Value} {t : TypeId} (hB : Blk w g cs t) (k : w.ownsRow base e sz v n xs) (hg : w.grownBy w' v.ownBlock) (hne : e ≠ t) : Blk w' g cs t := by
  refine hB.grown hg fun e' => ?_
  rcases k.2 with ⟨k2, -⟩ | ⟨j, cap', cur', k1, -, k3, -⟩
  · rw [k2] at e'; cases e'
  · rw [k1] at e'
    simp only [Value.ownBlock, Option.some.injEq] at e'
    subst e'
    unfold Blk at hB
    rw [hB] at k3
    injection k3 with k3
    injection k3 with _ k3 _
    exact hne k3.symm
theorem row_lt {w : World} {base : Nat} {e : TypeId} {sz : Nat} {v : Value} {n : Nat} {xs : List Value} (k : w.ownsRow base e sz v n xs) : ∀ i, v.ownBlock = some i → base ≤ i := by
  intro i hi
  rcases k.2 with ⟨k2, -⟩ | ⟨j, cap', cur', k1, kb, -⟩
  · rw [k2] at hi; cases hi
  · rw [k1] at hi
    simp only [Value.ownBlock, Option.some.injEq] at hi
    omega
theorem pce_e {M : List UInt8} {p : Nat} {e : Int} (h : (rPce L0 M p e).2.2 = 0) : e = 0 := (pce_one L0_ok h).1
theorem pces_e {M : List UInt8} {p : Nat} {e : Int} : ∀ k j, j ≤ k → (rPces L0 M p e k).2.2 = 0 → (rPces L0 M p e j).2.2 = 0
  | 0, j, hj, h => by
    have : j = 0 := by omega
    subst this; exact h
  | k + 1, j, hj, h => by
    by_cases e : j = k + 1
    · subst e; exact h
    · rw [rPces] at h
      exact pces_e k j (by omega) (pce_e h)
/-- What the whole comes to, by its parts. -/
theorem rMan_parts {l : List UInt8} {v1 v2 v3 v4 v5 v6 v7 : Int} {q : Nat} {e : Int} (h : rInts l 0 0 4294967295 7 = ([v1, v2, v3, v4, v5, v6, v7], q, e)) :
    rMan L0 l = (⟨v1, v2, v3, v4, v5, v6, v7, (rPces L0 l (rNum l q e 32).2.1 (rNum l q e 32).2.2 (rNum l q e 32).1.toNat).1⟩, (rPces L0 l (rNum l q e 32).2.1 (rNum l q e 32).2.2 (rNum l q e 32).1.toNat).2) := by
  simp only [rInts, List.nil_append, List.cons_append, Prod.mk.injEq, List.cons.injEq, and_true] at h
  obtain ⟨⟨h1, h2, h3, h4, h5, h6, h7⟩, h8⟩ := h
  unfold rMan
  dsimp only
  rw [h8]
  dsimp only
  subst h1 h2 h3 h4 h5 h6 h7
  rfl
theorem read_bad1 {l : List UInt8} (h : (rMan L0 l).2.2 ≠ 0) : readN L0 l = 4 := by
  refine (read_no fun k => ?_).1
  exact h (rEnd_zero.1 (readN_zero.1 k).1).1

/-- Read answered. -/
def ReadPost (w : World) (n : Nat) (m : Man) (e : Ending) (w' : World) : Prop :=
  ∃ A c, e = .returned (.tuple #[manV m A c, .int .i64 n]) ∧ Mt w' A c m ∧ Below w.heap.size w w'
/-- Read's label. -/
def RdJump (w : World) (gz : Nat) (l : List UInt8) (a' : Act) (w' : World) : Prop :=
  ∃ (u0 u1 u3 u4 u5 u6 u7 u8 u9 u10 u11 u12 u13 u14 u15 u16 u17 u18 u19 u20 u21 u22 u23 u24 u25 u26 u27 u28 u29 u30 u31 u32 u33 u34 u35 u36 u37 u38 u39 u40 u41 u42 u43 u44 u45 u46 u47 u48 u49 u50 : Value), a' = { tmps := #[u0, u1, .pointer (some ⟨gz, 0, none⟩), u3, u4, u5, u6, u7, u8, u9, u10, u11, u12, u13, u14, u15, u16, u17, u18, u19, u20, u21, u22, u23, u24, u25, u26, u27, u28, u29, u30, u31, u32, u33, u34, u35, u36, u37, u38, u39, u40, u41, u42, u43, u44, u45, u46, u47, u48, u49, u50], defers := [] } ∧ Hid (readN L0 l = 4) ∧ Blk w' gz [.int .i64 0, .int .i64 0, .int .i64 0, .int .i64 0, .int .i64 0, .int .i64 0, .int .i64 0, .slice none 0 0] 26 ∧ Below w.heap.size w w'
theorem ccnt10 (w : World) : Calls Tryd.prog 43 #[.int .i64 600] w fun e w' => e = .returned (.int .i64 10) ∧ w' = w :=
  (ccnt_is 600 w (by omega) (by omega)).mono fun _ _ k => ⟨k.1, k.2⟩

end Go.Proofs.YteimgnmjmpeobaaDoor
namespace Go.Proofs.YteimgnmjmpeobaaDoor
open Go.RowKit

theorem head_ints (m : Man) : manB m = (intsB [m.author, m.version, m.prev, m.epoch, m.next, m.seen, m.head] ++ intsB [(m.pieces.length : Int)]) ++ pcesB m.pieces := by
  unfold manB
  simp [intsB]
theorem piece_ints (x : Pce) : pceB x = (strB x.path ++ intsB [bitI x.has, x.size, x.digest, x.l, x.r, (x.chunks.length : Int)]) ++ intsB x.chunks := by
  unfold pceB
  simp [intsB]
theorem pcesB_le : ∀ (ps : List Pce), (∀ p ∈ ps, p.chunks.length ≤ 1000) → (pcesB ps).length ≤ 20412 * ps.length
  | [], _ => by simp [pcesB]
  | p :: ps, h => by
    have h1 := h p List.mem_cons_self
    have h2 := pcesB_le ps fun q hq => h q (List.mem_cons_of_mem _ hq)
    rw [pcesB_cons, List.length_append, pceB_length, List.length_cons]
    omega

end Go.Proofs.YteimgnmjmpeobaaDoor
namespace Go.Proofs.YteimgnmjmpeobaaDoor
open Go.RowKit

end Go.Proofs.YteimgnmjmpeobaaDoor
namespace Go.Proofs
open Go.Shelf
def Tryd.laysNm215_ren : Go.Shelf.Ren := ⟨fun | 15 => 39 | n => n, fun | 22 => 27 | 3 => 3 | 4 => 4 | n => n, fun | n => n⟩
theorem Tryd.laysNm215 : Go.Proofs.Lays2.n15 Tryd.prog Tryd.laysNm215_ren := {
  mixed := by kernel_rfl
  f15 := Tryd.func39.trans (congrArg some (by kernel_rfl))
  t3 := Tryd.underlying3
  a3 := Tryd.isAgg3
  z3 := Tryd.sizeOf3
  v3 := Tryd.zeroValue3
  t4 := Tryd.underlying4
  a4 := Tryd.isAgg4
  z4 := Tryd.sizeOf4
  v4 := Tryd.zeroValue4
  t22 := Tryd.underlying27
  a22 := Tryd.isAgg27
  z22 := Tryd.sizeOf27
  v22 := Tryd.zeroValue27
  i3 := by kernel_rfl }
open Go.RowKit Go.Lib in
theorem Tryd.slices_Clone_int (b off n c : Nat) (zs : List Int) (w : World) (hz : n ≤ zs.length) (hbig : n * 8 ≤ 140737488355328) (hc : ∀ j, j < zs.length → w.cell? ⟨b, off + j, none⟩ = some (.int .i64 (zs.getD j 0))) :
    Calls Tryd.prog 39 #[.slice (some ⟨b, off, none⟩) n c] w fun e w' => ∃ v', e = .returned v' ∧ w'.ownsRow w.heap.size 3 1 v' n ((zs.take n).map (Value.int .i64)) ∧ v' ≠ .slice none 0 0 ∧ Below w.heap.size w w' := Any.slices_Clone_int Tryd.laysNm215 b off n c zs w hz hbig hc
open Go.RowKit Go.Lib in
theorem Tryd.slices_Clone_int_nil (n c : Nat) (w : World) :
    Calls Tryd.prog 39 #[.slice none n c] w fun e w' => e = .returned (.slice none 0 0) ∧ w' = w := Any.slices_Clone_int_nil Tryd.laysNm215 n c w
open Go.RowKit Go.Lib in
theorem Tryd.slices_Clone_int_zero (a : Addr) (c : Nat) (w : World) :
    Calls Tryd.prog 39 #[.slice (some a) 0 c] w fun e w' => ∃ v', e = .returned v' ∧ w'.ownsRow w.heap.size 3 1 v' 0 [] ∧ v' ≠ .slice none 0 0 ∧ Below w.heap.size w w' := Any.slices_Clone_int_zero Tryd.laysNm215 a c w
end Go.Proofs
namespace Go.Proofs.YteimgnmjmpeobaaDoor
open Go.RowKit

abbrev zPw : Pw := ⟨⟨noS, false, 0, [], 0, 0, 0⟩, none, 0⟩
theorem pw_set : ∀ (xs : List Pw) (j : Nat) (_ : j < xs.length) (x : Pw), (((((((pwV xs).set (j * 7) (.string x.p.path)).set (j * 7 + 1) (.bool x.p.has)).set (j * 7 + 2) (.int .i64 x.p.size)).set (j * 7 + 3) (.slice x.C x.p.chunks.length x.c)).set (j * 7 + 4) (.int .i64 x.p.digest)).set (j * 7 + 5) (.int .i64 x.p.l)).set (j * 7 + 6) (.int .i64 x.p.r) = pwV (xs.set j x)
  | y :: xs, 0, _, x => by
    rw [List.set_cons_zero, Nat.zero_mul]
    rfl
  | y :: xs, j + 1, h, x => by
    have ih := pw_set xs j (by simpa using h) x
    rw [List.set_cons_succ, pwV_cons, pwV_cons, ← ih]
    have e0 : (j + 1) * 7 = (j * 7) + 1 + 1 + 1 + 1 + 1 + 1 + 1 := by omega
    have e1 : (j + 1) * 7 + 1 = (j * 7 + 1) + 1 + 1 + 1 + 1 + 1 + 1 + 1 := by omega
    have e2 : (j + 1) * 7 + 2 = (j * 7 + 2) + 1 + 1 + 1 + 1 + 1 + 1 + 1 := by omega
    have e3 : (j + 1) * 7 + 3 = (j * 7 + 3) + 1 + 1 + 1 + 1 + 1 + 1 + 1 := by omega
    have e4 : (j + 1) * 7 + 4 = (j * 7 + 4) + 1 + 1 + 1 + 1 + 1 + 1 + 1 := by omega
    have e5 : (j + 1) * 7 + 5 = (j * 7 + 5) + 1 + 1 + 1 + 1 + 1 + 1 + 1 := by omega
    have e6 : (j + 1) * 7 + 6 = (j * 7 + 6) + 1 + 1 + 1 + 1 + 1 + 1 + 1 := by omega
    rw [e1, e2, e3, e4, e5, e6, e0]
    simp only [pcV, List.cons_append, List.nil_append, List.set_cons_succ]
theorem made_pcs (n : Nat) : madeCells (pcV zPw.p none 0).toArray (n * 7) = (pwV (List.replicate n zPw)).toArray := by
  apply Array.ext
  · simp [madeCells, pwV_length]
  · intro i h1 h2
    have hi : i < n * 7 := by simpa [pwV_length] using h2
    have e := pwV_at (List.replicate n zPw) (i / 7) (by simp; omega) (i % 7) (by omega)
    rw [show i / 7 * 7 + i % 7 = i by omega] at e
    simp only [madeCells, Array.getElem_map, Array.getElem_range, List.getElem_toArray]
    have e2 : (pwV (List.replicate n zPw))[i]? = some ((pwV (List.replicate n zPw))[i]'(by simpa using h2)) := List.getElem?_eq_getElem _
    rw [e2, List.getElem_replicate] at e
    have h7 : (pcV zPw.p none 0).toArray.size = 7 := rfl
    rw [h7]
    have h6 : (pcV zPw.p none 0)[i % 7]? = some ((pcV zPw.p none 0).toArray[i % 7]!) := by
      have : i % 7 < 7 := by omega
      match i % 7, this with
      | 0, _ => rfl
      | 1, _ => rfl
      | 2, _ => rfl
      | 3, _ => rfl
      | 4, _ => rfl
      | 5, _ => rfl
      | 6, _ => rfl
    rw [show zPw.C = none from rfl, show zPw.c = 0 from rfl, h6] at e
    injection e with e
    rw [e]
theorem make_pcs (n : Nat) (hn : n ≤ 1000000) (w : World) : (Instr.makeSlice 24 (.int .i64 (n : Int)) (.int .i64 (n : Int))).run Tryd.prog w = .ok (.slice (some ⟨w.heap.size, 0, none⟩) n n) (w.alloc (.cells (pwV (List.replicate n zPw)).toArray 57)) := by
  obtain ⟨i, hi, hz0, hz1, hz2⟩ := info_parts Tryd.infoPc
  have h := run_make (P := Tryd.prog) w 24 57 i _ Tryd.underlying24 hi hz0 .i64 .i64 n n (by omega) (Int.le_refl _) (by rw [hz2]; omega) (by omega)
  rw [h, hz1, Int.toNat_natCast, ← made_pcs]
  rfl
theorem cloneI_any {w : World} {C : Option Addr} {n c : Nat} {xs : List Int} (hr : Rd w C (intV xs)) (hl : xs.length = n) (hn : n ≤ 1000000) :
    Calls Tryd.prog 39 #[.slice C n c] w fun e w' => ∃ D d, e = .returned (.slice D n d) ∧ w'.ownsRow w.heap.size 3 1 (.slice D n d) n (intV xs) ∧ Below w.heap.size w w' := by
  cases C with
  | none =>
    have hx : xs = [] := by
      rcases hr with hr | ⟨ad, h, -⟩
      · cases xs with
        | nil => rfl
        | cons a l => simp [intV] at hr
      · cases h
    subst hx
    subst hl
    refine (Tryd.slices_Clone_int_nil 0 c w).mono ?_
    rintro e w' ⟨rfl, rfl⟩
    exact ⟨none, 0, rfl, World.ownsRow_nil _ _ _ _, Below.refl _ _⟩
  | some ad =>
    by_cases h0 : n = 0
    · subst h0
      have hx : xs = [] := List.eq_nil_of_length_eq_zero hl
      subst hx
      refine (Tryd.slices_Clone_int_zero ad c w).mono ?_
      rintro e w' ⟨v', rfl, h1, -, h3⟩
      obtain ⟨-, D, d, rfl, -, -⟩ := own_form h1
      exact ⟨D, d, rfl, h1, h3⟩
    · obtain ⟨b, off, e, -, -⟩ := int_at hr (j := 0) (by omega)
      injection e with e
      subst e
      refine (Tryd.slices_Clone_int b off n c xs w (by omega) (by omega) (fun j hj => ?_)).mono ?_
      · obtain ⟨b', off', e, h2, -⟩ := int_at hr hj
        injection e with e
        injection e with e1 e2
        subst e1 e2
        rw [h2]
        simp [List.getD, hj]
      · rintro e w' ⟨v', rfl, h1, -, h3⟩
        obtain ⟨-, D, d, rfl, -, -⟩ := own_form h1
        rw [List.take_of_length_le (by omega)] at h1
        exact ⟨D, d, rfl, h1, h3⟩

/-- The block in which a piece's chunks lie. -/
def ckB (x : Pw) : Option Nat := (Value.slice x.C x.p.chunks.length x.c).ownBlock
/-- No two pieces' chunks lie in one block. -/
def Apart (xs : List Pw) : Prop := xs.Pairwise fun x y => ∀ k, ckB x = some k → ckB y ≠ some k
theorem apart_snoc {w : World} {base : Nat} {xs : List Pw} (h : Apart xs) (oc : ∀ x ∈ xs, OwnC base w x) {y : Pw} (hy : ∀ k, ckB y = some k → w.heap.size ≤ k) : Apart (xs ++ [y]) := by
  refine List.pairwise_append.2 ⟨h, List.pairwise_singleton _ _, fun x hx z hz k hk hk2 => ?_⟩
  obtain rfl := List.mem_singleton.1 hz
  have h1 := hy k hk2
  rcases (oc x hx).2 with ⟨e, -⟩ | ⟨g, cap, cur, e, -, hg, -⟩
  · unfold ckB at hk; rw [e] at hk; cases hk
  · unfold ckB at hk
    rw [e] at hk
    simp only [Value.ownBlock, Option.some.injEq] at hk
    subst hk
    have := (Array.getElem?_eq_some_iff.1 hg).1
    omega
/-- Copy answered. -/
def CopyPost (w : World) (m : Man) (e : Ending) (w' : World) : Prop :=
  ∃ (g : Nat) (xs : List Pw), e = .returned (manV m (some ⟨g, 0, none⟩) m.pieces.length) ∧ pcesOf xs = m.pieces ∧ Blk w' g (pwV xs) 57 ∧ Hid (∀ x ∈ xs, OwnC w.heap.size w' x) ∧ Hid (Apart xs) ∧ w.heap.size ≤ g ∧ Below w.heap.size w w'
theorem take_pces {xs : List Pw} {ps : List Pce} {j : Nat} (h : pcesOf xs = ps.take j) (hj : j < ps.length) (y : Pw) (hy : y.p = ps[j]) : pcesOf (xs ++ [y]) = ps.take (j + 1) := by
  rw [List.take_add_one, List.getElem?_eq_getElem hj, ← h, ← hy]
  simp [pcesOf]
theorem fill_pw {xs : List Pw} {n j : Nat} (hx : xs.length = j) (hj : j < n) (y : Pw) : (xs ++ List.replicate (n - j) zPw).set j y = (xs ++ [y]) ++ List.replicate (n - (j + 1)) zPw := by
  rw [List.set_append_right _ _ (by omega), hx, Nat.sub_self, show n - j = (n - (j + 1)) + 1 by omega, List.replicate_succ, List.set_cons_zero, List.append_assoc]
  rfl
theorem other7 {w : World} {k : Nat} {cs : List Value} {t : TypeId} (h : Blk w k cs t) {g : Nat} (hne : k ≠ g) (i0 i1 i2 i3 i4 i5 i6 : Nat) (u0 u1 u2 u3 u4 u5 u6 : Value) :
    Blk (((((((w.setCell ⟨g, i0, none⟩ u0).setCell ⟨g, i1, none⟩ u1).setCell ⟨g, i2, none⟩ u2).setCell ⟨g, i3, none⟩ u3).setCell ⟨g, i4, none⟩ u4).setCell ⟨g, i5, none⟩ u5).setCell ⟨g, i6, none⟩ u6) k cs t :=
  ((((((h.other hne i0 u0).other hne i1 u1).other hne i2 u2).other hne i3 u3).other hne i4 u4).other hne i5 u5).other hne i6 u6
theorem sets7at (w : World) (b : Nat) (i0 i1 i2 i3 i4 i5 i6 : Nat) (u0 u1 u2 u3 u4 u5 u6 : Value) :
    w.grownBy (((((((w.setCell ⟨b, i0, none⟩ u0).setCell ⟨b, i1, none⟩ u1).setCell ⟨b, i2, none⟩ u2).setCell ⟨b, i3, none⟩ u3).setCell ⟨b, i4, none⟩ u4).setCell ⟨b, i5, none⟩ u5).setCell ⟨b, i6, none⟩ u6) (some b) :=
  grown_trans (grown_trans (grown_trans (grown_trans (grown_trans (grown_trans (grown_set i0 u0) (grown_set i1 u1)) (grown_set i2 u2)) (grown_set i3 u3)) (grown_set i4 u4)) (grown_set i5 u5)) (grown_set i6 u6)

set_option maxHeartbeats 4000000 in
set_option maxRecDepth 20000 in
theorem copy12_any {w : World} {A : Option Addr} {c : Nat} {m : Man} (h : Mt w A c m) (hn : m.pieces.length ≤ 1000) (hk : ∀ p ∈ m.pieces, p.path.size ≤ 100000 ∧ p.chunks.length ≤ 1000) :
    Calls Tryd.prog 24 #[manV m A c] w (CopyPost w m) := by
  obtain ⟨a1, a2, a3, a4, a5, a6, a7, ps⟩ := m
  obtain ⟨hps, hcap, hcm⟩ := h
  dsimp only at hps hcap hn hk
  unfold manV
  dsimp only
  have hal : ∀ (W : World) (o : Obj), Below W.heap.size W (W.alloc o) := fun W o => (Below.refl _ _).alloc (Nat.le_refl _) o
  obtain ⟨n, hn0⟩ : ∃ n, n = ps.length := ⟨_, rfl⟩
  rw [← hn0] at hn ⊢
  have HN := hid hn0
  have HK := hid hk
  clear hn0 hk hcap hcm
  have b1 := below2 (hal w (.cells #[.int .i64 a1, .int .i64 a2, .int .i64 a3, .int .i64 a4, .int .i64 a5, .int .i64 a6, .int .i64 a7, .slice A n c] 26)) (hal _ (.cells #[.int .i64 0, .int .i64 0, .int .i64 0, .int .i64 0, .int .i64 0, .int .i64 0, .int .i64 0, .slice none 0 0] 26))
  have pm1 := (Blk.new w [.int .i64 a1, .int .i64 a2, .int .i64 a3, .int .i64 a4, .int .i64 a5, .int .i64 a6, .int .i64 a7, .slice A n c] 26).below (hal _ (.cells #[.int .i64 0, .int .i64 0, .int .i64 0, .int .i64 0, .int .i64 0, .int .i64 0, .int .i64 0, .slice none 0 0] 26))
  have pz1 := Blk.new (w.alloc (.cells #[.int .i64 a1, .int .i64 a2, .int .i64 a3, .int .i64 a4, .int .i64 a5, .int .i64 a6, .int .i64 a7, .slice A n c] 26)) [.int .i64 0, .int .i64 0, .int .i64 0, .int .i64 0, .int .i64 0, .int .i64 0, .int .i64 0, .slice none 0 0] 26
  rw [World.size_alloc] at pz1
  have hmk := make_pcs n (by omega) ((w.alloc (.cells #[.int .i64 a1, .int .i64 a2, .int .i64 a3, .int .i64 a4, .int .i64 a5, .int .i64 a6, .int .i64 a7, .slice A n c] 26)).alloc (.cells #[.int .i64 0, .int .i64 0, .int .i64 0, .int .i64 0, .int .i64 0, .int .i64 0, .int .i64 0, .slice none 0 0] 26))
  have pb2 := Blk.new ((w.alloc (.cells #[.int .i64 a1, .int .i64 a2, .int .i64 a3, .int .i64 a4, .int .i64 a5, .int .i64 a6, .int .i64 a7, .slice A n c] 26)).alloc (.cells #[.int .i64 0, .int .i64 0, .int .i64 0, .int .i64 0, .int .i64 0, .int .i64 0, .int .i64 0, .slice none 0 0] 26)) (pwV (List.replicate n zPw)) 57
  have b2 := hal ((w.alloc (.cells #[.int .i64 a1, .int .i64 a2, .int .i64 a3, .int .i64 a4, .int .i64 a5, .int .i64 a6, .int .i64 a7, .slice A n c] 26)).alloc (.cells #[.int .i64 0, .int .i64 0, .int .i64 0, .int .i64 0, .int .i64 0, .int .i64 0, .int .i64 0, .slice none 0 0] 26)) (.cells (pwV (List.replicate n zPw)).toArray 57)
  have pm2 := pm1.below b2
  have pz2 := pz1.below b2
  have bw2 := below2 b1 b2
  simp only [World.size_alloc] at pb2 hmk
  clear b1 b2 pm1 pz1
  go_enter Tryd.func24, Tryd.ntmps24
  go_wp2_with fail
  generalize ((w.alloc (.cells #[.int .i64 a1, .int .i64 a2, .int .i64 a3, .int .i64 a4, .int .i64 a5, .int .i64 a6, .int .i64 a7, .slice A n c] 26)).alloc (.cells #[.int .i64 0, .int .i64 0, .int .i64 0, .int .i64 0, .int .i64 0, .int .i64 0, .int .i64 0, .slice none 0 0] 26)).alloc (.cells (pwV (List.replicate n zPw)).toArray 57) = w2 at *
  have hgm : w.heap.size ≠ w.heap.size + 1 + 1 := by omega
  have hgz : w.heap.size + 1 ≠ w.heap.size + 1 + 1 := by omega
  have hgw : w.heap.size ≤ w.heap.size + 1 + 1 := by omega
  generalize hgdef : w.heap.size + 1 + 1 = g at *
  have HG := hid hgdef
  clear hgdef hmk
  go_loopw [13] (fun i wr => ∃ j : Nat, j ≤ n ∧ i = .int .i64 j ∧ ∃ xs : List Pw, xs.length = j ∧ Hid (pcesOf xs = ps.take j) ∧ Blk wr g (pwV (xs ++ List.replicate (n - j) zPw)) 57 ∧ Hid (∀ x ∈ xs, OwnC w.heap.size wr x) ∧ Hid (Apart xs) ∧ Blk wr w.heap.size [.int .i64 a1, .int .i64 a2, .int .i64 a3, .int .i64 a4, .int .i64 a5, .int .i64 a6, .int .i64 a7, .slice A n c] 26 ∧ Blk wr (w.heap.size + 1) [.int .i64 0, .int .i64 0, .int .i64 0, .int .i64 0, .int .i64 0, .int .i64 0, .int .i64 0, .slice none 0 0] 26 ∧ Below w.heap.size w wr) (fun i _ => n - (intOf i).toNat)
  case atStart => exact ⟨0, by omega, rfl, [], rfl, rfl, by simpa using pb2, hid (by simp), hid List.Pairwise.nil, pm2, pz2, bw2⟩
  case round =>
    clear pb2 pm2 pz2 bw2
    obtain ⟨j, hj, rfl, xs, hxl, HX, pb, oc, ap, pm, pz, bw⟩ := hrel
    have HXL := hid hxl
    clear hxl
    by_cases hjn : j < n
    · have hjl : j < ps.length := by rw [← HN.out]; exact hjn
      have hz : (0 : Int) ≤ j := by omega
      have hlt : (j : Int) < n := by omega
      have HJ := hid hjn
      obtain ⟨b, og, C, cc, rfl, x0, x1, x2, x3, x4, x5, x6, rx, hcx, hcx2, -⟩ := (hps.below bw).pc hjl
      have hkx := HK.out _ (List.getElem_mem hjl)
      have HT := hid (fun (y : Pw) (hy : y.p = ps[j]) => take_pces HX.out hjl y hy)
      generalize ps[j] = x at *
      obtain ⟨xp, xh, xs', xc, xd, xl, xr⟩ := x
      dsimp only at x0 x1 x2 x3 x4 x5 x6 rx hcx hkx
      have b3 := hal wr (.cells #[.string xp, .bool xh, .int .i64 xs', .slice C xc.length cc, .int .i64 xd, .int .i64 xl, .int .i64 xr] 57)
      have kp := Blk.new wr [.string xp, .bool xh, .int .i64 xs', .slice C xc.length cc, .int .i64 xd, .int .i64 xl, .int .i64 xr] 57
      have pb3 := pb.below b3
      have pm3 := pm.below b3
      have pz3 := pz.below b3
      have oc3 : Hid (∀ x ∈ xs, OwnC w.heap.size (wr.alloc (.cells #[.string xp, .bool xh, .int .i64 xs', .slice C xc.length cc, .int .i64 xd, .int .i64 xl, .int .i64 xr] 57)) x) := hid fun x hx => own_below1 (oc.out x hx) b3
      have bw3 := bw.trans (b3.mono bw.size)
      have rx3 := rx.below b3
      have hpg : wr.heap.size ≠ g := by have := pb.lt; omega
      have hpw : w.heap.size ≤ wr.heap.size := bw.size
      have hwr := pz.lt
      go_wp2_with fail
      clear x0 x1 x2 x3 x4 x5 x6 rx b3 pb pm pz oc bw
      generalize wr.alloc (.cells #[.string xp, .bool xh, .int .i64 xs', .slice C xc.length cc, .int .i64 xd, .int .i64 xl, .int .i64 xr] 57) = w3 at *
      generalize wr.heap.size = gp at *
      have k0 := kp.cell 0
      have k3 : w3.drew.cell? ⟨gp, 3, none⟩ = some (.slice C xc.length cc) := by have := kp.cell 3; simpa using this
      simp only [List.getElem?_cons_zero] at k0
      have bd : Below w3.heap.size w3 w3.drew := (Below.refl _ _).drew
      have hxn : xc.length ≤ 1000000 := by omega
      refine wp_region_held_drew (S := fun w' => w'.cell? ⟨gp, 0, none⟩ = some (.string xp)) (by kernel_rfl) k0 (fun hHeld => ?_)
      refine wpAnyH_take (i := 0) (oi := ⟨_, _, _, _, _, _⟩) (v := ?_) rfl (by kernel_rfl) (by kernel_rfl) (by kernel_rfl) (fun _ _ _ h => h) (Or.inl ⟨by rfl, ?_⟩) (by assumption) ?_
      rotate_left
      · intro w hSw; (try dsimp only at hSw); go_simp; (try (with_reducible rfl))
      try simp only [Act.put, List.setIfInBounds_toArray, List.set_cons_zero, List.set_cons_succ]
      refine wpAnyH_take (i := 1) (oi := ⟨_, _, _, _, _, _⟩) (v := ?_) rfl (by kernel_rfl) (by kernel_rfl) (by kernel_rfl) (fun _ _ _ h => h) (Or.inl ⟨by rfl, ?_⟩) (by assumption) ?_
      rotate_left
      · intro w hSw; (try dsimp only at hSw); go_simp; (try (with_reducible rfl))
      try simp only [Act.put, List.setIfInBounds_toArray, List.set_cons_zero, List.set_cons_succ]
      refine wpAnyH_take (i := 3) (oi := ⟨_, _, _, _, _, _⟩) (v := ?_) rfl (by kernel_rfl) (by kernel_rfl) (by kernel_rfl) (fun _ _ _ h => h) (Or.inl ⟨by rfl, ?_⟩) (by assumption) ?_
      rotate_left
      · intro w hSw; (try dsimp only at hSw); go_simp; (try (with_reducible rfl))
      try simp only [Act.put, List.setIfInBounds_toArray, List.set_cons_zero, List.set_cons_succ]
      refine wpAnyH_ready (rs := [2, 4]) (by kernel_rfl) (by simp) ?_
      refine AllReadyH.cons (o := ⟨_, _, _, _, _, _⟩) rfl (fun K hK => ?_) (AllReadyH.cons (o := ⟨_, _, _, _, _, _⟩) rfl (fun K hK => ?_) (AllReadyH.nil))
      · go_simp
        refine (clone_any xp _ (by omega)).mono ?_
        rintro e w4 ⟨rfl, b4⟩
        have d4 := below2 bd b4
        have kp4 := kp.below d4
        have e0 := kp4.cell 0
        have e3 : w4.cell? ⟨gp, 3, none⟩ = some (.slice C xc.length cc) := by have := kp4.cell 3; simpa using this
        simp only [List.getElem?_cons_zero] at e0
        refine hK.out _ _ e0 (fun hHeld => ?_)
        clear hK K
        try simp only [Act.put, List.setIfInBounds_toArray, List.set_cons_zero, List.set_cons_succ]
        refine wpAnyH_ready (rs := [4]) (by kernel_rfl) (by simp) ?_
        refine AllReadyH.cons (o := ⟨_, _, _, _, _, _⟩) rfl (fun K hK => ?_) (AllReadyH.nil)
        go_simp
        refine hK.out _ _ e0 (fun hHeld => ?_)
        clear hK K
        try simp only [Act.put, List.setIfInBounds_toArray, List.set_cons_zero, List.set_cons_succ]
        refine wpAnyH_take (i := 6) (oi := ⟨_, _, _, _, _, _⟩) (v := ?_) rfl (by kernel_rfl) (by kernel_rfl) (by kernel_rfl) (fun _ _ _ h => h) (Or.inl ⟨by rfl, ?_⟩) (by assumption) ?_
        rotate_left
        · intro w hSw; (try dsimp only at hSw); go_simp; (try (with_reducible rfl))
        try simp only [Act.put, List.setIfInBounds_toArray, List.set_cons_zero, List.set_cons_succ]
        refine wpAnyH_ready (rs := [5]) (by kernel_rfl) (by simp) ?_
        refine AllReadyH.cons (o := ⟨_, _, _, _, _, _⟩) rfl (fun K hK => ?_) (AllReadyH.nil)
        go_simp
        refine (cloneI_any (c := cc) (rx3.below d4) rfl hxn).mono ?_
        rintro e w5 ⟨D, dd, rfl, o5, b5⟩
        have d5 := below2 d4 b5
        have kp5 := kp4.below b5
        have i0 := kp5.cell 0
        have i3 := kp5.cell 3
        have if0 := kp5.frozen 0
        simp only [List.getElem?_cons_zero, List.getElem?_cons_succ] at i0 i3
        refine hK.out _ _ i0 (fun hHeld => ?_)
        clear hK K
        try simp only [Act.put, List.setIfInBounds_toArray, List.set_cons_zero, List.set_cons_succ]
        have kp6 := kp5.set_ 0 (.string xp)
        simp only [List.set_cons_zero] at kp6
        have m0 := kp6.cell 0
        have m3 := kp6.cell 3
        have mf3 := kp6.frozen 3
        simp only [List.getElem?_cons_zero, List.getElem?_cons_succ] at m0 m3
        refine wpAnyH_ready (rs := [7]) (by kernel_rfl) (by simp) ?_
        refine AllReadyH.cons (o := ⟨_, _, _, _, _, _⟩) rfl (fun K hK => ?_) (AllReadyH.nil)
        go_simp
        refine hK.out _ _ m0 (fun hHeld => ?_)
        clear hK K
        try simp only [Act.put, List.setIfInBounds_toArray, List.set_cons_zero, List.set_cons_succ]
        refine wpAnyH_take (i := 8) (oi := ⟨_, _, _, _, _, _⟩) (v := ?_) rfl (by kernel_rfl) (by kernel_rfl) (by kernel_rfl) (fun _ _ _ h => h) (Or.inl ⟨by rfl, ?_⟩) (by assumption) ?_
        rotate_left
        · intro w hSw; (try dsimp only at hSw); go_simp; (try (with_reducible rfl))
        try simp only [Act.put, List.setIfInBounds_toArray, List.set_cons_zero, List.set_cons_succ]
        have kp7 := kp6.set_ 3 (.slice D xc.length dd)
        simp only [List.set_cons_zero, List.set_cons_succ] at kp7
        have n0 := kp7.cell 0
        simp only [List.getElem?_cons_zero] at n0
        refine wpAnyH_ready (rs := [9]) (by kernel_rfl) (by simp) ?_
        refine AllReadyH.cons (o := ⟨_, _, _, _, _, _⟩) rfl (fun K hK => ?_) (AllReadyH.nil)
        go_simp
        refine hK.out _ _ n0 (fun hHeld => ?_)
        clear hK K
        try simp only [Act.put, List.setIfInBounds_toArray, List.set_cons_zero, List.set_cons_succ]
        refine wpAnyH_done (by kernel_rfl) ?_ _
        clear hHeld
        have g7 : w5.grownBy ((w5.setCell ⟨gp, 0, none⟩ (.string xp)).setCell ⟨gp, 3, none⟩ (.slice D xc.length dd)) (some gp) := grown_trans (grown_set 0 _) (grown_set 3 _)
        have pb7 := (pb3.below d5).grown g7 (by intro e; injection e with e; exact hpg e)
        have pm7 := (pm3.below d5).grown g7 (by intro e; injection e with e; omega)
        have pz7 := (pz3.below d5).grown g7 (by intro e; injection e with e; omega)
        have oc7 : Hid (∀ x ∈ xs, OwnC w.heap.size ((w5.setCell ⟨gp, 0, none⟩ (.string xp)).setCell ⟨gp, 3, none⟩ (.slice D xc.length dd)) x) := hid fun x hx => row_turn (own_below1 (oc3.out x hx) d5) g7 kp5 (by decide)
        have o7 := row_turn (own_low1 (base' := w.heap.size) o5 (by have := d4.size; have := bw3.size; omega)) g7 kp5 (by decide)
        have bw5 := bw3.trans (d5.mono bw3.size)
        have bw7 := bw5.trans (below_grown bw5.size (far_row hpw) g7)
        have hj2 : j < (xs ++ List.replicate (n - j) zPw).length := by have := HXL.out; have := HJ.out; rw [List.length_append, List.length_replicate]; omega
        have HSET := hid (pw_set _ j hj2 (⟨⟨xp, xh, xs', xc, xd, xl, xr⟩, D, dd⟩ : Pw))
        have HFL := hid (fill_pw HXL.out HJ.out (⟨⟨xp, xh, xs', xc, xd, xl, xr⟩, D, dd⟩ : Pw))
        have hcs : ∀ k, k < 7 → ∃ u, ((w5.setCell ⟨gp, 0, none⟩ (.string xp)).setCell ⟨gp, 3, none⟩ (.slice D xc.length dd)).cell? ⟨g, j * 7 + k, none⟩ = some u := fun k hk => by
          rw [pb7.cell, pwV_at _ j hj2 k hk]
          exact ⟨_, List.getElem?_eq_getElem (by simpa [pcV] using hk)⟩
        obtain ⟨u0, c0⟩ := hcs 0 (by omega)
        obtain ⟨u1, c1⟩ := hcs 1 (by omega)
        obtain ⟨u2, c2⟩ := hcs 2 (by omega)
        obtain ⟨u3, c3⟩ := hcs 3 (by omega)
        obtain ⟨u4, c4⟩ := hcs 4 (by omega)
        obtain ⟨u5, c5⟩ := hcs 5 (by omega)
        obtain ⟨u6, c6⟩ := hcs 6 (by omega)
        have f0 := pb7.frozen (j * 7)
        have f1 := pb7.frozen (j * 7 + 1)
        have f2 := pb7.frozen (j * 7 + 2)
        have f3 := pb7.frozen (j * 7 + 3)
        have f4 := pb7.frozen (j * 7 + 4)
        have f5 := pb7.frozen (j * 7 + 5)
        have f6 := pb7.frozen (j * 7 + 6)
        rw [Nat.add_zero] at c0
        have n1 := kp7.cell 1
        have n2 := kp7.cell 2
        have n3 := kp7.cell 3
        have n4 := kp7.cell 4
        have n5 := kp7.cell 5
        have n6 := kp7.cell 6
        simp only [List.getElem?_cons_zero, List.getElem?_cons_succ] at n1 n2 n3 n4 n5 n6
        have pb8 := (((((((pb7.set_ (j * 7) (.string xp)).set_ (j * 7 + 1) (.bool xh)).set_ (j * 7 + 2) (.int .i64 xs')).set_ (j * 7 + 3) (.slice D xc.length dd)).set_ (j * 7 + 4) (.int .i64 xd)).set_ (j * 7 + 5) (.int .i64 xl)).set_ (j * 7 + 6) (.int .i64 xr))
        rw [show _ = pwV ((xs ++ List.replicate (n - j) zPw).set j (⟨⟨xp, xh, xs', xc, xd, xl, xr⟩, D, dd⟩ : Pw)) from HSET.out, HFL.out] at pb8
        have g8 := sets7at ((w5.setCell ⟨gp, 0, none⟩ (.string xp)).setCell ⟨gp, 3, none⟩ (.slice D xc.length dd)) g (j * 7) (j * 7 + 1) (j * 7 + 2) (j * 7 + 3) (j * 7 + 4) (j * 7 + 5) (j * 7 + 6) (.string xp) (.bool xh) (.int .i64 xs') (.slice D xc.length dd) (.int .i64 xd) (.int .i64 xl) (.int .i64 xr)
        have pm8 := other7 pm7 hgm (j * 7) (j * 7 + 1) (j * 7 + 2) (j * 7 + 3) (j * 7 + 4) (j * 7 + 5) (j * 7 + 6) (.string xp) (.bool xh) (.int .i64 xs') (.slice D xc.length dd) (.int .i64 xd) (.int .i64 xl) (.int .i64 xr)
        have pz8 := other7 pz7 hgz (j * 7) (j * 7 + 1) (j * 7 + 2) (j * 7 + 3) (j * 7 + 4) (j * 7 + 5) (j * 7 + 6) (.string xp) (.bool xh) (.int .i64 xs') (.slice D xc.length dd) (.int .i64 xd) (.int .i64 xl) (.int .i64 xr)
        have bw8 := bw7.trans (below_grown bw7.size (far_row hgw) g8)
        have oc8 : Hid (∀ x ∈ xs ++ [(⟨⟨xp, xh, xs', xc, xd, xl, xr⟩, D, dd⟩ : Pw)], OwnC w.heap.size (((((((((w5.setCell ⟨gp, 0, none⟩ (.string xp)).setCell ⟨gp, 3, none⟩ (.slice D xc.length dd)).setCell ⟨g, j * 7, none⟩ (.string xp)).setCell ⟨g, j * 7 + 1, none⟩ (.bool xh)).setCell ⟨g, j * 7 + 2, none⟩ (.int .i64 xs')).setCell ⟨g, j * 7 + 3, none⟩ (.slice D xc.length dd)).setCell ⟨g, j * 7 + 4, none⟩ (.int .i64 xd)).setCell ⟨g, j * 7 + 5, none⟩ (.int .i64 xl)).setCell ⟨g, j * 7 + 6, none⟩ (.int .i64 xr)) x) := hid fun x hx => by
          rcases List.mem_append.1 hx with hx | hx
          · exact row_turn (oc7.out x hx) g8 pb7 (by decide)
          · obtain rfl := List.mem_singleton.1 hx
            exact row_turn o7 g8 pb7 (by decide)
        have ap8 : Hid (Apart (xs ++ [(⟨⟨xp, xh, xs', xc, xd, xl, xr⟩, D, dd⟩ : Pw)])) := hid (apart_snoc ap.out (oc3.out) (fun k hk => by have := row_lt o5 k hk; have := d4.size; omega))
        have HX8 : Hid (pcesOf (xs ++ [(⟨⟨xp, xh, xs', xc, xd, xl, xr⟩, D, dd⟩ : Pw)]) = ps.take (j + 1)) := hid (HT.out _ rfl)
        have HL8 : Hid ((xs ++ [(⟨⟨xp, xh, xs', xc, xd, xl, xr⟩, D, dd⟩ : Pw)]).length = j + 1) := by show _ = _; rw [List.length_append, HXL.out]; rfl
        clear pb7 pm7 pz7 oc7 o7 bw7 g7 g8 HSET HFL hcs kp7 kp6 kp5 kp4 o5 b5 d5 b4 d4 hj2 bw5 oc3 pb3 pm3 pz3 bw3 rx3 kp HT k0 k3 e0 e3 i0 i3 if0 m0 m3 mf3
        go_wp2
        go_roundw
        case rel => exact ⟨j + 1, HJ.out, by go_num, _, HL8.out, HX8, pb8, oc8, ap8, pm8, pz8, bw8⟩
        case measure => have := HJ.out; simp [intOf]; omega
      · go_simp
        refine hK.out _ _ k0 (fun hHeld => ?_)
        clear hK K
        try simp only [Act.put, List.setIfInBounds_toArray, List.set_cons_zero, List.set_cons_succ]
        refine wpAnyH_ready (rs := [2]) (by kernel_rfl) (by simp) ?_
        refine AllReadyH.cons (o := ⟨_, _, _, _, _, _⟩) rfl (fun K hK => ?_) (AllReadyH.nil)
        go_simp
        refine (clone_any xp _ (by omega)).mono ?_
        rintro e w4 ⟨rfl, b4⟩
        have d4 := below2 bd b4
        have kp4 := kp.below d4
        have e0 := kp4.cell 0
        have e3 : w4.cell? ⟨gp, 3, none⟩ = some (.slice C xc.length cc) := by have := kp4.cell 3; simpa using this
        simp only [List.getElem?_cons_zero] at e0
        refine hK.out _ _ e0 (fun hHeld => ?_)
        clear hK K
        try simp only [Act.put, List.setIfInBounds_toArray, List.set_cons_zero, List.set_cons_succ]
        refine wpAnyH_take (i := 6) (oi := ⟨_, _, _, _, _, _⟩) (v := ?_) rfl (by kernel_rfl) (by kernel_rfl) (by kernel_rfl) (fun _ _ _ h => h) (Or.inl ⟨by rfl, ?_⟩) (by assumption) ?_
        rotate_left
        · intro w hSw; (try dsimp only at hSw); go_simp; (try (with_reducible rfl))
        try simp only [Act.put, List.setIfInBounds_toArray, List.set_cons_zero, List.set_cons_succ]
        refine wpAnyH_ready (rs := [5]) (by kernel_rfl) (by simp) ?_
        refine AllReadyH.cons (o := ⟨_, _, _, _, _, _⟩) rfl (fun K hK => ?_) (AllReadyH.nil)
        go_simp
        refine (cloneI_any (c := cc) (rx3.below d4) rfl hxn).mono ?_
        rintro e w5 ⟨D, dd, rfl, o5, b5⟩
        have d5 := below2 d4 b5
        have kp5 := kp4.below b5
        have i0 := kp5.cell 0
        have i3 := kp5.cell 3
        have if0 := kp5.frozen 0
        simp only [List.getElem?_cons_zero, List.getElem?_cons_succ] at i0 i3
        refine hK.out _ _ i0 (fun hHeld => ?_)
        clear hK K
        try simp only [Act.put, List.setIfInBounds_toArray, List.set_cons_zero, List.set_cons_succ]
        have kp6 := kp5.set_ 0 (.string xp)
        simp only [List.set_cons_zero] at kp6
        have m0 := kp6.cell 0
        have m3 := kp6.cell 3
        have mf3 := kp6.frozen 3
        simp only [List.getElem?_cons_zero, List.getElem?_cons_succ] at m0 m3
        refine wpAnyH_ready (rs := [7]) (by kernel_rfl) (by simp) ?_
        refine AllReadyH.cons (o := ⟨_, _, _, _, _, _⟩) rfl (fun K hK => ?_) (AllReadyH.nil)
        go_simp
        refine hK.out _ _ m0 (fun hHeld => ?_)
        clear hK K
        try simp only [Act.put, List.setIfInBounds_toArray, List.set_cons_zero, List.set_cons_succ]
        refine wpAnyH_take (i := 8) (oi := ⟨_, _, _, _, _, _⟩) (v := ?_) rfl (by kernel_rfl) (by kernel_rfl) (by kernel_rfl) (fun _ _ _ h => h) (Or.inl ⟨by rfl, ?_⟩) (by assumption) ?_
        rotate_left
        · intro w hSw; (try dsimp only at hSw); go_simp; (try (with_reducible rfl))
        try simp only [Act.put, List.setIfInBounds_toArray, List.set_cons_zero, List.set_cons_succ]
        have kp7 := kp6.set_ 3 (.slice D xc.length dd)
        simp only [List.set_cons_zero, List.set_cons_succ] at kp7
        have n0 := kp7.cell 0
        simp only [List.getElem?_cons_zero] at n0
        refine wpAnyH_ready (rs := [9]) (by kernel_rfl) (by simp) ?_
        refine AllReadyH.cons (o := ⟨_, _, _, _, _, _⟩) rfl (fun K hK => ?_) (AllReadyH.nil)
        go_simp
        refine hK.out _ _ n0 (fun hHeld => ?_)
        clear hK K
        try simp only [Act.put, List.setIfInBounds_toArray, List.set_cons_zero, List.set_cons_succ]
        refine wpAnyH_done (by kernel_rfl) ?_ _
        clear hHeld
        have g7 : w5.grownBy ((w5.setCell ⟨gp, 0, none⟩ (.string xp)).setCell ⟨gp, 3, none⟩ (.slice D xc.length dd)) (some gp) := grown_trans (grown_set 0 _) (grown_set 3 _)
        have pb7 := (pb3.below d5).grown g7 (by intro e; injection e with e; exact hpg e)
        have pm7 := (pm3.below d5).grown g7 (by intro e; injection e with e; omega)
        have pz7 := (pz3.below d5).grown g7 (by intro e; injection e with e; omega)
        have oc7 : Hid (∀ x ∈ xs, OwnC w.heap.size ((w5.setCell ⟨gp, 0, none⟩ (.string xp)).setCell ⟨gp, 3, none⟩ (.slice D xc.length dd)) x) := hid fun x hx => row_turn (own_below1 (oc3.out x hx) d5) g7 kp5 (by decide)
        have o7 := row_turn (own_low1 (base' := w.heap.size) o5 (by have := d4.size; have := bw3.size; omega)) g7 kp5 (by decide)
        have bw5 := bw3.trans (d5.mono bw3.size)
        have bw7 := bw5.trans (below_grown bw5.size (far_row hpw) g7)
        have hj2 : j < (xs ++ List.replicate (n - j) zPw).length := by have := HXL.out; have := HJ.out; rw [List.length_append, List.length_replicate]; omega
        have HSET := hid (pw_set _ j hj2 (⟨⟨xp, xh, xs', xc, xd, xl, xr⟩, D, dd⟩ : Pw))
        have HFL := hid (fill_pw HXL.out HJ.out (⟨⟨xp, xh, xs', xc, xd, xl, xr⟩, D, dd⟩ : Pw))
        have hcs : ∀ k, k < 7 → ∃ u, ((w5.setCell ⟨gp, 0, none⟩ (.string xp)).setCell ⟨gp, 3, none⟩ (.slice D xc.length dd)).cell? ⟨g, j * 7 + k, none⟩ = some u := fun k hk => by
          rw [pb7.cell, pwV_at _ j hj2 k hk]
          exact ⟨_, List.getElem?_eq_getElem (by simpa [pcV] using hk)⟩
        obtain ⟨u0, c0⟩ := hcs 0 (by omega)
        obtain ⟨u1, c1⟩ := hcs 1 (by omega)
        obtain ⟨u2, c2⟩ := hcs 2 (by omega)
        obtain ⟨u3, c3⟩ := hcs 3 (by omega)
        obtain ⟨u4, c4⟩ := hcs 4 (by omega)
        obtain ⟨u5, c5⟩ := hcs 5 (by omega)
        obtain ⟨u6, c6⟩ := hcs 6 (by omega)
        have f0 := pb7.frozen (j * 7)
        have f1 := pb7.frozen (j * 7 + 1)
        have f2 := pb7.frozen (j * 7 + 2)
        have f3 := pb7.frozen (j * 7 + 3)
        have f4 := pb7.frozen (j * 7 + 4)
        have f5 := pb7.frozen (j * 7 + 5)
        have f6 := pb7.frozen (j * 7 + 6)
        rw [Nat.add_zero] at c0
        have n1 := kp7.cell 1
        have n2 := kp7.cell 2
        have n3 := kp7.cell 3
        have n4 := kp7.cell 4
        have n5 := kp7.cell 5
        have n6 := kp7.cell 6
        simp only [List.getElem?_cons_zero, List.getElem?_cons_succ] at n1 n2 n3 n4 n5 n6
        have pb8 := (((((((pb7.set_ (j * 7) (.string xp)).set_ (j * 7 + 1) (.bool xh)).set_ (j * 7 + 2) (.int .i64 xs')).set_ (j * 7 + 3) (.slice D xc.length dd)).set_ (j * 7 + 4) (.int .i64 xd)).set_ (j * 7 + 5) (.int .i64 xl)).set_ (j * 7 + 6) (.int .i64 xr))
        rw [show _ = pwV ((xs ++ List.replicate (n - j) zPw).set j (⟨⟨xp, xh, xs', xc, xd, xl, xr⟩, D, dd⟩ : Pw)) from HSET.out, HFL.out] at pb8
        have g8 := sets7at ((w5.setCell ⟨gp, 0, none⟩ (.string xp)).setCell ⟨gp, 3, none⟩ (.slice D xc.length dd)) g (j * 7) (j * 7 + 1) (j * 7 + 2) (j * 7 + 3) (j * 7 + 4) (j * 7 + 5) (j * 7 + 6) (.string xp) (.bool xh) (.int .i64 xs') (.slice D xc.length dd) (.int .i64 xd) (.int .i64 xl) (.int .i64 xr)
        have pm8 := other7 pm7 hgm (j * 7) (j * 7 + 1) (j * 7 + 2) (j * 7 + 3) (j * 7 + 4) (j * 7 + 5) (j * 7 + 6) (.string xp) (.bool xh) (.int .i64 xs') (.slice D xc.length dd) (.int .i64 xd) (.int .i64 xl) (.int .i64 xr)
        have pz8 := other7 pz7 hgz (j * 7) (j * 7 + 1) (j * 7 + 2) (j * 7 + 3) (j * 7 + 4) (j * 7 + 5) (j * 7 + 6) (.string xp) (.bool xh) (.int .i64 xs') (.slice D xc.length dd) (.int .i64 xd) (.int .i64 xl) (.int .i64 xr)
        have bw8 := bw7.trans (below_grown bw7.size (far_row hgw) g8)
        have oc8 : Hid (∀ x ∈ xs ++ [(⟨⟨xp, xh, xs', xc, xd, xl, xr⟩, D, dd⟩ : Pw)], OwnC w.heap.size (((((((((w5.setCell ⟨gp, 0, none⟩ (.string xp)).setCell ⟨gp, 3, none⟩ (.slice D xc.length dd)).setCell ⟨g, j * 7, none⟩ (.string xp)).setCell ⟨g, j * 7 + 1, none⟩ (.bool xh)).setCell ⟨g, j * 7 + 2, none⟩ (.int .i64 xs')).setCell ⟨g, j * 7 + 3, none⟩ (.slice D xc.length dd)).setCell ⟨g, j * 7 + 4, none⟩ (.int .i64 xd)).setCell ⟨g, j * 7 + 5, none⟩ (.int .i64 xl)).setCell ⟨g, j * 7 + 6, none⟩ (.int .i64 xr)) x) := hid fun x hx => by
          rcases List.mem_append.1 hx with hx | hx
          · exact row_turn (oc7.out x hx) g8 pb7 (by decide)
          · obtain rfl := List.mem_singleton.1 hx
            exact row_turn o7 g8 pb7 (by decide)
        have ap8 : Hid (Apart (xs ++ [(⟨⟨xp, xh, xs', xc, xd, xl, xr⟩, D, dd⟩ : Pw)])) := hid (apart_snoc ap.out (oc3.out) (fun k hk => by have := row_lt o5 k hk; have := d4.size; omega))
        have HX8 : Hid (pcesOf (xs ++ [(⟨⟨xp, xh, xs', xc, xd, xl, xr⟩, D, dd⟩ : Pw)]) = ps.take (j + 1)) := hid (HT.out _ rfl)
        have HL8 : Hid ((xs ++ [(⟨⟨xp, xh, xs', xc, xd, xl, xr⟩, D, dd⟩ : Pw)]).length = j + 1) := by show _ = _; rw [List.length_append, HXL.out]; rfl
        clear pb7 pm7 pz7 oc7 o7 bw7 g7 g8 HSET HFL hcs kp7 kp6 kp5 kp4 o5 b5 d5 b4 d4 hj2 bw5 oc3 pb3 pm3 pz3 bw3 rx3 kp HT k0 k3 e0 e3 i0 i3 if0 m0 m3 mf3
        go_wp2
        go_roundw
        case rel => exact ⟨j + 1, HJ.out, by go_num, _, HL8.out, HX8, pb8, oc8, ap8, pm8, pz8, bw8⟩
        case measure => have := HJ.out; simp [intOf]; omega
    · have hjn2 : j = n := by omega
      have hnl : ¬ (j : Int) < n := by omega
      subst hjn2
      rw [Nat.sub_self, List.replicate_zero, List.append_nil] at pb
      have hpx : pcesOf xs = ps := by rw [HX.out, List.take_of_length_le (by rw [← HN.out]; exact Nat.le_refl _)]
      have HPX := hid hpx
      clear hpx HX HXL
      have hgl := pb.lt
      have mf7 := pm.frozen 7
      have pm9 := pm.set_ 7 (.slice (some ⟨g, 0, none⟩) j j)
      have pz9 := pz.other (g' := w.heap.size) (by omega) 7 (.slice (some ⟨g, 0, none⟩) j j)
      have pb9 := pb.other (g' := w.heap.size) (by omega) 7 (.slice (some ⟨g, 0, none⟩) j j)
      have gm9 : wr.grownBy (wr.setCell ⟨w.heap.size, 7, none⟩ (.slice (some ⟨g, 0, none⟩) j j)) (some w.heap.size) := grown_set 7 _
      have oc9 : Hid (∀ x ∈ xs, OwnC w.heap.size (wr.setCell ⟨w.heap.size, 7, none⟩ (.slice (some ⟨g, 0, none⟩) j j)) x) := hid fun x hx => row_turn (oc.out x hx) gm9 pm (by decide)
      have bw9 := bw.trans (below_grown bw.size (far_row (Nat.le_refl _)) gm9)
      have m7 := pm.cell 7
      simp only [List.set_cons_zero, List.set_cons_succ] at pm9
      have q0 := pm9.cell 0
      have z0 := pz9.cell 0
      have f0 := pz9.frozen 0
      have q1 := pm9.cell 1
      have z1 := pz9.cell 1
      have f1 := pz9.frozen 1
      have q2 := pm9.cell 2
      have z2 := pz9.cell 2
      have f2 := pz9.frozen 2
      have q3 := pm9.cell 3
      have z3 := pz9.cell 3
      have f3 := pz9.frozen 3
      have q4 := pm9.cell 4
      have z4 := pz9.cell 4
      have f4 := pz9.frozen 4
      have q5 := pm9.cell 5
      have z5 := pz9.cell 5
      have f5 := pz9.frozen 5
      have q6 := pm9.cell 6
      have z6 := pz9.cell 6
      have f6 := pz9.frozen 6
      have q7 := pm9.cell 7
      have z7 := pz9.cell 7
      have f7 := pz9.frozen 7
      simp only [List.getElem?_cons_zero, List.getElem?_cons_succ] at m7 q0 z0 q1 z1 q2 z2 q3 z3 q4 z4 q5 z5 q6 z6 q7 z7
      have ks := ((((((((pz9.set_ 0 (.int .i64 a1)).set_ 1 (.int .i64 a2)).set_ 2 (.int .i64 a3)).set_ 3 (.int .i64 a4)).set_ 4 (.int .i64 a5)).set_ 5 (.int .i64 a6)).set_ 6 (.int .i64 a7)).set_ 7 (.slice (some ⟨g, 0, none⟩) j j))
      simp only [List.set_cons_zero, List.set_cons_succ] at ks
      have r0 := ks.cell 0
      have r1 := ks.cell 1
      have r2 := ks.cell 2
      have r3 := ks.cell 3
      have r4 := ks.cell 4
      have r5 := ks.cell 5
      have r6 := ks.cell 6
      have r7 := ks.cell 7
      simp only [List.getElem?_cons_zero, List.getElem?_cons_succ] at r0 r1 r2 r3 r4 r5 r6 r7
      have gs := sets8 (wr.setCell ⟨w.heap.size, 7, none⟩ (.slice (some ⟨g, 0, none⟩) j j)) (w.heap.size + 1) (.int .i64 a1) (.int .i64 a2) (.int .i64 a3) (.int .i64 a4) (.int .i64 a5) (.int .i64 a6) (.int .i64 a7) (.slice (some ⟨g, 0, none⟩) j j)
      have pbS := pb9.grown gs (by intro e; injection e with e; omega)
      have ocS := fun x hx => row_turn (oc9.out x hx) gs pz9 (by decide)
      have bwS := bw9.trans (below_grown bw9.size (far_row (by omega)) gs)
      clear pm9 pz9 pb9 gm9 oc9 bw9 pm pz pb oc bw ks gs
      go_wp2
      refine bodyPost_ret (v := .agg #[.int .i64 a1, .int .i64 a2, .int .i64 a3, .int .i64 a4, .int .i64 a5, .int .i64 a6, .int .i64 a7, .slice (some ⟨g, 0, none⟩) j j]) (by simp [results, Tryd.results24, go_sem, r0, r1, r2, r3, r4, r5, r6, r7]) rfl ?_
      exact ⟨g, xs, by unfold manV; dsimp only; rw [← HN.out], HPX.out, pbS, hid ocS, ap, hgw, bwS⟩
end Go.Proofs.YteimgnmjmpeobaaDoor
