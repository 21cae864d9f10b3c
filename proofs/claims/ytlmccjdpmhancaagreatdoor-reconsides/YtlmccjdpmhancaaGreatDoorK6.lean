/- The texts Tk, Sk, Ja, Jb, Jh, in one. -/
import Derived.Test.YtlmccjdpmhancaaGreatDoorK5
import Derived.Deep.RegionHeld3
import Derived.Deep.DeepCutAuto
namespace Go.Proofs.YtlmccjdpmhancaaGreatDoor
open Go.RowKit

def fewF (f : Fil) : Bool := decide (f.1.size ≤ 100) && decide (f.2.size ≤ 1000)
def fewB (fs : List Fil) : Bool := decide (fs.length ≤ 40) && fs.all fewF
theorem few_sz {fs : List Fil} (h : fewB fs = true) : fs.length ≤ 40 ∧ ∀ f ∈ fs, f.1.size ≤ 100 ∧ f.2.size ≤ 1000 := by
  simp only [fewB, fewF, Bool.and_eq_true, decide_eq_true_eq, List.all_eq_true] at h
  exact h
theorem few_no {fs : List Fil} {j : Nat} (hj : j < fs.length) (h : fewF fs[j] = false) : false = fewB fs := by
  cases hf : fewB fs with
  | false => rfl
  | true =>
    rw [fewB, Bool.and_eq_true, List.all_eq_true] at hf
    rw [hf.2 _ (List.getElem_mem hj)] at h
    cases h

set_option maxHeartbeats 1000000 in
theorem few_any (A : Option Addr) (n c : Nat) (fs : List Fil) (w : World) (hl : fs.length = n) (hr : Rd w A (filV fs)) :
    Calls Tryz.prog 17 #[.slice A n c] w fun e w' => e = .returned (.bool (fewB fs)) ∧ w = w' := by
  have HL := hid hl
  clear hl
  by_cases h40 : (40 : Int) < n
  · go_enter Tryz.func17, Tryz.ntmps17
    go_wp2
    go_ret
    refine ⟨ret_bool ?_, rfl⟩
    symm
    refine not_true fun h => ?_
    have := (few_sz h).1
    have := HL.out
    omega
  · go_enter Tryz.func17, Tryz.ntmps17
    go_wp2_with fail
    go_loop [3] (fun i => ∃ j : Nat, j ≤ n ∧ i = .int .i64 j ∧ Hid ((fs.take j).all fewF = true)) (fun i => n - (intOf i).toNat)
    case atStart => exact ⟨0, by omega, rfl, by simp [Hid]⟩
    case round =>
      obtain ⟨j, hj, rfl, HO⟩ := hrel
      by_cases hjn : j < n
      · have hjl : j < fs.length := by rw [HL.out]; exact hjn
        obtain ⟨b, off, rfl, h1, h2, -⟩ := hr.fil hjl
        have HN := hid (@few_no fs j hjl)
        have HK := hid (all_take_more fewF fs j hjl)
        have hz : (0 : Int) ≤ j := by omega
        have hlt : (j : Int) < n := by omega
        generalize fs[j] = f at *
        obtain ⟨x, d⟩ := f
        simp only at h1 h2
        by_cases hx : (100 : Int) < x.size
        · go_wp2
          go_ret
          exact ⟨ret_bool (HN.out (by simp [fewF]; omega)), rfl⟩
        · have hxb : decide ((100 : Int) < x.size) = false := by simp; omega
          by_cases hd : (1000 : Int) < d.size
          · go_wp2
            go_ret
            exact ⟨ret_bool (HN.out (by simp [fewF]; omega)), rfl⟩
          · have hdb : decide ((1000 : Int) < d.size) = false := by simp; omega
            go_wp2
            go_round
            case rel => exact ⟨j + 1, by omega, by go_num, hid (by rw [HK.out, HO.out]; simp [fewF]; omega)⟩
            case measure => simp [intOf]; omega
      · have HE := hid (show j = n by omega)
        have hnlt : ¬ (j : Int) < n := by omega
        go_wp2
        go_ret
        refine ⟨ret_bool ?_, rfl⟩
        have ho := HO.out
        rw [HE.out, ← HL.out, List.take_length] at ho
        rw [fewB, ho, decide_eq_true (by rw [HL.out]; omega)]
        rfl
theorem few_ft {w : World} {A : Option Addr} {n c : Nat} {fs : List Fil} (hf : fewB fs = true) (hl : fs.length = n) (hr : Rd w A (filV fs)) (hc : n ≤ c) (hcm : c ≤ maxLen) : Ft w A n c fs := by
  obtain ⟨h1, h2⟩ := few_sz hf
  exact ⟨hl, hr, hc, by omega, hcm, fun f hm => by have := h2 f hm; omega⟩
theorem toList_ne {a b : ByteArray} (h : a ≠ b) : (a.toList == b.toList) = false := by
  rw [beq_eq_false_iff_ne, Lib.toList_data, Lib.toList_data]
  exact fun e => h (data_inj e)
theorem toList_eq {a b : ByteArray} (h : a = b) : (a.toList == b.toList) = true := by rw [h]; simp
end Go.Proofs.YtlmccjdpmhancaaGreatDoor
namespace Go.Proofs.YtlmccjdpmhancaaGreatDoor
open Go.RowKit

/-! ### What Scan answers -/
theorem newE_sz {a : Int} {p : Ent × Ent} (h : SzE p.2) : SzE (newE a p) := by unfold SzE; rw [newE_path, newE_data]; exact h
theorem scanA_sz {es : List Ent} {fs : List Fil} (a : Int) (h1 : ∀ e ∈ es, SzE e) (h2 : ∀ f ∈ fs, SzF f) : ∀ e ∈ scanA es fs a, SzE e := by
  intro e he
  unfold scanA at he
  split at he
  · obtain ⟨p, hp, rfl⟩ := List.mem_map.1 he
    exact newE_sz (both_sz h1 h2 p hp)
  · cases he
theorem scanA_len (es : List Ent) (fs : List Fil) (a : Int) : (scanA es fs a).length ≤ 32 := by
  unfold scanA
  split
  · rename_i h
    rw [outP, List.length_map]
    exact okP_len (scanN_ok.1 h).2.2
  · simp
theorem scanC_len (es : List Ent) (fs : List Fil) (a : Int) : (scanC es fs a).length ≤ 32 := by
  unfold scanC
  split
  · rename_i h
    have := okP_len (scanN_ok.1 h).2.2
    have := chgP_len (bothL es fs)
    omega
  · simp
theorem own5_et {w : World} {base : Nat} {A : Option Addr} {c : Nat} {es : List Ent} (h : w.ownsRow base 34 5 (.slice A es.length c) es.length (entV es)) (hn : es.length ≤ 1000000) (hs : ∀ e ∈ es, SzE e) : Et w A es.length c es := by
  rcases h.2 with ⟨h1, h0⟩ | ⟨g, cap, cur, h1, _, _, h2, h3, _⟩
  · injection h1 with a1 a2 a3
    subst a1 a3
    exact ⟨rfl, .inl (List.eq_nil_of_length_eq_zero (by rw [entV_length, h0])), by omega, hn, by omega, hs⟩
  · injection h1 with a1 a2 a3
    subst a1 a3
    exact ⟨rfl, .inr ⟨_, rfl, h.cells (g := g) rfl⟩, h2, hn, h3, hs⟩
/-- What Scan answers, to be read. -/
def ScanOut (w : World) (es : List Ent) (fs : List Fil) (a : Int) (e : Ending) (w' : World) : Prop :=
  ∃ A' c' B' d', e = .returned (.tuple #[.slice A' (scanA es fs a).length c', .slice B' (scanC es fs a).length d', .int .i64 (scanN es fs a : Nat)]) ∧ Et w' A' (scanA es fs a).length c' (scanA es fs a) ∧ Rd w' B' (strV (scanC es fs a)) ∧ Below w.heap.size w w'
theorem scan_out {w : World} {A B : Option Addr} {n c m d : Nat} {es : List Ent} {fs : List Fil} (h : Et w A n c es) (k : Ft w B m d fs) (a : Int) :
    Calls Tryz.prog 23 #[.slice A n c, .slice B m d, .int .i64 a] w (ScanOut w es fs a) :=
  (scan_any h k a).mono fun _ _ ⟨A', c', B', d', he, o1, o2, hb⟩ => ⟨A', c', B', d', he, own5_et o1 (by have := scanA_len es fs a; omega) (scanA_sz a h.sz k.sz), Rd.of_own o2, hb⟩

theorem scan_val {w : World} {A B : Option Addr} {n c m d : Nat} {es : List Ent} {fs : List Fil} (h : Et w A n c es) (k : Ft w B m d fs) (a : Int) {as_ : List Ent} {cs : List ByteArray} {nA nC : Nat} {z : Int} (ha : scanA es fs a = as_) (hla : as_.length = nA) (hc : scanC es fs a = cs) (hlc : cs.length = nC) (hn : ((scanN es fs a : Nat) : Int) = z) :
    Calls Tryz.prog 23 #[.slice A n c, .slice B m d, .int .i64 a] w fun e w' => ∃ A' c' B' d', e = .returned (.tuple #[.slice A' nA c', .slice B' nC d', .int .i64 z]) ∧ Et w' A' nA c' as_ ∧ Rd w' B' (strV cs) ∧ Below w.heap.size w w' := by
  subst ha hla hc hlc hn
  exact scan_out h k a
theorem et_nil (w : World) : Et w none 0 0 [] := ⟨rfl, .inl rfl, Nat.le_refl _, by omega, by omega, by simp⟩
theorem ft_nil (w : World) : Ft w none 0 0 [] := ⟨rfl, .inl rfl, Nat.le_refl _, by omega, by omega, by simp⟩
theorem ft_one (w : World) (p d : ByteArray) (hp : p.size < 4294967281) (hd : d.size ≤ 140737488355328) : Ft (w.alloc (.cells #[.string p, .string d] 57)) (some ⟨w.heap.size, 0, none⟩) 1 1 [(p, d)] :=
  ⟨rfl, (Blk.new w [.string p, .string d] 57).rd, Nat.le_refl _, by omega, by omega, by simp; exact ⟨hp, hd⟩⟩

/-! ### Few -/
def fewE (e : Ent) : Bool := decide (e.path.size ≤ 100) && decide (e.data.size ≤ 1000)
def few9 (es : List Ent) : Bool := decide (es.length ≤ 60) && es.all fewE
theorem few9_sz {es : List Ent} (h : few9 es = true) : es.length ≤ 60 ∧ ∀ e ∈ es, e.path.size ≤ 100 ∧ e.data.size ≤ 1000 := by
  simp only [few9, fewE, Bool.and_eq_true, decide_eq_true_eq, List.all_eq_true] at h
  exact h
theorem few9_no {es : List Ent} {j : Nat} (hj : j < es.length) (h : fewE es[j] = false) : false = few9 es := by
  cases hf : few9 es with
  | false => rfl
  | true =>
    rw [few9, Bool.and_eq_true, List.all_eq_true] at hf
    rw [hf.2 _ (List.getElem_mem hj)] at h
    cases h
set_option maxHeartbeats 1000000 in
theorem few9_any (A : Option Addr) (n c : Nat) (es : List Ent) (w : World) (hl : es.length = n) (hr : Rd w A (entV es)) :
    Calls Tryz.prog 10 #[.slice A n c] w fun e w' => e = .returned (.bool (few9 es)) ∧ w = w' := by
  have HL := hid hl
  clear hl
  by_cases h60 : (60 : Int) < n
  · go_enter Tryz.func10, Tryz.ntmps10
    go_wp2
    go_ret
    refine ⟨ret_bool ?_, rfl⟩
    symm
    refine not_true fun h => ?_
    have := (few9_sz h).1
    have := HL.out
    omega
  · go_enter Tryz.func10, Tryz.ntmps10
    go_wp2_with fail
    go_loop [3] (fun i => ∃ j : Nat, j ≤ n ∧ i = .int .i64 j ∧ Hid ((es.take j).all fewE = true)) (fun i => n - (intOf i).toNat)
    case atStart => exact ⟨0, by omega, rfl, by simp [Hid]⟩
    case round =>
      obtain ⟨j, hj, rfl, HO⟩ := hrel
      by_cases hjn : j < n
      · have hjl : j < es.length := by rw [HL.out]; exact hjn
        obtain ⟨b, off, rfl, h1, -, h2, -⟩ := hr.ent hjl
        have HN := hid (@few9_no es j hjl)
        have HK := hid (all_take_more fewE es j hjl)
        have hz : (0 : Int) ≤ j := by omega
        have hlt : (j : Int) < n := by omega
        generalize es[j] = f at *
        by_cases hx : (100 : Int) < f.path.size
        · go_wp2
          go_ret
          exact ⟨ret_bool (HN.out (by simp [fewE]; omega)), rfl⟩
        · have hxb : decide ((100 : Int) < f.path.size) = false := by simp; omega
          by_cases hd : (1000 : Int) < f.data.size
          · go_wp2
            go_ret
            exact ⟨ret_bool (HN.out (by simp [fewE]; omega)), rfl⟩
          · have hdb : decide ((1000 : Int) < f.data.size) = false := by simp; omega
            go_wp2
            go_round
            case rel => exact ⟨j + 1, by omega, by go_num, hid (by rw [HK.out, HO.out]; simp [fewE]; omega)⟩
            case measure => simp [intOf]; omega
      · have HE := hid (show j = n by omega)
        have hnlt : ¬ (j : Int) < n := by omega
        go_wp2
        go_ret
        refine ⟨ret_bool ?_, rfl⟩
        have ho := HO.out
        rw [HE.out, ← HL.out, List.take_length] at ho
        rw [few9, ho, decide_eq_true (by rw [HL.out]; omega)]
        rfl
theorem few9_et {w : World} {A : Option Addr} {n c : Nat} {es : List Ent} (hf : few9 es = true) (hl : es.length = n) (hr : Rd w A (entV es)) (hc : n ≤ c) (hcm : c ≤ maxLen) : Et w A n c es := by
  obtain ⟨h1, h2⟩ := few9_sz hf
  exact ⟨hl, hr, hc, by omega, hcm, fun f hm => by have := h2 f hm; omega⟩

/-! ### The small case -/
abbrev sa : ByteArray := ⟨#[97]⟩
abbrev sb : ByteArray := ⟨#[98]⟩
abbrev s1 : ByteArray := ⟨#[49]⟩
abbrev L1 : List Ent := [⟨sa, true, s1, 1, 0⟩]
abbrev L2 : List Ent := [⟨sa, false, noS, 1, 1⟩, ⟨sb, true, noS, 0, 1⟩]
theorem smB1 : bothL [] [(sa, s1)] = [(fresh sa, kept (fresh sa) s1)] := by rw [bothL_t, bothL_nil]
theorem smB2 : bothL L1 [(sb, noS)] = [(⟨sa, true, s1, 1, 0⟩, ⟨sa, false, noS, 1, 0⟩), (fresh sb, kept (fresh sb) noS)] := by
  rw [bothL_gt (by decide) (by decide +kernel), bothL_t, bothL_nil]; rfl
theorem smB3 : bothL L2 [(sb, noS)] = [(⟨sa, false, noS, 1, 1⟩, ⟨sa, false, noS, 1, 1⟩), (⟨sb, true, noS, 0, 1⟩, ⟨sb, true, noS, 0, 1⟩)] := by
  rw [bothL_gt (by decide) (by decide +kernel), bothL_eq (by rfl), bothL_nil]; rfl
theorem smN1 : scanN [] [(sa, s1)] 0 = 0 := by rw [scanN, smB1]; decide +kernel
theorem smN2 : scanN L1 [(sb, noS)] 1 = 0 := by rw [scanN, smB2]; decide +kernel
theorem smN3 : scanN L2 [(sb, noS)] 0 = 0 := by rw [scanN, smB3]; decide +kernel
theorem smA1 : scanA [] [(sa, s1)] 0 = L1 := by rw [scanA, if_pos smN1, smB1]; decide +kernel
theorem smA2 : scanA L1 [(sb, noS)] 1 = L2 := by rw [scanA, if_pos smN2, smB2]; decide +kernel
theorem smA3 : scanA L2 [(sb, noS)] 0 = L2 := by rw [scanA, if_pos smN3, smB3]; decide +kernel
theorem smC1 : scanC [] [(sa, s1)] 0 = [sa] := by rw [scanC, if_pos smN1, smB1]; decide +kernel
theorem smC2 : scanC L1 [(sb, noS)] 1 = [sa, sb] := by rw [scanC, if_pos smN2, smB2]; decide +kernel
theorem smC3 : scanC L2 [(sb, noS)] 0 = [] := by rw [scanC, if_pos smN3, smB3]; decide +kernel
theorem smR2 : archR L2 = true := by decide +kernel
theorem smR4 : archR [⟨sa, true, noS, 0, 0⟩] = false := by decide +kernel
theorem smF2 : findE L2 sb = 1 := by decide +kernel
theorem smT2 : (treeE L2).length = 1 := by decide +kernel
end Go.Proofs.YtlmccjdpmhancaaGreatDoor
namespace Go.Proofs.YtlmccjdpmhancaaGreatDoor
open Go.RowKit

/-! ### What comes of two entries -/
def ordE (a b : Ent) : Int := ordI (cl a.l) (cl a.r) (cl b.l) (cl b.r)
theorem ord_cases (a b c d : Nat) : ordI a b c d = 0 ∨ ordI a b c d = 1 ∨ ordI a b c d = 2 ∨ ordI a b c d = 3 := by
  unfold ordI
  split
  · exact .inl rfl
  · split
    · exact .inr (.inl rfl)
    · split
      · exact .inr (.inr (.inl rfl))
      · exact .inr (.inr (.inr rfl))
def likeE (a b : Ent) : Bool := decide (a.has = b.has) && decide (a.data = b.data)
def joinC (a b : Ent) : Int × Int := (((max (cl a.l) (cl b.l) : Nat) : Int), ((max (cl a.r) (cl b.r) : Nat) : Int))
def joinE (a b : Ent) : Ent := ⟨a.path, a.has, a.data, (joinC a b).1, (joinC a b).2⟩
def comeE (a b : Ent) : Ent × Bool :=
  if ordE a b = 1 then (b, false) else if ordE a b = 2 then (a, false) else if likeE a b then ((if ordE a b = 3 then joinE a b else a), false) else (a, true)

/-! ### The entry of a path -/
def atE (es : List Ent) (p : ByteArray) : Option Ent := if idxE es p < 0 then none else es[(idxE es p).toNat]?
theorem atE_no {es : List Ent} {p : ByteArray} (h : idxE es p = -1) : atE es p = none := by unfold atE; rw [h]; rfl
theorem atE_yes {es : List Ent} {p : ByteArray} {j : Nat} (hj : j < es.length) (h : idxE es p = j) : atE es p = some es[j] := by
  unfold atE; rw [h, if_neg (by omega), Int.toNat_natCast, List.getElem?_eq_getElem hj]
def cm : Option Ent → Option Ent → Option (Ent × Bool)
  | some a, some b => some (comeE a b)
  | some a, none => some (a, false)
  | none, some b => some (b, false)
  | none, none => none
end Go.Proofs.YtlmccjdpmhancaaGreatDoor
namespace Go.Proofs.YtlmccjdpmhancaaGreatDoor
open Go.RowKit

/-! ### place -/
set_option maxHeartbeats 400000 in
theorem place1_any (bx : Nat) (e : Ent) (p : ByteArray) (W : World) (hx : W.cell? ⟨bx, 0, none⟩ = some (.string p)) :
    Calls Tryz.prog 80 (#[eA e] ++ #[.pointer (some ⟨bx, 0, none⟩)]) W fun x w' => x = .returned (.bool (decide (e.path = p))) ∧ Below W.heap.size W w' := by
  obtain ⟨x, h, d, l, r⟩ := e
  have hb := World.block_lt_of_cell? _ _ hx
  have HE := hid (str_eqb x p)
  go_enter Tryz.func80, Tryz.ntmps80
  go_wp2
  go_ret
  exact ⟨ret_bool HE.out, by go_grown⟩

set_option maxHeartbeats 1000000 in
theorem idxP_any (bx : Nat) (A : Option Addr) (n c : Nat) (es : List Ent) (p : ByteArray) (w : World) (hl : es.length = n) (hx : w.cell? ⟨bx, 0, none⟩ = some (.string p)) (hr : Rd w A (entV es)) (hn : n ≤ 1000000) :
    Calls Tryz.prog 63 #[.slice A n c, .func (.func 80) #[] #[.pointer (some ⟨bx, 0, none⟩)]] w fun x w' => x = .returned (.int .i64 (idxE es p)) ∧ Below w.heap.size w w' := by
  have eg := enters_of Tryz.func80 (by kernel_rfl) rfl
  have hbx := World.block_lt_of_cell? _ _ hx
  have HL := hid hl
  clear hl
  go_enter Tryz.func63, Tryz.ntmps63
  go_wp2_with fail
  go_loopw [8] (fun i wr => ∃ j : Nat, j ≤ n ∧ i = .int .i64 j ∧ Hid (∀ k (hk : k < es.length), k < j → es[k].path ≠ p) ∧ Below w.heap.size w wr) (fun i _ => n - (intOf i).toNat)
  case atStart => exact ⟨0, by omega, rfl, hid (fun k _ hk => absurd hk (by omega)), Below.refl _ _⟩
  case round =>
    obtain ⟨j, hj, rfl, HO, hb⟩ := hrel
    by_cases hjn : j < n
    · have hjl : j < es.length := by rw [HL.out]; exact hjn
      have hr1 := hr.below hb
      obtain ⟨b, off, rfl, h1, h2, h3, h4, h5, -⟩ := hr1.ent hjl
      have hx1 := (hb.cell (p := ⟨bx, 0, none⟩) hbx).trans hx
      have cc := place1_any bx es[j] p wr hx1
      have HY := hid (fun h => @idxE_at es p j hjl h HO.out)
      have HN : Hid (es[j].path ≠ p → ∀ k (hk : k < es.length), k < j + 1 → es[k].path ≠ p) := fun h k hk hkj => by
        by_cases e : k = j
        · subst e; exact h
        · exact HO.out k hk (by omega)
      generalize es[j] = f at *
      clear hr1
      have hz : (0 : Int) ≤ j := by omega
      have hlt : (j : Int) < n := by omega
      go_wp2_with fail
      refine cc.mono ?_
      rintro e w1 ⟨rfl, hb1⟩
      have hb1' := below2 hb hb1
      clear cc hb hb1 hx1
      by_cases hq : f.path = p
      · rw [decide_eq_true hq]
        have HQ := hid hq
        clear hq
        go_wp2
        go_ret
        exact ⟨ret_int (HY.out HQ.out).symm, hb1'⟩
      · rw [decide_eq_false hq]
        have HQ := hid hq
        clear hq
        go_wp2
        go_roundw
        case rel => exact ⟨j + 1, by omega, by go_num, hid (HN.out HQ.out), hb1'⟩
        case measure => simp [intOf]; omega
    · have HE := hid (show j = n by omega)
      have hnlt : ¬ (j : Int) < n := by omega
      go_wp2
      go_ret
      refine ⟨ret_int ?_, hb⟩
      symm
      refine idxE_no fun e he => ?_
      obtain ⟨k, hk, rfl⟩ := List.mem_iff_getElem.1 he
      exact HO.out k hk (by rw [HE.out, ← HL.out]; exact hk)

set_option maxHeartbeats 400000 in
theorem plc_any {w : World} {A : Option Addr} {n c : Nat} {es : List Ent} (hl : es.length = n) (hr : Rd w A (entV es)) (hn : n ≤ 1000000) (p : ByteArray) :
    Calls Tryz.prog 40 #[.slice A n c, .string p] w fun e w' => e = .returned (.int .i64 (idxE es p)) ∧ Below w.heap.size w w' := by
  have hmf : ∀ (fn : Fn) (first cap : Array Value) (w : World), (Instr.makeFunc fn first cap).run Tryz.prog w = .ok (.func fn first cap) w := fun _ _ _ _ => rfl
  have h1 := hr.below ((Below.refl _ _).alloc (Nat.le_refl _) (.cells #[.string p] 9))
  have c0 := idxP_any w.heap.size A n c es p _ hl (Boxed.new w 9 (.string p)).cell h1 hn
  clear h1 hl hr
  go_enter Tryz.func40, Tryz.ntmps40
  go_wp2_with fail
  refine c0.mono ?_
  clear c0
  rintro e w2 ⟨rfl, hb2⟩
  go_wp2
  go_ret
  exact ⟨rfl, below_new _ hb2⟩

/-! ### joined -/
set_option maxHeartbeats 1000000 in
theorem joined_any (a b : Ent) (w : World) :
    Calls Tryz.prog 50 #[eA a, eA b] w fun e w' => e = .returned (.agg #[.int .i64 (joinC a b).1, .int .i64 (joinC a b).2]) ∧ Below w.heap.size w w' := by
  obtain ⟨p1, h1, d1, l1, r1⟩ := a
  obtain ⟨p2, h2, d2, l2, r2⟩ := b
  have HJ : Hid (joinC ⟨p1, h1, d1, l1, r1⟩ ⟨p2, h2, d2, l2, r2⟩ = (((max (cl l1) (cl l2) : Nat) : Int), ((max (cl r1) (cl r2) : Nat) : Int))) := rfl
  rw [HJ.out]
  clear HJ
  have k1 := cl_le l1
  have k2 := cl_le r1
  have k3 := cl_le l2
  have k4 := cl_le r2
  have hal : ∀ (W : World) (o : Obj), Below W.heap.size W (W.alloc o) := fun W o => (Below.refl _ _).alloc (Nat.le_refl _) o
  have Q0 := ((Blk.new w [.string p1, .bool h1, .string d1, .int .i64 l1, .int .i64 r1] 34).below (hal _ (.cells #[.string p2, .bool h2, .string d2, .int .i64 l2, .int .i64 r2] 34))).below (hal _ (.cells #[.int .i64 0, .int .i64 0] 32))
  have Y0 := (Blk.new (w.alloc (.cells #[.string p1, .bool h1, .string d1, .int .i64 l1, .int .i64 r1] 34)) [.string p2, .bool h2, .string d2, .int .i64 l2, .int .i64 r2] 34).below (hal _ (.cells #[.int .i64 0, .int .i64 0] 32))
  have Z0 := Blk.new ((w.alloc (.cells #[.string p1, .bool h1, .string d1, .int .i64 l1, .int .i64 r1] 34)).alloc (.cells #[.string p2, .bool h2, .string d2, .int .i64 l2, .int .i64 r2] 34)) [.int .i64 0, .int .i64 0] 32
  have b0 := below2 (below2 (hal w (.cells #[.string p1, .bool h1, .string d1, .int .i64 l1, .int .i64 r1] 34)) (hal _ (.cells #[.string p2, .bool h2, .string d2, .int .i64 l2, .int .i64 r2] 34))) (hal _ (.cells #[.int .i64 0, .int .i64 0] 32))
  go_enter Tryz.func50, Tryz.ntmps50
  go_wp2_with fail
  simp at Q0 Y0 Z0
  generalize ((w.alloc (.cells #[.string p1, .bool h1, .string d1, .int .i64 l1, .int .i64 r1] 34)).alloc (.cells #[.string p2, .bool h2, .string d2, .int .i64 l2, .int .i64 r2] 34)).alloc (.cells #[.int .i64 0, .int .i64 0] 32) = W0 at Q0 Y0 Z0 b0 ⊢
  refine wp_region_held_drew (S := fun w' => w'.cell? ⟨w.heap.size, 3, none⟩ = some (.int .i64 l1) ∧ w'.cell? ⟨w.heap.size, 4, none⟩ = some (.int .i64 r1) ∧ w'.cell? ⟨w.heap.size + 1, 3, none⟩ = some (.int .i64 l2) ∧ w'.cell? ⟨w.heap.size + 1, 4, none⟩ = some (.int .i64 r2)) (by kernel_rfl) ⟨Q0.cell 3, Q0.cell 4, Y0.cell 3, Y0.cell 4⟩ (fun hHeld => ?_)
  refine wpAnyH_take (i := 0) (oi := ⟨_, _, _, _, _, _⟩) (v := ?_) rfl (by kernel_rfl) (by kernel_rfl) (by kernel_rfl) (fun _ _ _ h => h) (Or.inl ⟨by rfl, ?_⟩) (by assumption) ?_
  rotate_left
  · intro w hSw; (try dsimp only at hSw); go_simp; (try (with_reducible rfl))
  try simp only [Act.put, List.setIfInBounds_toArray, List.set_cons_zero, List.set_cons_succ]
  refine wpAnyH_take (i := 1) (oi := ⟨_, _, _, _, _, _⟩) (v := ?_) rfl (by kernel_rfl) (by kernel_rfl) (by kernel_rfl) (fun _ _ _ h => h) (Or.inl ⟨by rfl, ?_⟩) (by assumption) ?_
  rotate_left
  · intro w hSw; (try dsimp only at hSw); go_simp; (try (with_reducible rfl))
  try simp only [Act.put, List.setIfInBounds_toArray, List.set_cons_zero, List.set_cons_succ]
  refine wpAnyH_take (i := 3) (oi := ⟨_, _, _, _, _, _⟩) (v := ?_) rfl (by kernel_rfl) (by kernel_rfl) (by kernel_rfl) (fun _ _ _ h => h) (Or.inl ⟨by rfl, ?_⟩) (by assumption) ?_
  rotate_left
  · intro w hSw; (try dsimp only at hSw); go_simp; (try (with_reducible rfl))
  try simp only [Act.put, List.setIfInBounds_toArray, List.set_cons_zero, List.set_cons_succ]
  refine wpAnyH_take (i := 4) (oi := ⟨_, _, _, _, _, _⟩) (v := ?_) rfl (by kernel_rfl) (by kernel_rfl) (by kernel_rfl) (fun _ _ _ h => h) (Or.inl ⟨by rfl, ?_⟩) (by assumption) ?_
  rotate_left
  · intro w hSw; (try dsimp only at hSw); go_simp; (try (with_reducible rfl))
  try simp only [Act.put, List.setIfInBounds_toArray, List.set_cons_zero, List.set_cons_succ]
  refine wpAnyH_ready (rs := [2]) (by kernel_rfl) (by simp) ?_
  refine AllReadyH.cons (o := ⟨_, _, _, _, _, _⟩) rfl (fun K hK => ?_) AllReadyH.nil
  go_simp
  refine (of_any _ _ _).mono ?_
  rintro e w1 ⟨rfl, hb1⟩
  have Q1 := (Q0.drew).below hb1
  have Y1 := (Y0.drew).below hb1
  have Z1 := (Z0.drew).below hb1
  have b1 := below2 b0.drew hb1
  refine hK.out _ _ ⟨Q1.cell 3, Q1.cell 4, Y1.cell 3, Y1.cell 4⟩ (fun hHeld => ?_)
  clear hK K
  try simp only [Act.put, List.setIfInBounds_toArray, List.set_cons_zero, List.set_cons_succ]
  refine wpAnyH_ready (rs := [5]) (by kernel_rfl) (by simp) ?_
  refine AllReadyH.cons (o := ⟨_, _, _, _, _, _⟩) rfl (fun K hK => ?_) AllReadyH.nil
  go_simp
  refine (of_any _ _ _).mono ?_
  rintro e w2 ⟨rfl, hb2⟩
  have Q2 := Q1.below hb2
  have Y2 := Y1.below hb2
  have Z2 := Z1.below hb2
  have b2 := below2 b1 hb2
  refine hK.out _ _ ⟨Q2.cell 3, Q2.cell 4, Y2.cell 3, Y2.cell 4⟩ (fun hHeld => ?_)
  clear hK K
  try simp only [Act.put, List.setIfInBounds_toArray, List.set_cons_zero, List.set_cons_succ]
  refine wpAnyH_ready (rs := [6]) (by kernel_rfl) (by simp) ?_
  refine AllReadyH.cons (o := ⟨_, _, _, _, _, _⟩) rfl (fun K hK => ?_) AllReadyH.nil
  go_simp
  refine (cjoin_any k1 k2 k3 k4 _).mono ?_
  rintro e w3 ⟨rfl, hb3⟩
  have Q3 := Q2.below hb3
  have Y3 := Y2.below hb3
  have Z3 := Z2.below hb3
  have b3 := below2 b2 hb3
  refine hK.out _ _ ⟨Q3.cell 3, Q3.cell 4, Y3.cell 3, Y3.cell 4⟩ (fun hHeld => ?_)
  clear hK K
  try simp only [Act.put, List.setIfInBounds_toArray, List.set_cons_zero, List.set_cons_succ]
  refine wpAnyH_ready (rs := [7]) (by kernel_rfl) (by simp) ?_
  refine AllReadyH.cons (o := ⟨_, _, _, _, _, _⟩) rfl (fun K hK => ?_) AllReadyH.nil
  go_simp
  refine (pair_clk (by omega) (by omega) _).mono ?_
  rintro e w4 ⟨rfl, hb4⟩
  have Q4 := Q3.below hb4
  have Y4 := Y3.below hb4
  have Z4 := Z3.below hb4
  have b4 := below2 b3 hb4
  refine hK.out _ _ ⟨Q4.cell 3, Q4.cell 4, Y4.cell 3, Y4.cell 4⟩ (fun hHeld => ?_)
  clear hK K
  try simp only [Act.put, List.setIfInBounds_toArray, List.set_cons_zero, List.set_cons_succ]
  have z0 := Z4.cell 0
  have z1 := Z4.cell 1
  simp only [List.getElem?_cons_zero, List.getElem?_cons_succ] at z0 z1
  have hge : w.heap.size ≤ w.heap.size + 1 + 1 := by omega
  have n0 := Z4.frozen 0
  have n1 := Z4.frozen 1
  have Z5 := (Z4.set_ 0 (.int .i64 ((max (cl l1) (cl l2) : Nat) : Int))).set_ 1 (.int .i64 ((max (cl r1) (cl r2) : Nat) : Int))
  have Q5 := (Q4.other (show w.heap.size ≠ w.heap.size + 1 + 1 by omega) 0 (.int .i64 ((max (cl l1) (cl l2) : Nat) : Int))).other (show w.heap.size ≠ w.heap.size + 1 + 1 by omega) 1 (.int .i64 ((max (cl r1) (cl r2) : Nat) : Int))
  have Y5 := (Y4.other (show w.heap.size + 1 ≠ w.heap.size + 1 + 1 by omega) 0 (.int .i64 ((max (cl l1) (cl l2) : Nat) : Int))).other (show w.heap.size + 1 ≠ w.heap.size + 1 + 1 by omega) 1 (.int .i64 ((max (cl r1) (cl r2) : Nat) : Int))
  have b5 := (b4.setCell (p := ⟨w.heap.size + 1 + 1, 0, none⟩) hge (.int .i64 ((max (cl l1) (cl l2) : Nat) : Int))).setCell (p := ⟨w.heap.size + 1 + 1, 1, none⟩) hge (.int .i64 ((max (cl r1) (cl r2) : Nat) : Int))
  refine wpAnyH_ready (rs := [8]) (by kernel_rfl) (by simp) ?_
  refine AllReadyH.cons (o := ⟨_, _, _, _, _, _⟩) rfl (fun K hK => ?_) AllReadyH.nil
  go_simp
  refine hK.out _ _ ⟨Q5.cell 3, Q5.cell 4, Y5.cell 3, Y5.cell 4⟩ (fun hHeld => ?_)
  clear hK K
  try simp only [Act.put, List.setIfInBounds_toArray, List.set_cons_zero, List.set_cons_succ]
  refine wpAnyH_done (by kernel_rfl) ?_ _
  have v0 := Z5.cell 0
  have v1 := Z5.cell 1
  simp only [List.set_cons_zero, List.set_cons_succ, List.getElem?_cons_zero, List.getElem?_cons_succ] at v0 v1
  clear hHeld Q0 Y0 Z0 Q1 Y1 Z1 Q2 Y2 Z2 Q3 Y3 Z3 Q4 Y4 Z4 Q5 Y5 Z5 b0 b1 b2 b3 b4 hb1 hb2 hb3 hb4 z0 z1 n0 n1
  go_wp2
  refine bodyPost_ret (v := .agg #[.int .i64 ((max (cl l1) (cl l2) : Nat) : Int), .int .i64 ((max (cl r1) (cl r2) : Nat) : Int)]) (by simp [results, Tryz.results50, go_sem, v0, v1]) rfl ⟨rfl, b5⟩

/-! ### What comes of a path -/
theorem coming_any (A B : Option Addr) (n c m d : Nat) (w : World) :
    Calls Tryz.prog 32 #[.slice A n c, .slice B m d] w fun e w' => e = .returned (.func (.func 66) #[] #[.pointer (some ⟨w.heap.size, 0, none⟩), .pointer (some ⟨w.heap.size + 1, 0, none⟩)]) ∧
      w'.cell? ⟨w.heap.size, 0, none⟩ = some (.slice A n c) ∧ w'.cell? ⟨w.heap.size + 1, 0, none⟩ = some (.slice B m d) ∧ w'.heap.size = w.heap.size + 2 ∧ Below w.heap.size w w' := by
  have hmf : ∀ (fn : Fn) (first cap : Array Value) (w : World), (Instr.makeFunc fn first cap).run Tryz.prog w = .ok (.func fn first cap) w := fun _ _ _ _ => rfl
  have x1 := (Blk.new w [.slice A n c] 22).below ((Below.refl _ _).alloc (Nat.le_refl _) (.cells #[.slice B m d] 22))
  have x2 := Blk.new (w.alloc (.cells #[.slice A n c] 22)) [.slice B m d] 22
  go_enter Tryz.func32, Tryz.ntmps32
  go_wp2
  go_ret
  exact ⟨rfl, x1.cell 0, by simp, by simp, by go_grown⟩

set_option maxHeartbeats 4000000 in
theorem coming1_any {w : World} {A B : Option Addr} {n c m d b1 b2 : Nat} {es fs : List Ent} (h : Et w A n c es) (k : Et w B m d fs) (x1 : w.cell? ⟨b1, 0, none⟩ = some (.slice A n c)) (x2 : w.cell? ⟨b2, 0, none⟩ = some (.slice B m d)) (p : ByteArray) (v : Ent × Bool) (hv : cm (atE es p) (atE fs p) = some v) :
    Calls Tryz.prog 66 (#[.string p] ++ #[.pointer (some ⟨b1, 0, none⟩), .pointer (some ⟨b2, 0, none⟩)]) w fun e w' => e = .returned (.tuple #[eA v.1, .bool v.2]) ∧ Below w.heap.size w w' := by
  have z1 := World.block_lt_of_cell? _ _ x1
  have z2 := World.block_lt_of_cell? _ _ x2
  have hal : ∀ (W : World) (o : Obj), Below W.heap.size W (W.alloc o) := fun W o => (Below.refl _ _).alloc (Nat.le_refl _) o
  have R0 := Blk.new w [.string noS, .bool false, .string noS, .int .i64 0, .int .i64 0] 34
  have b0 := hal w (.cells #[.string noS, .bool false, .string noS, .int .i64 0, .int .i64 0] 34)
  have HV := hid hv
  clear hv
  go_enter Tryz.func66, Tryz.ntmps66
  go_wp2_with fail
  generalize w.alloc (.cells #[.string noS, .bool false, .string noS, .int .i64 0, .int .i64 0] 34) = W0 at R0 b0 ⊢
  have y1 := (b0.cell (p := ⟨b1, 0, none⟩) z1).trans x1
  have y2 := (b0.cell (p := ⟨b2, 0, none⟩) z2).trans x2
  refine wp_region_held_drew (S := fun w' => w'.cell? ⟨b1, 0, none⟩ = some (.slice A n c) ∧ w'.cell? ⟨b2, 0, none⟩ = some (.slice B m d)) (by kernel_rfl) ⟨y1, y2⟩ (fun hHeld => ?_)
  refine wpAnyH_take (i := 0) (oi := ⟨_, _, _, _, _, _⟩) (v := ?_) rfl (by kernel_rfl) (by kernel_rfl) (by kernel_rfl) (fun _ _ _ h => h) (Or.inl ⟨by rfl, ?_⟩) (by assumption) ?_
  rotate_left
  · intro w hSw; (try dsimp only at hSw); go_simp; (try (with_reducible rfl))
  try simp only [Act.put, List.setIfInBounds_toArray, List.set_cons_zero, List.set_cons_succ]
  refine wpAnyH_take (i := 1) (oi := ⟨_, _, _, _, _, _⟩) (v := ?_) rfl (by kernel_rfl) (by kernel_rfl) (by kernel_rfl) (fun _ _ _ h => h) (Or.inl ⟨by rfl, ?_⟩) (by assumption) ?_
  rotate_left
  · intro w hSw; (try dsimp only at hSw); go_simp; (try (with_reducible rfl))
  try simp only [Act.put, List.setIfInBounds_toArray, List.set_cons_zero, List.set_cons_succ]
  refine wpAnyH_take (i := 3) (oi := ⟨_, _, _, _, _, _⟩) (v := ?_) rfl (by kernel_rfl) (by kernel_rfl) (by kernel_rfl) (fun _ _ _ h => h) (Or.inl ⟨by rfl, ?_⟩) (by assumption) ?_
  rotate_left
  · intro w hSw; (try dsimp only at hSw); go_simp; (try (with_reducible rfl))
  try simp only [Act.put, List.setIfInBounds_toArray, List.set_cons_zero, List.set_cons_succ]
  refine wpAnyH_take (i := 4) (oi := ⟨_, _, _, _, _, _⟩) (v := ?_) rfl (by kernel_rfl) (by kernel_rfl) (by kernel_rfl) (fun _ _ _ h => h) (Or.inl ⟨by rfl, ?_⟩) (by assumption) ?_
  rotate_left
  · intro w hSw; (try dsimp only at hSw); go_simp; (try (with_reducible rfl))
  try simp only [Act.put, List.setIfInBounds_toArray, List.set_cons_zero, List.set_cons_succ]
  refine wpAnyH_ready (rs := [2]) (by kernel_rfl) (by simp) ?_
  refine AllReadyH.cons (o := ⟨_, _, _, _, _, _⟩) rfl (fun K hK => ?_) AllReadyH.nil
  go_simp
  refine (plc_any (w := W0.drew) (es := es) h.len (h.rd.below b0.drew) h.big p).mono ?_
  rintro e w1 ⟨rfl, hb1⟩
  have c1 := below2 b0.drew hb1
  clear y1 y2 hHeld
  have y1 := (c1.cell (p := ⟨b1, 0, none⟩) z1).trans x1
  have y2 := (c1.cell (p := ⟨b2, 0, none⟩) z2).trans x2
  refine hK.out _ _ ⟨y1, y2⟩ (fun hHeld => ?_)
  clear hK K
  try simp only [Act.put, List.setIfInBounds_toArray, List.set_cons_zero, List.set_cons_succ]
  refine wpAnyH_ready (rs := [5]) (by kernel_rfl) (by simp) ?_
  refine AllReadyH.cons (o := ⟨_, _, _, _, _, _⟩) rfl (fun K hK => ?_) AllReadyH.nil
  go_simp
  refine (plc_any (es := fs) k.len (k.rd.below c1) k.big p).mono ?_
  rintro e w2 ⟨rfl, hb2⟩
  have c2 := below2 c1 hb2
  clear y1 y2 hHeld
  have y1 := (c2.cell (p := ⟨b1, 0, none⟩) z1).trans x1
  have y2 := (c2.cell (p := ⟨b2, 0, none⟩) z2).trans x2
  refine hK.out _ _ ⟨y1, y2⟩ (fun hHeld => ?_)
  clear hK K
  try simp only [Act.put, List.setIfInBounds_toArray, List.set_cons_zero, List.set_cons_succ]
  refine wpAnyH_take (i := 6) (oi := ⟨_, _, _, _, _, _⟩) (v := ?_) rfl (by kernel_rfl) (by kernel_rfl) (by kernel_rfl) (fun _ _ _ h => h) (Or.inl ⟨by rfl, ?_⟩) (by assumption) ?_
  rotate_left
  · intro w hSw; (try dsimp only at hSw); go_simp; (try (with_reducible rfl))
  try simp only [Act.put, List.setIfInBounds_toArray, List.set_cons_zero, List.set_cons_succ]
  refine wpAnyH_take (i := 7) (oi := ⟨_, _, _, _, _, _⟩) (v := ?_) rfl (by kernel_rfl) (by kernel_rfl) (by kernel_rfl) (fun _ _ _ h => h) (Or.inl ⟨by rfl, ?_⟩) (by assumption) ?_
  rotate_left
  · intro w hSw; (try dsimp only at hSw); go_simp; (try (with_reducible rfl))
  try simp only [Act.put, List.setIfInBounds_toArray, List.set_cons_zero, List.set_cons_succ]
  refine wpAnyH_done (by kernel_rfl) ?_ _
  have R2 := (R0.drew.below hb1).below hb2
  have h2 := h.rd.below c2
  have k2 := k.rd.below c2
  clear hHeld R0 b0 hb1 hb2 c1
  rcases idxE_cases es p with ⟨e1, -⟩ | ⟨i, hi, e1, -⟩
  · rcases idxE_cases fs p with ⟨e2, -⟩ | ⟨j, hj, e2, -⟩
    · have := HV.out
      rw [atE_no e1, atE_no e2] at this
      cases this
    · have HE : Hid (v = (fs[j], false)) := by have := HV.out; rw [atE_no e1, atE_yes hj e2] at this; injection this with this; exact this.symm
      obtain ⟨g, og, rfl, a0, a1, a2, a3, a4, -⟩ := k2.ent hj
      rw [e1, e2]
      have hjz : (0 : Int) ≤ j := by omega
      have hjm : (j : Int) < m := by have := k.len; omega
      generalize fs[j] = x at *
      clear HV h2 k2 h k e1 e2
      have f0 := R2.frozen 0
      have f1 := R2.frozen 1
      have f2 := R2.frozen 2
      have f3 := R2.frozen 3
      have f4 := R2.frozen 4
      have R3 := ((((R2.set_ 0 (.string x.path)).set_ 1 (.bool x.has)).set_ 2 (.string x.data)).set_ 3 (.int .i64 x.l)).set_ 4 (.int .i64 x.r)
      have c3 := ((((c2.setCell (p := ⟨w.heap.size, 0, none⟩) (Nat.le_refl _) (.string x.path)).setCell (p := ⟨w.heap.size, 1, none⟩) (Nat.le_refl _) (.bool x.has)).setCell (p := ⟨w.heap.size, 2, none⟩) (Nat.le_refl _) (.string x.data)).setCell (p := ⟨w.heap.size, 3, none⟩) (Nat.le_refl _) (.int .i64 x.l)).setCell (p := ⟨w.heap.size, 4, none⟩) (Nat.le_refl _) (.int .i64 x.r)
      have r0 := R3.cell 0
      have r1 := R3.cell 1
      have r2 := R3.cell 2
      have r3 := R3.cell 3
      have r4 := R3.cell 4
      have r00 := R2.cell 0
      have r01 := R2.cell 1
      have r02 := R2.cell 2
      have r03 := R2.cell 3
      have r04 := R2.cell 4
      simp only [List.set_cons_zero, List.set_cons_succ, List.getElem?_cons_zero, List.getElem?_cons_succ] at r0 r1 r2 r3 r4 r00 r01 r02 r03 r04
      clear R2 R3 c2
      go_wp2
      refine bodyPost_ret (v := .tuple #[eA x, .bool false]) (by simp [results, Tryz.results66, go_sem, r0, r1, r2, r3, r4]) rfl ⟨by rw [HE.out], c3⟩
  · rcases idxE_cases fs p with ⟨e2, -⟩ | ⟨j, hj, e2, -⟩
    · have HE : Hid (v = (es[i], false)) := by have := HV.out; rw [atE_no e2, atE_yes hi e1] at this; injection this with this; exact this.symm
      obtain ⟨g, og, rfl, a0, a1, a2, a3, a4, -⟩ := h2.ent hi
      rw [e1, e2]
      have hjz : (0 : Int) ≤ i := by omega
      have hjz' : ¬ (i : Int) < 0 := by omega
      have hjm : (i : Int) < n := by have := h.len; omega
      generalize es[i] = x at *
      clear HV h2 k2 h k e1 e2
      have f0 := R2.frozen 0
      have f1 := R2.frozen 1
      have f2 := R2.frozen 2
      have f3 := R2.frozen 3
      have f4 := R2.frozen 4
      have R3 := ((((R2.set_ 0 (.string x.path)).set_ 1 (.bool x.has)).set_ 2 (.string x.data)).set_ 3 (.int .i64 x.l)).set_ 4 (.int .i64 x.r)
      have c3 := ((((c2.setCell (p := ⟨w.heap.size, 0, none⟩) (Nat.le_refl _) (.string x.path)).setCell (p := ⟨w.heap.size, 1, none⟩) (Nat.le_refl _) (.bool x.has)).setCell (p := ⟨w.heap.size, 2, none⟩) (Nat.le_refl _) (.string x.data)).setCell (p := ⟨w.heap.size, 3, none⟩) (Nat.le_refl _) (.int .i64 x.l)).setCell (p := ⟨w.heap.size, 4, none⟩) (Nat.le_refl _) (.int .i64 x.r)
      have r0 := R3.cell 0
      have r1 := R3.cell 1
      have r2 := R3.cell 2
      have r3 := R3.cell 3
      have r4 := R3.cell 4
      have r00 := R2.cell 0
      have r01 := R2.cell 1
      have r02 := R2.cell 2
      have r03 := R2.cell 3
      have r04 := R2.cell 4
      simp only [List.set_cons_zero, List.set_cons_succ, List.getElem?_cons_zero, List.getElem?_cons_succ] at r0 r1 r2 r3 r4 r00 r01 r02 r03 r04
      clear R2 R3 c2
      go_wp2
      refine bodyPost_ret (v := .tuple #[eA x, .bool false]) (by simp [results, Tryz.results66, go_sem, r0, r1, r2, r3, r4]) rfl ⟨by rw [HE.out], c3⟩
    · have HE : Hid (v = comeE es[i] fs[j]) := by have := HV.out; rw [atE_yes hj e2, atE_yes hi e1] at this; injection this with this; exact this.symm
      obtain ⟨g, og, rfl, a0, a1, a2, a3, a4, -⟩ := h2.ent hi
      obtain ⟨g', og', rfl, d0, d1, d2, d3, d4, -⟩ := k2.ent hj
      rw [e1, e2]
      have hiz : (0 : Int) ≤ i := by omega
      have hiz' : ¬ (i : Int) < 0 := by omega
      have hin : (i : Int) < n := by have := h.len; omega
      have hjz : (0 : Int) ≤ j := by omega
      have hjz' : ¬ (j : Int) < 0 := by omega
      have hjm : (j : Int) < m := by have := k.len; omega
      generalize es[i] = x at *
      generalize fs[j] = y at *
      clear HV h2 k2 h k e1 e2
      have lg := World.block_lt_of_cell? _ _ a0
      have lg' := World.block_lt_of_cell? _ _ d0
      go_upto_region 6 with (fail)
      go_cut [8, 9] (fun v8 v9 wx => ∃ q1 q2 : Nat, v8 = .pointer (some ⟨q1, 0, none⟩) ∧ v9 = .pointer (some ⟨q2, 0, none⟩) ∧ Blk wx q1 [.string x.path, .bool x.has, .string x.data, .int .i64 x.l, .int .i64 x.r] 34 ∧ Blk wx q2 [.string y.path, .bool y.has, .string y.data, .int .i64 y.l, .int .i64 y.r] 34 ∧ w2.heap.size ≤ q1 ∧ Below w2.heap.size w2 wx)
      case first =>
        go_wp2_with fail
        have HS : Hid (∀ W, Below w2.heap.size w2 W → (fun w' => (w'.cell? ⟨b1, 0, none⟩ = some (.slice (some ⟨g, og, none⟩) n c) ∧ w'.cell? ⟨b2, 0, none⟩ = some (.slice (some ⟨g', og', none⟩) m d)) ∧ (w'.cell? ⟨g, og + i * 5, none⟩ = some (.string x.path) ∧ w'.cell? ⟨g, og + i * 5 + 1, none⟩ = some (.bool x.has) ∧ w'.cell? ⟨g, og + i * 5 + 2, none⟩ = some (.string x.data) ∧ w'.cell? ⟨g, og + i * 5 + 3, none⟩ = some (.int .i64 x.l) ∧ w'.cell? ⟨g, og + i * 5 + 4, none⟩ = some (.int .i64 x.r)) ∧ w'.cell? ⟨g', og' + j * 5, none⟩ = some (.string y.path) ∧ w'.cell? ⟨g', og' + j * 5 + 1, none⟩ = some (.bool y.has) ∧ w'.cell? ⟨g', og' + j * 5 + 2, none⟩ = some (.string y.data) ∧ w'.cell? ⟨g', og' + j * 5 + 3, none⟩ = some (.int .i64 y.l) ∧ w'.cell? ⟨g', og' + j * 5 + 4, none⟩ = some (.int .i64 y.r)) W) := fun W hb => by
          dsimp only
          rw [hb.cell (p := ⟨b1, 0, none⟩) (by have := c2.size; dsimp only; omega), hb.cell (p := ⟨b2, 0, none⟩) (by have := c2.size; dsimp only; omega)]
          rw [hb.cell (p := ⟨g, og + i * 5, none⟩) lg, hb.cell (p := ⟨g', og' + j * 5, none⟩) lg']
          rw [hb.cell (p := ⟨g, og + i * 5 + 1, none⟩) lg, hb.cell (p := ⟨g', og' + j * 5 + 1, none⟩) lg']
          rw [hb.cell (p := ⟨g, og + i * 5 + 2, none⟩) lg, hb.cell (p := ⟨g', og' + j * 5 + 2, none⟩) lg']
          rw [hb.cell (p := ⟨g, og + i * 5 + 3, none⟩) lg, hb.cell (p := ⟨g', og' + j * 5 + 3, none⟩) lg']
          rw [hb.cell (p := ⟨g, og + i * 5 + 4, none⟩) lg, hb.cell (p := ⟨g', og' + j * 5 + 4, none⟩) lg']
          exact ⟨⟨y1, y2⟩, ⟨a0, a1, a2, a3, a4⟩, d0, d1, d2, d3, d4⟩
        refine wp_region_held_drew (S := fun w' => (w'.cell? ⟨b1, 0, none⟩ = some (.slice (some ⟨g, og, none⟩) n c) ∧ w'.cell? ⟨b2, 0, none⟩ = some (.slice (some ⟨g', og', none⟩) m d)) ∧ (w'.cell? ⟨g, og + i * 5, none⟩ = some (.string x.path) ∧ w'.cell? ⟨g, og + i * 5 + 1, none⟩ = some (.bool x.has) ∧ w'.cell? ⟨g, og + i * 5 + 2, none⟩ = some (.string x.data) ∧ w'.cell? ⟨g, og + i * 5 + 3, none⟩ = some (.int .i64 x.l) ∧ w'.cell? ⟨g, og + i * 5 + 4, none⟩ = some (.int .i64 x.r)) ∧ w'.cell? ⟨g', og' + j * 5, none⟩ = some (.string y.path) ∧ w'.cell? ⟨g', og' + j * 5 + 1, none⟩ = some (.bool y.has) ∧ w'.cell? ⟨g', og' + j * 5 + 2, none⟩ = some (.string y.data) ∧ w'.cell? ⟨g', og' + j * 5 + 3, none⟩ = some (.int .i64 y.l) ∧ w'.cell? ⟨g', og' + j * 5 + 4, none⟩ = some (.int .i64 y.r)) (by kernel_rfl) (HS.out _ (Below.refl _ _).drew) (fun hHeld => ?_)
        refine wpAnyH_take (i := 0) (oi := ⟨_, _, _, _, _, _⟩) (v := ?_) rfl (by kernel_rfl) (by kernel_rfl) (by kernel_rfl) (fun _ _ _ h => h) (Or.inl ⟨by rfl, ?_⟩) (by assumption) ?_
        rotate_left
        · intro w hSw; (try dsimp only at hSw); go_simp; (try (with_reducible rfl))
        try simp only [Act.put, List.setIfInBounds_toArray, List.set_cons_zero, List.set_cons_succ]
        refine wpAnyH_take (i := 1) (oi := ⟨_, _, _, _, _, _⟩) (v := ?_) rfl (by kernel_rfl) (by kernel_rfl) (by kernel_rfl) (fun _ _ _ h => h) (Or.inl ⟨by rfl, ?_⟩) (by assumption) ?_
        rotate_left
        · intro w hSw; (try dsimp only at hSw); go_simp; (try (with_reducible rfl))
        try simp only [Act.put, List.setIfInBounds_toArray, List.set_cons_zero, List.set_cons_succ]
        refine wpAnyH_take (i := 2) (oi := ⟨_, _, _, _, _, _⟩) (v := ?_) rfl (by kernel_rfl) (by kernel_rfl) (by kernel_rfl) (fun _ _ _ h => h) (Or.inl ⟨by rfl, ?_⟩) (by assumption) ?_
        rotate_left
        · intro w hSw; (try dsimp only at hSw); go_simp; (try (with_reducible rfl))
        try simp only [Act.put, List.setIfInBounds_toArray, List.set_cons_zero, List.set_cons_succ]
        refine wpAnyH_take (i := 3) (oi := ⟨_, _, _, _, _, _⟩) (v := ?_) rfl (by kernel_rfl) (by kernel_rfl) (by kernel_rfl) (fun _ _ _ h => h) (Or.inl ⟨by rfl, ?_⟩) (by assumption) ?_
        rotate_left
        · intro w hSw; (try dsimp only at hSw); go_simp; (try (with_reducible rfl))
        try simp only [Act.put, List.setIfInBounds_toArray, List.set_cons_zero, List.set_cons_succ]
        refine wpAnyH_take (i := 4) (oi := ⟨_, _, _, _, _, _⟩) (v := ?_) rfl (by kernel_rfl) (by kernel_rfl) (by kernel_rfl) (fun _ _ _ h => h) (Or.inl ⟨by rfl, ?_⟩) (by assumption) ?_
        rotate_left
        · intro w hSw; (try dsimp only at hSw); go_simp; (try (with_reducible rfl))
        try simp only [Act.put, List.setIfInBounds_toArray, List.set_cons_zero, List.set_cons_succ]
        refine wpAnyH_take (i := 5) (oi := ⟨_, _, _, _, _, _⟩) (v := ?_) rfl (by kernel_rfl) (by kernel_rfl) (by kernel_rfl) (fun _ _ _ h => h) (Or.inl ⟨by rfl, ?_⟩) (by assumption) ?_
        rotate_left
        · intro w hSw; (try dsimp only at hSw); go_simp; (try (with_reducible rfl))
        try simp only [Act.put, List.setIfInBounds_toArray, List.set_cons_zero, List.set_cons_succ]
        refine wpAnyH_take (i := 6) (oi := ⟨_, _, _, _, _, _⟩) (v := ?_) rfl (by kernel_rfl) (by kernel_rfl) (by kernel_rfl) (fun _ _ _ h => h) (Or.inl ⟨by rfl, ?_⟩) (by assumption) ?_
        rotate_left
        · intro w hSw; (try dsimp only at hSw); go_simp; (try (with_reducible rfl))
        try simp only [Act.put, List.setIfInBounds_toArray, List.set_cons_zero, List.set_cons_succ]
        refine wpAnyH_take (i := 7) (oi := ⟨_, _, _, _, _, _⟩) (v := ?_) rfl (by kernel_rfl) (by kernel_rfl) (by kernel_rfl) (fun _ _ _ h => h) (Or.inl ⟨by rfl, ?_⟩) (by assumption) ?_
        rotate_left
        · intro w hSw; (try dsimp only at hSw); go_simp; (try (with_reducible rfl))
        try simp only [Act.put, List.setIfInBounds_toArray, List.set_cons_zero, List.set_cons_succ]
        refine wpAnyH_ready (rs := [8, 9]) (by kernel_rfl) (by simp) ?_
        refine AllReadyH.cons (o := ⟨_, _, _, _, _, _⟩) rfl (fun K hK => ?_) (AllReadyH.cons (o := ⟨_, _, _, _, _, _⟩) rfl (fun K hK => ?_) (AllReadyH.nil))
        · go_simp
          clear hHeld
          refine hK.out _ _ (HS.out _ ((Below.refl _ _).drew.alloc (Nat.le_refl _) _)) (fun hHeld => ?_)
          clear hK K
          try simp only [Act.put, List.setIfInBounds_toArray, List.set_cons_zero, List.set_cons_succ]
          refine wpAnyH_ready (rs := [9]) (by kernel_rfl) (by simp) ?_
          refine AllReadyH.cons (o := ⟨_, _, _, _, _, _⟩) rfl (fun K hK => ?_) AllReadyH.nil
          go_simp
          clear hHeld
          refine hK.out _ _ (HS.out _ (((Below.refl _ _).drew.alloc (Nat.le_refl _) _).alloc (by simp) _)) (fun hHeld => ?_)
          clear hK K
          try simp only [Act.put, List.setIfInBounds_toArray, List.set_cons_zero, List.set_cons_succ]
          have P0 : Blk (((w2.alloc (.cells #[.string ⟨#[]⟩, .bool false, .string ⟨#[]⟩, .int .i64 0, .int .i64 0] 34)).alloc (.cells #[.string ⟨#[]⟩, .bool false, .string ⟨#[]⟩, .int .i64 0, .int .i64 0] 34)).drew) (w2.heap.size) [.string ⟨#[]⟩, .bool false, .string ⟨#[]⟩, .int .i64 0, .int .i64 0] 34 := (Blk.new w2 [.string ⟨#[]⟩, .bool false, .string ⟨#[]⟩, .int .i64 0, .int .i64 0] 34).below (hal _ _).drew
          have Y0 : Blk (((w2.alloc (.cells #[.string ⟨#[]⟩, .bool false, .string ⟨#[]⟩, .int .i64 0, .int .i64 0] 34)).alloc (.cells #[.string ⟨#[]⟩, .bool false, .string ⟨#[]⟩, .int .i64 0, .int .i64 0] 34)).drew) (w2.heap.size + 1) [.string ⟨#[]⟩, .bool false, .string ⟨#[]⟩, .int .i64 0, .int .i64 0] 34 := by
            have hs : (w2.alloc (.cells #[.string ⟨#[]⟩, .bool false, .string ⟨#[]⟩, .int .i64 0, .int .i64 0] 34)).heap.size = w2.heap.size + 1 := by simp
            rw [← hs]; exact (Blk.new (w2.alloc (.cells #[.string ⟨#[]⟩, .bool false, .string ⟨#[]⟩, .int .i64 0, .int .i64 0] 34)) [.string ⟨#[]⟩, .bool false, .string ⟨#[]⟩, .int .i64 0, .int .i64 0] 34).drew
          have bW : Below w2.heap.size w2 (((w2.alloc (.cells #[.string ⟨#[]⟩, .bool false, .string ⟨#[]⟩, .int .i64 0, .int .i64 0] 34)).alloc (.cells #[.string ⟨#[]⟩, .bool false, .string ⟨#[]⟩, .int .i64 0, .int .i64 0] 34)).drew) := (below2 (hal w2 _) (hal _ _)).drew
          generalize ((w2.alloc (.cells #[.string ⟨#[]⟩, .bool false, .string ⟨#[]⟩, .int .i64 0, .int .i64 0] 34)).alloc (.cells #[.string ⟨#[]⟩, .bool false, .string ⟨#[]⟩, .int .i64 0, .int .i64 0] 34)).drew = W1 at P0 Y0 bW ⊢
          have u0 := P0.cell 0
          have u1 := P0.cell 1
          have u2 := P0.cell 2
          have u3 := P0.cell 3
          have u4 := P0.cell 4
          have uf0 := P0.frozen 0
          have uf1 := P0.frozen 1
          have uf2 := P0.frozen 2
          have uf3 := P0.frozen 3
          have uf4 := P0.frozen 4
          simp only [List.getElem?_cons_zero, List.getElem?_cons_succ] at u0 u1 u2 u3 u4
          have v0 := Y0.cell 0
          have v1 := Y0.cell 1
          have v2 := Y0.cell 2
          have v3 := Y0.cell 3
          have v4 := Y0.cell 4
          have vf0 := Y0.frozen 0
          have vf1 := Y0.frozen 1
          have vf2 := Y0.frozen 2
          have vf3 := Y0.frozen 3
          have vf4 := Y0.frozen 4
          simp only [List.getElem?_cons_zero, List.getElem?_cons_succ] at v0 v1 v2 v3 v4
          have hq1 : w2.heap.size ≤ w2.heap.size := by omega
          have hq2 : w2.heap.size ≤ w2.heap.size + 1 := by omega
          have bX := (((((bW.setCell (p := ⟨w2.heap.size, 0, none⟩) hq1 (.string x.path)).setCell (p := ⟨w2.heap.size, 1, none⟩) hq1 (.bool x.has)).setCell (p := ⟨w2.heap.size, 2, none⟩) hq1 (.string x.data)).setCell (p := ⟨w2.heap.size, 3, none⟩) hq1 (.int .i64 x.l)).setCell (p := ⟨w2.heap.size, 4, none⟩) hq1 (.int .i64 x.r))
          have P1 := ((((P0.set_ 0 (.string x.path)).set_ 1 (.bool x.has)).set_ 2 (.string x.data)).set_ 3 (.int .i64 x.l)).set_ 4 (.int .i64 x.r)
          have Y1 := ((((Y0.other (show w2.heap.size + 1 ≠ w2.heap.size by omega) 0 (.string x.path)).other (show w2.heap.size + 1 ≠ w2.heap.size by omega) 1 (.bool x.has)).other (show w2.heap.size + 1 ≠ w2.heap.size by omega) 2 (.string x.data)).other (show w2.heap.size + 1 ≠ w2.heap.size by omega) 3 (.int .i64 x.l)).other (show w2.heap.size + 1 ≠ w2.heap.size by omega) 4 (.int .i64 x.r)
          simp only [List.set_cons_zero, List.set_cons_succ] at P1
          refine wpAnyH_ready (rs := [10]) (by kernel_rfl) (by simp) ?_
          refine AllReadyH.cons (o := ⟨_, _, _, _, _, _⟩) rfl (fun K hK => ?_) AllReadyH.nil
          go_simp
          clear hHeld
          generalize (((((W1).setCell ⟨w2.heap.size, 0, none⟩ (.string x.path)).setCell ⟨w2.heap.size, 1, none⟩ (.bool x.has)).setCell ⟨w2.heap.size, 2, none⟩ (.string x.data)).setCell ⟨w2.heap.size, 3, none⟩ (.int .i64 x.l)).setCell ⟨w2.heap.size, 4, none⟩ (.int .i64 x.r) = W2 at *
          refine hK.out _ _ (HS.out _ bX) (fun hHeld => ?_)
          clear hK K
          try simp only [Act.put, List.setIfInBounds_toArray, List.set_cons_zero, List.set_cons_succ]
          clear u0 v0 uf0 vf0 u1 v1 uf1 vf1 u2 v2 uf2 vf2 u3 v3 uf3 vf3 u4 v4 uf4 vf4
          have v0 := Y1.cell 0
          have v1 := Y1.cell 1
          have v2 := Y1.cell 2
          have v3 := Y1.cell 3
          have v4 := Y1.cell 4
          have vf0 := Y1.frozen 0
          have vf1 := Y1.frozen 1
          have vf2 := Y1.frozen 2
          have vf3 := Y1.frozen 3
          have vf4 := Y1.frozen 4
          simp only [List.getElem?_cons_zero, List.getElem?_cons_succ] at v0 v1 v2 v3 v4
          have bY := (((((bX.setCell (p := ⟨w2.heap.size + 1, 0, none⟩) hq2 (.string y.path)).setCell (p := ⟨w2.heap.size + 1, 1, none⟩) hq2 (.bool y.has)).setCell (p := ⟨w2.heap.size + 1, 2, none⟩) hq2 (.string y.data)).setCell (p := ⟨w2.heap.size + 1, 3, none⟩) hq2 (.int .i64 y.l)).setCell (p := ⟨w2.heap.size + 1, 4, none⟩) hq2 (.int .i64 y.r))
          have Y2 := ((((Y1.set_ 0 (.string y.path)).set_ 1 (.bool y.has)).set_ 2 (.string y.data)).set_ 3 (.int .i64 y.l)).set_ 4 (.int .i64 y.r)
          have P2 := ((((P1.other (show w2.heap.size ≠ w2.heap.size + 1 by omega) 0 (.string y.path)).other (show w2.heap.size ≠ w2.heap.size + 1 by omega) 1 (.bool y.has)).other (show w2.heap.size ≠ w2.heap.size + 1 by omega) 2 (.string y.data)).other (show w2.heap.size ≠ w2.heap.size + 1 by omega) 3 (.int .i64 y.l)).other (show w2.heap.size ≠ w2.heap.size + 1 by omega) 4 (.int .i64 y.r)
          simp only [List.set_cons_zero, List.set_cons_succ] at Y2
          refine wpAnyH_ready (rs := [11]) (by kernel_rfl) (by simp) ?_
          refine AllReadyH.cons (o := ⟨_, _, _, _, _, _⟩) rfl (fun K hK => ?_) AllReadyH.nil
          go_simp
          clear hHeld
          generalize (((((W2).setCell ⟨w2.heap.size + 1, 0, none⟩ (.string y.path)).setCell ⟨w2.heap.size + 1, 1, none⟩ (.bool y.has)).setCell ⟨w2.heap.size + 1, 2, none⟩ (.string y.data)).setCell ⟨w2.heap.size + 1, 3, none⟩ (.int .i64 y.l)).setCell ⟨w2.heap.size + 1, 4, none⟩ (.int .i64 y.r) = W3 at *
          refine hK.out _ _ (HS.out _ bY) (fun hHeld => ?_)
          clear hK K
          try simp only [Act.put, List.setIfInBounds_toArray, List.set_cons_zero, List.set_cons_succ]
          refine wpAnyH_done (by kernel_rfl) ?_ _
          go_wp2_with fail
          go_meet
          case rel => exact ⟨w2.heap.size, w2.heap.size + 1, rfl, rfl, P2, Y2, hq1, bY⟩
        · go_simp
          clear hHeld
          refine hK.out _ _ (HS.out _ ((Below.refl _ _).drew.alloc (Nat.le_refl _) _)) (fun hHeld => ?_)
          clear hK K
          try simp only [Act.put, List.setIfInBounds_toArray, List.set_cons_zero, List.set_cons_succ]
          refine wpAnyH_ready (rs := [8]) (by kernel_rfl) (by simp) ?_
          refine AllReadyH.cons (o := ⟨_, _, _, _, _, _⟩) rfl (fun K hK => ?_) AllReadyH.nil
          go_simp
          clear hHeld
          refine hK.out _ _ (HS.out _ (((Below.refl _ _).drew.alloc (Nat.le_refl _) _).alloc (by simp) _)) (fun hHeld => ?_)
          clear hK K
          try simp only [Act.put, List.setIfInBounds_toArray, List.set_cons_zero, List.set_cons_succ]
          have Y0 : Blk (((w2.alloc (.cells #[.string ⟨#[]⟩, .bool false, .string ⟨#[]⟩, .int .i64 0, .int .i64 0] 34)).alloc (.cells #[.string ⟨#[]⟩, .bool false, .string ⟨#[]⟩, .int .i64 0, .int .i64 0] 34)).drew) (w2.heap.size) [.string ⟨#[]⟩, .bool false, .string ⟨#[]⟩, .int .i64 0, .int .i64 0] 34 := (Blk.new w2 [.string ⟨#[]⟩, .bool false, .string ⟨#[]⟩, .int .i64 0, .int .i64 0] 34).below (hal _ _).drew
          have P0 : Blk (((w2.alloc (.cells #[.string ⟨#[]⟩, .bool false, .string ⟨#[]⟩, .int .i64 0, .int .i64 0] 34)).alloc (.cells #[.string ⟨#[]⟩, .bool false, .string ⟨#[]⟩, .int .i64 0, .int .i64 0] 34)).drew) (w2.heap.size + 1) [.string ⟨#[]⟩, .bool false, .string ⟨#[]⟩, .int .i64 0, .int .i64 0] 34 := by
            have hs : (w2.alloc (.cells #[.string ⟨#[]⟩, .bool false, .string ⟨#[]⟩, .int .i64 0, .int .i64 0] 34)).heap.size = w2.heap.size + 1 := by simp
            rw [← hs]; exact (Blk.new (w2.alloc (.cells #[.string ⟨#[]⟩, .bool false, .string ⟨#[]⟩, .int .i64 0, .int .i64 0] 34)) [.string ⟨#[]⟩, .bool false, .string ⟨#[]⟩, .int .i64 0, .int .i64 0] 34).drew
          have bW : Below w2.heap.size w2 (((w2.alloc (.cells #[.string ⟨#[]⟩, .bool false, .string ⟨#[]⟩, .int .i64 0, .int .i64 0] 34)).alloc (.cells #[.string ⟨#[]⟩, .bool false, .string ⟨#[]⟩, .int .i64 0, .int .i64 0] 34)).drew) := (below2 (hal w2 _) (hal _ _)).drew
          generalize ((w2.alloc (.cells #[.string ⟨#[]⟩, .bool false, .string ⟨#[]⟩, .int .i64 0, .int .i64 0] 34)).alloc (.cells #[.string ⟨#[]⟩, .bool false, .string ⟨#[]⟩, .int .i64 0, .int .i64 0] 34)).drew = W1 at P0 Y0 bW ⊢
          have u0 := P0.cell 0
          have u1 := P0.cell 1
          have u2 := P0.cell 2
          have u3 := P0.cell 3
          have u4 := P0.cell 4
          have uf0 := P0.frozen 0
          have uf1 := P0.frozen 1
          have uf2 := P0.frozen 2
          have uf3 := P0.frozen 3
          have uf4 := P0.frozen 4
          simp only [List.getElem?_cons_zero, List.getElem?_cons_succ] at u0 u1 u2 u3 u4
          have v0 := Y0.cell 0
          have v1 := Y0.cell 1
          have v2 := Y0.cell 2
          have v3 := Y0.cell 3
          have v4 := Y0.cell 4
          have vf0 := Y0.frozen 0
          have vf1 := Y0.frozen 1
          have vf2 := Y0.frozen 2
          have vf3 := Y0.frozen 3
          have vf4 := Y0.frozen 4
          simp only [List.getElem?_cons_zero, List.getElem?_cons_succ] at v0 v1 v2 v3 v4
          have hq1 : w2.heap.size ≤ w2.heap.size + 1 := by omega
          have hq2 : w2.heap.size ≤ w2.heap.size := by omega
          have bX := (((((bW.setCell (p := ⟨w2.heap.size + 1, 0, none⟩) hq1 (.string x.path)).setCell (p := ⟨w2.heap.size + 1, 1, none⟩) hq1 (.bool x.has)).setCell (p := ⟨w2.heap.size + 1, 2, none⟩) hq1 (.string x.data)).setCell (p := ⟨w2.heap.size + 1, 3, none⟩) hq1 (.int .i64 x.l)).setCell (p := ⟨w2.heap.size + 1, 4, none⟩) hq1 (.int .i64 x.r))
          have P1 := ((((P0.set_ 0 (.string x.path)).set_ 1 (.bool x.has)).set_ 2 (.string x.data)).set_ 3 (.int .i64 x.l)).set_ 4 (.int .i64 x.r)
          have Y1 := ((((Y0.other (show w2.heap.size ≠ w2.heap.size + 1 by omega) 0 (.string x.path)).other (show w2.heap.size ≠ w2.heap.size + 1 by omega) 1 (.bool x.has)).other (show w2.heap.size ≠ w2.heap.size + 1 by omega) 2 (.string x.data)).other (show w2.heap.size ≠ w2.heap.size + 1 by omega) 3 (.int .i64 x.l)).other (show w2.heap.size ≠ w2.heap.size + 1 by omega) 4 (.int .i64 x.r)
          simp only [List.set_cons_zero, List.set_cons_succ] at P1
          refine wpAnyH_ready (rs := [10]) (by kernel_rfl) (by simp) ?_
          refine AllReadyH.cons (o := ⟨_, _, _, _, _, _⟩) rfl (fun K hK => ?_) AllReadyH.nil
          go_simp
          clear hHeld
          generalize (((((W1).setCell ⟨w2.heap.size + 1, 0, none⟩ (.string x.path)).setCell ⟨w2.heap.size + 1, 1, none⟩ (.bool x.has)).setCell ⟨w2.heap.size + 1, 2, none⟩ (.string x.data)).setCell ⟨w2.heap.size + 1, 3, none⟩ (.int .i64 x.l)).setCell ⟨w2.heap.size + 1, 4, none⟩ (.int .i64 x.r) = W2 at *
          refine hK.out _ _ (HS.out _ bX) (fun hHeld => ?_)
          clear hK K
          try simp only [Act.put, List.setIfInBounds_toArray, List.set_cons_zero, List.set_cons_succ]
          clear u0 v0 uf0 vf0 u1 v1 uf1 vf1 u2 v2 uf2 vf2 u3 v3 uf3 vf3 u4 v4 uf4 vf4
          have v0 := Y1.cell 0
          have v1 := Y1.cell 1
          have v2 := Y1.cell 2
          have v3 := Y1.cell 3
          have v4 := Y1.cell 4
          have vf0 := Y1.frozen 0
          have vf1 := Y1.frozen 1
          have vf2 := Y1.frozen 2
          have vf3 := Y1.frozen 3
          have vf4 := Y1.frozen 4
          simp only [List.getElem?_cons_zero, List.getElem?_cons_succ] at v0 v1 v2 v3 v4
          have bY := (((((bX.setCell (p := ⟨w2.heap.size, 0, none⟩) hq2 (.string y.path)).setCell (p := ⟨w2.heap.size, 1, none⟩) hq2 (.bool y.has)).setCell (p := ⟨w2.heap.size, 2, none⟩) hq2 (.string y.data)).setCell (p := ⟨w2.heap.size, 3, none⟩) hq2 (.int .i64 y.l)).setCell (p := ⟨w2.heap.size, 4, none⟩) hq2 (.int .i64 y.r))
          have Y2 := ((((Y1.set_ 0 (.string y.path)).set_ 1 (.bool y.has)).set_ 2 (.string y.data)).set_ 3 (.int .i64 y.l)).set_ 4 (.int .i64 y.r)
          have P2 := ((((P1.other (show w2.heap.size + 1 ≠ w2.heap.size by omega) 0 (.string y.path)).other (show w2.heap.size + 1 ≠ w2.heap.size by omega) 1 (.bool y.has)).other (show w2.heap.size + 1 ≠ w2.heap.size by omega) 2 (.string y.data)).other (show w2.heap.size + 1 ≠ w2.heap.size by omega) 3 (.int .i64 y.l)).other (show w2.heap.size + 1 ≠ w2.heap.size by omega) 4 (.int .i64 y.r)
          simp only [List.set_cons_zero, List.set_cons_succ] at Y2
          refine wpAnyH_ready (rs := [11]) (by kernel_rfl) (by simp) ?_
          refine AllReadyH.cons (o := ⟨_, _, _, _, _, _⟩) rfl (fun K hK => ?_) AllReadyH.nil
          go_simp
          clear hHeld
          generalize (((((W2).setCell ⟨w2.heap.size, 0, none⟩ (.string y.path)).setCell ⟨w2.heap.size, 1, none⟩ (.bool y.has)).setCell ⟨w2.heap.size, 2, none⟩ (.string y.data)).setCell ⟨w2.heap.size, 3, none⟩ (.int .i64 y.l)).setCell ⟨w2.heap.size, 4, none⟩ (.int .i64 y.r) = W3 at *
          refine hK.out _ _ (HS.out _ bY) (fun hHeld => ?_)
          clear hK K
          try simp only [Act.put, List.setIfInBounds_toArray, List.set_cons_zero, List.set_cons_succ]
          refine wpAnyH_done (by kernel_rfl) ?_ _
          go_wp2_with fail
          go_meet
          case rel => exact ⟨w2.heap.size + 1, w2.heap.size, rfl, rfl, P2, Y2, hq1, bY⟩
      case rest =>
      obtain ⟨q1, q2, rfl, rfl, P2, Y2, hq1, bY⟩ := hcut
      have hR := R2.lt
      have R3 := R2.below bY
      have c3 := below2 c2 bY
      have hwq : w.heap.size < q1 := by omega
      clear R2 bY y1 y2 x1 x2 a0 a1 a2 a3 a4 d0 d1 d2 d3 d4 lg lg' z1 z2 c2 hiz hiz' hin hjz hjz' hjm hR hq1
      go_upto_region 7 with (fail)
      go_cut [10] (fun v wx => v = .bool (likeE x y) ∧ wc = wx)
      case first =>
        have u0 := P2.cell 0
        have u1 := P2.cell 1
        have u2 := P2.cell 2
        have u3 := P2.cell 3
        have u4 := P2.cell 4
        simp only [List.getElem?_cons_zero, List.getElem?_cons_succ] at u0 u1 u2 u3 u4
        have v0 := Y2.cell 0
        have v1 := Y2.cell 1
        have v2 := Y2.cell 2
        have v3 := Y2.cell 3
        have v4 := Y2.cell 4
        simp only [List.getElem?_cons_zero, List.getElem?_cons_succ] at v0 v1 v2 v3 v4
        have hsq := str_eqb x.data y.data
        by_cases hh : x.has = y.has
        · have hhb : (x.has == y.has) = true := by simp [hh]
          by_cases hd : x.data = y.data
          · rw [decide_eq_true hd] at hsq
            have HL : Hid (likeE x y = true) := by show _ = _; unfold likeE; rw [decide_eq_true hh, decide_eq_true hd]; rfl
            clear hh hd
            go_wp2_with fail
            go_meet
            case rel => exact ⟨by rw [HL.out], rfl⟩
          · rw [decide_eq_false hd] at hsq
            have HL : Hid (likeE x y = false) := by show _ = _; unfold likeE; rw [decide_eq_true hh, decide_eq_false hd]; rfl
            clear hh hd
            go_wp2_with fail
            go_meet
            case rel => exact ⟨by rw [HL.out], rfl⟩
        · have hhb : (x.has == y.has) = false := by simp [hh]
          have HL : Hid (likeE x y = false) := by show _ = _; unfold likeE; rw [decide_eq_false hh]; rfl
          clear hh hsq
          go_wp2_with fail
          go_meet
          case rel => exact ⟨by rw [HL.out], rfl⟩
      case rest =>
      obtain ⟨rfl, rfl⟩ := hcut
      go_wp2_with fail
      refine wp_region_held_drew (S := fun w' => w'.cell? ⟨q1, 3, none⟩ = some (.int .i64 x.l) ∧ w'.cell? ⟨q1, 4, none⟩ = some (.int .i64 x.r) ∧ w'.cell? ⟨q2, 3, none⟩ = some (.int .i64 y.l) ∧ w'.cell? ⟨q2, 4, none⟩ = some (.int .i64 y.r)) (by kernel_rfl) ⟨P2.cell 3, P2.cell 4, Y2.cell 3, Y2.cell 4⟩ (fun hHeld => ?_)
      refine wpAnyH_take (i := 0) (oi := ⟨_, _, _, _, _, _⟩) (v := ?_) rfl (by kernel_rfl) (by kernel_rfl) (by kernel_rfl) (fun _ _ _ h => h) (Or.inl ⟨by rfl, ?_⟩) (by assumption) ?_
      rotate_left
      · intro w hSw; (try dsimp only at hSw); go_simp; (try (with_reducible rfl))
      try simp only [Act.put, List.setIfInBounds_toArray, List.set_cons_zero, List.set_cons_succ]
      refine wpAnyH_take (i := 1) (oi := ⟨_, _, _, _, _, _⟩) (v := ?_) rfl (by kernel_rfl) (by kernel_rfl) (by kernel_rfl) (fun _ _ _ h => h) (Or.inl ⟨by rfl, ?_⟩) (by assumption) ?_
      rotate_left
      · intro w hSw; (try dsimp only at hSw); go_simp; (try (with_reducible rfl))
      try simp only [Act.put, List.setIfInBounds_toArray, List.set_cons_zero, List.set_cons_succ]
      refine wpAnyH_take (i := 3) (oi := ⟨_, _, _, _, _, _⟩) (v := ?_) rfl (by kernel_rfl) (by kernel_rfl) (by kernel_rfl) (fun _ _ _ h => h) (Or.inl ⟨by rfl, ?_⟩) (by assumption) ?_
      rotate_left
      · intro w hSw; (try dsimp only at hSw); go_simp; (try (with_reducible rfl))
      try simp only [Act.put, List.setIfInBounds_toArray, List.set_cons_zero, List.set_cons_succ]
      refine wpAnyH_take (i := 4) (oi := ⟨_, _, _, _, _, _⟩) (v := ?_) rfl (by kernel_rfl) (by kernel_rfl) (by kernel_rfl) (fun _ _ _ h => h) (Or.inl ⟨by rfl, ?_⟩) (by assumption) ?_
      rotate_left
      · intro w hSw; (try dsimp only at hSw); go_simp; (try (with_reducible rfl))
      try simp only [Act.put, List.setIfInBounds_toArray, List.set_cons_zero, List.set_cons_succ]
      refine wpAnyH_ready (rs := [2]) (by kernel_rfl) (by simp) ?_
      refine AllReadyH.cons (o := ⟨_, _, _, _, _, _⟩) rfl (fun K hK => ?_) AllReadyH.nil
      go_simp
      refine (of_any _ _ _).mono ?_
      rintro e w8 ⟨rfl, hb8⟩
      have Pm1 := P2.drew.below hb8
      have Ym1 := Y2.drew.below hb8
      have Rm1 := R3.drew.below hb8
      have cm1 := below2 c3.drew hb8
      clear hb8 hHeld
      refine hK.out _ _ ⟨Pm1.cell 3, Pm1.cell 4, Ym1.cell 3, Ym1.cell 4⟩ (fun hHeld => ?_)
      clear hK K
      try simp only [Act.put, List.setIfInBounds_toArray, List.set_cons_zero, List.set_cons_succ]
      refine wpAnyH_ready (rs := [5]) (by kernel_rfl) (by simp) ?_
      refine AllReadyH.cons (o := ⟨_, _, _, _, _, _⟩) rfl (fun K hK => ?_) AllReadyH.nil
      go_simp
      refine (of_any _ _ _).mono ?_
      rintro e w8 ⟨rfl, hb8⟩
      have Pm2 := Pm1.below hb8
      have Ym2 := Ym1.below hb8
      have Rm2 := Rm1.below hb8
      have cm2 := below2 cm1 hb8
      clear hb8 hHeld Pm1 Ym1 Rm1 cm1
      refine hK.out _ _ ⟨Pm2.cell 3, Pm2.cell 4, Ym2.cell 3, Ym2.cell 4⟩ (fun hHeld => ?_)
      clear hK K
      try simp only [Act.put, List.setIfInBounds_toArray, List.set_cons_zero, List.set_cons_succ]
      refine wpAnyH_ready (rs := [6]) (by kernel_rfl) (by simp) ?_
      refine AllReadyH.cons (o := ⟨_, _, _, _, _, _⟩) rfl (fun K hK => ?_) AllReadyH.nil
      go_simp
      refine (order_any (cl_le _) (cl_le _) (cl_le _) (cl_le _) _).mono ?_
      rintro e w8 ⟨rfl, hb8⟩
      have P8 := Pm2.below hb8
      have Y8 := Ym2.below hb8
      have R8 := Rm2.below hb8
      have c8 := below2 cm2 hb8
      clear hb8 hHeld Pm2 Ym2 Rm2 cm2
      refine hK.out _ _ ⟨P8.cell 3, P8.cell 4, Y8.cell 3, Y8.cell 4⟩ (fun hHeld => ?_)
      clear hK K
      try simp only [Act.put, List.setIfInBounds_toArray, List.set_cons_zero, List.set_cons_succ]
      refine wpAnyH_done (by kernel_rfl) ?_ _
      clear hHeld P2 Y2 R3 c3
      have u0 := P8.cell 0
      have u1 := P8.cell 1
      have u2 := P8.cell 2
      have u3 := P8.cell 3
      have u4 := P8.cell 4
      simp only [List.getElem?_cons_zero, List.getElem?_cons_succ] at u0 u1 u2 u3 u4
      have v0 := Y8.cell 0
      have v1 := Y8.cell 1
      have v2 := Y8.cell 2
      have v3 := Y8.cell 3
      have v4 := Y8.cell 4
      simp only [List.getElem?_cons_zero, List.getElem?_cons_succ] at v0 v1 v2 v3 v4
      have HO : Hid (ordE x y = ordI (cl x.l) (cl x.r) (cl y.l) (cl y.r)) := rfl
      generalize hL : likeE x y = b
      have HL := hid hL
      clear hL
      rcases ord_cases (cl x.l) (cl x.r) (cl y.l) (cl y.r) with ho | ho | ho | ho
      · have HC : Hid (comeE x y = (x, !b)) := by show _ = _; rw [comeE, HO.out, HL.out, ho]; cases b <;> rfl
        rw [ho]
        clear HO HL ho P8 Y8
        have o0 := R8.cell 0
        have o1 := R8.cell 1
        have o2 := R8.cell 2
        have o3 := R8.cell 3
        have o4 := R8.cell 4
        simp only [List.getElem?_cons_zero, List.getElem?_cons_succ] at o0 o1 o2 o3 o4
        have of0 := R8.frozen 0
        have of1 := R8.frozen 1
        have of2 := R8.frozen 2
        have of3 := R8.frozen 3
        have of4 := R8.frozen 4
        have HR := hid R8
        have HB := hid c8
        clear R8 c8 v0 v1 v2 v3 v4
        go_wp2
        have R9 := ((((HR.out.set_ 0 (.string x.path)).set_ 1 (.bool x.has)).set_ 2 (.string x.data)).set_ 3 (.int .i64 x.l)).set_ 4 (.int .i64 x.r)
        have r0 := R9.cell 0
        have r1 := R9.cell 1
        have r2 := R9.cell 2
        have r3 := R9.cell 3
        have r4 := R9.cell 4
        simp only [List.set_cons_zero, List.set_cons_succ, List.getElem?_cons_zero, List.getElem?_cons_succ] at r0 r1 r2 r3 r4
        refine bodyPost_ret (v := .tuple #[eA x, .bool (!b)]) (by simp [results, Tryz.results66, go_sem, r0, r1, r2, r3, r4]) rfl ⟨by rw [HE.out, HC.out], (((((HB.out.setCell (p := ⟨w.heap.size, 0, none⟩) (Nat.le_refl _) (.string x.path)).setCell (p := ⟨w.heap.size, 1, none⟩) (Nat.le_refl _) (.bool x.has)).setCell (p := ⟨w.heap.size, 2, none⟩) (Nat.le_refl _) (.string x.data)).setCell (p := ⟨w.heap.size, 3, none⟩) (Nat.le_refl _) (.int .i64 x.l)).setCell (p := ⟨w.heap.size, 4, none⟩) (Nat.le_refl _) (.int .i64 x.r))⟩
      · have HC : Hid (comeE x y = (y, false)) := by show _ = _; rw [comeE, HO.out, HL.out, ho]; rfl
        rw [ho]
        clear HO HL ho P8 Y8
        have o0 := R8.cell 0
        have o1 := R8.cell 1
        have o2 := R8.cell 2
        have o3 := R8.cell 3
        have o4 := R8.cell 4
        simp only [List.getElem?_cons_zero, List.getElem?_cons_succ] at o0 o1 o2 o3 o4
        have of0 := R8.frozen 0
        have of1 := R8.frozen 1
        have of2 := R8.frozen 2
        have of3 := R8.frozen 3
        have of4 := R8.frozen 4
        have HR := hid R8
        have HB := hid c8
        clear R8 c8 u0 u1 u2 u3 u4
        go_wp2
        have R9 := ((((HR.out.set_ 0 (.string y.path)).set_ 1 (.bool y.has)).set_ 2 (.string y.data)).set_ 3 (.int .i64 y.l)).set_ 4 (.int .i64 y.r)
        have r0 := R9.cell 0
        have r1 := R9.cell 1
        have r2 := R9.cell 2
        have r3 := R9.cell 3
        have r4 := R9.cell 4
        simp only [List.set_cons_zero, List.set_cons_succ, List.getElem?_cons_zero, List.getElem?_cons_succ] at r0 r1 r2 r3 r4
        refine bodyPost_ret (v := .tuple #[eA y, .bool false]) (by simp [results, Tryz.results66, go_sem, r0, r1, r2, r3, r4]) rfl ⟨by rw [HE.out, HC.out], (((((HB.out.setCell (p := ⟨w.heap.size, 0, none⟩) (Nat.le_refl _) (.string y.path)).setCell (p := ⟨w.heap.size, 1, none⟩) (Nat.le_refl _) (.bool y.has)).setCell (p := ⟨w.heap.size, 2, none⟩) (Nat.le_refl _) (.string y.data)).setCell (p := ⟨w.heap.size, 3, none⟩) (Nat.le_refl _) (.int .i64 y.l)).setCell (p := ⟨w.heap.size, 4, none⟩) (Nat.le_refl _) (.int .i64 y.r))⟩
      · have HC : Hid (comeE x y = (x, false)) := by show _ = _; rw [comeE, HO.out, HL.out, ho]; rfl
        rw [ho]
        clear HO HL ho P8 Y8
        have o0 := R8.cell 0
        have o1 := R8.cell 1
        have o2 := R8.cell 2
        have o3 := R8.cell 3
        have o4 := R8.cell 4
        simp only [List.getElem?_cons_zero, List.getElem?_cons_succ] at o0 o1 o2 o3 o4
        have of0 := R8.frozen 0
        have of1 := R8.frozen 1
        have of2 := R8.frozen 2
        have of3 := R8.frozen 3
        have of4 := R8.frozen 4
        have HR := hid R8
        have HB := hid c8
        clear R8 c8 v0 v1 v2 v3 v4
        go_wp2
        have R9 := ((((HR.out.set_ 0 (.string x.path)).set_ 1 (.bool x.has)).set_ 2 (.string x.data)).set_ 3 (.int .i64 x.l)).set_ 4 (.int .i64 x.r)
        have r0 := R9.cell 0
        have r1 := R9.cell 1
        have r2 := R9.cell 2
        have r3 := R9.cell 3
        have r4 := R9.cell 4
        simp only [List.set_cons_zero, List.set_cons_succ, List.getElem?_cons_zero, List.getElem?_cons_succ] at r0 r1 r2 r3 r4
        refine bodyPost_ret (v := .tuple #[eA x, .bool false]) (by simp [results, Tryz.results66, go_sem, r0, r1, r2, r3, r4]) rfl ⟨by rw [HE.out, HC.out], (((((HB.out.setCell (p := ⟨w.heap.size, 0, none⟩) (Nat.le_refl _) (.string x.path)).setCell (p := ⟨w.heap.size, 1, none⟩) (Nat.le_refl _) (.bool x.has)).setCell (p := ⟨w.heap.size, 2, none⟩) (Nat.le_refl _) (.string x.data)).setCell (p := ⟨w.heap.size, 3, none⟩) (Nat.le_refl _) (.int .i64 x.l)).setCell (p := ⟨w.heap.size, 4, none⟩) (Nat.le_refl _) (.int .i64 x.r))⟩
      · cases b
        · have HC : Hid (comeE x y = (x, true)) := by show _ = _; rw [comeE, HO.out, HL.out, ho]; rfl
          rw [ho]
          clear HO HL ho P8 Y8
          have o0 := R8.cell 0
          have o1 := R8.cell 1
          have o2 := R8.cell 2
          have o3 := R8.cell 3
          have o4 := R8.cell 4
          simp only [List.getElem?_cons_zero, List.getElem?_cons_succ] at o0 o1 o2 o3 o4
          have of0 := R8.frozen 0
          have of1 := R8.frozen 1
          have of2 := R8.frozen 2
          have of3 := R8.frozen 3
          have of4 := R8.frozen 4
          have HR := hid R8
          have HB := hid c8
          clear R8 c8 v0 v1 v2 v3 v4
          go_wp2
          have R9 := ((((HR.out.set_ 0 (.string x.path)).set_ 1 (.bool x.has)).set_ 2 (.string x.data)).set_ 3 (.int .i64 x.l)).set_ 4 (.int .i64 x.r)
          have r0 := R9.cell 0
          have r1 := R9.cell 1
          have r2 := R9.cell 2
          have r3 := R9.cell 3
          have r4 := R9.cell 4
          simp only [List.set_cons_zero, List.set_cons_succ, List.getElem?_cons_zero, List.getElem?_cons_succ] at r0 r1 r2 r3 r4
          refine bodyPost_ret (v := .tuple #[eA x, .bool true]) (by simp [results, Tryz.results66, go_sem, r0, r1, r2, r3, r4]) rfl ⟨by rw [HE.out, HC.out], (((((HB.out.setCell (p := ⟨w.heap.size, 0, none⟩) (Nat.le_refl _) (.string x.path)).setCell (p := ⟨w.heap.size, 1, none⟩) (Nat.le_refl _) (.bool x.has)).setCell (p := ⟨w.heap.size, 2, none⟩) (Nat.le_refl _) (.string x.data)).setCell (p := ⟨w.heap.size, 3, none⟩) (Nat.le_refl _) (.int .i64 x.l)).setCell (p := ⟨w.heap.size, 4, none⟩) (Nat.le_refl _) (.int .i64 x.r))⟩
        · have HC : Hid (comeE x y = (joinE x y, false)) := by show _ = _; rw [comeE, HO.out, HL.out, ho]; rfl
          have HJ : Hid (joinE x y = ⟨x.path, x.has, x.data, (joinC x y).1, (joinC x y).2⟩) := rfl
          rw [ho]
          clear HO HL ho
          go_wp2_with fail
          refine (joined_any x y _).mono ?_
          rintro e w9 ⟨rfl, hb9⟩
          have c9 := below2 c8 hb9
          have R9 := R8.below hb9
          have P9 := P8.below hb9
          clear P8 R8 c8 hb9 Y8 u0 u1 u2 u3 u4 v0 v1 v2 v3 v4
          have hwl : w.heap.size ≤ q1 := by omega
          have hwn : w.heap.size ≠ q1 := by omega
          generalize joinC x y = jj at *
          have u0 := P9.cell 0
          have u1 := P9.cell 1
          have u2 := P9.cell 2
          have u3 := P9.cell 3
          have u4 := P9.cell 4
          simp only [List.getElem?_cons_zero, List.getElem?_cons_succ] at u0 u1 u2 u3 u4
          have uf3 := P9.frozen 3
          have uf4 := P9.frozen 4
          have Pa := (P9.set_ 3 (.int .i64 jj.1)).set_ 4 (.int .i64 jj.2)
          have Ra := (R9.other hwn 3 (.int .i64 jj.1)).other hwn 4 (.int .i64 jj.2)
          have ca := (c9.setCell (p := ⟨q1, 3, none⟩) hwl (.int .i64 jj.1)).setCell (p := ⟨q1, 4, none⟩) hwl (.int .i64 jj.2)
          simp only [List.set_cons_zero, List.set_cons_succ] at Pa
          have t0 := Pa.cell 0
          have t1 := Pa.cell 1
          have t2 := Pa.cell 2
          have t3 := Pa.cell 3
          have t4 := Pa.cell 4
          simp only [List.getElem?_cons_zero, List.getElem?_cons_succ] at t0 t1 t2 t3 t4
          clear P9 R9 c9 Pa
          have o0 := Ra.cell 0
          have o1 := Ra.cell 1
          have o2 := Ra.cell 2
          have o3 := Ra.cell 3
          have o4 := Ra.cell 4
          simp only [List.getElem?_cons_zero, List.getElem?_cons_succ] at o0 o1 o2 o3 o4
          have of0 := Ra.frozen 0
          have of1 := Ra.frozen 1
          have of2 := Ra.frozen 2
          have of3 := Ra.frozen 3
          have of4 := Ra.frozen 4
          have HR := hid Ra
          have HB := hid ca
          clear Ra ca 
          go_wp2
          have R9 := ((((HR.out.set_ 0 (.string x.path)).set_ 1 (.bool x.has)).set_ 2 (.string x.data)).set_ 3 (.int .i64 jj.1)).set_ 4 (.int .i64 jj.2)
          have r0 := R9.cell 0
          have r1 := R9.cell 1
          have r2 := R9.cell 2
          have r3 := R9.cell 3
          have r4 := R9.cell 4
          simp only [List.set_cons_zero, List.set_cons_succ, List.getElem?_cons_zero, List.getElem?_cons_succ] at r0 r1 r2 r3 r4
          refine bodyPost_ret (v := .tuple #[eA ⟨x.path, x.has, x.data, jj.1, jj.2⟩, .bool false]) (by simp [results, Tryz.results66, go_sem, r0, r1, r2, r3, r4]) rfl ⟨by rw [HE.out, HC.out, HJ.out], (((((HB.out.setCell (p := ⟨w.heap.size, 0, none⟩) (Nat.le_refl _) (.string x.path)).setCell (p := ⟨w.heap.size, 1, none⟩) (Nat.le_refl _) (.bool x.has)).setCell (p := ⟨w.heap.size, 2, none⟩) (Nat.le_refl _) (.string x.data)).setCell (p := ⟨w.heap.size, 3, none⟩) (Nat.le_refl _) (.int .i64 jj.1)).setCell (p := ⟨w.heap.size, 4, none⟩) (Nat.le_refl _) (.int .i64 jj.2))⟩
end Go.Proofs.YtlmccjdpmhancaaGreatDoor
namespace Go.Proofs.YtlmccjdpmhancaaGreatDoor
open Go.RowKit

def agreeB (es fs : List Ent) (p : ByteArray) : Bool := archR es && archR fs && decide (atE es p = atE fs p)

set_option maxHeartbeats 2000000 in
theorem agree_any {w : World} {A B : Option Addr} {n c m d : Nat} {es fs : List Ent} (h : Et w A n c es) (k : Et w B m d fs) (p : ByteArray) :
    Calls Tryz.prog 15 #[.slice A n c, .slice B m d, .string p] w fun e w' => e = .returned (.bool (agreeB es fs p)) ∧ Below w.heap.size w w' := by
  go_enter Tryz.func15, Tryz.ntmps15
  go_wp2_with fail
  refine (archR_any h).mono ?_
  rintro e w1 ⟨rfl, b1⟩
  have h1 := h.below b1
  have k1 := k.below b1
  cases hR : archR es with
  | false =>
    have HN : Hid (agreeB es fs p = false) := by show _ = _; rw [agreeB, hR]; rfl
    clear hR
    go_wp2
    go_ret
    exact ⟨ret_bool HN.out.symm, b1⟩
  | true =>
    go_wp2_with fail
    refine (archR_any k1).mono ?_
    rintro e w2 ⟨rfl, hb2⟩
    have b2 := below2 b1 hb2
    have h2 := h1.below hb2
    have k2 := k1.below hb2
    clear hb2 b1 h1 k1 h k
    cases hR2 : archR fs with
    | false =>
      have HN : Hid (agreeB es fs p = false) := by show _ = _; rw [agreeB, hR, hR2]; rfl
      clear hR hR2
      go_wp2
      go_ret
      exact ⟨ret_bool HN.out.symm, b2⟩
    | true =>
    have HN : Hid (agreeB es fs p = decide (atE es p = atE fs p)) := by show _ = _; rw [agreeB, hR, hR2]; rfl
    clear hR hR2
    go_wp2_with fail
    refine (plc_any h2.len h2.rd h2.big p).mono ?_
    rintro e w3 ⟨rfl, hb3⟩
    have b3 := below2 b2 hb3
    have h3 := h2.below hb3
    have k3 := k2.below hb3
    clear hb3 b2 h2 k2
    go_wp2_with fail
    refine (plc_any k3.len k3.rd k3.big p).mono ?_
    rintro e w4 ⟨rfl, hb4⟩
    have b4 := below2 b3 hb4
    have h4 := h3.below hb4
    have k4 := k3.below hb4
    clear hb4 b3 h3 k3
    rcases idxE_cases es p with ⟨e1, -⟩ | ⟨i, hi, e1, -⟩
    · rcases idxE_cases fs p with ⟨e2, -⟩ | ⟨j, hj, e2, -⟩
      · have HV : Hid (agreeB es fs p = true) := by show _ = _; rw [HN.out, atE_no e1, atE_no e2]; rfl
        rw [e1, e2]
        go_wp2
        go_ret
        exact ⟨ret_bool HV.out.symm, b4⟩
      · have HV : Hid (agreeB es fs p = false) := by show _ = _; rw [HN.out, atE_no e1, atE_yes hj e2]; rfl
        have hjn : ¬ (-1 : Int) = (j : Int) := by omega
        rw [e1, e2]
        go_wp2
        go_ret
        exact ⟨ret_bool HV.out.symm, b4⟩
    rcases idxE_cases fs p with ⟨e2, -⟩ | ⟨j, hj, e2, -⟩
    · have HV : Hid (agreeB es fs p = false) := by show _ = _; rw [HN.out, atE_no e2, atE_yes hi e1]; rfl
      have hjn : ¬ (i : Int) = (-1 : Int) := by omega
      have hiz : ¬ (i : Int) < 0 := by omega
      rw [e1, e2]
      go_wp2
      go_ret
      exact ⟨ret_bool HV.out.symm, b4⟩
    · have HV : Hid (agreeB es fs p = decide (es[i] = fs[j])) := by show _ = _; rw [HN.out, atE_yes hi e1, atE_yes hj e2]; exact decide_eq_decide.2 ⟨fun e => Option.some.inj e, fun e => congrArg some e⟩
      obtain ⟨g, og, rfl, a0, a1, a2, a3, a4, -⟩ := h4.rd.ent hi
      obtain ⟨g', og', rfl, d0, d1, d2, d3, d4, -⟩ := k4.rd.ent hj
      rw [e1, e2]
      have hiz : (0 : Int) ≤ i := by omega
      have hiz' : ¬ (i : Int) < 0 := by omega
      have hin : (i : Int) < n := by have := h4.len; omega
      have hjz : (0 : Int) ≤ j := by omega
      have hjz' : ¬ (j : Int) < 0 := by omega
      have hjm : (j : Int) < m := by have := k4.len; omega
      have hep := eqE es[i] fs[j]
      generalize es[i] = x at *
      generalize fs[j] = y at *
      clear h4 k4 HN e1 e2
      go_wp2_with fail
      refine wp_region_held_drew (S := fun w' => (w'.cell? ⟨g, og + i * 5, none⟩ = some (.string x.path) ∧ w'.cell? ⟨g, og + i * 5 + 1, none⟩ = some (.bool x.has) ∧ w'.cell? ⟨g, og + i * 5 + 2, none⟩ = some (.string x.data) ∧ w'.cell? ⟨g, og + i * 5 + 3, none⟩ = some (.int .i64 x.l) ∧ w'.cell? ⟨g, og + i * 5 + 4, none⟩ = some (.int .i64 x.r)) ∧ w'.cell? ⟨g', og' + j * 5, none⟩ = some (.string y.path) ∧ w'.cell? ⟨g', og' + j * 5 + 1, none⟩ = some (.bool y.has) ∧ w'.cell? ⟨g', og' + j * 5 + 2, none⟩ = some (.string y.data) ∧ w'.cell? ⟨g', og' + j * 5 + 3, none⟩ = some (.int .i64 y.l) ∧ w'.cell? ⟨g', og' + j * 5 + 4, none⟩ = some (.int .i64 y.r)) (by kernel_rfl) ⟨⟨a0, a1, a2, a3, a4⟩, d0, d1, d2, d3, d4⟩ (fun hHeld => ?_)
      refine wpAnyH_take (i := 0) (oi := ⟨_, _, _, _, _, _⟩) (v := ?_) rfl (by kernel_rfl) (by kernel_rfl) (by kernel_rfl) (fun _ _ _ h => h) (Or.inl ⟨by rfl, ?_⟩) (by assumption) ?_
      rotate_left
      · intro w hSw; (try dsimp only at hSw); go_simp; (try (with_reducible rfl))
      try simp only [Act.put, List.setIfInBounds_toArray, List.set_cons_zero, List.set_cons_succ]
      refine wpAnyH_take (i := 1) (oi := ⟨_, _, _, _, _, _⟩) (v := ?_) rfl (by kernel_rfl) (by kernel_rfl) (by kernel_rfl) (fun _ _ _ h => h) (Or.inl ⟨by rfl, ?_⟩) (by assumption) ?_
      rotate_left
      · intro w hSw; (try dsimp only at hSw); go_simp; (try (with_reducible rfl))
      try simp only [Act.put, List.setIfInBounds_toArray, List.set_cons_zero, List.set_cons_succ]
      refine wpAnyH_take (i := 2) (oi := ⟨_, _, _, _, _, _⟩) (v := ?_) rfl (by kernel_rfl) (by kernel_rfl) (by kernel_rfl) (fun _ _ _ h => h) (Or.inl ⟨by rfl, ?_⟩) (by assumption) ?_
      rotate_left
      · intro w hSw; (try dsimp only at hSw); go_simp; (try (with_reducible rfl))
      try simp only [Act.put, List.setIfInBounds_toArray, List.set_cons_zero, List.set_cons_succ]
      refine wpAnyH_take (i := 3) (oi := ⟨_, _, _, _, _, _⟩) (v := ?_) rfl (by kernel_rfl) (by kernel_rfl) (by kernel_rfl) (fun _ _ _ h => h) (Or.inl ⟨by rfl, ?_⟩) (by assumption) ?_
      rotate_left
      · intro w hSw; (try dsimp only at hSw); go_simp; (try (with_reducible rfl))
      try simp only [Act.put, List.setIfInBounds_toArray, List.set_cons_zero, List.set_cons_succ]
      refine wpAnyH_take (i := 4) (oi := ⟨_, _, _, _, _, _⟩) (v := ?_) rfl (by kernel_rfl) (by kernel_rfl) (by kernel_rfl) (fun _ _ _ h => h) (Or.inl ⟨by rfl, ?_⟩) (by assumption) ?_
      rotate_left
      · intro w hSw; (try dsimp only at hSw); go_simp; (try (with_reducible rfl))
      try simp only [Act.put, List.setIfInBounds_toArray, List.set_cons_zero, List.set_cons_succ]
      refine wpAnyH_take (i := 5) (oi := ⟨_, _, _, _, _, _⟩) (v := ?_) rfl (by kernel_rfl) (by kernel_rfl) (by kernel_rfl) (fun _ _ _ h => h) (Or.inl ⟨by rfl, ?_⟩) (by assumption) ?_
      rotate_left
      · intro w hSw; (try dsimp only at hSw); go_simp; (try (with_reducible rfl))
      try simp only [Act.put, List.setIfInBounds_toArray, List.set_cons_zero, List.set_cons_succ]
      refine wpAnyH_take (i := 6) (oi := ⟨_, _, _, _, _, _⟩) (v := ?_) rfl (by kernel_rfl) (by kernel_rfl) (by kernel_rfl) (fun _ _ _ h => h) (Or.inl ⟨by rfl, ?_⟩) (by assumption) ?_
      rotate_left
      · intro w hSw; (try dsimp only at hSw); go_simp; (try (with_reducible rfl))
      try simp only [Act.put, List.setIfInBounds_toArray, List.set_cons_zero, List.set_cons_succ]
      refine wpAnyH_take (i := 7) (oi := ⟨_, _, _, _, _, _⟩) (v := ?_) rfl (by kernel_rfl) (by kernel_rfl) (by kernel_rfl) (fun _ _ _ h => h) (Or.inl ⟨by rfl, ?_⟩) (by assumption) ?_
      rotate_left
      · intro w hSw; (try dsimp only at hSw); go_simp; (try (with_reducible rfl))
      try simp only [Act.put, List.setIfInBounds_toArray, List.set_cons_zero, List.set_cons_succ]
      refine wpAnyH_take (i := 8) (oi := ⟨_, _, _, _, _, _⟩) (v := ?_) rfl (by kernel_rfl) (by kernel_rfl) (by kernel_rfl) (fun _ _ _ h => h) (Or.inl ⟨by rfl, ?_⟩) (by assumption) ?_
      rotate_left
      · intro w hSw; (try dsimp only at hSw); go_simp; (try (with_reducible rfl))
      try simp only [Act.put, List.setIfInBounds_toArray, List.set_cons_zero, List.set_cons_succ]
      refine wpAnyH_take (i := 9) (oi := ⟨_, _, _, _, _, _⟩) (v := ?_) rfl (by kernel_rfl) (by kernel_rfl) (by kernel_rfl) (fun _ _ _ h => h) (Or.inl ⟨by rfl, ?_⟩) (by assumption) ?_
      rotate_left
      · intro w hSw; (try dsimp only at hSw); go_simp; (try (with_reducible rfl))
      try simp only [Act.put, List.setIfInBounds_toArray, List.set_cons_zero, List.set_cons_succ]
      refine wpAnyH_done (by kernel_rfl) ?_ _
      clear hHeld
      go_wp2
      go_ret
      exact ⟨ret_bool HV.out.symm, b4.drew⟩
end Go.Proofs.YtlmccjdpmhancaaGreatDoor
