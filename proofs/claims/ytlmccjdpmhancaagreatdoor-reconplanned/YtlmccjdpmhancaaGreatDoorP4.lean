/- The texts Sk, Ja, Jb, Jh, Jl, Qf, Qr, Ua, in one. -/
import Derived.Test.YtlmccjdpmhancaaGreatDoorP3
import Derived.Deep.RegionHeld3
import Derived.Deep.DeepCutAuto
namespace Go.Proofs.YtlmccjdpmhancaaGreatDoor
open Go.RowKit

/-! ### What Scan answers -/
theorem newE_sz {a : Int} {p : Ent × Ent} (h : SzE p.2) : SzE (newE a p) := by unfold SzE; rw [newE_path, newE_data]; exact h
theorem scanA_sz {es : List Ent} {fs : List Fil} (a : Int) (h1 : ∀ e ∈ es, SzE e) (h2 : ∀ f ∈ fs, SzF f) : ∀ e ∈ scanA es fs a, SzE e := by
  intro e he
  unfold scanA at he
  split at he
  · obtain ⟨p, hp, rfl⟩ := List.mem_map.1 he
    exact newE_sz (both_sz h1 h2 p hp)
  · cases he
theorem scanA_len (es : List Ent) (fs : List Fil) (a : Int) : (scanA es fs a).length ≤ 32 := by
  unfold scanA
  split
  · rename_i h
    rw [outP, List.length_map]
    exact okP_len (scanN_ok.1 h).2.2
  · simp
theorem scanC_len (es : List Ent) (fs : List Fil) (a : Int) : (scanC es fs a).length ≤ 32 := by
  unfold scanC
  split
  · rename_i h
    have := okP_len (scanN_ok.1 h).2.2
    have := chgP_len (bothL es fs)
    omega
  · simp
theorem own5_et {w : World} {base : Nat} {A : Option Addr} {c : Nat} {es : List Ent} (h : w.ownsRow base 34 5 (.slice A es.length c) es.length (entV es)) (hn : es.length ≤ 1000000) (hs : ∀ e ∈ es, SzE e) : Et w A es.length c es := by
  rcases h.2 with ⟨h1, h0⟩ | ⟨g, cap, cur, h1, _, _, h2, h3, _⟩
  · injection h1 with a1 a2 a3
    subst a1 a3
    exact ⟨rfl, .inl (List.eq_nil_of_length_eq_zero (by rw [entV_length, h0])), by omega, hn, by omega, hs⟩
  · injection h1 with a1 a2 a3
    subst a1 a3
    exact ⟨rfl, .inr ⟨_, rfl, h.cells (g := g) rfl⟩, h2, hn, h3, hs⟩
/-- What Scan answers, to be read. -/
def ScanOut (w : World) (es : List Ent) (fs : List Fil) (a : Int) (e : Ending) (w' : World) : Prop :=
  ∃ A' c' B' d', e = .returned (.tuple #[.slice A' (scanA es fs a).length c', .slice B' (scanC es fs a).length d', .int .i64 (scanN es fs a : Nat)]) ∧ Et w' A' (scanA es fs a).length c' (scanA es fs a) ∧ Rd w' B' (strV (scanC es fs a)) ∧ Below w.heap.size w w'
theorem scan_out {w : World} {A B : Option Addr} {n c m d : Nat} {es : List Ent} {fs : List Fil} (h : Et w A n c es) (k : Ft w B m d fs) (a : Int) :
    Calls Tryz.prog 23 #[.slice A n c, .slice B m d, .int .i64 a] w (ScanOut w es fs a) :=
  (scan_any h k a).mono fun _ _ ⟨A', c', B', d', he, o1, o2, hb⟩ => ⟨A', c', B', d', he, own5_et o1 (by have := scanA_len es fs a; omega) (scanA_sz a h.sz k.sz), Rd.of_own o2, hb⟩

theorem scan_val {w : World} {A B : Option Addr} {n c m d : Nat} {es : List Ent} {fs : List Fil} (h : Et w A n c es) (k : Ft w B m d fs) (a : Int) {as_ : List Ent} {cs : List ByteArray} {nA nC : Nat} {z : Int} (ha : scanA es fs a = as_) (hla : as_.length = nA) (hc : scanC es fs a = cs) (hlc : cs.length = nC) (hn : ((scanN es fs a : Nat) : Int) = z) :
    Calls Tryz.prog 23 #[.slice A n c, .slice B m d, .int .i64 a] w fun e w' => ∃ A' c' B' d', e = .returned (.tuple #[.slice A' nA c', .slice B' nC d', .int .i64 z]) ∧ Et w' A' nA c' as_ ∧ Rd w' B' (strV cs) ∧ Below w.heap.size w w' := by
  subst ha hla hc hlc hn
  exact scan_out h k a
theorem et_nil (w : World) : Et w none 0 0 [] := ⟨rfl, .inl rfl, Nat.le_refl _, by omega, by omega, by simp⟩
theorem ft_nil (w : World) : Ft w none 0 0 [] := ⟨rfl, .inl rfl, Nat.le_refl _, by omega, by omega, by simp⟩
theorem ft_one (w : World) (p d : ByteArray) (hp : p.size < 4294967281) (hd : d.size ≤ 140737488355328) : Ft (w.alloc (.cells #[.string p, .string d] 57)) (some ⟨w.heap.size, 0, none⟩) 1 1 [(p, d)] :=
  ⟨rfl, (Blk.new w [.string p, .string d] 57).rd, Nat.le_refl _, by omega, by omega, by simp; exact ⟨hp, hd⟩⟩

/-! ### Few -/
def fewE (e : Ent) : Bool := decide (e.path.size ≤ 100) && decide (e.data.size ≤ 1000)
def few9 (es : List Ent) : Bool := decide (es.length ≤ 60) && es.all fewE
theorem few9_sz {es : List Ent} (h : few9 es = true) : es.length ≤ 60 ∧ ∀ e ∈ es, e.path.size ≤ 100 ∧ e.data.size ≤ 1000 := by
  simp only [few9, fewE, Bool.and_eq_true, decide_eq_true_eq, List.all_eq_true] at h
  exact h
theorem few9_no {es : List Ent} {j : Nat} (hj : j < es.length) (h : fewE es[j] = false) : false = few9 es := by
  cases hf : few9 es with
  | false => rfl
  | true =>
    rw [few9, Bool.and_eq_true, List.all_eq_true] at hf
    rw [hf.2 _ (List.getElem_mem hj)] at h
    cases h
set_option maxHeartbeats 1000000 in
theorem few9_any (A : Option Addr) (n c : Nat) (es : List Ent) (w : World) (hl : es.length = n) (hr : Rd w A (entV es)) :
    Calls Tryz.prog 10 #[.slice A n c] w fun e w' => e = .returned (.bool (few9 es)) ∧ w = w' := by
  have HL := hid hl
  clear hl
  by_cases h60 : (60 : Int) < n
  · go_enter Tryz.func10, Tryz.ntmps10
    go_wp2
    go_ret
    refine ⟨ret_bool ?_, rfl⟩
    symm
    refine not_true fun h => ?_
    have := (few9_sz h).1
    have := HL.out
    omega
  · go_enter Tryz.func10, Tryz.ntmps10
    go_wp2_with fail
    go_loop [3] (fun i => ∃ j : Nat, j ≤ n ∧ i = .int .i64 j ∧ Hid ((es.take j).all fewE = true)) (fun i => n - (intOf i).toNat)
    case atStart => exact ⟨0, by omega, rfl, by simp [Hid]⟩
    case round =>
      obtain ⟨j, hj, rfl, HO⟩ := hrel
      by_cases hjn : j < n
      · have hjl : j < es.length := by rw [HL.out]; exact hjn
        obtain ⟨b, off, rfl, h1, -, h2, -⟩ := hr.ent hjl
        have HN := hid (@few9_no es j hjl)
        have HK := hid (all_take_more fewE es j hjl)
        have hz : (0 : Int) ≤ j := by omega
        have hlt : (j : Int) < n := by omega
        generalize es[j] = f at *
        by_cases hx : (100 : Int) < f.path.size
        · go_wp2
          go_ret
          exact ⟨ret_bool (HN.out (by simp [fewE]; omega)), rfl⟩
        · have hxb : decide ((100 : Int) < f.path.size) = false := by simp; omega
          by_cases hd : (1000 : Int) < f.data.size
          · go_wp2
            go_ret
            exact ⟨ret_bool (HN.out (by simp [fewE]; omega)), rfl⟩
          · have hdb : decide ((1000 : Int) < f.data.size) = false := by simp; omega
            go_wp2
            go_round
            case rel => exact ⟨j + 1, by omega, by go_num, hid (by rw [HK.out, HO.out]; simp [fewE]; omega)⟩
            case measure => simp [intOf]; omega
      · have HE := hid (show j = n by omega)
        have hnlt : ¬ (j : Int) < n := by omega
        go_wp2
        go_ret
        refine ⟨ret_bool ?_, rfl⟩
        have ho := HO.out
        rw [HE.out, ← HL.out, List.take_length] at ho
        rw [few9, ho, decide_eq_true (by rw [HL.out]; omega)]
        rfl
theorem few9_et {w : World} {A : Option Addr} {n c : Nat} {es : List Ent} (hf : few9 es = true) (hl : es.length = n) (hr : Rd w A (entV es)) (hc : n ≤ c) (hcm : c ≤ maxLen) : Et w A n c es := by
  obtain ⟨h1, h2⟩ := few9_sz hf
  exact ⟨hl, hr, hc, by omega, hcm, fun f hm => by have := h2 f hm; omega⟩

/-! ### The small case -/
abbrev sa : ByteArray := ⟨#[97]⟩
abbrev sb : ByteArray := ⟨#[98]⟩
abbrev s1 : ByteArray := ⟨#[49]⟩
abbrev L1 : List Ent := [⟨sa, true, s1, 1, 0⟩]
abbrev L2 : List Ent := [⟨sa, false, noS, 1, 1⟩, ⟨sb, true, noS, 0, 1⟩]
theorem smB1 : bothL [] [(sa, s1)] = [(fresh sa, kept (fresh sa) s1)] := by rw [bothL_t, bothL_nil]
theorem smB2 : bothL L1 [(sb, noS)] = [(⟨sa, true, s1, 1, 0⟩, ⟨sa, false, noS, 1, 0⟩), (fresh sb, kept (fresh sb) noS)] := by
  rw [bothL_gt (by decide) (by decide +kernel), bothL_t, bothL_nil]; rfl
theorem smB3 : bothL L2 [(sb, noS)] = [(⟨sa, false, noS, 1, 1⟩, ⟨sa, false, noS, 1, 1⟩), (⟨sb, true, noS, 0, 1⟩, ⟨sb, true, noS, 0, 1⟩)] := by
  rw [bothL_gt (by decide) (by decide +kernel), bothL_eq (by rfl), bothL_nil]; rfl
theorem smN1 : scanN [] [(sa, s1)] 0 = 0 := by rw [scanN, smB1]; decide +kernel
theorem smN2 : scanN L1 [(sb, noS)] 1 = 0 := by rw [scanN, smB2]; decide +kernel
theorem smN3 : scanN L2 [(sb, noS)] 0 = 0 := by rw [scanN, smB3]; decide +kernel
theorem smA1 : scanA [] [(sa, s1)] 0 = L1 := by rw [scanA, if_pos smN1, smB1]; decide +kernel
theorem smA2 : scanA L1 [(sb, noS)] 1 = L2 := by rw [scanA, if_pos smN2, smB2]; decide +kernel
theorem smA3 : scanA L2 [(sb, noS)] 0 = L2 := by rw [scanA, if_pos smN3, smB3]; decide +kernel
theorem smC1 : scanC [] [(sa, s1)] 0 = [sa] := by rw [scanC, if_pos smN1, smB1]; decide +kernel
theorem smC2 : scanC L1 [(sb, noS)] 1 = [sa, sb] := by rw [scanC, if_pos smN2, smB2]; decide +kernel
theorem smC3 : scanC L2 [(sb, noS)] 0 = [] := by rw [scanC, if_pos smN3, smB3]; decide +kernel
theorem smR2 : archR L2 = true := by decide +kernel
theorem smR4 : archR [⟨sa, true, noS, 0, 0⟩] = false := by decide +kernel
theorem smF2 : findE L2 sb = 1 := by decide +kernel
theorem smT2 : (treeE L2).length = 1 := by decide +kernel
end Go.Proofs.YtlmccjdpmhancaaGreatDoor
namespace Go.Proofs.YtlmccjdpmhancaaGreatDoor
open Go.RowKit

/-! ### What comes of two entries -/
def ordE (a b : Ent) : Int := ordI (cl a.l) (cl a.r) (cl b.l) (cl b.r)
theorem ord_cases (a b c d : Nat) : ordI a b c d = 0 ∨ ordI a b c d = 1 ∨ ordI a b c d = 2 ∨ ordI a b c d = 3 := by
  unfold ordI
  split
  · exact .inl rfl
  · split
    · exact .inr (.inl rfl)
    · split
      · exact .inr (.inr (.inl rfl))
      · exact .inr (.inr (.inr rfl))
def likeE (a b : Ent) : Bool := decide (a.has = b.has) && decide (a.data = b.data)
def joinC (a b : Ent) : Int × Int := (((max (cl a.l) (cl b.l) : Nat) : Int), ((max (cl a.r) (cl b.r) : Nat) : Int))
def joinE (a b : Ent) : Ent := ⟨a.path, a.has, a.data, (joinC a b).1, (joinC a b).2⟩
def comeE (a b : Ent) : Ent × Bool :=
  if ordE a b = 1 then (b, false) else if ordE a b = 2 then (a, false) else if likeE a b then ((if ordE a b = 3 then joinE a b else a), false) else (a, true)

/-! ### The entry of a path -/
def atE (es : List Ent) (p : ByteArray) : Option Ent := if idxE es p < 0 then none else es[(idxE es p).toNat]?
theorem atE_no {es : List Ent} {p : ByteArray} (h : idxE es p = -1) : atE es p = none := by unfold atE; rw [h]; rfl
theorem atE_yes {es : List Ent} {p : ByteArray} {j : Nat} (hj : j < es.length) (h : idxE es p = j) : atE es p = some es[j] := by
  unfold atE; rw [h, if_neg (by omega), Int.toNat_natCast, List.getElem?_eq_getElem hj]
def cm : Option Ent → Option Ent → Option (Ent × Bool)
  | some a, some b => some (comeE a b)
  | some a, none => some (a, false)
  | none, some b => some (b, false)
  | none, none => none
end Go.Proofs.YtlmccjdpmhancaaGreatDoor
namespace Go.Proofs.YtlmccjdpmhancaaGreatDoor
open Go.RowKit

/-! ### place -/
set_option maxHeartbeats 400000 in
theorem place1_any (bx : Nat) (e : Ent) (p : ByteArray) (W : World) (hx : W.cell? ⟨bx, 0, none⟩ = some (.string p)) :
    Calls Tryz.prog 80 (#[eA e] ++ #[.pointer (some ⟨bx, 0, none⟩)]) W fun x w' => x = .returned (.bool (decide (e.path = p))) ∧ Below W.heap.size W w' := by
  obtain ⟨x, h, d, l, r⟩ := e
  have hb := World.block_lt_of_cell? _ _ hx
  have HE := hid (str_eqb x p)
  go_enter Tryz.func80, Tryz.ntmps80
  go_wp2
  go_ret
  exact ⟨ret_bool HE.out, by go_grown⟩

set_option maxHeartbeats 1000000 in
theorem idxP_any (bx : Nat) (A : Option Addr) (n c : Nat) (es : List Ent) (p : ByteArray) (w : World) (hl : es.length = n) (hx : w.cell? ⟨bx, 0, none⟩ = some (.string p)) (hr : Rd w A (entV es)) (hn : n ≤ 1000000) :
    Calls Tryz.prog 63 #[.slice A n c, .func (.func 80) #[] #[.pointer (some ⟨bx, 0, none⟩)]] w fun x w' => x = .returned (.int .i64 (idxE es p)) ∧ Below w.heap.size w w' := by
  have eg := enters_of Tryz.func80 (by kernel_rfl) rfl
  have hbx := World.block_lt_of_cell? _ _ hx
  have HL := hid hl
  clear hl
  go_enter Tryz.func63, Tryz.ntmps63
  go_wp2_with fail
  go_loopw [8] (fun i wr => ∃ j : Nat, j ≤ n ∧ i = .int .i64 j ∧ Hid (∀ k (hk : k < es.length), k < j → es[k].path ≠ p) ∧ Below w.heap.size w wr) (fun i _ => n - (intOf i).toNat)
  case atStart => exact ⟨0, by omega, rfl, hid (fun k _ hk => absurd hk (by omega)), Below.refl _ _⟩
  case round =>
    obtain ⟨j, hj, rfl, HO, hb⟩ := hrel
    by_cases hjn : j < n
    · have hjl : j < es.length := by rw [HL.out]; exact hjn
      have hr1 := hr.below hb
      obtain ⟨b, off, rfl, h1, h2, h3, h4, h5, -⟩ := hr1.ent hjl
      have hx1 := (hb.cell (p := ⟨bx, 0, none⟩) hbx).trans hx
      have cc := place1_any bx es[j] p wr hx1
      have HY := hid (fun h => @idxE_at es p j hjl h HO.out)
      have HN : Hid (es[j].path ≠ p → ∀ k (hk : k < es.length), k < j + 1 → es[k].path ≠ p) := fun h k hk hkj => by
        by_cases e : k = j
        · subst e; exact h
        · exact HO.out k hk (by omega)
      generalize es[j] = f at *
      clear hr1
      have hz : (0 : Int) ≤ j := by omega
      have hlt : (j : Int) < n := by omega
      go_wp2_with fail
      refine cc.mono ?_
      rintro e w1 ⟨rfl, hb1⟩
      have hb1' := below2 hb hb1
      clear cc hb hb1 hx1
      by_cases hq : f.path = p
      · rw [decide_eq_true hq]
        have HQ := hid hq
        clear hq
        go_wp2
        go_ret
        exact ⟨ret_int (HY.out HQ.out).symm, hb1'⟩
      · rw [decide_eq_false hq]
        have HQ := hid hq
        clear hq
        go_wp2
        go_roundw
        case rel => exact ⟨j + 1, by omega, by go_num, hid (HN.out HQ.out), hb1'⟩
        case measure => simp [intOf]; omega
    · have HE := hid (show j = n by omega)
      have hnlt : ¬ (j : Int) < n := by omega
      go_wp2
      go_ret
      refine ⟨ret_int ?_, hb⟩
      symm
      refine idxE_no fun e he => ?_
      obtain ⟨k, hk, rfl⟩ := List.mem_iff_getElem.1 he
      exact HO.out k hk (by rw [HE.out, ← HL.out]; exact hk)

set_option maxHeartbeats 400000 in
theorem plc_any {w : World} {A : Option Addr} {n c : Nat} {es : List Ent} (hl : es.length = n) (hr : Rd w A (entV es)) (hn : n ≤ 1000000) (p : ByteArray) :
    Calls Tryz.prog 40 #[.slice A n c, .string p] w fun e w' => e = .returned (.int .i64 (idxE es p)) ∧ Below w.heap.size w w' := by
  have hmf : ∀ (fn : Fn) (first cap : Array Value) (w : World), (Instr.makeFunc fn first cap).run Tryz.prog w = .ok (.func fn first cap) w := fun _ _ _ _ => rfl
  have h1 := hr.below ((Below.refl _ _).alloc (Nat.le_refl _) (.cells #[.string p] 9))
  have c0 := idxP_any w.heap.size A n c es p _ hl (Boxed.new w 9 (.string p)).cell h1 hn
  clear h1 hl hr
  go_enter Tryz.func40, Tryz.ntmps40
  go_wp2_with fail
  refine c0.mono ?_
  clear c0
  rintro e w2 ⟨rfl, hb2⟩
  go_wp2
  go_ret
  exact ⟨rfl, below_new _ hb2⟩

/-! ### joined -/
set_option maxHeartbeats 1000000 in
theorem joined_any (a b : Ent) (w : World) :
    Calls Tryz.prog 50 #[eA a, eA b] w fun e w' => e = .returned (.agg #[.int .i64 (joinC a b).1, .int .i64 (joinC a b).2]) ∧ Below w.heap.size w w' := by
  obtain ⟨p1, h1, d1, l1, r1⟩ := a
  obtain ⟨p2, h2, d2, l2, r2⟩ := b
  have HJ : Hid (joinC ⟨p1, h1, d1, l1, r1⟩ ⟨p2, h2, d2, l2, r2⟩ = (((max (cl l1) (cl l2) : Nat) : Int), ((max (cl r1) (cl r2) : Nat) : Int))) := rfl
  rw [HJ.out]
  clear HJ
  have k1 := cl_le l1
  have k2 := cl_le r1
  have k3 := cl_le l2
  have k4 := cl_le r2
  have hal : ∀ (W : World) (o : Obj), Below W.heap.size W (W.alloc o) := fun W o => (Below.refl _ _).alloc (Nat.le_refl _) o
  have Q0 := ((Blk.new w [.string p1, .bool h1, .string d1, .int .i64 l1, .int .i64 r1] 34).below (hal _ (.cells #[.string p2, .bool h2, .string d2, .int .i64 l2, .int .i64 r2] 34))).below (hal _ (.cells #[.int .i64 0, .int .i64 0] 32))
  have Y0 := (Blk.new (w.alloc (.cells #[.string p1, .bool h1, .string d1, .int .i64 l1, .int .i64 r1] 34)) [.string p2, .bool h2, .string d2, .int .i64 l2, .int .i64 r2] 34).below (hal _ (.cells #[.int .i64 0, .int .i64 0] 32))
  have Z0 := Blk.new ((w.alloc (.cells #[.string p1, .bool h1, .string d1, .int .i64 l1, .int .i64 r1] 34)).alloc (.cells #[.string p2, .bool h2, .string d2, .int .i64 l2, .int .i64 r2] 34)) [.int .i64 0, .int .i64 0] 32
  have b0 := below2 (below2 (hal w (.cells #[.string p1, .bool h1, .string d1, .int .i64 l1, .int .i64 r1] 34)) (hal _ (.cells #[.string p2, .bool h2, .string d2, .int .i64 l2, .int .i64 r2] 34))) (hal _ (.cells #[.int .i64 0, .int .i64 0] 32))
  go_enter Tryz.func50, Tryz.ntmps50
  go_wp2_with fail
  simp at Q0 Y0 Z0
  generalize ((w.alloc (.cells #[.string p1, .bool h1, .string d1, .int .i64 l1, .int .i64 r1] 34)).alloc (.cells #[.string p2, .bool h2, .string d2, .int .i64 l2, .int .i64 r2] 34)).alloc (.cells #[.int .i64 0, .int .i64 0] 32) = W0 at Q0 Y0 Z0 b0 ⊢
  refine wp_region_held_drew (S := fun w' => w'.cell? ⟨w.heap.size, 3, none⟩ = some (.int .i64 l1) ∧ w'.cell? ⟨w.heap.size, 4, none⟩ = some (.int .i64 r1) ∧ w'.cell? ⟨w.heap.size + 1, 3, none⟩ = some (.int .i64 l2) ∧ w'.cell? ⟨w.heap.size + 1, 4, none⟩ = some (.int .i64 r2)) (by kernel_rfl) ⟨Q0.cell 3, Q0.cell 4, Y0.cell 3, Y0.cell 4⟩ (fun hHeld => ?_)
  refine wpAnyH_take (i := 0) (oi := ⟨_, _, _, _, _, _⟩) (v := ?_) rfl (by kernel_rfl) (by kernel_rfl) (by kernel_rfl) (fun _ _ _ h => h) (Or.inl ⟨by rfl, ?_⟩) (by assumption) ?_
  rotate_left
  · intro w hSw; (try dsimp only at hSw); go_simp; (try (with_reducible rfl))
  try simp only [Act.put, List.setIfInBounds_toArray, List.set_cons_zero, List.set_cons_succ]
  refine wpAnyH_take (i := 1) (oi := ⟨_, _, _, _, _, _⟩) (v := ?_) rfl (by kernel_rfl) (by kernel_rfl) (by kernel_rfl) (fun _ _ _ h => h) (Or.inl ⟨by rfl, ?_⟩) (by assumption) ?_
  rotate_left
  · intro w hSw; (try dsimp only at hSw); go_simp; (try (with_reducible rfl))
  try simp only [Act.put, List.setIfInBounds_toArray, List.set_cons_zero, List.set_cons_succ]
  refine wpAnyH_take (i := 3) (oi := ⟨_, _, _, _, _, _⟩) (v := ?_) rfl (by kernel_rfl) (by kernel_rfl) (by kernel_rfl) (fun _ _ _ h => h) (Or.inl ⟨by rfl, ?_⟩) (by assumption) ?_
  rotate_left
  · intro w hSw; (try dsimp only at hSw); go_simp; (try (with_reducible rfl))
  try simp only [Act.put, List.setIfInBounds_toArray, List.set_cons_zero, List.set_cons_succ]
  refine wpAnyH_take (i := 4) (oi := ⟨_, _, _, _, _, _⟩) (v := ?_) rfl (by kernel_rfl) (by kernel_rfl) (by kernel_rfl) (fun _ _ _ h => h) (Or.inl ⟨by rfl, ?_⟩) (by assumption) ?_
  rotate_left
  · intro w hSw; (try dsimp only at hSw); go_simp; (try (with_reducible rfl))
  try simp only [Act.put, List.setIfInBounds_toArray, List.set_cons_zero, List.set_cons_succ]
  refine wpAnyH_ready (rs := [2]) (by kernel_rfl) (by simp) ?_
  refine AllReadyH.cons (o := ⟨_, _, _, _, _, _⟩) rfl (fun K hK => ?_) AllReadyH.nil
  go_simp
  refine (of_any _ _ _).mono ?_
  rintro e w1 ⟨rfl, hb1⟩
  have Q1 := (Q0.drew).below hb1
  have Y1 := (Y0.drew).below hb1
  have Z1 := (Z0.drew).below hb1
  have b1 := below2 b0.drew hb1
  refine hK.out _ _ ⟨Q1.cell 3, Q1.cell 4, Y1.cell 3, Y1.cell 4⟩ (fun hHeld => ?_)
  clear hK K
  try simp only [Act.put, List.setIfInBounds_toArray, List.set_cons_zero, List.set_cons_succ]
  refine wpAnyH_ready (rs := [5]) (by kernel_rfl) (by simp) ?_
  refine AllReadyH.cons (o := ⟨_, _, _, _, _, _⟩) rfl (fun K hK => ?_) AllReadyH.nil
  go_simp
  refine (of_any _ _ _).mono ?_
  rintro e w2 ⟨rfl, hb2⟩
  have Q2 := Q1.below hb2
  have Y2 := Y1.below hb2
  have Z2 := Z1.below hb2
  have b2 := below2 b1 hb2
  refine hK.out _ _ ⟨Q2.cell 3, Q2.cell 4, Y2.cell 3, Y2.cell 4⟩ (fun hHeld => ?_)
  clear hK K
  try simp only [Act.put, List.setIfInBounds_toArray, List.set_cons_zero, List.set_cons_succ]
  refine wpAnyH_ready (rs := [6]) (by kernel_rfl) (by simp) ?_
  refine AllReadyH.cons (o := ⟨_, _, _, _, _, _⟩) rfl (fun K hK => ?_) AllReadyH.nil
  go_simp
  refine (cjoin_any k1 k2 k3 k4 _).mono ?_
  rintro e w3 ⟨rfl, hb3⟩
  have Q3 := Q2.below hb3
  have Y3 := Y2.below hb3
  have Z3 := Z2.below hb3
  have b3 := below2 b2 hb3
  refine hK.out _ _ ⟨Q3.cell 3, Q3.cell 4, Y3.cell 3, Y3.cell 4⟩ (fun hHeld => ?_)
  clear hK K
  try simp only [Act.put, List.setIfInBounds_toArray, List.set_cons_zero, List.set_cons_succ]
  refine wpAnyH_ready (rs := [7]) (by kernel_rfl) (by simp) ?_
  refine AllReadyH.cons (o := ⟨_, _, _, _, _, _⟩) rfl (fun K hK => ?_) AllReadyH.nil
  go_simp
  refine (pair_clk (by omega) (by omega) _).mono ?_
  rintro e w4 ⟨rfl, hb4⟩
  have Q4 := Q3.below hb4
  have Y4 := Y3.below hb4
  have Z4 := Z3.below hb4
  have b4 := below2 b3 hb4
  refine hK.out _ _ ⟨Q4.cell 3, Q4.cell 4, Y4.cell 3, Y4.cell 4⟩ (fun hHeld => ?_)
  clear hK K
  try simp only [Act.put, List.setIfInBounds_toArray, List.set_cons_zero, List.set_cons_succ]
  have z0 := Z4.cell 0
  have z1 := Z4.cell 1
  simp only [List.getElem?_cons_zero, List.getElem?_cons_succ] at z0 z1
  have hge : w.heap.size ≤ w.heap.size + 1 + 1 := by omega
  have n0 := Z4.frozen 0
  have n1 := Z4.frozen 1
  have Z5 := (Z4.set_ 0 (.int .i64 ((max (cl l1) (cl l2) : Nat) : Int))).set_ 1 (.int .i64 ((max (cl r1) (cl r2) : Nat) : Int))
  have Q5 := (Q4.other (show w.heap.size ≠ w.heap.size + 1 + 1 by omega) 0 (.int .i64 ((max (cl l1) (cl l2) : Nat) : Int))).other (show w.heap.size ≠ w.heap.size + 1 + 1 by omega) 1 (.int .i64 ((max (cl r1) (cl r2) : Nat) : Int))
  have Y5 := (Y4.other (show w.heap.size + 1 ≠ w.heap.size + 1 + 1 by omega) 0 (.int .i64 ((max (cl l1) (cl l2) : Nat) : Int))).other (show w.heap.size + 1 ≠ w.heap.size + 1 + 1 by omega) 1 (.int .i64 ((max (cl r1) (cl r2) : Nat) : Int))
  have b5 := (b4.setCell (p := ⟨w.heap.size + 1 + 1, 0, none⟩) hge (.int .i64 ((max (cl l1) (cl l2) : Nat) : Int))).setCell (p := ⟨w.heap.size + 1 + 1, 1, none⟩) hge (.int .i64 ((max (cl r1) (cl r2) : Nat) : Int))
  refine wpAnyH_ready (rs := [8]) (by kernel_rfl) (by simp) ?_
  refine AllReadyH.cons (o := ⟨_, _, _, _, _, _⟩) rfl (fun K hK => ?_) AllReadyH.nil
  go_simp
  refine hK.out _ _ ⟨Q5.cell 3, Q5.cell 4, Y5.cell 3, Y5.cell 4⟩ (fun hHeld => ?_)
  clear hK K
  try simp only [Act.put, List.setIfInBounds_toArray, List.set_cons_zero, List.set_cons_succ]
  refine wpAnyH_done (by kernel_rfl) ?_ _
  have v0 := Z5.cell 0
  have v1 := Z5.cell 1
  simp only [List.set_cons_zero, List.set_cons_succ, List.getElem?_cons_zero, List.getElem?_cons_succ] at v0 v1
  clear hHeld Q0 Y0 Z0 Q1 Y1 Z1 Q2 Y2 Z2 Q3 Y3 Z3 Q4 Y4 Z4 Q5 Y5 Z5 b0 b1 b2 b3 b4 hb1 hb2 hb3 hb4 z0 z1 n0 n1
  go_wp2
  refine bodyPost_ret (v := .agg #[.int .i64 ((max (cl l1) (cl l2) : Nat) : Int), .int .i64 ((max (cl r1) (cl r2) : Nat) : Int)]) (by simp [results, Tryz.results50, go_sem, v0, v1]) rfl ⟨rfl, b5⟩

/-! ### What comes of a path -/
theorem coming_any (A B : Option Addr) (n c m d : Nat) (w : World) :
    Calls Tryz.prog 32 #[.slice A n c, .slice B m d] w fun e w' => e = .returned (.func (.func 66) #[] #[.pointer (some ⟨w.heap.size, 0, none⟩), .pointer (some ⟨w.heap.size + 1, 0, none⟩)]) ∧
      w'.cell? ⟨w.heap.size, 0, none⟩ = some (.slice A n c) ∧ w'.cell? ⟨w.heap.size + 1, 0, none⟩ = some (.slice B m d) ∧ w'.heap.size = w.heap.size + 2 ∧ Below w.heap.size w w' := by
  have hmf : ∀ (fn : Fn) (first cap : Array Value) (w : World), (Instr.makeFunc fn first cap).run Tryz.prog w = .ok (.func fn first cap) w := fun _ _ _ _ => rfl
  have x1 := (Blk.new w [.slice A n c] 22).below ((Below.refl _ _).alloc (Nat.le_refl _) (.cells #[.slice B m d] 22))
  have x2 := Blk.new (w.alloc (.cells #[.slice A n c] 22)) [.slice B m d] 22
  go_enter Tryz.func32, Tryz.ntmps32
  go_wp2
  go_ret
  exact ⟨rfl, x1.cell 0, by simp, by simp, by go_grown⟩

set_option maxHeartbeats 4000000 in
theorem coming1_any {w : World} {A B : Option Addr} {n c m d b1 b2 : Nat} {es fs : List Ent} (h : Et w A n c es) (k : Et w B m d fs) (x1 : w.cell? ⟨b1, 0, none⟩ = some (.slice A n c)) (x2 : w.cell? ⟨b2, 0, none⟩ = some (.slice B m d)) (p : ByteArray) (v : Ent × Bool) (hv : cm (atE es p) (atE fs p) = some v) :
    Calls Tryz.prog 66 (#[.string p] ++ #[.pointer (some ⟨b1, 0, none⟩), .pointer (some ⟨b2, 0, none⟩)]) w fun e w' => e = .returned (.tuple #[eA v.1, .bool v.2]) ∧ Below w.heap.size w w' := by
  have z1 := World.block_lt_of_cell? _ _ x1
  have z2 := World.block_lt_of_cell? _ _ x2
  have hal : ∀ (W : World) (o : Obj), Below W.heap.size W (W.alloc o) := fun W o => (Below.refl _ _).alloc (Nat.le_refl _) o
  have R0 := Blk.new w [.string noS, .bool false, .string noS, .int .i64 0, .int .i64 0] 34
  have b0 := hal w (.cells #[.string noS, .bool false, .string noS, .int .i64 0, .int .i64 0] 34)
  have HV := hid hv
  clear hv
  go_enter Tryz.func66, Tryz.ntmps66
  go_wp2_with fail
  generalize w.alloc (.cells #[.string noS, .bool false, .string noS, .int .i64 0, .int .i64 0] 34) = W0 at R0 b0 ⊢
  have y1 := (b0.cell (p := ⟨b1, 0, none⟩) z1).trans x1
  have y2 := (b0.cell (p := ⟨b2, 0, none⟩) z2).trans x2
  refine wp_region_held_drew (S := fun w' => w'.cell? ⟨b1, 0, none⟩ = some (.slice A n c) ∧ w'.cell? ⟨b2, 0, none⟩ = some (.slice B m d)) (by kernel_rfl) ⟨y1, y2⟩ (fun hHeld => ?_)
  refine wpAnyH_take (i := 0) (oi := ⟨_, _, _, _, _, _⟩) (v := ?_) rfl (by kernel_rfl) (by kernel_rfl) (by kernel_rfl) (fun _ _ _ h => h) (Or.inl ⟨by rfl, ?_⟩) (by assumption) ?_
  rotate_left
  · intro w hSw; (try dsimp only at hSw); go_simp; (try (with_reducible rfl))
  try simp only [Act.put, List.setIfInBounds_toArray, List.set_cons_zero, List.set_cons_succ]
  refine wpAnyH_take (i := 1) (oi := ⟨_, _, _, _, _, _⟩) (v := ?_) rfl (by kernel_rfl) (by kernel_rfl) (by kernel_rfl) (fun _ _ _ h => h) (Or.inl ⟨by rfl, ?_⟩) (by assumption) ?_
  rotate_left
  · intro w hSw; (try dsimp only at hSw); go_simp; (try (with_reducible rfl))
  try simp only [Act.put, List.setIfInBounds_toArray, List.set_cons_zero, List.set_cons_succ]
  refine wpAnyH_take (i := 3) (oi := ⟨_, _, _, _, _, _⟩) (v := ?_) rfl (by kernel_rfl) (by kernel_rfl) (by kernel_rfl) (fun _ _ _ h => h) (Or.inl ⟨by rfl, ?_⟩) (by assumption) ?_
  rotate_left
  · intro w hSw; (try dsimp only at hSw); go_simp; (try (with_reducible rfl))
  try simp only [Act.put, List.setIfInBounds_toArray, List.set_cons_zero, List.set_cons_succ]
  refine wpAnyH_take (i := 4) (oi := ⟨_, _, _, _, _, _⟩) (v := ?_) rfl (by kernel_rfl) (by kernel_rfl) (by kernel_rfl) (fun _ _ _ h => h) (Or.inl ⟨by rfl, ?_⟩) (by assumption) ?_
  rotate_left
  · intro w hSw; (try dsimp only at hSw); go_simp; (try (with_reducible rfl))
  try simp only [Act.put, List.setIfInBounds_toArray, List.set_cons_zero, List.set_cons_succ]
  refine wpAnyH_ready (rs := [2]) (by kernel_rfl) (by simp) ?_
  refine AllReadyH.cons (o := ⟨_, _, _, _, _, _⟩) rfl (fun K hK => ?_) AllReadyH.nil
  go_simp
  refine (plc_any (w := W0.drew) (es := es) h.len (h.rd.below b0.drew) h.big p).mono ?_
  rintro e w1 ⟨rfl, hb1⟩
  have c1 := below2 b0.drew hb1
  clear y1 y2 hHeld
  have y1 := (c1.cell (p := ⟨b1, 0, none⟩) z1).trans x1
  have y2 := (c1.cell (p := ⟨b2, 0, none⟩) z2).trans x2
  refine hK.out _ _ ⟨y1, y2⟩ (fun hHeld => ?_)
  clear hK K
  try simp only [Act.put, List.setIfInBounds_toArray, List.set_cons_zero, List.set_cons_succ]
  refine wpAnyH_ready (rs := [5]) (by kernel_rfl) (by simp) ?_
  refine AllReadyH.cons (o := ⟨_, _, _, _, _, _⟩) rfl (fun K hK => ?_) AllReadyH.nil
  go_simp
  refine (plc_any (es := fs) k.len (k.rd.below c1) k.big p).mono ?_
  rintro e w2 ⟨rfl, hb2⟩
  have c2 := below2 c1 hb2
  clear y1 y2 hHeld
  have y1 := (c2.cell (p := ⟨b1, 0, none⟩) z1).trans x1
  have y2 := (c2.cell (p := ⟨b2, 0, none⟩) z2).trans x2
  refine hK.out _ _ ⟨y1, y2⟩ (fun hHeld => ?_)
  clear hK K
  try simp only [Act.put, List.setIfInBounds_toArray, List.set_cons_zero, List.set_cons_succ]
  refine wpAnyH_take (i := 6) (oi := ⟨_, _, _, _, _, _⟩) (v := ?_) rfl (by kernel_rfl) (by kernel_rfl) (by kernel_rfl) (fun _ _ _ h => h) (Or.inl ⟨by rfl, ?_⟩) (by assumption) ?_
  rotate_left
  · intro w hSw; (try dsimp only at hSw); go_simp; (try (with_reducible rfl))
  try simp only [Act.put, List.setIfInBounds_toArray, List.set_cons_zero, List.set_cons_succ]
  refine wpAnyH_take (i := 7) (oi := ⟨_, _, _, _, _, _⟩) (v := ?_) rfl (by kernel_rfl) (by kernel_rfl) (by kernel_rfl) (fun _ _ _ h => h) (Or.inl ⟨by rfl, ?_⟩) (by assumption) ?_
  rotate_left
  · intro w hSw; (try dsimp only at hSw); go_simp; (try (with_reducible rfl))
  try simp only [Act.put, List.setIfInBounds_toArray, List.set_cons_zero, List.set_cons_succ]
  refine wpAnyH_done (by kernel_rfl) ?_ _
  have R2 := (R0.drew.below hb1).below hb2
  have h2 := h.rd.below c2
  have k2 := k.rd.below c2
  clear hHeld R0 b0 hb1 hb2 c1
  rcases idxE_cases es p with ⟨e1, -⟩ | ⟨i, hi, e1, -⟩
  · rcases idxE_cases fs p with ⟨e2, -⟩ | ⟨j, hj, e2, -⟩
    · have := HV.out
      rw [atE_no e1, atE_no e2] at this
      cases this
    · have HE : Hid (v = (fs[j], false)) := by have := HV.out; rw [atE_no e1, atE_yes hj e2] at this; injection this with this; exact this.symm
      obtain ⟨g, og, rfl, a0, a1, a2, a3, a4, -⟩ := k2.ent hj
      rw [e1, e2]
      have hjz : (0 : Int) ≤ j := by omega
      have hjm : (j : Int) < m := by have := k.len; omega
      generalize fs[j] = x at *
      clear HV h2 k2 h k e1 e2
      have f0 := R2.frozen 0
      have f1 := R2.frozen 1
      have f2 := R2.frozen 2
      have f3 := R2.frozen 3
      have f4 := R2.frozen 4
      have R3 := ((((R2.set_ 0 (.string x.path)).set_ 1 (.bool x.has)).set_ 2 (.string x.data)).set_ 3 (.int .i64 x.l)).set_ 4 (.int .i64 x.r)
      have c3 := ((((c2.setCell (p := ⟨w.heap.size, 0, none⟩) (Nat.le_refl _) (.string x.path)).setCell (p := ⟨w.heap.size, 1, none⟩) (Nat.le_refl _) (.bool x.has)).setCell (p := ⟨w.heap.size, 2, none⟩) (Nat.le_refl _) (.string x.data)).setCell (p := ⟨w.heap.size, 3, none⟩) (Nat.le_refl _) (.int .i64 x.l)).setCell (p := ⟨w.heap.size, 4, none⟩) (Nat.le_refl _) (.int .i64 x.r)
      have r0 := R3.cell 0
      have r1 := R3.cell 1
      have r2 := R3.cell 2
      have r3 := R3.cell 3
      have r4 := R3.cell 4
      have r00 := R2.cell 0
      have r01 := R2.cell 1
      have r02 := R2.cell 2
      have r03 := R2.cell 3
      have r04 := R2.cell 4
      simp only [List.set_cons_zero, List.set_cons_succ, List.getElem?_cons_zero, List.getElem?_cons_succ] at r0 r1 r2 r3 r4 r00 r01 r02 r03 r04
      clear R2 R3 c2
      go_wp2
      refine bodyPost_ret (v := .tuple #[eA x, .bool false]) (by simp [results, Tryz.results66, go_sem, r0, r1, r2, r3, r4]) rfl ⟨by rw [HE.out], c3⟩
  · rcases idxE_cases fs p with ⟨e2, -⟩ | ⟨j, hj, e2, -⟩
    · have HE : Hid (v = (es[i], false)) := by have := HV.out; rw [atE_no e2, atE_yes hi e1] at this; injection this with this; exact this.symm
      obtain ⟨g, og, rfl, a0, a1, a2, a3, a4, -⟩ := h2.ent hi
      rw [e1, e2]
      have hjz : (0 : Int) ≤ i := by omega
      have hjz' : ¬ (i : Int) < 0 := by omega
      have hjm : (i : Int) < n := by have := h.len; omega
      generalize es[i] = x at *
      clear HV h2 k2 h k e1 e2
      have f0 := R2.frozen 0
      have f1 := R2.frozen 1
      have f2 := R2.frozen 2
      have f3 := R2.frozen 3
      have f4 := R2.frozen 4
      have R3 := ((((R2.set_ 0 (.string x.path)).set_ 1 (.bool x.has)).set_ 2 (.string x.data)).set_ 3 (.int .i64 x.l)).set_ 4 (.int .i64 x.r)
      have c3 := ((((c2.setCell (p := ⟨w.heap.size, 0, none⟩) (Nat.le_refl _) (.string x.path)).setCell (p := ⟨w.heap.size, 1, none⟩) (Nat.le_refl _) (.bool x.has)).setCell (p := ⟨w.heap.size, 2, none⟩) (Nat.le_refl _) (.string x.data)).setCell (p := ⟨w.heap.size, 3, none⟩) (Nat.le_refl _) (.int .i64 x.l)).setCell (p := ⟨w.heap.size, 4, none⟩) (Nat.le_refl _) (.int .i64 x.r)
      have r0 := R3.cell 0
      have r1 := R3.cell 1
      have r2 := R3.cell 2
      have r3 := R3.cell 3
      have r4 := R3.cell 4
      have r00 := R2.cell 0
      have r01 := R2.cell 1
      have r02 := R2.cell 2
      have r03 := R2.cell 3
      have r04 := R2.cell 4
      simp only [List.set_cons_zero, List.set_cons_succ, List.getElem?_cons_zero, List.getElem?_cons_succ] at r0 r1 r2 r3 r4 r00 r01 r02 r03 r04
      clear R2 R3 c2
      go_wp2
      refine bodyPost_ret (v := .tuple #[eA x, .bool false]) (by simp [results, Tryz.results66, go_sem, r0, r1, r2, r3, r4]) rfl ⟨by rw [HE.out], c3⟩
    · have HE : Hid (v = comeE es[i] fs[j]) := by have := HV.out; rw [atE_yes hj e2, atE_yes hi e1] at this; injection this with this; exact this.symm
      obtain ⟨g, og, rfl, a0, a1, a2, a3, a4, -⟩ := h2.ent hi
      obtain ⟨g', og', rfl, d0, d1, d2, d3, d4, -⟩ := k2.ent hj
      rw [e1, e2]
      have hiz : (0 : Int) ≤ i := by omega
      have hiz' : ¬ (i : Int) < 0 := by omega
      have hin : (i : Int) < n := by have := h.len; omega
      have hjz : (0 : Int) ≤ j := by omega
      have hjz' : ¬ (j : Int) < 0 := by omega
      have hjm : (j : Int) < m := by have := k.len; omega
      generalize es[i] = x at *
      generalize fs[j] = y at *
      clear HV h2 k2 h k e1 e2
      have lg := World.block_lt_of_cell? _ _ a0
      have lg' := World.block_lt_of_cell? _ _ d0
      go_upto_region 6 with (fail)
      go_cut [8, 9] (fun v8 v9 wx => ∃ q1 q2 : Nat, v8 = .pointer (some ⟨q1, 0, none⟩) ∧ v9 = .pointer (some ⟨q2, 0, none⟩) ∧ Blk wx q1 [.string x.path, .bool x.has, .string x.data, .int .i64 x.l, .int .i64 x.r] 34 ∧ Blk wx q2 [.string y.path, .bool y.has, .string y.data, .int .i64 y.l, .int .i64 y.r] 34 ∧ w2.heap.size ≤ q1 ∧ Below w2.heap.size w2 wx)
      case first =>
        go_wp2_with fail
        have HS : Hid (∀ W, Below w2.heap.size w2 W → (fun w' => (w'.cell? ⟨b1, 0, none⟩ = some (.slice (some ⟨g, og, none⟩) n c) ∧ w'.cell? ⟨b2, 0, none⟩ = some (.slice (some ⟨g', og', none⟩) m d)) ∧ (w'.cell? ⟨g, og + i * 5, none⟩ = some (.string x.path) ∧ w'.cell? ⟨g, og + i * 5 + 1, none⟩ = some (.bool x.has) ∧ w'.cell? ⟨g, og + i * 5 + 2, none⟩ = some (.string x.data) ∧ w'.cell? ⟨g, og + i * 5 + 3, none⟩ = some (.int .i64 x.l) ∧ w'.cell? ⟨g, og + i * 5 + 4, none⟩ = some (.int .i64 x.r)) ∧ w'.cell? ⟨g', og' + j * 5, none⟩ = some (.string y.path) ∧ w'.cell? ⟨g', og' + j * 5 + 1, none⟩ = some (.bool y.has) ∧ w'.cell? ⟨g', og' + j * 5 + 2, none⟩ = some (.string y.data) ∧ w'.cell? ⟨g', og' + j * 5 + 3, none⟩ = some (.int .i64 y.l) ∧ w'.cell? ⟨g', og' + j * 5 + 4, none⟩ = some (.int .i64 y.r)) W) := fun W hb => by
          dsimp only
          rw [hb.cell (p := ⟨b1, 0, none⟩) (by have := c2.size; dsimp only; omega), hb.cell (p := ⟨b2, 0, none⟩) (by have := c2.size; dsimp only; omega)]
          rw [hb.cell (p := ⟨g, og + i * 5, none⟩) lg, hb.cell (p := ⟨g', og' + j * 5, none⟩) lg']
          rw [hb.cell (p := ⟨g, og + i * 5 + 1, none⟩) lg, hb.cell (p := ⟨g', og' + j * 5 + 1, none⟩) lg']
          rw [hb.cell (p := ⟨g, og + i * 5 + 2, none⟩) lg, hb.cell (p := ⟨g', og' + j * 5 + 2, none⟩) lg']
          rw [hb.cell (p := ⟨g, og + i * 5 + 3, none⟩) lg, hb.cell (p := ⟨g', og' + j * 5 + 3, none⟩) lg']
          rw [hb.cell (p := ⟨g, og + i * 5 + 4, none⟩) lg, hb.cell (p := ⟨g', og' + j * 5 + 4, none⟩) lg']
          exact ⟨⟨y1, y2⟩, ⟨a0, a1, a2, a3, a4⟩, d0, d1, d2, d3, d4⟩
        refine wp_region_held_drew (S := fun w' => (w'.cell? ⟨b1, 0, none⟩ = some (.slice (some ⟨g, og, none⟩) n c) ∧ w'.cell? ⟨b2, 0, none⟩ = some (.slice (some ⟨g', og', none⟩) m d)) ∧ (w'.cell? ⟨g, og + i * 5, none⟩ = some (.string x.path) ∧ w'.cell? ⟨g, og + i * 5 + 1, none⟩ = some (.bool x.has) ∧ w'.cell? ⟨g, og + i * 5 + 2, none⟩ = some (.string x.data) ∧ w'.cell? ⟨g, og + i * 5 + 3, none⟩ = some (.int .i64 x.l) ∧ w'.cell? ⟨g, og + i * 5 + 4, none⟩ = some (.int .i64 x.r)) ∧ w'.cell? ⟨g', og' + j * 5, none⟩ = some (.string y.path) ∧ w'.cell? ⟨g', og' + j * 5 + 1, none⟩ = some (.bool y.has) ∧ w'.cell? ⟨g', og' + j * 5 + 2, none⟩ = some (.string y.data) ∧ w'.cell? ⟨g', og' + j * 5 + 3, none⟩ = some (.int .i64 y.l) ∧ w'.cell? ⟨g', og' + j * 5 + 4, none⟩ = some (.int .i64 y.r)) (by kernel_rfl) (HS.out _ (Below.refl _ _).drew) (fun hHeld => ?_)
        refine wpAnyH_take (i := 0) (oi := ⟨_, _, _, _, _, _⟩) (v := ?_) rfl (by kernel_rfl) (by kernel_rfl) (by kernel_rfl) (fun _ _ _ h => h) (Or.inl ⟨by rfl, ?_⟩) (by assumption) ?_
        rotate_left
        · intro w hSw; (try dsimp only at hSw); go_simp; (try (with_reducible rfl))
        try simp only [Act.put, List.setIfInBounds_toArray, List.set_cons_zero, List.set_cons_succ]
        refine wpAnyH_take (i := 1) (oi := ⟨_, _, _, _, _, _⟩) (v := ?_) rfl (by kernel_rfl) (by kernel_rfl) (by kernel_rfl) (fun _ _ _ h => h) (Or.inl ⟨by rfl, ?_⟩) (by assumption) ?_
        rotate_left
        · intro w hSw; (try dsimp only at hSw); go_simp; (try (with_reducible rfl))
        try simp only [Act.put, List.setIfInBounds_toArray, List.set_cons_zero, List.set_cons_succ]
        refine wpAnyH_take (i := 2) (oi := ⟨_, _, _, _, _, _⟩) (v := ?_) rfl (by kernel_rfl) (by kernel_rfl) (by kernel_rfl) (fun _ _ _ h => h) (Or.inl ⟨by rfl, ?_⟩) (by assumption) ?_
        rotate_left
        · intro w hSw; (try dsimp only at hSw); go_simp; (try (with_reducible rfl))
        try simp only [Act.put, List.setIfInBounds_toArray, List.set_cons_zero, List.set_cons_succ]
        refine wpAnyH_take (i := 3) (oi := ⟨_, _, _, _, _, _⟩) (v := ?_) rfl (by kernel_rfl) (by kernel_rfl) (by kernel_rfl) (fun _ _ _ h => h) (Or.inl ⟨by rfl, ?_⟩) (by assumption) ?_
        rotate_left
        · intro w hSw; (try dsimp only at hSw); go_simp; (try (with_reducible rfl))
        try simp only [Act.put, List.setIfInBounds_toArray, List.set_cons_zero, List.set_cons_succ]
        refine wpAnyH_take (i := 4) (oi := ⟨_, _, _, _, _, _⟩) (v := ?_) rfl (by kernel_rfl) (by kernel_rfl) (by kernel_rfl) (fun _ _ _ h => h) (Or.inl ⟨by rfl, ?_⟩) (by assumption) ?_
        rotate_left
        · intro w hSw; (try dsimp only at hSw); go_simp; (try (with_reducible rfl))
        try simp only [Act.put, List.setIfInBounds_toArray, List.set_cons_zero, List.set_cons_succ]
        refine wpAnyH_take (i := 5) (oi := ⟨_, _, _, _, _, _⟩) (v := ?_) rfl (by kernel_rfl) (by kernel_rfl) (by kernel_rfl) (fun _ _ _ h => h) (Or.inl ⟨by rfl, ?_⟩) (by assumption) ?_
        rotate_left
        · intro w hSw; (try dsimp only at hSw); go_simp; (try (with_reducible rfl))
        try simp only [Act.put, List.setIfInBounds_toArray, List.set_cons_zero, List.set_cons_succ]
        refine wpAnyH_take (i := 6) (oi := ⟨_, _, _, _, _, _⟩) (v := ?_) rfl (by kernel_rfl) (by kernel_rfl) (by kernel_rfl) (fun _ _ _ h => h) (Or.inl ⟨by rfl, ?_⟩) (by assumption) ?_
        rotate_left
        · intro w hSw; (try dsimp only at hSw); go_simp; (try (with_reducible rfl))
        try simp only [Act.put, List.setIfInBounds_toArray, List.set_cons_zero, List.set_cons_succ]
        refine wpAnyH_take (i := 7) (oi := ⟨_, _, _, _, _, _⟩) (v := ?_) rfl (by kernel_rfl) (by kernel_rfl) (by kernel_rfl) (fun _ _ _ h => h) (Or.inl ⟨by rfl, ?_⟩) (by assumption) ?_
        rotate_left
        · intro w hSw; (try dsimp only at hSw); go_simp; (try (with_reducible rfl))
        try simp only [Act.put, List.setIfInBounds_toArray, List.set_cons_zero, List.set_cons_succ]
        refine wpAnyH_ready (rs := [8, 9]) (by kernel_rfl) (by simp) ?_
        refine AllReadyH.cons (o := ⟨_, _, _, _, _, _⟩) rfl (fun K hK => ?_) (AllReadyH.cons (o := ⟨_, _, _, _, _, _⟩) rfl (fun K hK => ?_) (AllReadyH.nil))
        · go_simp
          clear hHeld
          refine hK.out _ _ (HS.out _ ((Below.refl _ _).drew.alloc (Nat.le_refl _) _)) (fun hHeld => ?_)
          clear hK K
          try simp only [Act.put, List.setIfInBounds_toArray, List.set_cons_zero, List.set_cons_succ]
          refine wpAnyH_ready (rs := [9]) (by kernel_rfl) (by simp) ?_
          refine AllReadyH.cons (o := ⟨_, _, _, _, _, _⟩) rfl (fun K hK => ?_) AllReadyH.nil
          go_simp
          clear hHeld
          refine hK.out _ _ (HS.out _ (((Below.refl _ _).drew.alloc (Nat.le_refl _) _).alloc (by simp) _)) (fun hHeld => ?_)
          clear hK K
          try simp only [Act.put, List.setIfInBounds_toArray, List.set_cons_zero, List.set_cons_succ]
          have P0 : Blk (((w2.alloc (.cells #[.string ⟨#[]⟩, .bool false, .string ⟨#[]⟩, .int .i64 0, .int .i64 0] 34)).alloc (.cells #[.string ⟨#[]⟩, .bool false, .string ⟨#[]⟩, .int .i64 0, .int .i64 0] 34)).drew) (w2.heap.size) [.string ⟨#[]⟩, .bool false, .string ⟨#[]⟩, .int .i64 0, .int .i64 0] 34 := (Blk.new w2 [.string ⟨#[]⟩, .bool false, .string ⟨#[]⟩, .int .i64 0, .int .i64 0] 34).below (hal _ _).drew
          have Y0 : Blk (((w2.alloc (.cells #[.string ⟨#[]⟩, .bool false, .string ⟨#[]⟩, .int .i64 0, .int .i64 0] 34)).alloc (.cells #[.string ⟨#[]⟩, .bool false, .string ⟨#[]⟩, .int .i64 0, .int .i64 0] 34)).drew) (w2.heap.size + 1) [.string ⟨#[]⟩, .bool false, .string ⟨#[]⟩, .int .i64 0, .int .i64 0] 34 := by
            have hs : (w2.alloc (.cells #[.string ⟨#[]⟩, .bool false, .string ⟨#[]⟩, .int .i64 0, .int .i64 0] 34)).heap.size = w2.heap.size + 1 := by simp
            rw [← hs]; exact (Blk.new (w2.alloc (.cells #[.string ⟨#[]⟩, .bool false, .string ⟨#[]⟩, .int .i64 0, .int .i64 0] 34)) [.string ⟨#[]⟩, .bool false, .string ⟨#[]⟩, .int .i64 0, .int .i64 0] 34).drew
          have bW : Below w2.heap.size w2 (((w2.alloc (.cells #[.string ⟨#[]⟩, .bool false, .string ⟨#[]⟩, .int .i64 0, .int .i64 0] 34)).alloc (.cells #[.string ⟨#[]⟩, .bool false, .string ⟨#[]⟩, .int .i64 0, .int .i64 0] 34)).drew) := (below2 (hal w2 _) (hal _ _)).drew
          generalize ((w2.alloc (.cells #[.string ⟨#[]⟩, .bool false, .string ⟨#[]⟩, .int .i64 0, .int .i64 0] 34)).alloc (.cells #[.string ⟨#[]⟩, .bool false, .string ⟨#[]⟩, .int .i64 0, .int .i64 0] 34)).drew = W1 at P0 Y0 bW ⊢
          have u0 := P0.cell 0
          have u1 := P0.cell 1
          have u2 := P0.cell 2
          have u3 := P0.cell 3
          have u4 := P0.cell 4
          have uf0 := P0.frozen 0
          have uf1 := P0.frozen 1
          have uf2 := P0.frozen 2
          have uf3 := P0.frozen 3
          have uf4 := P0.frozen 4
          simp only [List.getElem?_cons_zero, List.getElem?_cons_succ] at u0 u1 u2 u3 u4
          have v0 := Y0.cell 0
          have v1 := Y0.cell 1
          have v2 := Y0.cell 2
          have v3 := Y0.cell 3
          have v4 := Y0.cell 4
          have vf0 := Y0.frozen 0
          have vf1 := Y0.frozen 1
          have vf2 := Y0.frozen 2
          have vf3 := Y0.frozen 3
          have vf4 := Y0.frozen 4
          simp only [List.getElem?_cons_zero, List.getElem?_cons_succ] at v0 v1 v2 v3 v4
          have hq1 : w2.heap.size ≤ w2.heap.size := by omega
          have hq2 : w2.heap.size ≤ w2.heap.size + 1 := by omega
          have bX := (((((bW.setCell (p := ⟨w2.heap.size, 0, none⟩) hq1 (.string x.path)).setCell (p := ⟨w2.heap.size, 1, none⟩) hq1 (.bool x.has)).setCell (p := ⟨w2.heap.size, 2, none⟩) hq1 (.string x.data)).setCell (p := ⟨w2.heap.size, 3, none⟩) hq1 (.int .i64 x.l)).setCell (p := ⟨w2.heap.size, 4, none⟩) hq1 (.int .i64 x.r))
          have P1 := ((((P0.set_ 0 (.string x.path)).set_ 1 (.bool x.has)).set_ 2 (.string x.data)).set_ 3 (.int .i64 x.l)).set_ 4 (.int .i64 x.r)
          have Y1 := ((((Y0.other (show w2.heap.size + 1 ≠ w2.heap.size by omega) 0 (.string x.path)).other (show w2.heap.size + 1 ≠ w2.heap.size by omega) 1 (.bool x.has)).other (show w2.heap.size + 1 ≠ w2.heap.size by omega) 2 (.string x.data)).other (show w2.heap.size + 1 ≠ w2.heap.size by omega) 3 (.int .i64 x.l)).other (show w2.heap.size + 1 ≠ w2.heap.size by omega) 4 (.int .i64 x.r)
          simp only [List.set_cons_zero, List.set_cons_succ] at P1
          refine wpAnyH_ready (rs := [10]) (by kernel_rfl) (by simp) ?_
          refine AllReadyH.cons (o := ⟨_, _, _, _, _, _⟩) rfl (fun K hK => ?_) AllReadyH.nil
          go_simp
          clear hHeld
          generalize (((((W1).setCell ⟨w2.heap.size, 0, none⟩ (.string x.path)).setCell ⟨w2.heap.size, 1, none⟩ (.bool x.has)).setCell ⟨w2.heap.size, 2, none⟩ (.string x.data)).setCell ⟨w2.heap.size, 3, none⟩ (.int .i64 x.l)).setCell ⟨w2.heap.size, 4, none⟩ (.int .i64 x.r) = W2 at *
          refine hK.out _ _ (HS.out _ bX) (fun hHeld => ?_)
          clear hK K
          try simp only [Act.put, List.setIfInBounds_toArray, List.set_cons_zero, List.set_cons_succ]
          clear u0 v0 uf0 vf0 u1 v1 uf1 vf1 u2 v2 uf2 vf2 u3 v3 uf3 vf3 u4 v4 uf4 vf4
          have v0 := Y1.cell 0
          have v1 := Y1.cell 1
          have v2 := Y1.cell 2
          have v3 := Y1.cell 3
          have v4 := Y1.cell 4
          have vf0 := Y1.frozen 0
          have vf1 := Y1.frozen 1
          have vf2 := Y1.frozen 2
          have vf3 := Y1.frozen 3
          have vf4 := Y1.frozen 4
          simp only [List.getElem?_cons_zero, List.getElem?_cons_succ] at v0 v1 v2 v3 v4
          have bY := (((((bX.setCell (p := ⟨w2.heap.size + 1, 0, none⟩) hq2 (.string y.path)).setCell (p := ⟨w2.heap.size + 1, 1, none⟩) hq2 (.bool y.has)).setCell (p := ⟨w2.heap.size + 1, 2, none⟩) hq2 (.string y.data)).setCell (p := ⟨w2.heap.size + 1, 3, none⟩) hq2 (.int .i64 y.l)).setCell (p := ⟨w2.heap.size + 1, 4, none⟩) hq2 (.int .i64 y.r))
          have Y2 := ((((Y1.set_ 0 (.string y.path)).set_ 1 (.bool y.has)).set_ 2 (.string y.data)).set_ 3 (.int .i64 y.l)).set_ 4 (.int .i64 y.r)
          have P2 := ((((P1.other (show w2.heap.size ≠ w2.heap.size + 1 by omega) 0 (.string y.path)).other (show w2.heap.size ≠ w2.heap.size + 1 by omega) 1 (.bool y.has)).other (show w2.heap.size ≠ w2.heap.size + 1 by omega) 2 (.string y.data)).other (show w2.heap.size ≠ w2.heap.size + 1 by omega) 3 (.int .i64 y.l)).other (show w2.heap.size ≠ w2.heap.size + 1 by omega) 4 (.int .i64 y.r)
          simp only [List.set_cons_zero, List.set_cons_succ] at Y2
          refine wpAnyH_ready (rs := [11]) (by kernel_rfl) (by simp) ?_
          refine AllReadyH.cons (o := ⟨_, _, _, _, _, _⟩) rfl (fun K hK => ?_) AllReadyH.nil
          go_simp
          clear hHeld
          generalize (((((W2).setCell ⟨w2.heap.size + 1, 0, none⟩ (.string y.path)).setCell ⟨w2.heap.size + 1, 1, none⟩ (.bool y.has)).setCell ⟨w2.heap.size + 1, 2, none⟩ (.string y.data)).setCell ⟨w2.heap.size + 1, 3, none⟩ (.int .i64 y.l)).setCell ⟨w2.heap.size + 1, 4, none⟩ (.int .i64 y.r) = W3 at *
          refine hK.out _ _ (HS.out _ bY) (fun hHeld => ?_)
          clear hK K
          try simp only [Act.put, List.setIfInBounds_toArray, List.set_cons_zero, List.set_cons_succ]
          refine wpAnyH_done (by kernel_rfl) ?_ _
          go_wp2_with fail
          go_meet
          case rel => exact ⟨w2.heap.size, w2.heap.size + 1, rfl, rfl, P2, Y2, hq1, bY⟩
        · go_simp
          clear hHeld
          refine hK.out _ _ (HS.out _ ((Below.refl _ _).drew.alloc (Nat.le_refl _) _)) (fun hHeld => ?_)
          clear hK K
          try simp only [Act.put, List.setIfInBounds_toArray, List.set_cons_zero, List.set_cons_succ]
          refine wpAnyH_ready (rs := [8]) (by kernel_rfl) (by simp) ?_
          refine AllReadyH.cons (o := ⟨_, _, _, _, _, _⟩) rfl (fun K hK => ?_) AllReadyH.nil
          go_simp
          clear hHeld
          refine hK.out _ _ (HS.out _ (((Below.refl _ _).drew.alloc (Nat.le_refl _) _).alloc (by simp) _)) (fun hHeld => ?_)
          clear hK K
          try simp only [Act.put, List.setIfInBounds_toArray, List.set_cons_zero, List.set_cons_succ]
          have Y0 : Blk (((w2.alloc (.cells #[.string ⟨#[]⟩, .bool false, .string ⟨#[]⟩, .int .i64 0, .int .i64 0] 34)).alloc (.cells #[.string ⟨#[]⟩, .bool false, .string ⟨#[]⟩, .int .i64 0, .int .i64 0] 34)).drew) (w2.heap.size) [.string ⟨#[]⟩, .bool false, .string ⟨#[]⟩, .int .i64 0, .int .i64 0] 34 := (Blk.new w2 [.string ⟨#[]⟩, .bool false, .string ⟨#[]⟩, .int .i64 0, .int .i64 0] 34).below (hal _ _).drew
          have P0 : Blk (((w2.alloc (.cells #[.string ⟨#[]⟩, .bool false, .string ⟨#[]⟩, .int .i64 0, .int .i64 0] 34)).alloc (.cells #[.string ⟨#[]⟩, .bool false, .string ⟨#[]⟩, .int .i64 0, .int .i64 0] 34)).drew) (w2.heap.size + 1) [.string ⟨#[]⟩, .bool false, .string ⟨#[]⟩, .int .i64 0, .int .i64 0] 34 := by
            have hs : (w2.alloc (.cells #[.string ⟨#[]⟩, .bool false, .string ⟨#[]⟩, .int .i64 0, .int .i64 0] 34)).heap.size = w2.heap.size + 1 := by simp
            rw [← hs]; exact (Blk.new (w2.alloc (.cells #[.string ⟨#[]⟩, .bool false, .string ⟨#[]⟩, .int .i64 0, .int .i64 0] 34)) [.string ⟨#[]⟩, .bool false, .string ⟨#[]⟩, .int .i64 0, .int .i64 0] 34).drew
          have bW : Below w2.heap.size w2 (((w2.alloc (.cells #[.string ⟨#[]⟩, .bool false, .string ⟨#[]⟩, .int .i64 0, .int .i64 0] 34)).alloc (.cells #[.string ⟨#[]⟩, .bool false, .string ⟨#[]⟩, .int .i64 0, .int .i64 0] 34)).drew) := (below2 (hal w2 _) (hal _ _)).drew
          generalize ((w2.alloc (.cells #[.string ⟨#[]⟩, .bool false, .string ⟨#[]⟩, .int .i64 0, .int .i64 0] 34)).alloc (.cells #[.string ⟨#[]⟩, .bool false, .string ⟨#[]⟩, .int .i64 0, .int .i64 0] 34)).drew = W1 at P0 Y0 bW ⊢
          have u0 := P0.cell 0
          have u1 := P0.cell 1
          have u2 := P0.cell 2
          have u3 := P0.cell 3
          have u4 := P0.cell 4
          have uf0 := P0.frozen 0
          have uf1 := P0.frozen 1
          have uf2 := P0.frozen 2
          have uf3 := P0.frozen 3
          have uf4 := P0.frozen 4
          simp only [List.getElem?_cons_zero, List.getElem?_cons_succ] at u0 u1 u2 u3 u4
          have v0 := Y0.cell 0
          have v1 := Y0.cell 1
          have v2 := Y0.cell 2
          have v3 := Y0.cell 3
          have v4 := Y0.cell 4
          have vf0 := Y0.frozen 0
          have vf1 := Y0.frozen 1
          have vf2 := Y0.frozen 2
          have vf3 := Y0.frozen 3
          have vf4 := Y0.frozen 4
          simp only [List.getElem?_cons_zero, List.getElem?_cons_succ] at v0 v1 v2 v3 v4
          have hq1 : w2.heap.size ≤ w2.heap.size + 1 := by omega
          have hq2 : w2.heap.size ≤ w2.heap.size := by omega
          have bX := (((((bW.setCell (p := ⟨w2.heap.size + 1, 0, none⟩) hq1 (.string x.path)).setCell (p := ⟨w2.heap.size + 1, 1, none⟩) hq1 (.bool x.has)).setCell (p := ⟨w2.heap.size + 1, 2, none⟩) hq1 (.string x.data)).setCell (p := ⟨w2.heap.size + 1, 3, none⟩) hq1 (.int .i64 x.l)).setCell (p := ⟨w2.heap.size + 1, 4, none⟩) hq1 (.int .i64 x.r))
          have P1 := ((((P0.set_ 0 (.string x.path)).set_ 1 (.bool x.has)).set_ 2 (.string x.data)).set_ 3 (.int .i64 x.l)).set_ 4 (.int .i64 x.r)
          have Y1 := ((((Y0.other (show w2.heap.size ≠ w2.heap.size + 1 by omega) 0 (.string x.path)).other (show w2.heap.size ≠ w2.heap.size + 1 by omega) 1 (.bool x.has)).other (show w2.heap.size ≠ w2.heap.size + 1 by omega) 2 (.string x.data)).other (show w2.heap.size ≠ w2.heap.size + 1 by omega) 3 (.int .i64 x.l)).other (show w2.heap.size ≠ w2.heap.size + 1 by omega) 4 (.int .i64 x.r)
          simp only [List.set_cons_zero, List.set_cons_succ] at P1
          refine wpAnyH_ready (rs := [10]) (by kernel_rfl) (by simp) ?_
          refine AllReadyH.cons (o := ⟨_, _, _, _, _, _⟩) rfl (fun K hK => ?_) AllReadyH.nil
          go_simp
          clear hHeld
          generalize (((((W1).setCell ⟨w2.heap.size + 1, 0, none⟩ (.string x.path)).setCell ⟨w2.heap.size + 1, 1, none⟩ (.bool x.has)).setCell ⟨w2.heap.size + 1, 2, none⟩ (.string x.data)).setCell ⟨w2.heap.size + 1, 3, none⟩ (.int .i64 x.l)).setCell ⟨w2.heap.size + 1, 4, none⟩ (.int .i64 x.r) = W2 at *
          refine hK.out _ _ (HS.out _ bX) (fun hHeld => ?_)
          clear hK K
          try simp only [Act.put, List.setIfInBounds_toArray, List.set_cons_zero, List.set_cons_succ]
          clear u0 v0 uf0 vf0 u1 v1 uf1 vf1 u2 v2 uf2 vf2 u3 v3 uf3 vf3 u4 v4 uf4 vf4
          have v0 := Y1.cell 0
          have v1 := Y1.cell 1
          have v2 := Y1.cell 2
          have v3 := Y1.cell 3
          have v4 := Y1.cell 4
          have vf0 := Y1.frozen 0
          have vf1 := Y1.frozen 1
          have vf2 := Y1.frozen 2
          have vf3 := Y1.frozen 3
          have vf4 := Y1.frozen 4
          simp only [List.getElem?_cons_zero, List.getElem?_cons_succ] at v0 v1 v2 v3 v4
          have bY := (((((bX.setCell (p := ⟨w2.heap.size, 0, none⟩) hq2 (.string y.path)).setCell (p := ⟨w2.heap.size, 1, none⟩) hq2 (.bool y.has)).setCell (p := ⟨w2.heap.size, 2, none⟩) hq2 (.string y.data)).setCell (p := ⟨w2.heap.size, 3, none⟩) hq2 (.int .i64 y.l)).setCell (p := ⟨w2.heap.size, 4, none⟩) hq2 (.int .i64 y.r))
          have Y2 := ((((Y1.set_ 0 (.string y.path)).set_ 1 (.bool y.has)).set_ 2 (.string y.data)).set_ 3 (.int .i64 y.l)).set_ 4 (.int .i64 y.r)
          have P2 := ((((P1.other (show w2.heap.size + 1 ≠ w2.heap.size by omega) 0 (.string y.path)).other (show w2.heap.size + 1 ≠ w2.heap.size by omega) 1 (.bool y.has)).other (show w2.heap.size + 1 ≠ w2.heap.size by omega) 2 (.string y.data)).other (show w2.heap.size + 1 ≠ w2.heap.size by omega) 3 (.int .i64 y.l)).other (show w2.heap.size + 1 ≠ w2.heap.size by omega) 4 (.int .i64 y.r)
          simp only [List.set_cons_zero, List.set_cons_succ] at Y2
          refine wpAnyH_ready (rs := [11]) (by kernel_rfl) (by simp) ?_
          refine AllReadyH.cons (o := ⟨_, _, _, _, _, _⟩) rfl (fun K hK => ?_) AllReadyH.nil
          go_simp
          clear hHeld
          generalize (((((W2).setCell ⟨w2.heap.size, 0, none⟩ (.string y.path)).setCell ⟨w2.heap.size, 1, none⟩ (.bool y.has)).setCell ⟨w2.heap.size, 2, none⟩ (.string y.data)).setCell ⟨w2.heap.size, 3, none⟩ (.int .i64 y.l)).setCell ⟨w2.heap.size, 4, none⟩ (.int .i64 y.r) = W3 at *
          refine hK.out _ _ (HS.out _ bY) (fun hHeld => ?_)
          clear hK K
          try simp only [Act.put, List.setIfInBounds_toArray, List.set_cons_zero, List.set_cons_succ]
          refine wpAnyH_done (by kernel_rfl) ?_ _
          go_wp2_with fail
          go_meet
          case rel => exact ⟨w2.heap.size + 1, w2.heap.size, rfl, rfl, P2, Y2, hq1, bY⟩
      case rest =>
      obtain ⟨q1, q2, rfl, rfl, P2, Y2, hq1, bY⟩ := hcut
      have hR := R2.lt
      have R3 := R2.below bY
      have c3 := below2 c2 bY
      have hwq : w.heap.size < q1 := by omega
      clear R2 bY y1 y2 x1 x2 a0 a1 a2 a3 a4 d0 d1 d2 d3 d4 lg lg' z1 z2 c2 hiz hiz' hin hjz hjz' hjm hR hq1
      go_upto_region 7 with (fail)
      go_cut [10] (fun v wx => v = .bool (likeE x y) ∧ wc = wx)
      case first =>
        have u0 := P2.cell 0
        have u1 := P2.cell 1
        have u2 := P2.cell 2
        have u3 := P2.cell 3
        have u4 := P2.cell 4
        simp only [List.getElem?_cons_zero, List.getElem?_cons_succ] at u0 u1 u2 u3 u4
        have v0 := Y2.cell 0
        have v1 := Y2.cell 1
        have v2 := Y2.cell 2
        have v3 := Y2.cell 3
        have v4 := Y2.cell 4
        simp only [List.getElem?_cons_zero, List.getElem?_cons_succ] at v0 v1 v2 v3 v4
        have hsq := str_eqb x.data y.data
        by_cases hh : x.has = y.has
        · have hhb : (x.has == y.has) = true := by simp [hh]
          by_cases hd : x.data = y.data
          · rw [decide_eq_true hd] at hsq
            have HL : Hid (likeE x y = true) := by show _ = _; unfold likeE; rw [decide_eq_true hh, decide_eq_true hd]; rfl
            clear hh hd
            go_wp2_with fail
            go_meet
            case rel => exact ⟨by rw [HL.out], rfl⟩
          · rw [decide_eq_false hd] at hsq
            have HL : Hid (likeE x y = false) := by show _ = _; unfold likeE; rw [decide_eq_true hh, decide_eq_false hd]; rfl
            clear hh hd
            go_wp2_with fail
            go_meet
            case rel => exact ⟨by rw [HL.out], rfl⟩
        · have hhb : (x.has == y.has) = false := by simp [hh]
          have HL : Hid (likeE x y = false) := by show _ = _; unfold likeE; rw [decide_eq_false hh]; rfl
          clear hh hsq
          go_wp2_with fail
          go_meet
          case rel => exact ⟨by rw [HL.out], rfl⟩
      case rest =>
      obtain ⟨rfl, rfl⟩ := hcut
      go_wp2_with fail
      refine wp_region_held_drew (S := fun w' => w'.cell? ⟨q1, 3, none⟩ = some (.int .i64 x.l) ∧ w'.cell? ⟨q1, 4, none⟩ = some (.int .i64 x.r) ∧ w'.cell? ⟨q2, 3, none⟩ = some (.int .i64 y.l) ∧ w'.cell? ⟨q2, 4, none⟩ = some (.int .i64 y.r)) (by kernel_rfl) ⟨P2.cell 3, P2.cell 4, Y2.cell 3, Y2.cell 4⟩ (fun hHeld => ?_)
      refine wpAnyH_take (i := 0) (oi := ⟨_, _, _, _, _, _⟩) (v := ?_) rfl (by kernel_rfl) (by kernel_rfl) (by kernel_rfl) (fun _ _ _ h => h) (Or.inl ⟨by rfl, ?_⟩) (by assumption) ?_
      rotate_left
      · intro w hSw; (try dsimp only at hSw); go_simp; (try (with_reducible rfl))
      try simp only [Act.put, List.setIfInBounds_toArray, List.set_cons_zero, List.set_cons_succ]
      refine wpAnyH_take (i := 1) (oi := ⟨_, _, _, _, _, _⟩) (v := ?_) rfl (by kernel_rfl) (by kernel_rfl) (by kernel_rfl) (fun _ _ _ h => h) (Or.inl ⟨by rfl, ?_⟩) (by assumption) ?_
      rotate_left
      · intro w hSw; (try dsimp only at hSw); go_simp; (try (with_reducible rfl))
      try simp only [Act.put, List.setIfInBounds_toArray, List.set_cons_zero, List.set_cons_succ]
      refine wpAnyH_take (i := 3) (oi := ⟨_, _, _, _, _, _⟩) (v := ?_) rfl (by kernel_rfl) (by kernel_rfl) (by kernel_rfl) (fun _ _ _ h => h) (Or.inl ⟨by rfl, ?_⟩) (by assumption) ?_
      rotate_left
      · intro w hSw; (try dsimp only at hSw); go_simp; (try (with_reducible rfl))
      try simp only [Act.put, List.setIfInBounds_toArray, List.set_cons_zero, List.set_cons_succ]
      refine wpAnyH_take (i := 4) (oi := ⟨_, _, _, _, _, _⟩) (v := ?_) rfl (by kernel_rfl) (by kernel_rfl) (by kernel_rfl) (fun _ _ _ h => h) (Or.inl ⟨by rfl, ?_⟩) (by assumption) ?_
      rotate_left
      · intro w hSw; (try dsimp only at hSw); go_simp; (try (with_reducible rfl))
      try simp only [Act.put, List.setIfInBounds_toArray, List.set_cons_zero, List.set_cons_succ]
      refine wpAnyH_ready (rs := [2]) (by kernel_rfl) (by simp) ?_
      refine AllReadyH.cons (o := ⟨_, _, _, _, _, _⟩) rfl (fun K hK => ?_) AllReadyH.nil
      go_simp
      refine (of_any _ _ _).mono ?_
      rintro e w8 ⟨rfl, hb8⟩
      have Pm1 := P2.drew.below hb8
      have Ym1 := Y2.drew.below hb8
      have Rm1 := R3.drew.below hb8
      have cm1 := below2 c3.drew hb8
      clear hb8 hHeld
      refine hK.out _ _ ⟨Pm1.cell 3, Pm1.cell 4, Ym1.cell 3, Ym1.cell 4⟩ (fun hHeld => ?_)
      clear hK K
      try simp only [Act.put, List.setIfInBounds_toArray, List.set_cons_zero, List.set_cons_succ]
      refine wpAnyH_ready (rs := [5]) (by kernel_rfl) (by simp) ?_
      refine AllReadyH.cons (o := ⟨_, _, _, _, _, _⟩) rfl (fun K hK => ?_) AllReadyH.nil
      go_simp
      refine (of_any _ _ _).mono ?_
      rintro e w8 ⟨rfl, hb8⟩
      have Pm2 := Pm1.below hb8
      have Ym2 := Ym1.below hb8
      have Rm2 := Rm1.below hb8
      have cm2 := below2 cm1 hb8
      clear hb8 hHeld Pm1 Ym1 Rm1 cm1
      refine hK.out _ _ ⟨Pm2.cell 3, Pm2.cell 4, Ym2.cell 3, Ym2.cell 4⟩ (fun hHeld => ?_)
      clear hK K
      try simp only [Act.put, List.setIfInBounds_toArray, List.set_cons_zero, List.set_cons_succ]
      refine wpAnyH_ready (rs := [6]) (by kernel_rfl) (by simp) ?_
      refine AllReadyH.cons (o := ⟨_, _, _, _, _, _⟩) rfl (fun K hK => ?_) AllReadyH.nil
      go_simp
      refine (order_any (cl_le _) (cl_le _) (cl_le _) (cl_le _) _).mono ?_
      rintro e w8 ⟨rfl, hb8⟩
      have P8 := Pm2.below hb8
      have Y8 := Ym2.below hb8
      have R8 := Rm2.below hb8
      have c8 := below2 cm2 hb8
      clear hb8 hHeld Pm2 Ym2 Rm2 cm2
      refine hK.out _ _ ⟨P8.cell 3, P8.cell 4, Y8.cell 3, Y8.cell 4⟩ (fun hHeld => ?_)
      clear hK K
      try simp only [Act.put, List.setIfInBounds_toArray, List.set_cons_zero, List.set_cons_succ]
      refine wpAnyH_done (by kernel_rfl) ?_ _
      clear hHeld P2 Y2 R3 c3
      have u0 := P8.cell 0
      have u1 := P8.cell 1
      have u2 := P8.cell 2
      have u3 := P8.cell 3
      have u4 := P8.cell 4
      simp only [List.getElem?_cons_zero, List.getElem?_cons_succ] at u0 u1 u2 u3 u4
      have v0 := Y8.cell 0
      have v1 := Y8.cell 1
      have v2 := Y8.cell 2
      have v3 := Y8.cell 3
      have v4 := Y8.cell 4
      simp only [List.getElem?_cons_zero, List.getElem?_cons_succ] at v0 v1 v2 v3 v4
      have HO : Hid (ordE x y = ordI (cl x.l) (cl x.r) (cl y.l) (cl y.r)) := rfl
      generalize hL : likeE x y = b
      have HL := hid hL
      clear hL
      rcases ord_cases (cl x.l) (cl x.r) (cl y.l) (cl y.r) with ho | ho | ho | ho
      · have HC : Hid (comeE x y = (x, !b)) := by show _ = _; rw [comeE, HO.out, HL.out, ho]; cases b <;> rfl
        rw [ho]
        clear HO HL ho P8 Y8
        have o0 := R8.cell 0
        have o1 := R8.cell 1
        have o2 := R8.cell 2
        have o3 := R8.cell 3
        have o4 := R8.cell 4
        simp only [List.getElem?_cons_zero, List.getElem?_cons_succ] at o0 o1 o2 o3 o4
        have of0 := R8.frozen 0
        have of1 := R8.frozen 1
        have of2 := R8.frozen 2
        have of3 := R8.frozen 3
        have of4 := R8.frozen 4
        have HR := hid R8
        have HB := hid c8
        clear R8 c8 v0 v1 v2 v3 v4
        go_wp2
        have R9 := ((((HR.out.set_ 0 (.string x.path)).set_ 1 (.bool x.has)).set_ 2 (.string x.data)).set_ 3 (.int .i64 x.l)).set_ 4 (.int .i64 x.r)
        have r0 := R9.cell 0
        have r1 := R9.cell 1
        have r2 := R9.cell 2
        have r3 := R9.cell 3
        have r4 := R9.cell 4
        simp only [List.set_cons_zero, List.set_cons_succ, List.getElem?_cons_zero, List.getElem?_cons_succ] at r0 r1 r2 r3 r4
        refine bodyPost_ret (v := .tuple #[eA x, .bool (!b)]) (by simp [results, Tryz.results66, go_sem, r0, r1, r2, r3, r4]) rfl ⟨by rw [HE.out, HC.out], (((((HB.out.setCell (p := ⟨w.heap.size, 0, none⟩) (Nat.le_refl _) (.string x.path)).setCell (p := ⟨w.heap.size, 1, none⟩) (Nat.le_refl _) (.bool x.has)).setCell (p := ⟨w.heap.size, 2, none⟩) (Nat.le_refl _) (.string x.data)).setCell (p := ⟨w.heap.size, 3, none⟩) (Nat.le_refl _) (.int .i64 x.l)).setCell (p := ⟨w.heap.size, 4, none⟩) (Nat.le_refl _) (.int .i64 x.r))⟩
      · have HC : Hid (comeE x y = (y, false)) := by show _ = _; rw [comeE, HO.out, HL.out, ho]; rfl
        rw [ho]
        clear HO HL ho P8 Y8
        have o0 := R8.cell 0
        have o1 := R8.cell 1
        have o2 := R8.cell 2
        have o3 := R8.cell 3
        have o4 := R8.cell 4
        simp only [List.getElem?_cons_zero, List.getElem?_cons_succ] at o0 o1 o2 o3 o4
        have of0 := R8.frozen 0
        have of1 := R8.frozen 1
        have of2 := R8.frozen 2
        have of3 := R8.frozen 3
        have of4 := R8.frozen 4
        have HR := hid R8
        have HB := hid c8
        clear R8 c8 u0 u1 u2 u3 u4
        go_wp2
        have R9 := ((((HR.out.set_ 0 (.string y.path)).set_ 1 (.bool y.has)).set_ 2 (.string y.data)).set_ 3 (.int .i64 y.l)).set_ 4 (.int .i64 y.r)
        have r0 := R9.cell 0
        have r1 := R9.cell 1
        have r2 := R9.cell 2
        have r3 := R9.cell 3
        have r4 := R9.cell 4
        simp only [List.set_cons_zero, List.set_cons_succ, List.getElem?_cons_zero, List.getElem?_cons_succ] at r0 r1 r2 r3 r4
        refine bodyPost_ret (v := .tuple #[eA y, .bool false]) (by simp [results, Tryz.results66, go_sem, r0, r1, r2, r3, r4]) rfl ⟨by rw [HE.out, HC.out], (((((HB.out.setCell (p := ⟨w.heap.size, 0, none⟩) (Nat.le_refl _) (.string y.path)).setCell (p := ⟨w.heap.size, 1, none⟩) (Nat.le_refl _) (.bool y.has)).setCell (p := ⟨w.heap.size, 2, none⟩) (Nat.le_refl _) (.string y.data)).setCell (p := ⟨w.heap.size, 3, none⟩) (Nat.le_refl _) (.int .i64 y.l)).setCell (p := ⟨w.heap.size, 4, none⟩) (Nat.le_refl _) (.int .i64 y.r))⟩
      · have HC : Hid (comeE x y = (x, false)) := by show _ = _; rw [comeE, HO.out, HL.out, ho]; rfl
        rw [ho]
        clear HO HL ho P8 Y8
        have o0 := R8.cell 0
        have o1 := R8.cell 1
        have o2 := R8.cell 2
        have o3 := R8.cell 3
        have o4 := R8.cell 4
        simp only [List.getElem?_cons_zero, List.getElem?_cons_succ] at o0 o1 o2 o3 o4
        have of0 := R8.frozen 0
        have of1 := R8.frozen 1
        have of2 := R8.frozen 2
        have of3 := R8.frozen 3
        have of4 := R8.frozen 4
        have HR := hid R8
        have HB := hid c8
        clear R8 c8 v0 v1 v2 v3 v4
        go_wp2
        have R9 := ((((HR.out.set_ 0 (.string x.path)).set_ 1 (.bool x.has)).set_ 2 (.string x.data)).set_ 3 (.int .i64 x.l)).set_ 4 (.int .i64 x.r)
        have r0 := R9.cell 0
        have r1 := R9.cell 1
        have r2 := R9.cell 2
        have r3 := R9.cell 3
        have r4 := R9.cell 4
        simp only [List.set_cons_zero, List.set_cons_succ, List.getElem?_cons_zero, List.getElem?_cons_succ] at r0 r1 r2 r3 r4
        refine bodyPost_ret (v := .tuple #[eA x, .bool false]) (by simp [results, Tryz.results66, go_sem, r0, r1, r2, r3, r4]) rfl ⟨by rw [HE.out, HC.out], (((((HB.out.setCell (p := ⟨w.heap.size, 0, none⟩) (Nat.le_refl _) (.string x.path)).setCell (p := ⟨w.heap.size, 1, none⟩) (Nat.le_refl _) (.bool x.has)).setCell (p := ⟨w.heap.size, 2, none⟩) (Nat.le_refl _) (.string x.data)).setCell (p := ⟨w.heap.size, 3, none⟩) (Nat.le_refl _) (.int .i64 x.l)).setCell (p := ⟨w.heap.size, 4, none⟩) (Nat.le_refl _) (.int .i64 x.r))⟩
      · cases b
        · have HC : Hid (comeE x y = (x, true)) := by show _ = _; rw [comeE, HO.out, HL.out, ho]; rfl
          rw [ho]
          clear HO HL ho P8 Y8
          have o0 := R8.cell 0
          have o1 := R8.cell 1
          have o2 := R8.cell 2
          have o3 := R8.cell 3
          have o4 := R8.cell 4
          simp only [List.getElem?_cons_zero, List.getElem?_cons_succ] at o0 o1 o2 o3 o4
          have of0 := R8.frozen 0
          have of1 := R8.frozen 1
          have of2 := R8.frozen 2
          have of3 := R8.frozen 3
          have of4 := R8.frozen 4
          have HR := hid R8
          have HB := hid c8
          clear R8 c8 v0 v1 v2 v3 v4
          go_wp2
          have R9 := ((((HR.out.set_ 0 (.string x.path)).set_ 1 (.bool x.has)).set_ 2 (.string x.data)).set_ 3 (.int .i64 x.l)).set_ 4 (.int .i64 x.r)
          have r0 := R9.cell 0
          have r1 := R9.cell 1
          have r2 := R9.cell 2
          have r3 := R9.cell 3
          have r4 := R9.cell 4
          simp only [List.set_cons_zero, List.set_cons_succ, List.getElem?_cons_zero, List.getElem?_cons_succ] at r0 r1 r2 r3 r4
          refine bodyPost_ret (v := .tuple #[eA x, .bool true]) (by simp [results, Tryz.results66, go_sem, r0, r1, r2, r3, r4]) rfl ⟨by rw [HE.out, HC.out], (((((HB.out.setCell (p := ⟨w.heap.size, 0, none⟩) (Nat.le_refl _) (.string x.path)).setCell (p := ⟨w.heap.size, 1, none⟩) (Nat.le_refl _) (.bool x.has)).setCell (p := ⟨w.heap.size, 2, none⟩) (Nat.le_refl _) (.string x.data)).setCell (p := ⟨w.heap.size, 3, none⟩) (Nat.le_refl _) (.int .i64 x.l)).setCell (p := ⟨w.heap.size, 4, none⟩) (Nat.le_refl _) (.int .i64 x.r))⟩
        · have HC : Hid (comeE x y = (joinE x y, false)) := by show _ = _; rw [comeE, HO.out, HL.out, ho]; rfl
          have HJ : Hid (joinE x y = ⟨x.path, x.has, x.data, (joinC x y).1, (joinC x y).2⟩) := rfl
          rw [ho]
          clear HO HL ho
          go_wp2_with fail
          refine (joined_any x y _).mono ?_
          rintro e w9 ⟨rfl, hb9⟩
          have c9 := below2 c8 hb9
          have R9 := R8.below hb9
          have P9 := P8.below hb9
          clear P8 R8 c8 hb9 Y8 u0 u1 u2 u3 u4 v0 v1 v2 v3 v4
          have hwl : w.heap.size ≤ q1 := by omega
          have hwn : w.heap.size ≠ q1 := by omega
          generalize joinC x y = jj at *
          have u0 := P9.cell 0
          have u1 := P9.cell 1
          have u2 := P9.cell 2
          have u3 := P9.cell 3
          have u4 := P9.cell 4
          simp only [List.getElem?_cons_zero, List.getElem?_cons_succ] at u0 u1 u2 u3 u4
          have uf3 := P9.frozen 3
          have uf4 := P9.frozen 4
          have Pa := (P9.set_ 3 (.int .i64 jj.1)).set_ 4 (.int .i64 jj.2)
          have Ra := (R9.other hwn 3 (.int .i64 jj.1)).other hwn 4 (.int .i64 jj.2)
          have ca := (c9.setCell (p := ⟨q1, 3, none⟩) hwl (.int .i64 jj.1)).setCell (p := ⟨q1, 4, none⟩) hwl (.int .i64 jj.2)
          simp only [List.set_cons_zero, List.set_cons_succ] at Pa
          have t0 := Pa.cell 0
          have t1 := Pa.cell 1
          have t2 := Pa.cell 2
          have t3 := Pa.cell 3
          have t4 := Pa.cell 4
          simp only [List.getElem?_cons_zero, List.getElem?_cons_succ] at t0 t1 t2 t3 t4
          clear P9 R9 c9 Pa
          have o0 := Ra.cell 0
          have o1 := Ra.cell 1
          have o2 := Ra.cell 2
          have o3 := Ra.cell 3
          have o4 := Ra.cell 4
          simp only [List.getElem?_cons_zero, List.getElem?_cons_succ] at o0 o1 o2 o3 o4
          have of0 := Ra.frozen 0
          have of1 := Ra.frozen 1
          have of2 := Ra.frozen 2
          have of3 := Ra.frozen 3
          have of4 := Ra.frozen 4
          have HR := hid Ra
          have HB := hid ca
          clear Ra ca 
          go_wp2
          have R9 := ((((HR.out.set_ 0 (.string x.path)).set_ 1 (.bool x.has)).set_ 2 (.string x.data)).set_ 3 (.int .i64 jj.1)).set_ 4 (.int .i64 jj.2)
          have r0 := R9.cell 0
          have r1 := R9.cell 1
          have r2 := R9.cell 2
          have r3 := R9.cell 3
          have r4 := R9.cell 4
          simp only [List.set_cons_zero, List.set_cons_succ, List.getElem?_cons_zero, List.getElem?_cons_succ] at r0 r1 r2 r3 r4
          refine bodyPost_ret (v := .tuple #[eA ⟨x.path, x.has, x.data, jj.1, jj.2⟩, .bool false]) (by simp [results, Tryz.results66, go_sem, r0, r1, r2, r3, r4]) rfl ⟨by rw [HE.out, HC.out, HJ.out], (((((HB.out.setCell (p := ⟨w.heap.size, 0, none⟩) (Nat.le_refl _) (.string x.path)).setCell (p := ⟨w.heap.size, 1, none⟩) (Nat.le_refl _) (.bool x.has)).setCell (p := ⟨w.heap.size, 2, none⟩) (Nat.le_refl _) (.string x.data)).setCell (p := ⟨w.heap.size, 3, none⟩) (Nat.le_refl _) (.int .i64 jj.1)).setCell (p := ⟨w.heap.size, 4, none⟩) (Nat.le_refl _) (.int .i64 jj.2))⟩
end Go.Proofs.YtlmccjdpmhancaaGreatDoor
namespace Go.Proofs.YtlmccjdpmhancaaGreatDoor
open Go.RowKit

def agreeB (es fs : List Ent) (p : ByteArray) : Bool := archR es && archR fs && decide (atE es p = atE fs p)

set_option maxHeartbeats 2000000 in
theorem agree_any {w : World} {A B : Option Addr} {n c m d : Nat} {es fs : List Ent} (h : Et w A n c es) (k : Et w B m d fs) (p : ByteArray) :
    Calls Tryz.prog 15 #[.slice A n c, .slice B m d, .string p] w fun e w' => e = .returned (.bool (agreeB es fs p)) ∧ Below w.heap.size w w' := by
  go_enter Tryz.func15, Tryz.ntmps15
  go_wp2_with fail
  refine (archR_any h).mono ?_
  rintro e w1 ⟨rfl, b1⟩
  have h1 := h.below b1
  have k1 := k.below b1
  cases hR : archR es with
  | false =>
    have HN : Hid (agreeB es fs p = false) := by show _ = _; rw [agreeB, hR]; rfl
    clear hR
    go_wp2
    go_ret
    exact ⟨ret_bool HN.out.symm, b1⟩
  | true =>
    go_wp2_with fail
    refine (archR_any k1).mono ?_
    rintro e w2 ⟨rfl, hb2⟩
    have b2 := below2 b1 hb2
    have h2 := h1.below hb2
    have k2 := k1.below hb2
    clear hb2 b1 h1 k1 h k
    cases hR2 : archR fs with
    | false =>
      have HN : Hid (agreeB es fs p = false) := by show _ = _; rw [agreeB, hR, hR2]; rfl
      clear hR hR2
      go_wp2
      go_ret
      exact ⟨ret_bool HN.out.symm, b2⟩
    | true =>
    have HN : Hid (agreeB es fs p = decide (atE es p = atE fs p)) := by show _ = _; rw [agreeB, hR, hR2]; rfl
    clear hR hR2
    go_wp2_with fail
    refine (plc_any h2.len h2.rd h2.big p).mono ?_
    rintro e w3 ⟨rfl, hb3⟩
    have b3 := below2 b2 hb3
    have h3 := h2.below hb3
    have k3 := k2.below hb3
    clear hb3 b2 h2 k2
    go_wp2_with fail
    refine (plc_any k3.len k3.rd k3.big p).mono ?_
    rintro e w4 ⟨rfl, hb4⟩
    have b4 := below2 b3 hb4
    have h4 := h3.below hb4
    have k4 := k3.below hb4
    clear hb4 b3 h3 k3
    rcases idxE_cases es p with ⟨e1, -⟩ | ⟨i, hi, e1, -⟩
    · rcases idxE_cases fs p with ⟨e2, -⟩ | ⟨j, hj, e2, -⟩
      · have HV : Hid (agreeB es fs p = true) := by show _ = _; rw [HN.out, atE_no e1, atE_no e2]; rfl
        rw [e1, e2]
        go_wp2
        go_ret
        exact ⟨ret_bool HV.out.symm, b4⟩
      · have HV : Hid (agreeB es fs p = false) := by show _ = _; rw [HN.out, atE_no e1, atE_yes hj e2]; rfl
        have hjn : ¬ (-1 : Int) = (j : Int) := by omega
        rw [e1, e2]
        go_wp2
        go_ret
        exact ⟨ret_bool HV.out.symm, b4⟩
    rcases idxE_cases fs p with ⟨e2, -⟩ | ⟨j, hj, e2, -⟩
    · have HV : Hid (agreeB es fs p = false) := by show _ = _; rw [HN.out, atE_no e2, atE_yes hi e1]; rfl
      have hjn : ¬ (i : Int) = (-1 : Int) := by omega
      have hiz : ¬ (i : Int) < 0 := by omega
      rw [e1, e2]
      go_wp2
      go_ret
      exact ⟨ret_bool HV.out.symm, b4⟩
    · have HV : Hid (agreeB es fs p = decide (es[i] = fs[j])) := by show _ = _; rw [HN.out, atE_yes hi e1, atE_yes hj e2]; exact decide_eq_decide.2 ⟨fun e => Option.some.inj e, fun e => congrArg some e⟩
      obtain ⟨g, og, rfl, a0, a1, a2, a3, a4, -⟩ := h4.rd.ent hi
      obtain ⟨g', og', rfl, d0, d1, d2, d3, d4, -⟩ := k4.rd.ent hj
      rw [e1, e2]
      have hiz : (0 : Int) ≤ i := by omega
      have hiz' : ¬ (i : Int) < 0 := by omega
      have hin : (i : Int) < n := by have := h4.len; omega
      have hjz : (0 : Int) ≤ j := by omega
      have hjz' : ¬ (j : Int) < 0 := by omega
      have hjm : (j : Int) < m := by have := k4.len; omega
      have hep := eqE es[i] fs[j]
      generalize es[i] = x at *
      generalize fs[j] = y at *
      clear h4 k4 HN e1 e2
      go_wp2_with fail
      refine wp_region_held_drew (S := fun w' => (w'.cell? ⟨g, og + i * 5, none⟩ = some (.string x.path) ∧ w'.cell? ⟨g, og + i * 5 + 1, none⟩ = some (.bool x.has) ∧ w'.cell? ⟨g, og + i * 5 + 2, none⟩ = some (.string x.data) ∧ w'.cell? ⟨g, og + i * 5 + 3, none⟩ = some (.int .i64 x.l) ∧ w'.cell? ⟨g, og + i * 5 + 4, none⟩ = some (.int .i64 x.r)) ∧ w'.cell? ⟨g', og' + j * 5, none⟩ = some (.string y.path) ∧ w'.cell? ⟨g', og' + j * 5 + 1, none⟩ = some (.bool y.has) ∧ w'.cell? ⟨g', og' + j * 5 + 2, none⟩ = some (.string y.data) ∧ w'.cell? ⟨g', og' + j * 5 + 3, none⟩ = some (.int .i64 y.l) ∧ w'.cell? ⟨g', og' + j * 5 + 4, none⟩ = some (.int .i64 y.r)) (by kernel_rfl) ⟨⟨a0, a1, a2, a3, a4⟩, d0, d1, d2, d3, d4⟩ (fun hHeld => ?_)
      refine wpAnyH_take (i := 0) (oi := ⟨_, _, _, _, _, _⟩) (v := ?_) rfl (by kernel_rfl) (by kernel_rfl) (by kernel_rfl) (fun _ _ _ h => h) (Or.inl ⟨by rfl, ?_⟩) (by assumption) ?_
      rotate_left
      · intro w hSw; (try dsimp only at hSw); go_simp; (try (with_reducible rfl))
      try simp only [Act.put, List.setIfInBounds_toArray, List.set_cons_zero, List.set_cons_succ]
      refine wpAnyH_take (i := 1) (oi := ⟨_, _, _, _, _, _⟩) (v := ?_) rfl (by kernel_rfl) (by kernel_rfl) (by kernel_rfl) (fun _ _ _ h => h) (Or.inl ⟨by rfl, ?_⟩) (by assumption) ?_
      rotate_left
      · intro w hSw; (try dsimp only at hSw); go_simp; (try (with_reducible rfl))
      try simp only [Act.put, List.setIfInBounds_toArray, List.set_cons_zero, List.set_cons_succ]
      refine wpAnyH_take (i := 2) (oi := ⟨_, _, _, _, _, _⟩) (v := ?_) rfl (by kernel_rfl) (by kernel_rfl) (by kernel_rfl) (fun _ _ _ h => h) (Or.inl ⟨by rfl, ?_⟩) (by assumption) ?_
      rotate_left
      · intro w hSw; (try dsimp only at hSw); go_simp; (try (with_reducible rfl))
      try simp only [Act.put, List.setIfInBounds_toArray, List.set_cons_zero, List.set_cons_succ]
      refine wpAnyH_take (i := 3) (oi := ⟨_, _, _, _, _, _⟩) (v := ?_) rfl (by kernel_rfl) (by kernel_rfl) (by kernel_rfl) (fun _ _ _ h => h) (Or.inl ⟨by rfl, ?_⟩) (by assumption) ?_
      rotate_left
      · intro w hSw; (try dsimp only at hSw); go_simp; (try (with_reducible rfl))
      try simp only [Act.put, List.setIfInBounds_toArray, List.set_cons_zero, List.set_cons_succ]
      refine wpAnyH_take (i := 4) (oi := ⟨_, _, _, _, _, _⟩) (v := ?_) rfl (by kernel_rfl) (by kernel_rfl) (by kernel_rfl) (fun _ _ _ h => h) (Or.inl ⟨by rfl, ?_⟩) (by assumption) ?_
      rotate_left
      · intro w hSw; (try dsimp only at hSw); go_simp; (try (with_reducible rfl))
      try simp only [Act.put, List.setIfInBounds_toArray, List.set_cons_zero, List.set_cons_succ]
      refine wpAnyH_take (i := 5) (oi := ⟨_, _, _, _, _, _⟩) (v := ?_) rfl (by kernel_rfl) (by kernel_rfl) (by kernel_rfl) (fun _ _ _ h => h) (Or.inl ⟨by rfl, ?_⟩) (by assumption) ?_
      rotate_left
      · intro w hSw; (try dsimp only at hSw); go_simp; (try (with_reducible rfl))
      try simp only [Act.put, List.setIfInBounds_toArray, List.set_cons_zero, List.set_cons_succ]
      refine wpAnyH_take (i := 6) (oi := ⟨_, _, _, _, _, _⟩) (v := ?_) rfl (by kernel_rfl) (by kernel_rfl) (by kernel_rfl) (fun _ _ _ h => h) (Or.inl ⟨by rfl, ?_⟩) (by assumption) ?_
      rotate_left
      · intro w hSw; (try dsimp only at hSw); go_simp; (try (with_reducible rfl))
      try simp only [Act.put, List.setIfInBounds_toArray, List.set_cons_zero, List.set_cons_succ]
      refine wpAnyH_take (i := 7) (oi := ⟨_, _, _, _, _, _⟩) (v := ?_) rfl (by kernel_rfl) (by kernel_rfl) (by kernel_rfl) (fun _ _ _ h => h) (Or.inl ⟨by rfl, ?_⟩) (by assumption) ?_
      rotate_left
      · intro w hSw; (try dsimp only at hSw); go_simp; (try (with_reducible rfl))
      try simp only [Act.put, List.setIfInBounds_toArray, List.set_cons_zero, List.set_cons_succ]
      refine wpAnyH_take (i := 8) (oi := ⟨_, _, _, _, _, _⟩) (v := ?_) rfl (by kernel_rfl) (by kernel_rfl) (by kernel_rfl) (fun _ _ _ h => h) (Or.inl ⟨by rfl, ?_⟩) (by assumption) ?_
      rotate_left
      · intro w hSw; (try dsimp only at hSw); go_simp; (try (with_reducible rfl))
      try simp only [Act.put, List.setIfInBounds_toArray, List.set_cons_zero, List.set_cons_succ]
      refine wpAnyH_take (i := 9) (oi := ⟨_, _, _, _, _, _⟩) (v := ?_) rfl (by kernel_rfl) (by kernel_rfl) (by kernel_rfl) (fun _ _ _ h => h) (Or.inl ⟨by rfl, ?_⟩) (by assumption) ?_
      rotate_left
      · intro w hSw; (try dsimp only at hSw); go_simp; (try (with_reducible rfl))
      try simp only [Act.put, List.setIfInBounds_toArray, List.set_cons_zero, List.set_cons_succ]
      refine wpAnyH_done (by kernel_rfl) ?_ _
      clear hHeld
      go_wp2
      go_ret
      exact ⟨ret_bool HV.out.symm, b4.drew⟩
end Go.Proofs.YtlmccjdpmhancaaGreatDoor
namespace Go.Proofs.YtlmccjdpmhancaaGreatDoor
open Go.RowKit

theorem atE_nil (p : ByteArray) : atE [] p = none := rfl
theorem idxE_cons (a : Ent) (l : List Ent) (p : ByteArray) : idxE (a :: l) p = if a.path = p then 0 else if idxE l p < 0 then -1 else idxE l p + 1 := by
  by_cases h : a.path = p
  · rw [if_pos h]
    exact idxE_at (es := a :: l) (j := 0) (by simp) h (fun k _ hk => absurd hk (by omega))
  · rw [if_neg h]
    unfold idxE
    rw [List.any_cons, decide_eq_false h, Bool.false_or]
    by_cases hx : l.any (fun e => decide (e.path = p)) = true
    · rw [if_pos hx, if_pos hx, if_neg (by omega), List.findIdx_cons, decide_eq_false h]
      simp
    · rw [if_neg hx, if_neg hx]; rfl
theorem atE_cons (a : Ent) (l : List Ent) (p : ByteArray) : atE (a :: l) p = if a.path = p then some a else atE l p := by
  unfold atE
  rw [idxE_cons]
  by_cases h : a.path = p
  · rw [if_pos h, if_pos h, if_neg (by omega)]; rfl
  · rw [if_neg h, if_neg h]
    by_cases hx : idxE l p < 0
    · rw [if_pos hx, if_pos (by omega), if_pos hx]
    · rw [if_neg hx, if_neg (by omega), if_neg hx, show (idxE l p + 1).toNat = (idxE l p).toNat + 1 by omega, List.getElem?_cons_succ]
theorem atE_mem : ∀ {l : List Ent} {p : ByteArray} {e : Ent}, atE l p = some e → e ∈ l ∧ e.path = p
  | [], _, _, h => by cases h
  | a :: l, p, e, h => by
    rw [atE_cons] at h
    split at h
    · injection h with h; subst h; exact ⟨List.mem_cons_self, by assumption⟩
    · obtain ⟨h1, h2⟩ := atE_mem h; exact ⟨List.mem_cons_of_mem _ h1, h2⟩
theorem atE_none : ∀ {l : List Ent} {p : ByteArray}, atE l p = none ↔ ∀ e ∈ l, e.path ≠ p
  | [], _ => by simp [atE_nil]
  | a :: l, p => by
    rw [atE_cons]
    split
    · simp; intro h; exact absurd (by assumption) h
    · rw [atE_none]; simp_all
theorem atE_iff {l : List Ent} (hs : SrtE l) {e : Ent} : e ∈ l ↔ atE l e.path = some e := by
  constructor
  · intro h
    obtain ⟨j, hj, rfl⟩ := List.mem_iff_getElem.1 h
    exact atE_yes hj (idxE_srt hs hj)
  · exact fun h => (atE_mem h).1

/-! ### Rising lists are known by what they have -/
theorem pw_one {α : Type} {r : α → α → Prop} (asym : ∀ a b, r a b → ¬ r b a) : ∀ {a b : List α}, a.Pairwise r → b.Pairwise r → (∀ x, x ∈ a ↔ x ∈ b) → a = b
  | [], [], _, _, _ => rfl
  | [], y :: ys, _, _, h => absurd ((h y).2 List.mem_cons_self) (by simp)
  | x :: xs, [], _, _, h => absurd ((h x).1 List.mem_cons_self) (by simp)
  | x :: xs, y :: ys, ha, hb, h => by
    have ha' := List.pairwise_cons.1 ha
    have hb' := List.pairwise_cons.1 hb
    have e : x = y := by
      rcases List.mem_cons.1 ((h x).1 List.mem_cons_self) with e | e
      · exact e
      · rcases List.mem_cons.1 ((h y).2 List.mem_cons_self) with f | f
        · exact f.symm
        · exact absurd (ha'.1 y f) (asym _ _ (hb'.1 x e))
    subst e
    congr 1
    refine pw_one asym ha'.2 hb'.2 fun z => ?_
    constructor
    · intro hz
      rcases List.mem_cons.1 ((h z).1 (List.mem_cons_of_mem _ hz)) with e | e
      · subst e; exact absurd (ha'.1 z hz) (asym _ _ (ha'.1 z hz))
      · exact e
    · intro hz
      rcases List.mem_cons.1 ((h z).2 (List.mem_cons_of_mem _ hz)) with e | e
      · subst e; exact absurd (hb'.1 z hz) (asym _ _ (hb'.1 z hz))
      · exact e
theorem srtE_one {a b : List Ent} (ha : SrtE a) (hb : SrtE b) (h : ∀ p, atE a p = atE b p) : a = b :=
  pw_one (fun _ _ h1 h2 => absurd h2 (List.lt_asymm h1)) ha hb fun x => by rw [atE_iff ha, atE_iff hb, h]

/-! ### Both, in order -/
theorem comeE_path {a b : Ent} (h : a.path = b.path) : (comeE a b).1.path = a.path := by
  unfold comeE
  split
  · exact h.symm
  · split
    · rfl
    · split
      · simp only []; split <;> rfl
      · rfl
def mrgL : List Ent → List Ent → List (Ent × Bool)
  | [], [] => []
  | a :: l, [] => (a, false) :: mrgL l []
  | [], b :: m => (b, false) :: mrgL [] m
  | a :: l, b :: m => if a.path = b.path then comeE a b :: mrgL l m else if Op.bytesLess (epth a) (epth b) then (a, false) :: mrgL l (b :: m) else (b, false) :: mrgL (a :: l) m
termination_by l m => l.length + m.length
theorem mrg_mem (l m : List Ent) (x : ByteArray) : x ∈ (mrgL l m).map (·.1.path) ↔ x ∈ l.map (·.path) ∨ x ∈ m.map (·.path) := by
  fun_induction mrgL l m with
  | case1 => simp
  | case2 a l ih => simp only [List.map_cons, List.mem_cons, ih]; simp; 
  | case3 b m ih => simp only [List.map_cons, List.mem_cons, ih]; simp
  | case4 a l b m h ih => simp only [List.map_cons, List.mem_cons, ih, comeE_path h, ← h]; grind
  | case5 a l b m h h2 ih => simp only [List.map_cons, List.mem_cons, ih]; grind
  | case6 a l b m h h2 ih => simp only [List.map_cons, List.mem_cons, ih]; grind
theorem mrg_len (l m : List Ent) : (mrgL l m).length ≤ l.length + m.length := by
  fun_induction mrgL l m with
  | case1 => simp
  | case2 a l ih => simp at ih ⊢; omega
  | case3 b m ih => simp at ih ⊢; omega
  | case4 a l b m h ih => simp at ih ⊢; omega
  | case5 a l b m h h2 ih => simp at ih ⊢; omega
  | case6 a l b m h h2 ih => simp at ih ⊢; omega
def SrtM (M : List (Ent × Bool)) : Prop := M.Pairwise fun a b => epth a.1 < epth b.1
theorem path_of {x : Ent × Bool} {M : List (Ent × Bool)} (h : x ∈ M) : x.1.path ∈ M.map (·.1.path) := List.mem_map.2 ⟨x, h, rfl⟩
theorem not_less_lt {a b : Ent} (h : ¬ a.path = b.path) (h2 : Op.bytesLess (epth a) (epth b) = false) : epth b < epth a := by
  have h3 : ¬ epth a < epth b := fun e => by rw [(less_iff _ _).2 e] at h2; cases h2
  rcases List.le_iff_lt_or_eq.1 (List.not_lt.1 h3) with e | e
  · exact e
  · exact absurd (epth_inj.1 e.symm) h
theorem mrg_srt (l m : List Ent) (hl : SrtE l) (hm : SrtE m) : SrtM (mrgL l m) := by
  have key : ∀ (l m : List Ent) (z : List UInt8), (∀ e ∈ l, z < epth e) → (∀ e ∈ m, z < epth e) → ∀ x ∈ mrgL l m, z < epth x.1 := by
    intro l m z h1 h2 x hx
    rcases (mrg_mem l m x.1.path).1 (path_of hx) with h | h
    · obtain ⟨e, he, hp⟩ := List.mem_map.1 h
      have := h1 e he
      rwa [epth, hp] at this
    · obtain ⟨e, he, hp⟩ := List.mem_map.1 h
      have := h2 e he
      rwa [epth, hp] at this
  fun_induction mrgL l m with
  | case1 => exact List.Pairwise.nil
  | case2 a l ih => exact List.pairwise_cons.2 ⟨key _ _ _ (List.pairwise_cons.1 hl).1 (by simp), ih (List.pairwise_cons.1 hl).2 hm⟩
  | case3 b m ih => exact List.pairwise_cons.2 ⟨key _ _ _ (by simp) (List.pairwise_cons.1 hm).1, ih hl (List.pairwise_cons.1 hm).2⟩
  | case4 a l b m h ih =>
    have e : epth (comeE a b).1 = epth a := epth_inj.2 (comeE_path h)
    refine List.pairwise_cons.2 ⟨fun x hx => ?_, ih (List.pairwise_cons.1 hl).2 (List.pairwise_cons.1 hm).2⟩
    rw [e]
    refine key _ _ _ (List.pairwise_cons.1 hl).1 (fun f hf => ?_) x hx
    rw [epth_inj.2 h]
    exact (List.pairwise_cons.1 hm).1 f hf
  | case5 a l b m h h2 ih =>
    have hlt : epth a < epth b := (less_iff _ _).1 h2
    refine List.pairwise_cons.2 ⟨key _ _ _ (List.pairwise_cons.1 hl).1 (fun f hf => ?_), ih (List.pairwise_cons.1 hl).2 hm⟩
    rcases List.mem_cons.1 hf with rfl | hf
    · exact hlt
    · exact List.lt_trans hlt ((List.pairwise_cons.1 hm).1 f hf)
  | case6 a l b m h h2 ih =>
    have hlt : epth b < epth a := not_less_lt h (Bool.eq_false_iff.2 h2)
    refine List.pairwise_cons.2 ⟨key _ _ _ (fun f hf => ?_) (List.pairwise_cons.1 hm).1, ih hl (List.pairwise_cons.1 hm).2⟩
    rcases List.mem_cons.1 hf with rfl | hf
    · exact hlt
    · exact List.lt_trans hlt ((List.pairwise_cons.1 hl).1 f hf)
theorem gt_no {l : List Ent} {z : ByteArray} (h : ∀ e ∈ l, z.data.toList < epth e) : atE l z = none :=
  atE_none.2 fun e he hp => by
    have := h e he
    rw [epth, hp] at this
    exact absurd this (List.lt_irrefl _)
theorem mrg_at (l m : List Ent) (hl : SrtE l) (hm : SrtE m) : ∀ x ∈ mrgL l m, cm (atE l x.1.path) (atE m x.1.path) = some x := by
  have ne : ∀ {a : Ent} {x : Ent × Bool}, epth a < epth x.1 → a.path ≠ x.1.path := fun h e => by rw [epth, e] at h; exact absurd h (List.lt_irrefl _)
  have hs := mrg_srt l m hl hm
  fun_induction mrgL l m with
  | case1 => simp
  | case2 a l ih =>
    intro x hx
    rcases List.mem_cons.1 hx with rfl | hx'
    · rw [atE_cons, if_pos rfl, atE_nil]; rfl
    · rw [atE_cons, if_neg (ne ((List.pairwise_cons.1 hs).1 x hx'))]
      exact ih (List.pairwise_cons.1 hl).2 hm (List.pairwise_cons.1 hs).2 x hx'
  | case3 b m ih =>
    intro x hx
    rcases List.mem_cons.1 hx with rfl | hx'
    · rw [atE_cons, if_pos rfl, atE_nil]; rfl
    · rw [atE_cons b, if_neg (ne ((List.pairwise_cons.1 hs).1 x hx'))]
      exact ih hl (List.pairwise_cons.1 hm).2 (List.pairwise_cons.1 hs).2 x hx'
  | case4 a l b m h ih =>
    have e : epth (comeE a b).1 = epth a := epth_inj.2 (comeE_path h)
    intro x hx
    rcases List.mem_cons.1 hx with rfl | hx'
    · rw [comeE_path h, atE_cons, if_pos rfl, atE_cons, if_pos h.symm]; rfl
    · have := (List.pairwise_cons.1 hs).1 x hx'
      rw [e] at this
      have n1 := ne this
      rw [atE_cons, if_neg n1, atE_cons, if_neg (by rw [← h]; exact n1)]
      exact ih (List.pairwise_cons.1 hl).2 (List.pairwise_cons.1 hm).2 (List.pairwise_cons.1 hs).2 x hx'
  | case5 a l b m h h2 ih =>
    have hlt : epth a < epth b := (less_iff _ _).1 h2
    intro x hx
    rcases List.mem_cons.1 hx with rfl | hx'
    · rw [atE_cons, if_pos rfl, gt_no (fun f hf => ?_)]
      · rfl
      rcases List.mem_cons.1 hf with rfl | hf
      · exact hlt
      · exact List.lt_trans hlt ((List.pairwise_cons.1 hm).1 f hf)
    · rw [atE_cons a, if_neg (ne ((List.pairwise_cons.1 hs).1 x hx'))]
      exact ih (List.pairwise_cons.1 hl).2 hm (List.pairwise_cons.1 hs).2 x hx'
  | case6 a l b m h h2 ih =>
    have hlt : epth b < epth a := not_less_lt h (Bool.eq_false_iff.2 h2)
    intro x hx
    rcases List.mem_cons.1 hx with rfl | hx'
    · rw [atE_cons b, if_pos rfl, gt_no (fun f hf => ?_)]
      · rfl
      rcases List.mem_cons.1 hf with rfl | hf
      · exact hlt
      · exact List.lt_trans hlt ((List.pairwise_cons.1 hl).1 f hf)
    · rw [atE_cons b, if_neg (ne ((List.pairwise_cons.1 hs).1 x hx'))]
      exact ih hl (List.pairwise_cons.1 hm).2 (List.pairwise_cons.1 hs).2 x hx'

/-! ### What is told of two archives -/
def mA (l m : List Ent) : List Ent := (mrgL l m).map (·.1)
def mC (l m : List Ent) : List ByteArray := ((mrgL l m).filter (·.2)).map (·.1.path)
theorem mA_srt {l m : List Ent} (hl : SrtE l) (hm : SrtE m) : SrtE (mA l m) := by
  have := mrg_srt l m hl hm
  exact List.pairwise_map.2 this
theorem mA_at {l m : List Ent} (hl : SrtE l) (hm : SrtE m) (p : ByteArray) : atE (mA l m) p = (cm (atE l p) (atE m p)).map (·.1) := by
  by_cases h : p ∈ (mrgL l m).map (·.1.path)
  · obtain ⟨x, hx, rfl⟩ := List.mem_map.1 h
    rw [mrg_at l m hl hm x hx]
    exact (atE_iff (mA_srt hl hm)).1 (List.mem_map.2 ⟨x, hx, rfl⟩)
  · have h1 : atE l p = none := atE_none.2 fun e he hp => h ((mrg_mem l m p).2 (.inl (List.mem_map.2 ⟨e, he, hp⟩)))
    have h2 : atE m p = none := atE_none.2 fun e he hp => h ((mrg_mem l m p).2 (.inr (List.mem_map.2 ⟨e, he, hp⟩)))
    rw [h1, h2]
    exact atE_none.2 fun e he hp => by
      obtain ⟨x, hx, rfl⟩ := List.mem_map.1 he
      exact h (List.mem_map.2 ⟨x, hx, hp⟩)
theorem mC_mem {l m : List Ent} (hl : SrtE l) (hm : SrtE m) (p : ByteArray) : p ∈ mC l m ↔ ∃ e, cm (atE l p) (atE m p) = some (e, true) := by
  constructor
  · intro h
    obtain ⟨x, hx, rfl⟩ := List.mem_map.1 h
    obtain ⟨h1, h2⟩ := List.mem_filter.1 hx
    exact ⟨x.1, by rw [mrg_at l m hl hm x h1, ← h2]⟩
  · rintro ⟨e, he⟩
    have h : p ∈ (mrgL l m).map (·.1.path) := by
      rw [mrg_mem]
      cases h1 : atE l p with
      | some a => exact .inl (List.mem_map.2 ⟨a, atE_mem h1⟩)
      | none =>
        cases h2 : atE m p with
        | some b => exact .inr (List.mem_map.2 ⟨b, atE_mem h2⟩)
        | none => rw [h1, h2] at he; cases he
    obtain ⟨x, hx, rfl⟩ := List.mem_map.1 h
    have := mrg_at l m hl hm x hx
    rw [he] at this
    injection this with this
    exact List.mem_map.2 ⟨x, List.mem_filter.2 ⟨hx, by rw [← this]⟩, rfl⟩
def SrtB (l : List ByteArray) : Prop := l.Pairwise fun a b => a.data.toList < b.data.toList
theorem mC_srt {l m : List Ent} (hl : SrtE l) (hm : SrtE m) : SrtB (mC l m) := by
  have := (mrg_srt l m hl hm).filter (·.2)
  exact List.pairwise_map.2 this
theorem srtB_one {a b : List ByteArray} (ha : SrtB a) (hb : SrtB b) (h : ∀ x, x ∈ a ↔ x ∈ b) : a = b :=
  pw_one (fun _ _ h1 h2 => absurd h2 (List.lt_asymm h1)) ha hb h
theorem mrg_paths {l m : List Ent} (hl : SrtE l) (hm : SrtE m) {ps : List ByteArray} (hs : SrtB ps) (h : ∀ x, x ∈ ps ↔ x ∈ l.map (·.path) ∨ x ∈ m.map (·.path)) : ps = (mrgL l m).map (·.1.path) :=
  srtB_one hs (List.pairwise_map.2 (mrg_srt l m hl hm)) fun x => by rw [h, mrg_mem]
end Go.Proofs.YtlmccjdpmhancaaGreatDoor
namespace Go.Proofs.YtlmccjdpmhancaaGreatDoor
open Go.RowKit

theorem okB_no {b : UInt8} (h : okB b = false) : ((b.toNat : Int) < 97 ∨ (122 : Int) < b.toNat) ∧ ((b.toNat : Int) < 48 ∨ (57 : Int) < b.toNat) ∧ (b.toNat : Int) ≠ 46 ∧ (b.toNat : Int) ≠ 45 := by
  simp [okB] at h
  omega
theorem okB_yes {b : UInt8} (h : okB b = true) : ((97 : Int) ≤ b.toNat ∧ (b.toNat : Int) ≤ 122) ∨ ((48 : Int) ≤ b.toNat ∧ (b.toNat : Int) ≤ 57) ∨ (b.toNat : Int) = 46 ∨ (b.toNat : Int) = 45 := by
  simp [okB] at h
  omega

set_option maxHeartbeats 2000000 in
theorem refName (s : ByteArray) (w : World) :
    Calls Tryz.prog 107 #[.string s] w fun e w' => e = .returned (.bool (nameL s.data.toList)) ∧ w = w' := by
  by_cases h1 : (s.size : Int) < 1
  · go_enter Tryz.func107, Tryz.ntmps107
    go_wp2
    go_ret
    exact ⟨ret_bool (nameL_no (by have := size_len s; omega)), rfl⟩
  by_cases h2 : (12 : Int) < s.size
  · go_enter Tryz.func107, Tryz.ntmps107
    go_wp2
    go_ret
    exact ⟨ret_bool (nameL_no (by have := size_len s; omega)), rfl⟩
  cases h3 : (s.toList == [46])
  case true =>
    have H := hid (show s.data.toList = [46] by rw [← Lib.toList_data s]; simpa using h3)
    go_enter Tryz.func107, Tryz.ntmps107
    go_wp2
    go_ret
    exact ⟨ret_bool (nameL_no (fun h => h.2.2.1 H.out)), rfl⟩
  cases h4 : (s.toList == [46, 46])
  case true =>
    have H := hid (show s.data.toList = [46, 46] by rw [← Lib.toList_data s]; simpa using h4)
    go_enter Tryz.func107, Tryz.ntmps107
    go_wp2
    go_ret
    exact ⟨ret_bool (nameL_no (fun h => h.2.2.2 H.out)), rfl⟩
  have HH := hid (show 1 ≤ s.data.toList.length ∧ s.data.toList.length ≤ 12 ∧ s.data.toList ≠ [46] ∧ s.data.toList ≠ [46, 46] by
    have hl := size_len s
    rw [Lib.toList_data s] at h3 h4
    exact ⟨by omega, by omega, by simpa using h3, by simpa using h4⟩)
  go_enter Tryz.func107, Tryz.ntmps107
  go_wp2_with fail
  go_loop [3] (fun i => ∃ j : Nat, j ≤ s.size ∧ i = .int .i64 j ∧ (s.data.toList.take j).all okB = true) (fun i => s.size - (intOf i).toNat)
  case atStart => exact ⟨0, by omega, rfl, by simp⟩
  case round =>
    obtain ⟨j, hj, rfl, hok⟩ := hrel
    by_cases hjn : j < s.size
    · have hlt : (j : Int) < s.size := by omega
      have HK := hid (take_ok s j hjn)
      have HO := hid hok
      clear hok
      obtain ⟨b, hb⟩ : ∃ b, s[j] = b := ⟨_, rfl⟩
      rw [hb] at HK
      have hyes : okB b = true → (s.data.toList.take (j + 1)).all okB = true := fun h => by rw [HK.out, HO.out, h]; rfl
      have hno : okB b = false → false = nameL s.data.toList := fun h => by
        have hk : (s.data.toList.take (j + 1)).all okB = false := by rw [HK.out, HO.out, h]; rfl
        cases hn : nameL s.data.toList with
        | false => rfl
        | true =>
          simp only [nameL, Bool.and_eq_true, List.all_eq_true] at hn
          have : (s.data.toList.take (j + 1)).all okB = true := List.all_eq_true.2 fun b hbm => hn.2 b (List.mem_of_mem_take hbm)
          rw [hk] at this
          cases this
      have HY := hid hyes
      have HN := hid hno
      clear hyes hno HK
      cases hob : okB b
      · have h5 := okB_no hob
        go_wp2
        all_goals first
          | (go_ret; exact ⟨ret_bool (HN.out hob), rfl⟩)
          | (exfalso; rename_i h; simp at h; omega)
      · have HT := HY.out hob
        clear HY HN
        rcases okB_yes hob with ⟨h5, h6⟩ | ⟨h5, h6⟩ | h5 | h5
        all_goals
          go_wp2
          go_roundw
          case rel => exact ⟨j + 1, by omega, by go_num, HT⟩
          case measure => simp [intOf]; omega
    · have e : s.size = j := by omega
      have HE := hid e
      have HO := hid hok
      have hnlt : ¬ (j : Int) < s.size := by omega
      clear e hok
      go_wp2
      go_ret
      refine ⟨ret_bool ?_, rfl⟩
      have hl := size_len s
      have ho := HO.out
      rw [← HE.out, hl, List.take_length] at ho
      have hh := HH.out
      simp only [nameL, ho, Bool.and_true]
      exact (decide_eq_true hh).symm

/-- What is cut so far: the pieces that end, and from where the last one goes on. -/
def CutInv (l : List UInt8) (j f : Nat) (done : List (List UInt8)) : Prop :=
  (j ≤ l.length ∧ f ≤ j ∧ 47 ∉ (l.drop f).take (j - f) ∧ done ++ pieces (l.drop f) = pieces l) ∨ (j = l.length + 1 ∧ done = pieces l)
theorem cut_last {l : List UInt8} {f : Nat} {done : List (List UInt8)} (h : CutInv l l.length f done) : f ≤ l.length ∧ done ++ [(l.drop f).take (l.length - f)] = pieces l := by
  rcases h with ⟨_, h2, h3, h4⟩ | ⟨h1, _⟩
  · have e : (l.drop f).take (l.length - f) = l.drop f := List.take_of_length_le (by simp)
    rw [e] at h3 ⊢
    rw [← h4, pieces_none _ h3]
    exact ⟨h2, rfl⟩
  · omega
theorem drop_at {l : List UInt8} {j f : Nat} (h : j < l.length) (hf : f ≤ j) : l.drop f = (l.drop f).take (j - f) ++ l[j] :: l.drop (j + 1) := by
  have e1 : (l.drop f).drop (j - f) = l.drop j := by rw [List.drop_drop]; congr 1; omega
  have e2 : l.drop j = l[j] :: l.drop (j + 1) := List.drop_eq_getElem_cons h
  rw [← e2, ← e1, List.take_append_drop]
theorem cut_stroke {l : List UInt8} {j f : Nat} {done : List (List UInt8)} (h : CutInv l j f done) (hj : j < l.length) (hb : l[j] = 47) :
    f ≤ j ∧ CutInv l (j + 1) (j + 1) (done ++ [(l.drop f).take (j - f)]) := by
  rcases h with ⟨_, h2, h3, h4⟩ | ⟨h1, _⟩
  · refine ⟨h2, .inl ⟨by omega, Nat.le_refl _, by simp, ?_⟩⟩
    have e := drop_at hj h2
    rw [hb] at e
    have e2 : pieces (l.drop f) = (l.drop f).take (j - f) :: pieces (l.drop (j + 1)) := by
      conv => lhs; rw [e]
      rw [pieces_app, pieces_none _ h3]
      rfl
    rw [← h4, e2]
    simp
  · omega
theorem cut_on {l : List UInt8} {j f : Nat} {done : List (List UInt8)} (h : CutInv l j f done) (hj : j < l.length) (hb : l[j] ≠ 47) : CutInv l (j + 1) f done := by
  rcases h with ⟨_, h2, h3, h4⟩ | ⟨h1, _⟩
  · refine .inl ⟨by omega, by omega, ?_, h4⟩
    have e : j + 1 - f = (j - f) + 1 := by omega
    have e2 : (l.drop f)[j - f]? = some l[j] := by rw [List.getElem?_drop, show f + (j - f) = j by omega, List.getElem?_eq_getElem hj]
    rw [e, List.take_add_one, e2]
    intro hm
    rcases List.mem_append.1 hm with hm | hm
    · exact h3 hm
    · simp at hm
      exact hb hm.symm
  · omega
theorem ba_at (s : ByteArray) (j : Nat) (h : j < s.size) : s[j] = s.data.toList[j]'(by have := size_len s; omega) := rfl

/-- A slice of pieces that the call made. -/
def CutPost (w : World) (L : List (List UInt8)) (e : Ending) (w' : World) : Prop :=
  ∃ A c, e = .returned (.slice A L.length c) ∧ Rd w' A (strV (L.map mkS)) ∧ L.length ≤ c ∧ Below w.heap.size w w'

set_option maxHeartbeats 2000000 in
theorem refCut (s : ByteArray) (w : World) (hs : s.size < 4294967281) :
    Calls Tryz.prog 106 #[.string s] w (CutPost w (pieces s.data.toList)) := by
  go_enter Tryz.func106, Tryz.ntmps106
  go_wp2_with fail
  go_loopw [3, 4, 5] (fun v f i wr => ∃ j k : Nat, ∃ done : List ByteArray, ∃ A c, i = .int .i64 j ∧ f = .int .i64 k ∧ v = .slice A done.length c ∧ done.length ≤ j ∧ j ≤ s.size + 1 ∧ wr.ownsRow w.heap.size 9 1 (.slice A done.length c) done.length (strV done) ∧ CutInv s.data.toList j k (lst done) ∧ Below w.heap.size w wr) (fun _ _ i _ => s.size + 1 - (intOf i).toNat)
  case atStart => exact ⟨0, 0, [], none, 0, rfl, rfl, rfl, Nat.le_refl _, by omega, World.ownsRow_nil _ _ _ _, .inl ⟨by omega, Nat.le_refl _, by simp, rfl⟩, Below.refl _ _⟩
  case round =>
    obtain ⟨j, k, done, A, c, rfl, rfl, rfl, hdl, hj, hown, hinv, hb⟩ := hrel
    have HI := hid hinv
    clear hinv
    by_cases hjs : j ≤ s.size
    · have hle : (j : Int) ≤ s.size := by omega
      by_cases hje : j = s.size
      · subst hje
        have HI2 := hid (show CutInv s.data.toList (s.size + 1) (s.size + 1) (lst done ++ [(s.data.toList.drop k).take (s.size - k)]) by
          have h := HI.out
          rw [size_len] at h ⊢
          exact .inr ⟨rfl, (cut_last h).2⟩)
        have hk : (k : Int) ≤ s.size := by
          have h := HI.out
          rw [size_len] at h ⊢
          have := (cut_last h).1
          omega
        clear HI
        go_wp2_with (at_builtin; refine wpApp _ rfl _ _ 25 rfl w.heap.size 9 (.string ⟨#[]⟩) 16 Tryz.underlying25 Tryz.infoS rfl A done.length c _ rfl (hown.alloc _) _ _ _ (strV [s.extract k s.size]) rfl rfl (.inr ⟨_, rfl, new_cells wr 9 _⟩) (strV_one _) (by omega) (by have := hb.size; simp; omega) (by omega) ?_)
        intro A2 c2 w2 hown2 hg2
        have hb2 : Below w.heap.size w w2 := (hb.alloc hb.size _).grown hg2 (by have := hb.size; simp; omega) (own_app_block hown)
        have hown3 : w2.ownsRow w.heap.size 9 1 (.slice A2 (done ++ [s.extract k s.size]).length c2) (done ++ [s.extract k s.size]).length (strV (done ++ [s.extract k s.size])) := by
          rw [strV_append, List.length_append]
          exact hown2
        clear hown hown2 hg2 hb
        go_wp2
        go_roundw
        case rel =>
          exact ⟨s.size + 1, s.size + 1, done ++ [s.extract k s.size], A2, c2, by go_num, by go_num, by simp, by simp; omega, by omega, hown3, by rw [lst, List.map_append, List.map_cons, List.map_nil, Lib.extract_data]; exact HI2.out, hb2⟩
        case measure => simp [intOf]
      · have hjn : j < s.size := by omega
        have hlt : (j : Int) < s.size := by omega
        have hne : ((j : Int) == (s.size : Int)) = false := by simp; omega
        have hjl : j < s.data.toList.length := by rw [← size_len]; exact hjn
        have HB := hid (ba_at s j hjn)
        obtain ⟨b, hbe⟩ : ∃ b, s[j] = b := ⟨_, rfl⟩
        rw [hbe] at HB
        by_cases h47 : b = 47
        · subst h47
          have HI2 := hid (show CutInv s.data.toList (j + 1) (j + 1) (lst done ++ [(s.data.toList.drop k).take (j - k)]) from (cut_stroke HI.out hjl HB.out.symm).2)
          have hk : (k : Int) ≤ j := by
            have := (cut_stroke HI.out hjl HB.out.symm).1
            omega
          clear HI HB
          go_wp2_with (at_builtin; refine wpApp _ rfl _ _ 25 rfl w.heap.size 9 (.string ⟨#[]⟩) 16 Tryz.underlying25 Tryz.infoS rfl A done.length c _ rfl (hown.alloc _) _ _ _ (strV [s.extract k j]) rfl rfl (.inr ⟨_, rfl, new_cells wr 9 _⟩) (strV_one _) (by omega) (by have := hb.size; simp; omega) (by omega) ?_)
          intro A2 c2 w2 hown2 hg2
          have hb2 : Below w.heap.size w w2 := (hb.alloc hb.size _).grown hg2 (by have := hb.size; simp; omega) (own_app_block hown)
          have hown3 : w2.ownsRow w.heap.size 9 1 (.slice A2 (done ++ [s.extract k j]).length c2) (done ++ [s.extract k j]).length (strV (done ++ [s.extract k j])) := by
            rw [strV_append, List.length_append]
            exact hown2
          clear hown hown2 hg2 hb
          go_wp2
          go_roundw
          case rel =>
            exact ⟨j + 1, j + 1, done ++ [s.extract k j], A2, c2, by go_num, by go_num, by simp, by simp; omega, by omega, hown3, by rw [lst, List.map_append, List.map_cons, List.map_nil, Lib.extract_data]; exact HI2.out, hb2⟩
          case measure => simp [intOf]; omega
        · have hb47 : ¬ (b.toNat : Int) = 47 := fun h => h47 (by
            have : b.toNat = 47 := by omega
            exact UInt8.toNat_inj.1 this)
          have hq : ((b.toNat : Int) == 47) = false := by simpa using hb47
          have HI2 := hid (cut_on HI.out hjl (by rw [← HB.out]; exact h47))
          clear HI HB
          go_wp2
          go_roundw
          case rel => exact ⟨j + 1, k, done, A, c, by go_num, rfl, rfl, by omega, by omega, hown, HI2.out, hb⟩
          case measure => simp [intOf]; omega
    · have hnle : ¬ (j : Int) ≤ s.size := by omega
      have HJ := hid (show j = s.size + 1 by omega)
      go_wp2
      go_ret
      have e : lst done = pieces s.data.toList := by
        rcases HI.out with ⟨h1, _⟩ | ⟨_, h2⟩
        · have := HJ.out
          rw [size_len] at this
          omega
        · exact h2
      rw [← e]
      obtain ⟨_, A', c', hv, hc, _⟩ := own_form hown
      injection hv with e1 e2 e3
      subst e1 e3
      refine ⟨A, c, by rw [lst_length]; rfl, ?_, by rw [lst_length]; exact hc, hb⟩
      rw [lst, mkS_map]
      exact Rd.of_own hown
end Go.Proofs.YtlmccjdpmhancaaGreatDoor
namespace Go.Proofs.YtlmccjdpmhancaaGreatDoor
open Go.RowKit

theorem all_take_step (L : List (List UInt8)) (j : Nat) (h : j < L.length) : (L.take (j + 1)).all nameL = ((L.take j).all nameL && nameL L[j]) := by
  rw [List.take_add_one, List.getElem?_eq_getElem h, List.all_append]
  simp
theorem not_fine_at {L : List (List UInt8)} {j : Nat} (h : j < L.length) (hb : nameL L[j] = false) : fineL L = false := by
  cases hf : fineL L with
  | false => rfl
  | true =>
    have := fine_all hf L[j] (List.getElem_mem h)
    rw [hb] at this
    cases this

set_option maxHeartbeats 1000000 in
theorem refRight (s : ByteArray) (w : World) (hs : s.size < 4294967281) :
    Calls Tryz.prog 75 #[.string s] w fun e w' => e = .returned (.bool (rightL s.data.toList)) ∧ Below w.heap.size w w' := by
  have c0 := refCut s w hs
  have hpl := pieces_len s.data.toList
  rw [← size_len] at hpl
  have hpos := List.length_pos_iff.2 (pieces_ne s.data.toList)
  unfold rightL
  generalize pieces s.data.toList = L at c0 hpl hpos ⊢
  go_enter Tryz.func75, Tryz.ntmps75
  go_wp2_with fail
  refine c0.mono ?_
  clear c0
  rintro e w1 ⟨A, c, rfl, hr1, hc1, hb1⟩
  by_cases h4 : (4 : Int) < L.length
  · go_wp2
    go_ret
    exact ⟨ret_bool (fine_long (by omega)).symm, hb1⟩
  go_wp2_with fail
  go_loop [4] (fun i => ∃ j : Nat, j ≤ L.length ∧ i = .int .i64 j ∧ (L.take j).all nameL = true) (fun i => L.length - (intOf i).toNat)
  case atStart => exact ⟨0, by omega, rfl, by simp⟩
  case round =>
    obtain ⟨j, hj, rfl, hok⟩ := hrel
    by_cases hjn : j < L.length
    · obtain ⟨b, off, rfl, hc, -⟩ := hr1.at_ (k := j) (by rw [strV_length, List.length_map]; exact hjn)
      have h5 : w1.cell? ⟨b, off + j, none⟩ = some (.string (mkS L[j])) := by rw [hc]; simp [strV]
      have HK := hid (all_take_step L j hjn)
      have HO := hid hok
      clear hc hok
      have hz : (0 : Int) ≤ j := by omega
      have hlt : (j : Int) < L.length := by omega
      go_wp2_with fail
      refine (refName _ _).mono ?_
      rintro e w2 ⟨he, rfl⟩
      rw [mkS_data] at he
      subst he
      cases hb : nameL L[j]
      · go_wp2
        go_ret
        exact ⟨ret_bool (not_fine_at hjn hb).symm, hb1⟩
      · go_wp2
        go_roundw
        case rel => exact ⟨j + 1, by omega, by go_num, by rw [HK.out, HO.out, hb]; rfl⟩
        case measure => simp [intOf]; omega
    · have HE := hid (show j = L.length by omega)
      have HO := hid hok
      have hnlt : ¬ (j : Int) < L.length := by omega
      clear hok
      go_wp2
      go_ret
      refine ⟨ret_bool ?_, hb1⟩
      have ho := HO.out
      rw [HE.out, List.take_length] at ho
      exact (fine_mk (by omega) (by omega) (List.all_eq_true.1 ho)).symm

theorem pre_no {s d : List UInt8} (h : s.length ≤ d.length) : Lib.hasPrefix s (d ++ [47]) = false := by
  cases hp : Lib.hasPrefix s (d ++ [47]) with
  | false => rfl
  | true =>
    have := Lib.hasPrefix_of_take s (d ++ [47])
    rw [hp] at this
    simp at this
    omega
theorem pre_at {s d : List UInt8} (h : d.length < s.length) : Lib.hasPrefix s (d ++ [47]) = (s.take d.length == d && s[d.length] == 47) := by
  rw [← Lib.hasPrefix_of_take]
  have e1 : decide ((d ++ [47]).length ≤ s.length) = true := by simp; omega
  have e2 : s.take (d ++ [47]).length = s.take d.length ++ [s[d.length]] := by
    rw [List.length_append, List.length_cons, List.length_nil, List.take_add_one, List.getElem?_eq_getElem h]
    rfl
  rw [e1, e2, Bool.true_and, Bool.eq_iff_iff]
  simp only [beq_iff_eq, Bool.and_eq_true]
  constructor
  · intro e
    have := List.append_inj' e rfl
    exact ⟨this.1, by simpa using this.2⟩
  · rintro ⟨h1, h2⟩
    rw [h1, h2]

set_option maxHeartbeats 1000000 in
theorem refUnder (s d : ByteArray) (w : World) (hs : s.size < 4294967281) (hd : d.size < 4294967281) :
    Calls Tryz.prog 79 #[.string s, .string d] w fun e w' => e = .returned (.bool (underL s.data.toList d.data.toList)) ∧ Below w.heap.size w w' := by
  have HL1 := hid (size_len s)
  have HL2 := hid (size_len d)
  go_enter Tryz.func79, Tryz.ntmps79
  go_wp2_with fail
  refine (refRight s _ hs).mono ?_
  rintro e w1 ⟨rfl, hb1⟩
  cases h1 : rightL s.data.toList
  · go_wp2
    go_ret
    exact ⟨ret_bool (by simp [underL, h1]), hb1⟩
  · go_wp2_with fail
    refine (refRight d _ hd).mono ?_
    rintro e w2 ⟨rfl, hb2⟩
    have hb2' := below2 hb1 hb2
    clear hb1 hb2
    cases h2 : rightL d.data.toList
    · go_wp2
      go_ret
      exact ⟨ret_bool (by simp [underL, h2]), hb2'⟩
    · by_cases hle : (s.size : Int) ≤ d.size
      · go_wp2
        go_ret
        exact ⟨ret_bool (by rw [underL, pre_no (by have := HL1.out; have := HL2.out; omega)]; simp), hb2'⟩
      · have hlt : d.size < s.size := by omega
        have HP := hid (pre_at (s := s.data.toList) (d := d.data.toList) (by have := HL1.out; have := HL2.out; omega))
        cases h7 : ((s.extract 0 d.size).toList == d.toList)
        · go_wp2
          go_ret
          refine ⟨ret_bool ?_, hb2'⟩
          rw [underL, h1, h2, HP.out]
          rw [Lib.toList_data, Lib.toList_data, Lib.extract_from_zero, HL2.out] at h7
          rw [h7]
          rfl
        · have hlti : (d.size : Int) < s.size := by omega
          have HB := hid (ba_at s d.size hlt)
          go_wp2
          go_ret
          refine ⟨ret_bool ?_, hb2'⟩
          rw [underL, h1, h2, HP.out]
          rw [Lib.toList_data, Lib.toList_data, Lib.extract_from_zero, HL2.out] at h7
          rw [h7, HB.out]
          have e : s.data.toList[d.size]'(by have := HL1.out; omega) = s.data.toList[d.data.toList.length]'(by have := HL1.out; have := HL2.out; omega) := by congr 1
          rw [e]
          generalize s.data.toList[d.data.toList.length]'(by have := HL1.out; have := HL2.out; omega) = b
          rw [Bool.eq_iff_iff]
          simp only [beq_iff_eq, Bool.and_self, Bool.true_and]
          constructor
          · intro h
            exact UInt8.toNat_inj.1 (show b.toNat = 47 by omega)
          · rintro rfl
            rfl
end Go.Proofs.YtlmccjdpmhancaaGreatDoor
namespace Go.Proofs.YtlmccjdpmhancaaGreatDoor
open Go.RowKit

/-- Where a path stands, in a tree that rises. -/
def posT (fs : List Fil) (p : List UInt8) : Int := if thereT fs p then ((lowT fs p).length : Int) else -1
theorem pos_at {fs : List Fil} {p : List UInt8} (hs : Srt fs) {j : Nat} (hj : j < fs.length) (e : pth fs[j] = p) : posT fs p = j := by
  have ht : thereT fs p = true := there_iff.2 ⟨fs[j], List.getElem_mem hj, e⟩
  obtain ⟨hl, e2⟩ := (there_at hs).1 ht
  rw [posT, if_pos ht]
  have hp := List.pairwise_iff_getElem.1 hs
  generalize (lowT fs p).length = k at *
  rcases Nat.lt_trichotomy k j with h | h | h
  · have h1 := hp k j hl hj h
    rw [e2, e] at h1
    exact absurd h1 (List.lt_irrefl _)
  · rw [h]
  · have h1 := hp j k hj hl h
    rw [e2, e] at h1
    exact absurd h1 (List.lt_irrefl _)

set_option maxHeartbeats 400000 in
theorem refPos {w : World} {A : Option Addr} {n c : Nat} {fs : List Fil} (h : Ft w A n c fs) (hs : Srt fs) (p : ByteArray) :
    Calls Tryz.prog 109 #[.slice A n c, .string p] w fun e w' => e = .returned (.int .i64 (posT fs p.data.toList)) ∧ w = w' := by
  have hn := h.big
  have HL := hid h.len
  have hr := h.rd
  have HS := hid hs
  clear h hs
  go_enter Tryz.func109, Tryz.ntmps109
  go_wp2_with fail
  go_loop [5] (fun i => ∃ j : Nat, j ≤ n ∧ i = .int .i64 j ∧ Hid (∀ k (hk : k < fs.length), k < j → pth fs[k] ≠ p.data.toList)) (fun i => n - (intOf i).toNat)
  case atStart => exact ⟨0, by omega, rfl, hid (fun k _ hk => absurd hk (by omega))⟩
  case round =>
    obtain ⟨j, hj, rfl, HO⟩ := hrel
    by_cases hjn : j < n
    · have hjl : j < fs.length := by rw [HL.out]; exact hjn
      obtain ⟨b, off, rfl, h1, -, -⟩ := hr.fil hjl
      have hz : (0 : Int) ≤ j := by omega
      have hlt : (j : Int) < n := by omega
      by_cases he : fs[j].1 = p
      · have hb := toList_eq he
        have HP := hid (pos_at HS.out hjl (show fs[j].1.data.toList = p.data.toList by rw [he]))
        clear he
        generalize fs[j].1 = x at *
        go_wp2
        go_ret
        exact ⟨ret_int HP.out.symm, rfl⟩
      · have hb := toList_ne he
        have HP := hid (show pth fs[j] ≠ p.data.toList from fun e => he (data_inj e))
        clear he
        have HX := hid (rfl : fs[j].1 = fs[j].1)
        generalize fs[j].1 = x at h1 hb
        go_wp2
        go_round
        case rel =>
          refine ⟨j + 1, by omega, by go_num, hid (fun k hk hkj => ?_)⟩
          by_cases e : k = j
          · subst e; exact HP.out
          · exact HO.out k hk (by omega)
        case measure => simp [intOf]; omega
    · have HE := hid (show j = n by omega)
      have hnlt : ¬ (j : Int) < n := by omega
      go_wp2
      go_ret
      refine ⟨ret_int ?_, rfl⟩
      have ht : thereT fs p.data.toList = false := there_no.2 fun f hf => by
        obtain ⟨k, hk, rfl⟩ := List.mem_iff_getElem.1 hf
        exact HO.out k hk (by have h1 := HE.out; have h2 := HL.out; omega)
      rw [posT, ht]
      rfl
end Go.Proofs.YtlmccjdpmhancaaGreatDoor
