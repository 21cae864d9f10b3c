/- TreeTells: the walk. -/
import Derived.Test.YtblfpmlnpaibkaaDoorUd
import Derived.Test.YtblfpmlnpaibkaaDoorRs
namespace Go.Proofs.YtblfpmlnpaibkaaDoor
open Go.RowKit

theorem size_few {b : Nat} : ∀ {fs : List Fil}, (∀ f ∈ fs, f.2.size ≤ b) → sizeT fs ≤ fs.length * b
  | [], _ => by simp [sizeT]
  | f :: r, h => by
    have h1 := h f (by simp)
    have h2 := size_few (fs := r) fun g hg => h g (by simp [hg])
    rw [sizeT, List.map_cons, List.sum_cons, List.length_cons, Nat.succ_mul]
    rw [sizeT] at h2
    omega
/-- A slice of files that may be written on: none, or in a block that is known whole. -/
def Sp (lo hi : Nat) (w : World) (A : Option Addr) (n : Nat) : Prop := n = 0 ∨ ∃ g cs, A = some ⟨g, 0, none⟩ ∧ lo ≤ g ∧ g < hi ∧ n * 2 ≤ cs.length ∧ Blk w g cs 33
theorem Sp.of {base : Nat} {w : World} {A : Option Addr} {n c : Nat} {fs : List Fil} (h : OwnF base w A n c fs) : Sp base w.heap.size w A n := by
  obtain ⟨h1, _, _, h4⟩ := h
  rcases h4 with rfl | ⟨g, rest, rfl, hg, hB⟩
  · exact .inl h1.symm
  · exact .inr ⟨g, _, rfl, hg, hB.lt, by rw [List.length_append, filV_length, h1]; omega, hB⟩
theorem Sp.below {lo hi : Nat} {w w' : World} {A : Option Addr} {n : Nat} (h : Sp lo hi w A n) (hb : Below w.heap.size w w') : Sp lo hi w' A n := by
  rcases h with h | ⟨g, cs, h1, h2, h3, h4, h5⟩
  · exact .inl h
  · exact .inr ⟨g, cs, h1, h2, h3, h4, h5.below hb⟩
theorem Sp.up {lo lo' hi hi' : Nat} {w : World} {A : Option Addr} {n : Nat} (h : Sp lo hi w A n) (h1 : lo' ≤ lo) (h2 : hi ≤ hi') : Sp lo' hi' w A n := by
  rcases h with h | ⟨g, cs, a1, a2, a3, a4, a5⟩
  · exact .inl h
  · exact .inr ⟨g, cs, a1, by omega, by omega, a4, a5⟩
/-- What is written elsewhere leaves it so. -/
theorem Sp.other {lo hi : Nat} {w : World} {A : Option Addr} {n : Nat} (h : Sp lo hi w A n) {g : Nat} (hg : g < lo) (i : Nat) (u : Value) : Sp lo hi (w.setCell ⟨g, i, none⟩ u) A n := by
  rcases h with h | ⟨g', cs, a1, a2, a3, a4, a5⟩
  · exact .inl h
  · exact .inr ⟨g', cs, a1, a2, a3, a4, a5.other (by omega) i u⟩
theorem Sp.some_ {lo hi : Nat} {w : World} {A : Option Addr} {n j : Nat} (h : Sp lo hi w A n) (hj : j < n) :
    ∃ g x, A = some ⟨g, 0, none⟩ ∧ lo ≤ g ∧ g < hi ∧ w.cell? ⟨g, j * 2, none⟩ = some x ∧ w.frozen? ⟨g, j * 2, none⟩ = false ∧ ∀ u, Sp lo hi (w.setCell ⟨g, j * 2, none⟩ u) A n := by
  rcases h with h | ⟨g, cs, a1, a2, a3, a4, a5⟩
  · omega
  · have hl : j * 2 < cs.length := by omega
    exact ⟨g, cs[j * 2], a1, a2, a3, by rw [a5.cell, List.getElem?_eq_getElem hl], a5.frozen _, fun u => .inr ⟨g, _, a1, a2, a3, by rw [List.length_set]; exact a4, a5.set_ _ u⟩⟩

set_option maxHeartbeats 2000000 in
set_option maxRecDepth 20000 in
theorem treeTells_walk (A : Option Addr) (c : Nat) (fs : List Fil) (B : Option Addr) (c' : Nat) (gs : List Fil) (p d : ByteArray) (w : World) (hr : Rd w A (filV fs)) (hlc : fs.length ≤ c) (hc : c ≤ maxLen) (_ : True) (hr' : Rd w B (filV gs)) (hlc' : gs.length ≤ c') (hc' : c' ≤ maxLen) (_ : True)
    (_ : p.size ≤ 140737488351232) (_ : d.size ≤ 140737488351232) :
    Calls Tryd.prog 3 #[.slice A fs.length c, .slice B gs.length c', .string p, .string d] w fun e w' => e = .returned (.bool true) ∧ Below w.heap.size w w' := by
  generalize hl : fs.length = n at *
  generalize hl' : gs.length = n' at *
  go_enter Tryd.func3, Tryd.ntmps3
  go_wp2_with fail
  refine (small_any _).mono ?_
  rintro e w1 ⟨rfl, b1⟩
  go_wp2_with fail
  refine (few_any A n c fs _ hl (hr.below b1)).mono ?_
  rintro e wx ⟨rfl, rfl⟩
  go_wp2_with fail
  refine (few_any B n' c' gs _ hl' (hr'.below b1)).mono ?_
  rintro e wx ⟨rfl, rfl⟩
  cases hf : fewB fs
  · go_wp2
    go_ret
    exact ⟨rfl, b1⟩
  cases hf' : fewB gs
  · go_wp2
    go_ret
    exact ⟨rfl, b1⟩
  by_cases hp : (100 : Int) < p.size
  · go_wp2
    go_ret
    exact ⟨rfl, b1⟩
  have hpb : decide ((100 : Int) < p.size) = false := by simp; omega
  by_cases hd : (1000 : Int) < d.size
  · go_wp2
    go_ret
    exact ⟨rfl, b1⟩
  have hdb : decide ((1000 : Int) < d.size) = false := by simp; omega
  have t1 : Ft w1 A n c fs := few_ft hf hl (hr.below b1) hlc hc
  have u1 : Ft w1 B n' c' gs := few_ft hf' hl' (hr'.below b1) hlc' hc'
  have HSZ := hid (show sizeT fs ≤ 140737488355328 by
    have h1 := size_few (fun f hm => ((few_sz hf).2 f hm).2)
    have h2 := (few_sz hf).1
    omega)
  have hn40 : n ≤ 40 := by have := (few_sz hf).1; omega
  clear hf hf' hr hr' hl hl'
  have o0 : OwnR w1.heap.size (w1.alloc (.cells #[] 33)) (some ⟨w1.heap.size, 0, none⟩) 0 0 [] := OwnR.empty w1
  have q0 : Below w1.heap.size w1 (w1.alloc (.cells #[] 33)) := (Below.refl _ _).alloc (Nat.le_refl _) _
  obtain ⟨A3, c3, w3, HR3, o3, g3⟩ := run_appF o0 A n c fs t1.len (t1.rd.below q0) (by omega) q0.size
  rw [Nat.zero_add, List.nil_append] at o3
  rw [Nat.zero_add] at HR3
  have q3 := q0.grown g3 q0.size o0.block
  have t3 := t1.below q3
  have u3 := u1.below q3
  have i3 : Ft w3 A3 n c3 fs := o3.ft (by omega) t3.sz
  have b3 := below2 b1 q3
  clear o0 q0 o3 g3 q3 t1 u1 b1
  go_upto_region 7 with (at_builtin; refine Lib.wpList_append_run _ rfl _ _ _ _ rfl _ _ rfl rfl _ _ (HR3.out _) ?_)
  clear HR3
  have HT := hid t3
  have HU := hid u3
  have HI := hid i3
  have HB := hid b3
  have q3 := Below.refl w3.heap.size w3
  have hsx : ∀ f ∈ putT fs p d, f.1.size < 4294967281 ∧ f.2.size ≤ 140737488355328 := by
    intro f hm
    unfold putT at hm
    split at hm
    · exact put_szs t3.sz (by omega) (by omega) f hm
    · cases hm
  have hsy : ∀ f ∈ dropT fs p.data.toList, f.1.size < 4294967281 ∧ f.2.size ≤ 140737488355328 := by
    intro f hm
    unfold dropT at hm
    split at hm
    · exact drop_szs t3.sz f hm
    · cases hm
  have HSX := hid hsx
  have HSY := hid hsy
  clear hsx hsy
  go_wp2_with fail
  refine (put_any i3 p d (by omega) (by omega)).mono ?_
  rintro e w4 ⟨A4, n4, c4, rfl, a4, hb4⟩
  have q4 := q3.trans (hb4.mono q3.size)
  clear t3 u3 i3 b3
  have HL4 := hid (show n4 ≤ 140737488355328 by
    have h1 := a4.1
    by_cases h2 : putE fs p d = 0
    · rw [putT_ok h2] at h1
      have h3 := (right_putT h2).few
      omega
    · rw [putT_err rfl h2] at h1
      simp at h1
      omega)
  have HA4 := hid (a4.ft HL4.out HSX.out)
  have s4 := (Sp.of a4)
  clear a4 hb4
  go_wp2_with fail
  refine (refPut (HT.out.below q4) p d (by omega) (by omega)).mono ?_
  rintro e w5 ⟨A5, n5, c5, rfl, f5, hb5⟩
  have q5 := q4.trans (hb5.mono q4.size)
  have HF5 := hid f5
  have HA5 := hid (HA4.out.below hb5)
  have s5 := (s4.below hb5).up (Nat.le_refl _) hb5.size
  clear s4 q4 HA4 f5 hb5
  go_wp2_with fail
  refine (drop_any (HI.out.below q5) p).mono ?_
  rintro e w6 ⟨A6, n6, c6, rfl, a6, hb6⟩
  have q6 := q5.trans (hb6.mono q5.size)
  have HL6 := hid (show n6 ≤ 140737488355328 by
    have h1 := a6.1
    by_cases h2 : dropE fs p.data.toList = 0
    · rw [dropT_ok h2] at h1
      have h3 := (right_drop (dropE_zero.1 h2).1 p.data.toList).few
      omega
    · rw [dropT_err rfl h2] at h1
      simp at h1
      omega)
  have HC6 := hid (a6.ft HL6.out HSY.out)
  have v6 := Sp.of a6
  have s6 := s5.below hb6
  have HA6 := hid (HA5.out.below hb6)
  have HF6 := hid (HF5.out.below hb6)
  have HW5 := hid (show w3.heap.size ≤ w5.heap.size from q5.size)
  clear a6 s5 q5 HA5 HF5 hb6
  go_wp2_with fail
  refine (refDrop (HT.out.below q6) p).mono ?_
  rintro e w7 ⟨A7, n7, c7, rfl, f7, hb7⟩
  have q7 := q6.trans (hb7.mono q6.size)
  have s7 := s6.below hb7
  have v7 := v6.below hb7
  have HA7 := hid (HA6.out.below hb7)
  have HF7 := hid (HF6.out.below hb7)
  have HC7 := hid (HC6.out.below hb7)
  have HD7 := hid f7
  clear s6 v6 q6 HA6 HF6 HC6 f7 hb7
  go_wp2_with fail
  refine (get_any (HT.out.below q7) p).mono ?_
  rintro e w8 ⟨rfl, hb8⟩
  rw [getV_eq]
  have q8 := q7.trans (hb8.mono q7.size)
  have s8 := s7.below hb8
  have v8 := v7.below hb8
  have HA8 := hid (HA7.out.below hb8)
  have HF8 := hid (HF7.out.below hb8)
  have HC8 := hid (HC7.out.below hb8)
  have HD8 := hid (HD7.out.below hb8)
  clear s7 v7 q7 HA7 HF7 HC7 HD7 hb8
  go_wp2_with fail
  refine (refGet (HT.out.below q8) p).mono ?_
  rintro e w9 ⟨rfl, hb9⟩
  rw [getV_eq]
  have q9 := q8.trans (hb9.mono q8.size)
  have s9 := s8.below hb9
  have v9 := v8.below hb9
  have HA9 := hid (HA8.out.below hb9)
  have HF9 := hid (HF8.out.below hb9)
  have HC9 := hid (HC8.out.below hb9)
  have HD9 := hid (HD8.out.below hb9)
  clear s8 v8 q8 HA8 HF8 HC8 HD8 hb9
  generalize (getT fs p.data.toList).getD ⟨#[]⟩ = xg at *
  generalize (getT fs p.data.toList).isSome = bg at *
  generalize putE fs p d = er at *
  generalize dropE fs p.data.toList = er' at *
  generalize hpt : putT fs p d = pt at *
  generalize hdt : dropT fs p.data.toList = dt at *
  clear hpt hdt
  go_wp2_with fail
  refine (refSame HA9.out HF9.out).mono ?_
  rintro e w10 ⟨he, hb10⟩
  obtain rfl : e = .returned (.bool true) := he.trans (ret_bool (decide_eq_true rfl))
  clear he
  have q10 := q9.trans (hb10.mono q9.size)
  have s10 := s9.below hb10
  have v10 := v9.below hb10
  have HC10 := hid (HC9.out.below hb10)
  have HD10 := hid (HD9.out.below hb10)
  clear s9 v9 q9 HA9 HF9 HC9 HD9 hb10
  go_wp2_with fail
  refine (refSame HC10.out HD10.out).mono ?_
  rintro e w11 ⟨he, hb11⟩
  obtain rfl : e = .returned (.bool true) := he.trans (ret_bool (decide_eq_true rfl))
  clear he
  have q11 := q10.trans (hb11.mono q10.size)
  have s11 := s10.below hb11
  have v11 := v10.below hb11
  clear s10 v10 q10 HC10 HD10 hb11
  go_wp2_with fail
  have hb4 := HL4.out
  have hb6 := HL6.out
  go_loopw [26] (fun v wr => ∃ j : Nat, j ≤ n4 ∧ v = .int .i64 j ∧ Sp w3.heap.size w5.heap.size wr A4 n4 ∧ Sp w5.heap.size w6.heap.size wr A6 n6 ∧ Below w3.heap.size w3 wr) (fun v _ => n4 - (intOf v).toNat)
  case atStart => exact ⟨0, by omega, rfl, s11, v11, q11⟩
  case round =>
    clear s11 v11 q11
    obtain ⟨j, hj, rfl, s, v, q⟩ := hrel
    by_cases hjn : j < n4
    · obtain ⟨g, x, rfl, h1, h2, hcell, hfz, hset⟩ := s.some_ hjn
      have hz : (0 : Int) ≤ j := by omega
      have hlt : (j : Int) < n4 := by omega
      have q' := q.setCell (p := ⟨g, j * 2, none⟩) h1 (.string ⟨#[115, 112, 111, 105, 108, 116]⟩)
      have s' := hset (.string ⟨#[115, 112, 111, 105, 108, 116]⟩)
      have v' := v.other h2 (j * 2) (.string ⟨#[115, 112, 111, 105, 108, 116]⟩)
      clear s v q hset
      go_wp2
      go_roundw
      case rel => exact ⟨j + 1, by omega, by go_num, s', v', q'⟩
      case measure => simp [intOf]; omega
    · have hnlt : ¬ (j : Int) < n4 := by omega
      clear s
      go_wp2_with fail
      go_loopw [27] (fun x wx => ∃ k : Nat, k ≤ n6 ∧ x = .int .i64 k ∧ Sp w5.heap.size w6.heap.size wx A6 n6 ∧ Below w3.heap.size w3 wx) (fun x _ => n6 - (intOf x).toNat)
      case atStart => exact ⟨0, by omega, rfl, v, q⟩
      case round =>
        clear v q
        obtain ⟨k, hk, rfl, v, q⟩ := hrel
        by_cases hkn : k < n6
        · obtain ⟨g, x, rfl, h1, h2, hcell, hfz, hset⟩ := v.some_ hkn
          have hz : (0 : Int) ≤ k := by omega
          have hlt : (k : Int) < n6 := by omega
          have hg : w3.heap.size ≤ g := by have := HW5.out; omega
          have q' := q.setCell (p := ⟨g, k * 2, none⟩) hg (.string ⟨#[115, 112, 111, 105, 108, 116]⟩)
          have v' := hset (.string ⟨#[115, 112, 111, 105, 108, 116]⟩)
          clear v q hset
          go_wp2
          go_roundw
          case rel => exact ⟨k + 1, by omega, by go_num, v', q'⟩
          case measure => simp [intOf]; omega
        · have hnk : ¬ (k : Int) < n6 := by omega
          clear v
          have r0 := q
          clear q
          have HNI := hid (show (inT fs p.data.toList).length ≤ 140737488355328 by
            have h1 := HT.out.len
            have h2 : (inT fs p.data.toList).length ≤ fs.length := by
              unfold inT
              split
              · exact inTo_len fs _
              · simp
            omega)
          go_wp2_with fail
          refine (refSame (HI.out.below r0) (HT.out.below r0)).mono ?_
          rintro e x1 ⟨he, hc1⟩
          obtain rfl : e = .returned (.bool true) := he.trans (ret_bool (decide_eq_true rfl))
          clear he
          have r1 := r0.trans (hc1.mono r0.size)
          clear r0
          go_wp2_with fail
          refine (tree_any (HT.out.below r1)).mono ?_
          rintro e x2 ⟨rfl, hc2⟩
          have r2 := r1.trans (hc2.mono r1.size)
          clear r1
          go_wp2_with fail
          refine (refTree (HT.out.below r2)).mono ?_
          rintro e x3 ⟨rfl, hc3⟩
          have r3 := r2.trans (hc3.mono r2.size)
          clear r2
          go_wp2_with fail
          refine (find_any (HT.out.below r3) p).mono ?_
          rintro e x4 ⟨rfl, hc4⟩
          have r4 := r3.trans (hc4.mono r3.size)
          clear r3
          go_wp2_with fail
          refine (refFind (HT.out.below r4) p).mono ?_
          rintro e x5 ⟨rfl, hc5⟩
          have r5 := r4.trans (hc5.mono r4.size)
          clear r4
          go_wp2_with fail
          refine (same_any (HT.out.below r5) (HU.out.below r5)).mono ?_
          rintro e x6 ⟨rfl, hc6⟩
          have r6 := r5.trans (hc6.mono r5.size)
          clear r5
          go_wp2_with fail
          refine (refSame (HT.out.below r6) (HU.out.below r6)).mono ?_
          rintro e x7 ⟨rfl, hc7⟩
          have r7 := r6.trans (hc7.mono r6.size)
          clear r6
          go_wp2_with fail
          refine (size_any (HT.out.below r7) HSZ.out).mono ?_
          rintro e x8 ⟨rfl, hc8⟩
          have r8 := r7.trans (hc8.mono r7.size)
          clear r7
          go_wp2_with fail
          refine (refSize (HT.out.below r8) HSZ.out).mono ?_
          rintro e x9 ⟨rfl, hc9⟩
          have r9 := r8.trans (hc9.mono r8.size)
          clear r8
          go_wp2_with fail
          refine (in_any (HT.out.below r9) p (by omega)).mono ?_
          rintro e x10 ⟨Ai, ci, rfl, ri, -, -, hc10⟩
          have r10 := r9.trans (hc10.mono r9.size)
          clear r9
          go_wp2_with fail
          refine (refIn (HT.out.below r10) p (by omega)).mono ?_
          rintro e x11 ⟨Aj, cj, rfl, rj, -, -, hc11⟩
          have ri := ri.below hc11
          have r11 := r10.trans (hc11.mono r10.size)
          clear r10
          go_wp2_with fail
          refine (rows_same Ai Aj _ ci cj (inT fs p.data.toList) _ rfl HNI.out ri rj).mono ?_
          rintro e x12 ⟨rfl, hc12⟩
          have r12 := r11.trans (hc12.mono r11.size)
          clear r11
          go_wp2
          go_ret
          exact ⟨rfl, below2 HB.out r12⟩
end Go.Proofs.YtblfpmlnpaibkaaDoor
