/- Sl, Rs, Sw: in one text. -/
import Derived.Test.YtnkkjedckehoaaaDoorSk
import Derived.Test.YtnkkjedckehoaaaDoorMem
import Derived.Deep.QuietTactic
import Derived.BigQuiet
import Derived.Test.YtnkkjedckehoaaaDoorYf
namespace Go.Proofs.YtnkkjedckehoaaaDoor
open Go.RowKit

set_option maxRecDepth 20000 in
set_option maxHeartbeats 4000000 in
theorem small_any (w : World) : Calls Tryd.prog 9 #[] w fun e w' => e = .returned (.bool true) ∧ Below w.heap.size w w' := by
  have k1 : ∀ w, _ := fun w => scan_val (et_nil (w.alloc (.cells #[.string sa, .string s1] 53))) (ft_one w sa s1 (by decide) (by decide)) 0 smA1 (show L1.length = 1 from rfl) smC1 (show _ = 1 from rfl) (show _ = 0 by rw [smN1]; rfl)
  go_enter Tryd.func9, Tryd.ntmps9
  go_wp2_with fail
  refine (k1 _).mono ?_
  rintro e w1 ⟨A1, c1, B1, d1, rfl, E1, -, hb1⟩
  have b1 := below_new _ hb1
  clear hb1 k1
  have k2 := scan_val (E1.below ((Below.refl _ _).alloc (Nat.le_refl _) _)) (ft_one w1 sb noS (by decide) (by decide)) 1 smA2 (show L2.length = 2 from rfl) smC2 (show _ = 2 from rfl) (show _ = 0 by rw [smN2]; rfl)
  go_wp2_with fail
  refine k2.mono ?_
  rintro e w2 ⟨A2, c2, B2, d2, rfl, E2, -, hb2⟩
  have E1' := (E1.below ((Below.refl _ _).alloc (Nat.le_refl _) _)).below hb2
  have b2 := below2 b1 (below_new _ hb2)
  clear hb2 k2 E1 b1
  have k3 := scan_val (E2.below ((Below.refl _ _).alloc (Nat.le_refl _) _)) (ft_one w2 sb noS (by decide) (by decide)) 0 smA3 (show L2.length = 2 from rfl) smC3 (show _ = 0 from rfl) (show _ = 0 by rw [smN3]; rfl)
  go_wp2_with fail
  refine k3.mono ?_
  rintro e w3 ⟨A3, c3, B3, d3, rfl, E3, -, hb3⟩
  have E1 := (E1'.below ((Below.refl _ _).alloc (Nat.le_refl _) _)).below hb3
  have E2' := (E2.below ((Below.refl _ _).alloc (Nat.le_refl _) _)).below hb3
  have b3 := below2 b2 (below_new _ hb3)
  clear hb3 k3 E1' E2 b2
  obtain ⟨g1, o1, rfl, x0, x1, x2, x3, x4, -⟩ := E1.rd.ent (j := 0) (by decide)
  obtain ⟨g2, o2, rfl, y0, y1, y2, y3, y4, -⟩ := E2'.rd.ent (j := 0) (by decide)
  simp only [List.getElem_cons_zero, Nat.zero_mul, Nat.add_zero] at x0 x1 x2 x3 x4 y0 y1 y2 y3 y4
  have q1 := eqE ⟨sa, true, s1, 1, 0⟩ ⟨sa, true, s1, 1, 0⟩
  have q2 := eqE ⟨sa, false, noS, 1, 1⟩ ⟨sa, false, noS, 1, 1⟩
  rw [decide_eq_true rfl] at q1 q2
  have hsm := sameE_any (c := c2) (d := c3) E2'.len E2'.rd E3.len E3.rd (by omega)
  rw [decide_eq_true rfl] at hsm
  go_wp2_with fail
  refine hsm.mono ?_
  rintro e w4 ⟨rfl, hb4⟩
  have E4 := E2'.below hb4
  have b4 := below2 b3 hb4
  clear hb4 hsm E2' b3 x0 x1 x2 x3 x4 y0 y1 y2 y3 y4 E1 E3
  have k5 := findE_any E4 sb
  rw [smF2] at k5
  go_wp2_with fail
  refine k5.mono ?_
  rintro e w5 ⟨rfl, hb5⟩
  have E5 := E4.below hb5
  have b5 := below2 b4 hb5
  clear k5 hb5 E4 b4
  have k6 := treeE_any E5
  rw [smT2] at k6
  go_wp2_with fail
  refine k6.mono ?_
  rintro e w6 ⟨B6, d6, rfl, -, hb6⟩
  have E6 := E5.below hb6
  have b6 := below2 b5 hb6
  clear k6 hb6 E5 b5
  have k7 := archR_any E6
  rw [smR2] at k7
  go_wp2_with fail
  refine k7.mono ?_
  rintro e w7 ⟨rfl, hb7⟩
  have E7 := E6.below hb7
  have b7 := below2 b6 hb7
  clear k7 hb7 E6 b6
  have E8 : Et (w7.alloc (.cells #[.string sa, .bool true, .string ⟨#[]⟩, .int .i64 0, .int .i64 0] 37)) (some ⟨w7.heap.size, 0, none⟩) 1 1 [⟨sa, true, noS, 0, 0⟩] := ⟨rfl, (Blk.new w7 [.string sa, .bool true, .string ⟨#[]⟩, .int .i64 0, .int .i64 0] 37).rd, Nat.le_refl _, by omega, by omega, by simp; decide⟩
  have k8 := archR_any E8
  rw [smR4] at k8
  go_wp2_with fail
  refine k8.mono ?_
  rintro e w8 ⟨rfl, hb8⟩
  have E9 := (E7.below ((Below.refl _ _).alloc (Nat.le_refl _) _)).below hb8
  have b8 := below2 b7 (below_new _ hb8)
  clear k8 hb8 E7 b7
  go_wp2_with fail
  refine (copy_any E9).mono ?_
  rintro e w9 ⟨rfl, -, hb9⟩
  have b9 := below2 b8 hb9
  go_wp2
  go_ret
  exact ⟨rfl, b9⟩
end Go.Proofs.YtnkkjedckehoaaaDoor
namespace Go.Proofs.YtnkkjedckehoaaaDoor
open Go.RowKit

set_option maxHeartbeats 400000 in
theorem rows_same (A B : Option Addr) (n c d : Nat) (ls : List ByteArray) (w : World) (hl : ls.length = n) (hn : n ≤ 140737488355328) (ha : Rd w A (strV ls)) (hb : Rd w B (strV ls)) :
    Calls Tryd.prog 16 #[.slice A n c, .slice B n d] w fun e w' => e = .returned (.bool true) ∧ Below w.heap.size w w' := by
  have HL := hid hl
  clear hl
  go_enter Tryd.func16, Tryd.ntmps16
  go_wp2
  go_loopw [5] (fun i wr => ∃ j : Nat, j ≤ n ∧ i = .int .i64 j ∧ ∃ k, wr = w.drewN k) (fun i _ => n - (intOf i).toNat)
  case atStart => exact ⟨0, by omega, rfl, 0, rfl⟩
  case round =>
    obtain ⟨j, hj, rfl, k, rfl⟩ := hrel
    by_cases hjn : j < n
    · have hjl : j < ls.length := by rw [HL.out]; exact hjn
      obtain ⟨b, off, rfl, hc, -⟩ := ha.at_ (k := j) (by rw [strV_length]; exact hjl)
      obtain ⟨b', off', rfl, hc', -⟩ := hb.at_ (k := j) (by rw [strV_length]; exact hjl)
      have h1 : w.cell? ⟨b, off + j, none⟩ = some (.string ls[j]) := by rw [hc]; simp [strV]
      have h2 : w.cell? ⟨b', off' + j, none⟩ = some (.string ls[j]) := by rw [hc']; simp [strV]
      clear hc hc'
      generalize ls[j] = x at *
      have hz : (0 : Int) ≤ j := by omega
      have hlt : (j : Int) < n := by omega
      go_wp2_with fail
      go_quiet (fail)
      go_wp2
      go_roundw
      case rel => exact ⟨j + 1, by omega, by go_num, _, rfl⟩
      case measure => simp [intOf]; omega
    · have e : n = j := by omega
      subst e
      go_wp2
      go_ret
      exact ⟨rfl, by exact ⟨rfl, rfl, rfl, Nat.le_refl _, fun _ _ => rfl⟩⟩
end Go.Proofs.YtnkkjedckehoaaaDoor
namespace Go.Proofs.YtnkkjedckehoaaaDoor
open Go.RowKit

theorem app_nilE {w : World} (base : Nat) (v : Value) (n : Nat) (xs : List Value) (hown : w.ownsRow base 37 5 v n xs) (c : Nat) : (Builtin.append_ #[22, 22] 22 #[v, .slice none 0 c]).run Tryd.prog w = .ok v w := by
  obtain ⟨i, hi, hz0, hz1, hz2⟩ := info_parts Tryd.infoE
  rcases hown.2 with ⟨rfl, rfl⟩ | ⟨g, cap, cur, rfl, _, _, hnc, _⟩
  · simp [Builtin.append_, run_underlying Tryd.underlying22, sizeOf, typeInfo, hi, Builtin.lenOf, Builtin.firstCells]
  · simp [Builtin.append_, run_underlying Tryd.underlying22, sizeOf, typeInfo, hi, Builtin.lenOf, Builtin.firstCells, hnc, storeCells]
/-- append([]api.Entry{}, l...): its run. -/
theorem app_all {w : World} {A : Option Addr} {n c : Nat} {es : List Ent} (h : Et w A n c es) :
    ∃ A' c' w', Hid ((Builtin.append_ #[22, 22] 22 #[.slice (some ⟨w.heap.size, 0, none⟩) 0 0, .slice A n c]).run Tryd.prog (w.alloc (.cells #[] 37)) = .ok (.slice A' n c') w') ∧ Et w' A' n c' es ∧ Below w.heap.size w w' := by
  obtain ⟨i, hi, hz0, hz1, hz2⟩ := info_parts Tryd.infoE
  have hbig := h.big
  have hrow : (w.alloc (.cells #[] 37)).ownsRow w.heap.size 37 5 (.slice (some ⟨w.heap.size, 0, none⟩) 0 0) 0 [] := World.ownsRow_made w #[] 0 (Nat.le_refl _) (by unfold maxLen; omega) (by simp)
  have hal : Below w.heap.size w (w.alloc (.cells #[] 37)) := (Below.refl _ _).alloc (Nat.le_refl _) _
  have hr := h.rd.below hal
  have own : ∀ ad, (∀ j u, (entV es)[j]? = some u → (w.alloc (.cells #[] 37)).cell? (ad.add j) = some u) → ∃ A' c' w', Hid ((Builtin.append_ #[22, 22] 22 #[.slice (some ⟨w.heap.size, 0, none⟩) 0 0, .slice (some ad) n c]).run Tryd.prog (w.alloc (.cells #[] 37)) = .ok (.slice A' n c') w') ∧ Et w' A' n c' es ∧ Below w.heap.size w w' := by
    intro ad hc
    obtain ⟨v', w1, h2, h3, h4, -⟩ := run_append_own (P := Tryd.prog) (w.alloc (.cells #[] 37)) w.heap.size 22 22 37 i _ 5 _ Tryd.underlying22 hi hz0 hz1 hz2 rfl (by decide) _ 0 [] hrow ad n c (entV es) (by rw [entV_length, h.len]) hc (entV_one es) (by unfold maxLen; omega) (by omega) (by simp)
    have hv : ∃ A' c', v' = .slice A' n c' := by
      rcases h3.2 with ⟨rfl, e⟩ | ⟨g, cap, cur, rfl, _⟩
      · exact ⟨none, 0, by rw [show n = 0 by omega]⟩
      · exact ⟨_, cap, by rw [Nat.zero_add]⟩
    obtain ⟨A', c', rfl⟩ := hv
    rw [Nat.zero_add, List.nil_append] at h3
    have hl := h.len
    subst hl
    exact ⟨A', c', w1, h2, own5_et h3 hbig h.sz, hal.grown h4 (by simp) fun j ej => (hrow.lt j ej).1⟩
  rcases hr with h0 | ⟨ad, rfl, hc⟩
  · have hg : es = [] := List.eq_nil_of_length_eq_zero (by have h5 := congrArg List.length h0; rw [entV_length, List.length_nil] at h5; omega)
    cases A with
    | none =>
      have hl := h.len
      rw [hg] at hl
      obtain rfl : n = 0 := hl.symm
      exact ⟨_, _, _, app_nilE w.heap.size _ 0 _ hrow c, by rw [hg]; exact own5_et (es := []) hrow (by decide) (by simp), hal⟩
    | some ad => exact own ad (by rw [hg]; simp [entV])
  · exact own ad hc

/-- A row that may be written on: its block lies between lo and hi. -/
def Wab (W : World) (A : Option Addr) (n lo hi : Nat) : Prop := n = 0 ∨ ∃ g cs, A = some ⟨g, 0, none⟩ ∧ lo ≤ g ∧ g < hi ∧ Blk W g cs 37 ∧ n * 5 ≤ cs.length
theorem Wab.below {W W' : World} {A : Option Addr} {n lo hi : Nat} (h : Wab W A n lo hi) (hb : Below W.heap.size W W') : Wab W' A n lo hi := h.imp id fun ⟨g, cs, h1, h2, h3, h4, h5⟩ => ⟨g, cs, h1, h2, h3, h4.below hb, h5⟩
theorem Wab.other {W : World} {A : Option Addr} {n lo hi : Nat} (h : Wab W A n lo hi) {g' : Nat} (hg : g' < lo ∨ hi ≤ g') (i : Nat) (u : Value) : Wab (W.setCell ⟨g', i, none⟩ u) A n lo hi := h.imp id fun ⟨g, cs, h1, h2, h3, h4, h5⟩ => ⟨g, cs, h1, h2, h3, h4.other (by omega) i u, h5⟩
theorem Wab.of_own {W : World} {base : Nat} {A : Option Addr} {n c : Nat} {xs : List Value} (h : W.ownsRow base 37 5 (.slice A n c) n xs) : Wab W A n base W.heap.size := by
  rcases h.2 with ⟨hv, hn⟩ | ⟨g, cap, cur, hv, hb, hg, h1, h2, h3, h4⟩
  · exact .inl hn
  · injection hv with hA hn hc
    exact .inr ⟨g, cur.toList, hA, hb, (Array.getElem?_eq_some_iff.1 hg).1, hg, by rw [Array.length_toList, h3]; omega⟩
theorem Wab.at_ {W : World} {A : Option Addr} {n lo hi : Nat} (h : Wab W A n lo hi) {j : Nat} (hj : j < n) :
    ∃ g v, A = some ⟨g, 0, none⟩ ∧ lo ≤ g ∧ g < hi ∧ W.cell? ⟨g, j * 5, none⟩ = some v ∧ W.frozen? ⟨g, j * 5, none⟩ = false ∧ ∀ u, Wab (W.setCell ⟨g, j * 5, none⟩ u) A n lo hi := by
  rcases h with h0 | ⟨g, cs, h1, h2, h3, h4, h5⟩
  · omega
  · exact ⟨g, cs[j * 5]'(by omega), h1, h2, h3, by rw [h4.cell, List.getElem?_eq_getElem], h4.frozen _, fun u => .inr ⟨g, _, h1, h2, h3, h4.set_ _ u, by rw [List.length_set]; exact h5⟩⟩

theorem rd_own5 {w : World} {base : Nat} {A : Option Addr} {n c : Nat} {es : List Ent} (h : w.ownsRow base 37 5 (.slice A n c) n (entV es)) : Rd w A (entV es) := by
  rcases h.2 with ⟨hv, hn⟩ | ⟨g, cap, cur, hv, _, _, h1, h2, _⟩
  · exact .inl (List.eq_nil_of_length_eq_zero (by rw [h.1, hn, Nat.zero_mul]))
  · injection hv with a1 a2 a3
    subst a1 a3
    exact .inr ⟨_, rfl, h.cells (g := g) rfl⟩
/-- While Scan's row and Copy's block are written on. -/
structure TS (wS : World) (hi gx n k : Nat) (A : Option Addr) (vb : Value) (bs : List Ent) (W : World) : Prop where
  a : Wab W A k wS.heap.size hi
  x : Wab W (some ⟨gx, 0, none⟩) n gx (gx + 1)
  b : W.ownsRow hi 37 5 vb k (entV bs)
  bl : Below wS.heap.size wS W
theorem TS.below {wS : World} {hi gx n k : Nat} {A : Option Addr} {vb : Value} {bs : List Ent} {W W' : World} (h : TS wS hi gx n k A vb bs W) (hb : Below W.heap.size W W') : TS wS hi gx n k A vb bs W' := ⟨h.a.below hb, h.x.below hb, own_below h.b hb, h.bl.trans (hb.mono h.bl.size)⟩
theorem TS.atA {wS : World} {hi gx n k : Nat} {A : Option Addr} {vb : Value} {bs : List Ent} {W : World} (h : TS wS hi gx n k A vb bs W) (hgx : hi ≤ gx) {j : Nat} (hj : j < k) :
    ∃ g v, A = some ⟨g, 0, none⟩ ∧ W.cell? ⟨g, j * 5, none⟩ = some v ∧ W.frozen? ⟨g, j * 5, none⟩ = false ∧ ∀ u, TS wS hi gx n k A vb bs (W.setCell ⟨g, j * 5, none⟩ u) := by
  obtain ⟨g, v, h1, h2, h3, h4, h5, h6⟩ := h.a.at_ hj
  refine ⟨g, v, h1, h4, h5, fun u => ⟨h6 u, h.x.other (.inl (by omega)) _ u, h.b.kept (grown_set (j * 5) u) (.inr fun e => ?_), h.bl.setCell (p := ⟨g, j * 5, none⟩) h2 u⟩⟩
  have := (h.b.lt g e).1
  omega
theorem TS.atX {wS : World} {hi gx n k : Nat} {A : Option Addr} {vb : Value} {bs : List Ent} {W : World} (h : TS wS hi gx n k A vb bs W) (hlo : wS.heap.size ≤ gx) (hgx : hi ≤ gx) (hbk : ∀ i, vb.ownBlock = some i → i < gx) {j : Nat} (hj : j < n) :
    ∃ v, W.cell? ⟨gx, j * 5, none⟩ = some v ∧ W.frozen? ⟨gx, j * 5, none⟩ = false ∧ ∀ u, TS wS hi gx n k A vb bs (W.setCell ⟨gx, j * 5, none⟩ u) := by
  obtain ⟨g, v, h1, h2, h3, h4, h5, h6⟩ := h.x.at_ hj
  obtain rfl : g = gx := by omega
  refine ⟨v, h4, h5, fun u => ⟨h.a.other (.inr hgx) _ u, h6 u, h.b.kept (grown_set (j * 5) u) (.inr fun e => ?_), h.bl.setCell (p := ⟨g, j * 5, none⟩) hlo u⟩⟩
  have := hbk g e
  omega

set_option maxRecDepth 20000 in
set_option maxHeartbeats 8000000 in
theorem scanTells_walk (A : Option Addr) (c : Nat) (es : List Ent) (B : Option Addr) (d : Nat) (fs : List Fil) (a : Int) (p : ByteArray) (w : World) (hr : Rd w A (entV es)) (hlc : es.length ≤ c) (hc : c ≤ maxLen) (_ : True) (hr2 : Rd w B (filV fs)) (hlc2 : fs.length ≤ d) (hc2 : d ≤ maxLen) (_ : True) (_ : (Lit.int .i64 a).wf = true) (hp : p.size ≤ 140737488351232) :
    Calls Tryd.prog 3 #[.slice A es.length c, .slice B fs.length d, .int .i64 a, .string p] w fun e w' => e = .returned (.bool true) ∧ Below w.heap.size w w' := by
  generalize hl : es.length = n at *
  generalize hl2 : fs.length = m at *
  go_enter Tryd.func3, Tryd.ntmps3
  go_wp2_with fail
  refine (small_any _).mono ?_
  rintro e w1 ⟨rfl, b1⟩
  go_wp2_with fail
  refine (few9_any A n c es _ hl (hr.below b1)).mono ?_
  rintro e wx ⟨rfl, rfl⟩
  go_wp2_with fail
  refine (few_any B m d fs _ hl2 (hr2.below b1)).mono ?_
  rintro e wx ⟨rfl, rfl⟩
  cases hf : few9 es
  · go_wp2
    go_ret
    exact ⟨rfl, b1⟩
  cases hf2 : fewB fs
  · go_wp2
    go_ret
    exact ⟨rfl, b1⟩
  by_cases hp1 : (100 : Int) < p.size
  · go_wp2
    go_ret
    exact ⟨rfl, b1⟩
  have E1 := few9_et hf hl (hr.below b1) hlc hc
  have F1 := few_ft hf2 hl2 (hr2.below b1) hlc2 hc2
  have hn60 : n ≤ 60 := by have := (few9_sz hf).1; omega
  have hm40 : m ≤ 40 := by have := (few_sz hf2).1; omega
  clear hf hr hf2 hr2
  have hl100 := hp1
  obtain ⟨A2, c2, w2, HRUN, I2, hb2⟩ := app_all E1
  have E2 := E1.below hb2
  have F2 := F1.below hb2
  have b2 := below2 b1 hb2
  clear hb2 b1 F1 E1
  go_wp2_with (at_builtin; refine Lib.wpList_append_run _ rfl _ _ _ _ rfl _ _ rfl rfl _ _ HRUN.out ?_)
  refine (scan_any I2 F2 a).mono ?_
  rintro e w3 ⟨A3, c3, B3, d3, rfl, o3, s3, bS3⟩
  have hk32 := scanA_len es fs a
  have hc32 := scanC_len es fs a
  have E3 := E2.below bS3
  have F3 := F2.below bS3
  have wa3 := Wab.of_own o3
  have ra3 := rd_own5 o3
  have rs3 := Rd.of_own s3
  have k4 := rscan_any E3 F3 a (by omega) (by omega)
  unfold ScanPost at k4
  clear o3 s3 F2 F3
  generalize scanA es fs a = as_ at *
  generalize scanC es fs a = cs at *
  generalize scanN es fs a = sn at *
  generalize hla : as_.length = na at *
  generalize hlcs : cs.length = nc at *
  have HLA := hid hla
  have HLC := hid hlcs
  have HLE := hid hl
  clear hla hlcs hl hl2
  go_wp2_with fail
  refine k4.mono ?_
  rintro e w4 ⟨A4, c4, B4, d4, rfl, o4, s4, hb4⟩
  have HBK : Hid (∀ i, (Value.slice A4 na c4).ownBlock = some i → i < w4.heap.size) := fun i hi => (o4.lt i hi).2
  have bS4 := below2 bS3 hb4
  have wa4 := wa3.below hb4
  have ra4 := ra3.below hb4
  have rs34 := rs3.below hb4
  have rs4 := Rd.of_own s4
  have I4 := I2.below bS4
  have HS3 := hid hb4.size
  have HS4 := hid bS4.size
  clear k4 s4 hb4 wa3 ra3 rs3 bS3 E3
  have k5 := copy_any I4
  go_wp2_with fail
  refine k5.mono ?_
  rintro e w5 ⟨rfl, x5, hb5⟩
  have o5 := own_below o4 hb5
  have wa5 := wa4.below hb5
  have ra5 := ra4.below hb5
  have rs35 := rs34.below hb5
  have rs45 := rs4.below hb5
  have bS5 := below2 bS4 hb5
  have E5 := E2.below bS5
  have rb5 := rd_own5 o5
  have rx5 : Rd w5 (some ⟨w4.heap.size, 0, none⟩) (entV es) := .inr ⟨_, rfl, fun j u hu => by rw [Addr.add_lit, Nat.zero_add, x5.cell]; exact hu⟩
  have wx5 : Wab w5 (some ⟨w4.heap.size, 0, none⟩) n w4.heap.size (w4.heap.size + 1) := .inr ⟨_, _, rfl, Nat.le_refl _, Nat.lt_succ_self _, x5, by rw [entV_length, HLE.out]; exact Nat.le_refl _⟩
  clear k5 o4 wa4 ra4 rs34 rs4 bS4 hb5 x5 I4
  generalize w4.heap.size = gx at *
  have T5 : TS w2 w3.heap.size gx n na A3 (.slice A4 na c4) as_ w5 := ⟨wa5, wx5, o5, bS5⟩
  clear wa5 wx5 o5 bS5
  have k6 := rsame_any (c := c3) (d := c4) HLA.out ra5 HLA.out rb5 (by omega)
  rw [decide_eq_true (rfl : as_ = as_)] at k6
  clear ra5 rb5
  go_wp2_with fail
  refine k6.mono ?_
  rintro e w6 ⟨rfl, hb6⟩
  have k7 := rows_same B3 B4 nc d3 d4 cs w6 HLC.out (by omega) (rs35.below hb6) (rs45.below hb6)
  have T6 := T5.below hb6
  have rx6 := rx5.below hb6
  have E6 := E5.below hb6
  clear k6 T5 rx5 E5 rs35 rs45 hb6
  go_wp2_with fail
  refine k7.mono ?_
  rintro e w7 ⟨rfl, hb7⟩
  have T7 := T6.below hb7
  have k8 := rsame_any (c := n) (d := c) HLE.out (rx6.below hb7) HLE.out (E6.below hb7).rd (by omega)
  rw [decide_eq_true (rfl : es = es)] at k8
  clear k7 T6 rx6 E6 hb7
  go_wp2_with fail
  refine k8.mono ?_
  rintro e w8 ⟨rfl, hb8⟩
  have T8 := T7.below hb8
  clear k8 T7 hb8
  go_wp2_with fail
  go_loopw [21] (fun i wr => ∃ j : Nat, j ≤ na ∧ i = .int .i64 j ∧ TS w2 w3.heap.size gx n na A3 (.slice A4 na c4) as_ wr) (fun i _ => na - (intOf i).toNat)
  case atStart => exact ⟨0, by omega, rfl, T8⟩
  case round =>
    obtain ⟨j, hj, rfl, hT⟩ := hrel
    by_cases hjn : j < na
    · have hz : (0 : Int) ≤ j := by omega
      have hlt : (j : Int) < na := by omega
      obtain ⟨g, v, rfl, y0, y1, hT2⟩ := hT.atA HS3.out hjn
      have T9 := hT2 (.string ⟨#[115, 112, 111, 105, 108, 116]⟩)
      clear hT hT2
      go_wp2
      go_roundw
      case rel => exact ⟨j + 1, by omega, by go_num, T9⟩
      case measure => simp [intOf]; omega
    · have hnlt : ¬ (j : Int) < na := by omega
      clear T8
      go_wp2_with fail
      go_loopw [22] (fun i wr => ∃ j : Nat, j ≤ n ∧ i = .int .i64 j ∧ TS w2 w3.heap.size gx n na A3 (.slice A4 na c4) as_ wr) (fun i _ => n - (intOf i).toNat)
      case atStart => exact ⟨0, by omega, rfl, hT⟩
      case round =>
        clear hT hnlt hjn hj
        obtain ⟨j, hj, rfl, hT⟩ := hrel
        by_cases hjn : j < n
        · have hz : (0 : Int) ≤ j := by omega
          have hlt : (j : Int) < n := by omega
          obtain ⟨v, y0, y1, hT2⟩ := hT.atX HS4.out HS3.out HBK.out hjn
          have T9 := hT2 (.string ⟨#[115, 112, 111, 105, 108, 116]⟩)
          clear hT hT2
          go_wp2
          go_roundw
          case rel => exact ⟨j + 1, by omega, by go_num, T9⟩
          case measure => simp [intOf]; omega
        · have hnlt : ¬ (j : Int) < n := by omega
          have E9 := E2.below hT.bl
          have I9 := I2.below hT.bl
          have rb9 := rd_own5 hT.b
          have b9 := below2 b2 hT.bl
          have k1 := rsame_any (c := c2) (d := c) HLE.out I9.rd HLE.out E9.rd (by omega)
          rw [decide_eq_true (rfl : es = es)] at k1
          clear hT I9 E2 I2 b2
          go_wp2_with fail
          refine k1.mono ?_
          rintro e v1 ⟨rfl, hb1⟩
          have E1 := E9.below hb1
          have rb1 := rb9.below hb1
          have b1 := below2 b9 hb1
          clear k1 E9 rb9 b9 hb1
          have k2 := archR_any E1
          have k3 := fun W (h : Et W A n c es) => rright9_any h
          generalize archR es = ra at k2 k3
          go_wp2_with fail
          refine k2.mono ?_
          rintro e v2 ⟨rfl, hb2⟩
          have E2 := E1.below hb2
          have rb2 := rb1.below hb2
          have b2 := below2 b1 hb2
          clear k2 E1 rb1 b1 hb2
          go_wp2_with fail
          refine (k3 _ E2).mono ?_
          rintro e v3 ⟨rfl, hb3⟩
          have E3 := E2.below hb3
          have rb3 := rb2.below hb3
          have b3 := below2 b2 hb3
          clear k3 E2 rb2 b2 hb3
          have k4 := findE_any E3 p
          have k5 := fun W (h : Et W A n c es) => rfind9_any h p
          generalize findE es p = fi at k4 k5
          go_wp2_with fail
          refine k4.mono ?_
          rintro e v4 ⟨rfl, hb4⟩
          have E4 := E3.below hb4
          have rb4 := rb3.below hb4
          have b4 := below2 b3 hb4
          clear k4 E3 rb3 b3 hb4
          go_wp2_with fail
          refine (k5 _ E4).mono ?_
          rintro e v5 ⟨rfl, hb5⟩
          have E5 := E4.below hb5
          have rb5 := rb4.below hb5
          have b5 := below2 b4 hb5
          clear k5 E4 rb4 b4 hb5
          have k6 := treeE_any E5
          have k7 := fun W (h : Et W A n c es) => rtree9_any h
          generalize treeE es = tr at k6 k7
          generalize tr.length = nt at k6 k7
          go_wp2_with fail
          refine k6.mono ?_
          rintro e v6 ⟨B6, d6, rfl, F6, hb6⟩
          have E6 := E5.below hb6
          have rb6 := rb5.below hb6
          have b6 := below2 b5 hb6
          clear k6 E5 rb5 b5 hb6
          go_wp2_with fail
          refine (k7 _ E6).mono ?_
          rintro e v7 ⟨B7, d7, rfl, F7, hb7⟩
          have E7 := E6.below hb7
          have F67 := F6.below hb7
          have rb7 := rb6.below hb7
          have b7 := below2 b6 hb7
          clear k7 E6 rb6 b6 hb7 F6
          have k8 := refSame F67 F7
          rw [decide_eq_true (rfl : tr = tr)] at k8
          go_wp2_with fail
          refine k8.mono ?_
          rintro e v8 ⟨rfl, hb8⟩
          have E8 := E7.below hb8
          have rb8 := rb7.below hb8
          have b8 := below2 b7 hb8
          clear k8 E7 rb7 b7 hb8 F67 F7
          have k9 := sameE_any (c := c) (d := c4) HLE.out E8.rd HLA.out rb8 (by omega)
          have k10 := fun W (h : Rd W A (entV es)) (h2 : Rd W A4 (entV as_)) => rsame_any (c := c) (d := c4) HLE.out h HLA.out h2 (by omega)
          generalize decide (es = as_) = sb at k9 k10
          go_wp2_with fail
          refine k9.mono ?_
          rintro e v9 ⟨rfl, hb9⟩
          have E9 := E8.below hb9
          have rb9 := rb8.below hb9
          have b9 := below2 b8 hb9
          clear k9 E8 rb8 b8 hb9
          go_wp2_with fail
          refine (k10 _ E9.rd rb9).mono ?_
          rintro e v10 ⟨rfl, hb10⟩
          have b10 := below2 b9 hb10
          clear k10 E9 rb9 b9 hb10
          go_wp2
          go_ret
          exact ⟨rfl, b10⟩
end Go.Proofs.YtnkkjedckehoaaaDoor
