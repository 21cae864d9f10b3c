/- The texts Eu, in one. -/
import Derived.Test.YtgafjbmpaeejbaaDoorQ1
namespace Go.Proofs.YtgafjbmpaeejbaaDoor
open Go.RowKit

/-- What the document's reader takes at most. -/
abbrev L1 : Lim := ⟨4294967295, 4294967295, 4294967295, 4294967295, 4294967295, 4294967295, 4294967295, 32, 100, 1, 4294967295, 4294967295, 4294967295, 4294967295, 10, 4294967295⟩
theorem L1_ok : L1.Ok := by constructor <;> decide
def rPc1 (l : List UInt8) (p : Nat) (e : Int) : Pce × Nat × Int :=
  let a := rStr l p e 100
  let b := rNum l a.2.1 a.2.2 1
  let c := rNum l b.2.1 b.2.2 4294967295
  let d := rNum l c.2.1 c.2.2 4294967295
  let f := rNum l d.2.1 d.2.2 4294967295
  let g := rNum l f.2.1 f.2.2 4294967295
  (⟨toS a.1, decide (b.1 = 1), c.1, [], d.1, f.1, g.1⟩, g.2)
theorem rPce_pc1 (l : List UInt8) (p : Nat) (e : Int) : rPce L1 l p e =
    ({ (rPc1 l p e).1 with chunks := (rInts l (rNum l (rPc1 l p e).2.1 (rPc1 l p e).2.2 10).2.1 (rNum l (rPc1 l p e).2.1 (rPc1 l p e).2.2 10).2.2 4294967295 (rNum l (rPc1 l p e).2.1 (rPc1 l p e).2.2 10).1.toNat).1 },
      (rInts l (rNum l (rPc1 l p e).2.1 (rPc1 l p e).2.2 10).2.1 (rNum l (rPc1 l p e).2.1 (rPc1 l p e).2.2 10).2.2 4294967295 (rNum l (rPc1 l p e).2.1 (rPc1 l p e).2.2 10).1.toNat).2) := rfl
theorem ref_lt {w : World} {g : Nat} {A : Option Addr} {c : Nat} {l : List UInt8} {p : Nat} {e : Int} (h : RefAt w g A c l p e) : g < w.heap.size := Blk.lt h.1
theorem pce_e1 {M : List UInt8} {p : Nat} {e : Int} (h : (rPce L1 M p e).2.2 = 0) : e = 0 := (pce_one L1_ok h).1
theorem pces_e1 {M : List UInt8} {p : Nat} {e : Int} : ∀ k j, j ≤ k → (rPces L1 M p e k).2.2 = 0 → (rPces L1 M p e j).2.2 = 0
  | 0, j, hj, h => by
    have : j = 0 := by omega
    subst this; exact h
  | k + 1, j, hj, h => by
    by_cases e : j = k + 1
    · subst e; exact h
    · rw [rPces] at h
      exact pces_e1 k j (by omega) (pce_e1 h)
/-- What the whole comes to, by its parts. -/
theorem rMan_parts1 {l : List UInt8} {v1 v2 v3 v4 v5 v6 v7 : Int} {q : Nat} {e : Int} (h : rInts l 0 0 4294967295 7 = ([v1, v2, v3, v4, v5, v6, v7], q, e)) :
    rMan L1 l = (⟨v1, v2, v3, v4, v5, v6, v7, (rPces L1 l (rNum l q e 32).2.1 (rNum l q e 32).2.2 (rNum l q e 32).1.toNat).1⟩, (rPces L1 l (rNum l q e 32).2.1 (rNum l q e 32).2.2 (rNum l q e 32).1.toNat).2) := by
  simp only [rInts, List.nil_append, List.cons_append, Prod.mk.injEq, List.cons.injEq, and_true] at h
  obtain ⟨⟨h1, h2, h3, h4, h5, h6, h7⟩, h8⟩ := h
  unfold rMan
  dsimp only
  rw [h8]
  dsimp only
  subst h1 h2 h3 h4 h5 h6 h7
  rfl
theorem read_bad2 {l : List UInt8} (h : (rMan L1 l).2.2 ≠ 0) : readN L1 l = 4 := by
  refine (read_no fun k => ?_).1
  exact h (rEnd_zero.1 (readN_zero.1 k).1).1

theorem ref_turnM {w w' : World} {g : Nat} {A : Option Addr} {c : Nat} {l : List UInt8} {p : Nat} {e : Int} (h : RefAt w g A c l p e) {b : Nat} {v1 v2 v3 v4 v5 v6 v7 : Int} {B : Option Addr} {n d : Nat} (hB : Blk w b [.int .i64 v1, .int .i64 v2, .int .i64 v3, .int .i64 v4, .int .i64 v5, .int .i64 v6, .int .i64 v7, .slice B n d] 24) (hg : w.grownBy w' (some b)) (hne : b ≠ g) : RefAt w' g A c l p e := by
  obtain ⟨h0, hr, h1, h2, h3⟩ := h
  refine ⟨h0.grown hg (by intro e; injection e with e; exact hne e), hr.grown hg fun o u hu hm => ?_, h1, h2, h3⟩
  obtain ⟨x, -, rfl⟩ := List.mem_map.1 hm
  rw [hB.cell o] at hu
  have := List.mem_of_getElem? hu
  simp at this
/-- What holds where the document reads pieces. -/
def RfSt (w wB wr : World) (g gm gz : Nat) (A : Option Addr) (c : Nat) (l : List UInt8) (v1 v2 v3 v4 v5 v6 v7 : Int) (p0 : Nat) (e0 : Int) (j : Nat) : Prop :=
  ∃ (xs : List Pw) (pj : Nat) (ej : Int) (B : Option Addr) (d : Nat), Hid (rPces L1 l p0 e0 j = (pcesOf xs, pj, ej)) ∧ RefAt wr g A c l pj ej ∧ Blk wr gm [.int .i64 v1, .int .i64 v2, .int .i64 v3, .int .i64 v4, .int .i64 v5, .int .i64 v6, .int .i64 v7, .slice B j d] 24 ∧ Blk wr gz [.int .i64 0, .int .i64 0, .int .i64 0, .int .i64 0, .int .i64 0, .int .i64 0, .int .i64 0, .slice none 0 0] 24 ∧
    OwnP wB.heap.size wr B j d xs ∧ Hid (∀ x ∈ xs, OwnC wB.heap.size wr x) ∧ Hid (∀ x ∈ xs, x.p.path.size ≤ 16384) ∧ Below w.heap.size w wr ∧ wB.heap.size ≤ wr.heap.size

set_option maxHeartbeats 8000000 in
set_option maxRecDepth 20000 in
theorem rread12_any (s : ByteArray) (w : World) (hs : s.size ≤ 1000000000) :
    Calls Tryd.prog 23 #[.string s] w (ReadPost w (readN L1 s.data.toList) (readA L1 s.data.toList)) := by
  have hal : ∀ (W : World) (o : Obj), Below W.heap.size W (W.alloc o) := fun W o => (Below.refl _ _).alloc (Nat.le_refl _) o
  have bz := hal w (.cells #[.int .i64 0, .int .i64 0, .int .i64 0, .int .i64 0, .int .i64 0, .int .i64 0, .int .i64 0, .slice none 0 0] 24)
  have kz := Blk.new w [.int .i64 0, .int .i64 0, .int .i64 0, .int .i64 0, .int .i64 0, .int .i64 0, .int .i64 0, .slice none 0 0] 24
  obtain ⟨cq, wc, hcq1, hcq2, hconv, hby, bc⟩ := conv_bytesC s (w.alloc (.cells #[.int .i64 0, .int .i64 0, .int .i64 0, .int .i64 0, .int .i64 0, .int .i64 0, .int .i64 0, .slice none 0 0] 24)) (by omega)
  have HL : Hid (s.data.toList.length = s.size) := size_list s
  have HL9 : Hid (s.data.toList.length ≤ 140737488355328) := by show _ ≤ _; rw [HL.out]; omega
  have HQ := hid (readN_zero (L := L1) (M := s.data.toList))
  have HA : Hid (readA L1 s.data.toList = if readN L1 s.data.toList = 0 then (rMan L1 s.data.toList).1 else zeroM) := rfl
  have hrB := Bytes8.rd hby
  have hcL : s.data.toList.length ≤ cq := by rw [HL.out]; exact hcq1
  rw [World.size_alloc] at hrB
  generalize s.data.toList = l at *
  rw [← HL.out] at hconv
  have kz1 := kz.below bc
  have bw1 := bz.trans (bc.mono bz.size)
  have hgz : w.heap.size < wc.heap.size := by have := kz1.lt; omega
  have bg := hal wc (.cells #[.slice (some ⟨w.heap.size + 1, 0, none⟩) l.length cq, .int .i64 0, .int .i64 0] 75)
  have q1 : RefAt (wc.alloc (.cells #[.slice (some ⟨w.heap.size + 1, 0, none⟩) l.length cq, .int .i64 0, .int .i64 0] 75)) wc.heap.size (some ⟨w.heap.size + 1, 0, none⟩) cq l 0 0 := ⟨Blk.new wc [.slice (some ⟨w.heap.size + 1, 0, none⟩) l.length cq, .int .i64 0, .int .i64 0] 75, hrB.below bg, hcL, hcq2, Nat.zero_le _⟩
  have kzA := kz1.below bg
  have bwA := bw1.trans (bg.mono bw1.size)
  clear kz bz kz1 bw1 hrB
  go_enter Tryd.func23, Tryd.ntmps23
  go_wp2_with fail
  generalize wc.alloc (.cells #[.slice (some ⟨w.heap.size + 1, 0, none⟩) l.length cq, .int .i64 0, .int .i64 0] 75) = wA at *
  generalize wc.heap.size = g at *
  generalize (some ⟨w.heap.size + 1, 0, none⟩ : Option Addr) = A at *
  have hgw : w.heap.size < g := hgz
  clear hgz bc hby hconv bg
  have cN := refRNumber g A cq l 0 0 4294967295 wA q1 HL9.out
  obtain ⟨⟨v1, p1, e1⟩, H1⟩ : ∃ z, rNum l 0 0 4294967295 = z := ⟨_, rfl⟩
  rw [H1] at cN
  have HN1 := hid H1
  clear H1
  refine cN.mono ?_
  rintro r x1 ⟨rfl, y1, hg⟩
  simp only
  clear cN
  have kz1 := kzA.grown hg (by intro e; injection e with e; omega)
  have bw1 := bwA.trans (below_grown bwA.size (far_row (by omega)) hg)
  have hgl := ref_lt y1
  have bm := hal x1 (.cells #[.int .i64 v1, .int .i64 0, .int .i64 0, .int .i64 0, .int .i64 0, .int .i64 0, .int .i64 0, .slice none 0 0] 24)
  have km1 := Blk.new x1 [.int .i64 v1, .int .i64 0, .int .i64 0, .int .i64 0, .int .i64 0, .int .i64 0, .int .i64 0, .slice none 0 0] 24
  have yB := y1
  have z1 := y1.below bm
  have kzz1 := kz1.below bm
  have bww1 := bw1.trans (bm.mono bw1.size)
  have hgmz : w.heap.size < x1.heap.size := by omega
  have hgmg : x1.heap.size ≠ g := by omega
  have hsB : x1.heap.size ≤ (x1.alloc (.cells #[.int .i64 v1, .int .i64 0, .int .i64 0, .int .i64 0, .int .i64 0, .int .i64 0, .int .i64 0, .slice none 0 0] 24)).heap.size := bm.size
  clear hg bm kz1 bw1 y1 kzA bwA q1
  go_wp2_with fail
  generalize x1.alloc (.cells #[.int .i64 v1, .int .i64 0, .int .i64 0, .int .i64 0, .int .i64 0, .int .i64 0, .int .i64 0, .slice none 0 0] 24) = X1 at *
  obtain ⟨gm, hgm⟩ : ∃ gm, gm = x1.heap.size := ⟨_, rfl⟩
  rw [← hgm] at km1 hgmz hgmg ⊢
  have hgm2 : x1.heap.size ≤ gm := by omega
  clear hgm
  have cN := refRNumber g A cq l p1 e1 4294967295 X1 z1 HL9.out
  obtain ⟨⟨v2, p2, e2⟩, H2⟩ : ∃ z, rNum l p1 e1 4294967295 = z := ⟨_, rfl⟩
  rw [H2] at cN
  have HN2 := hid H2
  clear H2
  go_wp2_with fail
  refine cN.mono ?_
  rintro r x2 ⟨rfl, y2, hg⟩
  simp only
  clear cN
  have kmk := km1.grown hg (by intro e; injection e with e; omega)
  have kzk := kzz1.grown hg (by intro e; injection e with e; omega)
  have bwk := bww1.trans (below_grown bww1.size (far_row (by omega)) hg)
  have hsk := Nat.le_trans hsB hg.size
  have gs : x2.grownBy (x2.setCell ⟨gm, 1, none⟩ (.int .i64 v2)) (some gm) := grown_set _ _
  have c1 := kmk.cell 1
  have f1 := kmk.frozen 1
  simp only [List.getElem?_cons_zero, List.getElem?_cons_succ] at c1
  have kmm2 := kmk.set_ 1 (.int .i64 v2)
  simp only [List.set_cons_zero, List.set_cons_succ] at kmm2
  have kzz2 := kzk.grown gs (by intro e; injection e with e; omega)
  have z2 := RefAt.far yB y2 gs hsk (far_row hgm2)
  have bww2 := bwk.setCell (p := ⟨gm, 1, none⟩) (Nat.le_of_lt hgmz) (.int .i64 v2)
  replace hsB := Nat.le_trans hsk gs.size
  clear kmk kzk bwk hsk gs hg y2 km1 kzz1 bww1 z1
  go_wp2_with fail
  generalize x2.setCell ⟨gm, 1, none⟩ (.int .i64 v2) = X2 at *
  clear c1 f1
  have cN := refRNumber g A cq l p2 e2 4294967295 X2 z2 HL9.out
  obtain ⟨⟨v3, p3, e3⟩, H3⟩ : ∃ z, rNum l p2 e2 4294967295 = z := ⟨_, rfl⟩
  rw [H3] at cN
  have HN3 := hid H3
  clear H3
  refine cN.mono ?_
  rintro r x3 ⟨rfl, y3, hg⟩
  simp only
  clear cN
  have kmk := kmm2.grown hg (by intro e; injection e with e; omega)
  have kzk := kzz2.grown hg (by intro e; injection e with e; omega)
  have bwk := bww2.trans (below_grown bww2.size (far_row (by omega)) hg)
  have hsk := Nat.le_trans hsB hg.size
  have gs : x3.grownBy (x3.setCell ⟨gm, 2, none⟩ (.int .i64 v3)) (some gm) := grown_set _ _
  have c2 := kmk.cell 2
  have f2 := kmk.frozen 2
  simp only [List.getElem?_cons_zero, List.getElem?_cons_succ] at c2
  have kmm3 := kmk.set_ 2 (.int .i64 v3)
  simp only [List.set_cons_zero, List.set_cons_succ] at kmm3
  have kzz3 := kzk.grown gs (by intro e; injection e with e; omega)
  have z3 := RefAt.far yB y3 gs hsk (far_row hgm2)
  have bww3 := bwk.setCell (p := ⟨gm, 2, none⟩) (Nat.le_of_lt hgmz) (.int .i64 v3)
  replace hsB := Nat.le_trans hsk gs.size
  clear kmk kzk bwk hsk gs hg y3 kmm2 kzz2 bww2 z2
  go_wp2_with fail
  generalize x3.setCell ⟨gm, 2, none⟩ (.int .i64 v3) = X3 at *
  clear c2 f2
  have cN := refRNumber g A cq l p3 e3 4294967295 X3 z3 HL9.out
  obtain ⟨⟨v4, p4, e4⟩, H4⟩ : ∃ z, rNum l p3 e3 4294967295 = z := ⟨_, rfl⟩
  rw [H4] at cN
  have HN4 := hid H4
  clear H4
  refine cN.mono ?_
  rintro r x4 ⟨rfl, y4, hg⟩
  simp only
  clear cN
  have kmk := kmm3.grown hg (by intro e; injection e with e; omega)
  have kzk := kzz3.grown hg (by intro e; injection e with e; omega)
  have bwk := bww3.trans (below_grown bww3.size (far_row (by omega)) hg)
  have hsk := Nat.le_trans hsB hg.size
  have gs : x4.grownBy (x4.setCell ⟨gm, 3, none⟩ (.int .i64 v4)) (some gm) := grown_set _ _
  have c3 := kmk.cell 3
  have f3 := kmk.frozen 3
  simp only [List.getElem?_cons_zero, List.getElem?_cons_succ] at c3
  have kmm4 := kmk.set_ 3 (.int .i64 v4)
  simp only [List.set_cons_zero, List.set_cons_succ] at kmm4
  have kzz4 := kzk.grown gs (by intro e; injection e with e; omega)
  have z4 := RefAt.far yB y4 gs hsk (far_row hgm2)
  have bww4 := bwk.setCell (p := ⟨gm, 3, none⟩) (Nat.le_of_lt hgmz) (.int .i64 v4)
  replace hsB := Nat.le_trans hsk gs.size
  clear kmk kzk bwk hsk gs hg y4 kmm3 kzz3 bww3 z3
  go_wp2_with fail
  generalize x4.setCell ⟨gm, 3, none⟩ (.int .i64 v4) = X4 at *
  clear c3 f3
  have cN := refRNumber g A cq l p4 e4 4294967295 X4 z4 HL9.out
  obtain ⟨⟨v5, p5, e5⟩, H5⟩ : ∃ z, rNum l p4 e4 4294967295 = z := ⟨_, rfl⟩
  rw [H5] at cN
  have HN5 := hid H5
  clear H5
  refine cN.mono ?_
  rintro r x5 ⟨rfl, y5, hg⟩
  simp only
  clear cN
  have kmk := kmm4.grown hg (by intro e; injection e with e; omega)
  have kzk := kzz4.grown hg (by intro e; injection e with e; omega)
  have bwk := bww4.trans (below_grown bww4.size (far_row (by omega)) hg)
  have hsk := Nat.le_trans hsB hg.size
  have gs : x5.grownBy (x5.setCell ⟨gm, 4, none⟩ (.int .i64 v5)) (some gm) := grown_set _ _
  have c4 := kmk.cell 4
  have f4 := kmk.frozen 4
  simp only [List.getElem?_cons_zero, List.getElem?_cons_succ] at c4
  have kmm5 := kmk.set_ 4 (.int .i64 v5)
  simp only [List.set_cons_zero, List.set_cons_succ] at kmm5
  have kzz5 := kzk.grown gs (by intro e; injection e with e; omega)
  have z5 := RefAt.far yB y5 gs hsk (far_row hgm2)
  have bww5 := bwk.setCell (p := ⟨gm, 4, none⟩) (Nat.le_of_lt hgmz) (.int .i64 v5)
  replace hsB := Nat.le_trans hsk gs.size
  clear kmk kzk bwk hsk gs hg y5 kmm4 kzz4 bww4 z4
  go_wp2_with fail
  generalize x5.setCell ⟨gm, 4, none⟩ (.int .i64 v5) = X5 at *
  clear c4 f4
  have cN := refRNumber g A cq l p5 e5 4294967295 X5 z5 HL9.out
  obtain ⟨⟨v6, p6, e6⟩, H6⟩ : ∃ z, rNum l p5 e5 4294967295 = z := ⟨_, rfl⟩
  rw [H6] at cN
  have HN6 := hid H6
  clear H6
  refine cN.mono ?_
  rintro r x6 ⟨rfl, y6, hg⟩
  simp only
  clear cN
  have kmk := kmm5.grown hg (by intro e; injection e with e; omega)
  have kzk := kzz5.grown hg (by intro e; injection e with e; omega)
  have bwk := bww5.trans (below_grown bww5.size (far_row (by omega)) hg)
  have hsk := Nat.le_trans hsB hg.size
  have gs : x6.grownBy (x6.setCell ⟨gm, 5, none⟩ (.int .i64 v6)) (some gm) := grown_set _ _
  have c5 := kmk.cell 5
  have f5 := kmk.frozen 5
  simp only [List.getElem?_cons_zero, List.getElem?_cons_succ] at c5
  have kmm6 := kmk.set_ 5 (.int .i64 v6)
  simp only [List.set_cons_zero, List.set_cons_succ] at kmm6
  have kzz6 := kzk.grown gs (by intro e; injection e with e; omega)
  have z6 := RefAt.far yB y6 gs hsk (far_row hgm2)
  have bww6 := bwk.setCell (p := ⟨gm, 5, none⟩) (Nat.le_of_lt hgmz) (.int .i64 v6)
  replace hsB := Nat.le_trans hsk gs.size
  clear kmk kzk bwk hsk gs hg y6 kmm5 kzz5 bww5 z5
  go_wp2_with fail
  generalize x6.setCell ⟨gm, 5, none⟩ (.int .i64 v6) = X6 at *
  clear c5 f5
  have cN := refRNumber g A cq l p6 e6 4294967295 X6 z6 HL9.out
  obtain ⟨⟨v7, p7, e7⟩, H7⟩ : ∃ z, rNum l p6 e6 4294967295 = z := ⟨_, rfl⟩
  rw [H7] at cN
  have HN7 := hid H7
  clear H7
  refine cN.mono ?_
  rintro r x7 ⟨rfl, y7, hg⟩
  simp only
  clear cN
  have kmk := kmm6.grown hg (by intro e; injection e with e; omega)
  have kzk := kzz6.grown hg (by intro e; injection e with e; omega)
  have bwk := bww6.trans (below_grown bww6.size (far_row (by omega)) hg)
  have hsk := Nat.le_trans hsB hg.size
  have gs : x7.grownBy (x7.setCell ⟨gm, 6, none⟩ (.int .i64 v7)) (some gm) := grown_set _ _
  have c6 := kmk.cell 6
  have f6 := kmk.frozen 6
  simp only [List.getElem?_cons_zero, List.getElem?_cons_succ] at c6
  have kmm7 := kmk.set_ 6 (.int .i64 v7)
  simp only [List.set_cons_zero, List.set_cons_succ] at kmm7
  have kzz7 := kzk.grown gs (by intro e; injection e with e; omega)
  have z7 := RefAt.far yB y7 gs hsk (far_row hgm2)
  have bww7 := bwk.setCell (p := ⟨gm, 6, none⟩) (Nat.le_of_lt hgmz) (.int .i64 v7)
  replace hsB := Nat.le_trans hsk gs.size
  clear kmk kzk bwk hsk gs hg y7 kmm6 kzz6 bww6 z6
  go_wp2_with fail
  generalize x7.setCell ⟨gm, 6, none⟩ (.int .i64 v7) = X7 at *
  clear c6 f6
  have HI : Hid (rInts l 0 0 4294967295 7 = ([v1, v2, v3, v4, v5, v6, v7], p7, e7)) := by
    show _ = _
    simp only [rInts, HN1.out, HN2.out, HN3.out, HN4.out, HN5.out, HN6.out, HN7.out]
    rfl
  have HP := hid (rMan_parts1 HI.out)
  clear HI HN1 HN2 HN3 HN4 HN5 HN6 HN7
  refine (refRNumber g A cq l p7 e7 32 X7 z7 HL9.out).mono ?_
  rintro r w5 ⟨rfl, q5, hg5⟩
  simp only
  have km5 := kmm7.grown hg5 (by intro e; injection e with e; omega)
  have kz5 := kzz7.grown hg5 (by intro e; injection e with e; omega)
  have bw5 := bww7.trans (below_grown bww7.size (far_row (by omega)) hg5)
  obtain ⟨n, HN, hn⟩ := rNum_le l p7 e7 32 (by omega)
  rw [HN]
  rw [HN] at HP
  rw [Int.toNat_natCast] at HP
  generalize (rNum l p7 e7 32).2.1 = p0 at *
  generalize (rNum l p7 e7 32).2.2 = e0 at *
  have hgB := ref_lt q5
  have hmB := km5.lt
  have hzB := kz5.lt
  clear kzz7 kmm7 z7 hg5 bww7 HN yB hsB hgm2 hgl
  obtain ⟨wB, hwB⟩ : ∃ wB, wB = w5 := ⟨_, rfl⟩
  have qB : RefAt wB g A cq l p0 e0 := by rw [hwB]; exact q5
  have hst : RfSt w wB w5 g gm w.heap.size A cq l v1 v2 v3 v4 v5 v6 v7 p0 e0 0 := ⟨[], p0, e0, none, 0, rfl, q5, km5, kz5, OwnP.nil _ _, hid (by simp), hid (by simp), bw5, by rw [hwB]; exact Nat.le_refl _⟩
  rw [← hwB] at hgB hmB hzB
  have hn32 : n ≤ 32 := by omega
  clear hwB q5 km5 kz5 bw5
  go_wp2_with fail
  go_loopw [8] (fun i wr => ∃ j : Nat, j ≤ n ∧ i = .int .i64 j ∧ RfSt w wB wr g gm w.heap.size A cq l v1 v2 v3 v4 v5 v6 v7 p0 e0 j) (fun i _ => n - (intOf i).toNat)
  case atStart => exact ⟨0, by omega, rfl, hst⟩
  case round =>
    clear hst
    obtain ⟨j, hj, rfl, xs, pj, ej, B, d, HR, qj, km, kz, op, oc, sz, bw, hBw⟩ := hrel
    by_cases hjn : j < n
    · have hz : (0 : Int) ≤ j := by omega
      have hlt : (j : Int) < n := by omega
      have HJ := hid hjn
      have lgr := ref_lt qj
      have cN := refRString g A cq l pj ej 100 wr qj HL9.out
      obtain ⟨⟨s1, p1, e1⟩, H1⟩ : ∃ z, rStr l pj ej 100 = z := ⟨_, rfl⟩
      rw [H1] at cN
      have HN1 := hid H1
      clear H1
      go_wp2_with fail
      refine cN.mono ?_
      rintro r y1 ⟨rfl, q1, hg⟩
      simp only
      clear cN
      have bp := hal y1 (.cells #[.string ⟨s1.toArray⟩, .bool false, .int .i64 0, .slice none 0 0, .int .i64 0, .int .i64 0, .int .i64 0] 35)
      have kp1 := Blk.new y1 [.string ⟨s1.toArray⟩, .bool false, .int .i64 0, .slice none 0 0, .int .i64 0, .int .i64 0, .int .i64 0] 35
      have qq1 := q1.below bp
      have g1 := grown_far hg (grown_below (row := none) bp) (by simp)
      have hgpg : y1.heap.size ≠ g := by have := ref_lt q1; omega
      have hpw : wr.heap.size ≤ y1.heap.size := hg.size
      clear hg bp q1
      go_wp2_with fail
      generalize y1.alloc (.cells #[.string ⟨s1.toArray⟩, .bool false, .int .i64 0, .slice none 0 0, .int .i64 0, .int .i64 0, .int .i64 0] 35) = Y1 at *
      generalize y1.heap.size = gp at *
      have cN := refRNumber g A cq l p1 e1 1 Y1 qq1 HL9.out
      obtain ⟨⟨u2, p2, e2⟩, H2⟩ : ∃ z, rNum l p1 e1 1 = z := ⟨_, rfl⟩
      rw [H2] at cN
      have HN2 := hid H2
      clear H2
      refine cN.mono ?_
      rintro r y2 ⟨rfl, q2, hg⟩
      simp only
      clear cN
      have kpk := kp1.grown hg (by intro e; injection e with e; exact hgpg e.symm)
      have gk := grown_trans g1 hg
      obtain ⟨hb, hbe⟩ : ∃ hb : Bool, (u2 == 1) = hb := ⟨_, rfl⟩
      have HBB : Hid (decide (u2 = 1) = hb) := by rw [← hbe]; rfl
      have gs : y2.grownBy (y2.setCell ⟨gp, 1, none⟩ (.bool hb)) (some gp) := grown_set _ _
      have ck := kpk.cell 1
      have fk := kpk.frozen 1
      simp only [List.getElem?_cons_zero, List.getElem?_cons_succ] at ck
      have kp2 := kpk.set_ 1 (.bool hb)
      simp only [List.set_cons_zero, List.set_cons_succ] at kp2
      have qq2 := RefAt.far qB q2 gs (by have := gk.size; omega) (far_row (by omega))
      have g2 := grown_far gk gs (far_row hpw)
      clear kpk gk gs hg q2 kp1 g1 qq1
      go_wp2_with fail
      generalize y2.setCell ⟨gp, 1, none⟩ (.bool hb) = Y2 at *
      clear ck fk hbe
      have cN := refRNumber g A cq l p2 e2 4294967295 Y2 qq2 HL9.out
      obtain ⟨⟨u3, p3, e3⟩, H3⟩ : ∃ z, rNum l p2 e2 4294967295 = z := ⟨_, rfl⟩
      rw [H3] at cN
      have HN3 := hid H3
      clear H3
      refine cN.mono ?_
      rintro r y3 ⟨rfl, q3, hg⟩
      simp only
      clear cN
      have kpk := kp2.grown hg (by intro e; injection e with e; exact hgpg e.symm)
      have gk := grown_trans g2 hg
      have gs : y3.grownBy (y3.setCell ⟨gp, 2, none⟩ (.int .i64 u3)) (some gp) := grown_set _ _
      have ck := kpk.cell 2
      have fk := kpk.frozen 2
      simp only [List.getElem?_cons_zero, List.getElem?_cons_succ] at ck
      have kp3 := kpk.set_ 2 (.int .i64 u3)
      simp only [List.set_cons_zero, List.set_cons_succ] at kp3
      have qq3 := RefAt.far qB q3 gs (by have := gk.size; omega) (far_row (by omega))
      have g3 := grown_far gk gs (far_row hpw)
      clear kpk gk gs hg q3 kp2 g2 qq2
      go_wp2_with fail
      generalize y3.setCell ⟨gp, 2, none⟩ (.int .i64 u3) = Y3 at *
      clear ck fk
      have cN := refRNumber g A cq l p3 e3 4294967295 Y3 qq3 HL9.out
      obtain ⟨⟨u4, p4, e4⟩, H4⟩ : ∃ z, rNum l p3 e3 4294967295 = z := ⟨_, rfl⟩
      rw [H4] at cN
      have HN4 := hid H4
      clear H4
      refine cN.mono ?_
      rintro r y4 ⟨rfl, q4, hg⟩
      simp only
      clear cN
      have kpk := kp3.grown hg (by intro e; injection e with e; exact hgpg e.symm)
      have gk := grown_trans g3 hg
      have gs : y4.grownBy (y4.setCell ⟨gp, 4, none⟩ (.int .i64 u4)) (some gp) := grown_set _ _
      have ck := kpk.cell 4
      have fk := kpk.frozen 4
      simp only [List.getElem?_cons_zero, List.getElem?_cons_succ] at ck
      have kp4 := kpk.set_ 4 (.int .i64 u4)
      simp only [List.set_cons_zero, List.set_cons_succ] at kp4
      have qq4 := RefAt.far qB q4 gs (by have := gk.size; omega) (far_row (by omega))
      have g4 := grown_far gk gs (far_row hpw)
      clear kpk gk gs hg q4 kp3 g3 qq3
      go_wp2_with fail
      generalize y4.setCell ⟨gp, 4, none⟩ (.int .i64 u4) = Y4 at *
      clear ck fk
      have cN := refRNumber g A cq l p4 e4 4294967295 Y4 qq4 HL9.out
      obtain ⟨⟨u5, p5, e5⟩, H5⟩ : ∃ z, rNum l p4 e4 4294967295 = z := ⟨_, rfl⟩
      rw [H5] at cN
      have HN5 := hid H5
      clear H5
      refine cN.mono ?_
      rintro r y5 ⟨rfl, q5, hg⟩
      simp only
      clear cN
      have kpk := kp4.grown hg (by intro e; injection e with e; exact hgpg e.symm)
      have gk := grown_trans g4 hg
      have gs : y5.grownBy (y5.setCell ⟨gp, 5, none⟩ (.int .i64 u5)) (some gp) := grown_set _ _
      have ck := kpk.cell 5
      have fk := kpk.frozen 5
      simp only [List.getElem?_cons_zero, List.getElem?_cons_succ] at ck
      have kp5 := kpk.set_ 5 (.int .i64 u5)
      simp only [List.set_cons_zero, List.set_cons_succ] at kp5
      have qq5 := RefAt.far qB q5 gs (by have := gk.size; omega) (far_row (by omega))
      have g5 := grown_far gk gs (far_row hpw)
      clear kpk gk gs hg q5 kp4 g4 qq4
      go_wp2_with fail
      generalize y5.setCell ⟨gp, 5, none⟩ (.int .i64 u5) = Y5 at *
      clear ck fk
      have cN := refRNumber g A cq l p5 e5 4294967295 Y5 qq5 HL9.out
      obtain ⟨⟨u6, p6, e6⟩, H6⟩ : ∃ z, rNum l p5 e5 4294967295 = z := ⟨_, rfl⟩
      rw [H6] at cN
      have HN6 := hid H6
      clear H6
      refine cN.mono ?_
      rintro r y6 ⟨rfl, q6, hg⟩
      simp only
      clear cN
      have kpk := kp5.grown hg (by intro e; injection e with e; exact hgpg e.symm)
      have gk := grown_trans g5 hg
      have gs : y6.grownBy (y6.setCell ⟨gp, 6, none⟩ (.int .i64 u6)) (some gp) := grown_set _ _
      have ck := kpk.cell 6
      have fk := kpk.frozen 6
      simp only [List.getElem?_cons_zero, List.getElem?_cons_succ] at ck
      have kp6 := kpk.set_ 6 (.int .i64 u6)
      simp only [List.set_cons_zero, List.set_cons_succ] at kp6
      have qq6 := RefAt.far qB q6 gs (by have := gk.size; omega) (far_row (by omega))
      have g6 := grown_far gk gs (far_row hpw)
      clear kpk gk gs hg q6 kp5 g5 qq5
      go_wp2_with fail
      generalize y6.setCell ⟨gp, 6, none⟩ (.int .i64 u6) = Y6 at *
      clear ck fk
      have HX : Hid (rPc1 l pj ej = (⟨toS s1, hb, u3, [], u4, u5, u6⟩, p6, e6)) := by
        show _ = _
        unfold rPc1
        simp only [HN1.out, HN2.out, HN3.out, HN4.out, HN5.out, HN6.out, HBB.out]
      have HXS : Hid ((toS s1).size ≤ 16384) := by show _ ≤ _; rw [toS_size]; have := rStr_len l pj ej 100; rw [HN1.out] at this; exact this
      clear HN1 HN2 HN3 HN4 HN5 HN6 HBB
      refine (refRNumber g A cq l p6 e6 10 Y6 qq6 HL9.out).mono ?_
      rintro r w3 ⟨rfl, q3, hg3⟩
      simp only
      have kp3 := kp6.grown hg3 (by intro e; injection e with e; exact hgpg e.symm)
      have g3 := grown_trans g6 hg3
      obtain ⟨k, HK, hk⟩ := rNum_le l p6 e6 10 (by omega)
      have HPC : Hid (rPce L1 l pj ej = (⟨toS s1, hb, u3, (rInts l (rNum l p6 e6 10).2.1 (rNum l p6 e6 10).2.2 4294967295 k).1, u4, u5, u6⟩, (rInts l (rNum l p6 e6 10).2.1 (rNum l p6 e6 10).2.2 4294967295 k).2)) := by
        show _ = _
        rw [rPce_pc1, HX.out]
        dsimp only
        rw [HK, Int.toNat_natCast]
      rw [HK]
      generalize (rNum l p6 e6 10).2.1 = p2 at *
      generalize (rNum l p6 e6 10).2.2 = e2 at *
      clear kp6 qq6 hg3 g6 HK HX
      have hin : ∃ (C : Option Addr) (cc : Nat) (ys : List Int) (p' : Nat) (e' : Int), Hid (rInts l p2 e2 4294967295 0 = (ys, p', e')) ∧ RefAt w3 g A cq l p' e' ∧ Blk w3 gp [.string ⟨s1.toArray⟩, .bool hb, .int .i64 u3, .slice C 0 cc, .int .i64 u4, .int .i64 u5, .int .i64 u6] 35 ∧ w3.ownsRow wr.heap.size 3 1 (.slice C 0 cc) 0 (intV ys) ∧ wr.grownBy w3 (some g) := ⟨none, 0, [], p2, e2, rfl, q3, kp3, World.ownsRow_nil _ _ _ _, g3⟩
      clear kp3 q3 g3
      go_wp2_with fail
      go_loopw [11] (fun i W => ∃ t : Nat, t ≤ k ∧ i = .int .i64 t ∧ ∃ (C : Option Addr) (cc : Nat) (ys : List Int) (p' : Nat) (e' : Int), Hid (rInts l p2 e2 4294967295 t = (ys, p', e')) ∧ RefAt W g A cq l p' e' ∧ Blk W gp [.string ⟨s1.toArray⟩, .bool hb, .int .i64 u3, .slice C t cc, .int .i64 u4, .int .i64 u5, .int .i64 u6] 35 ∧ W.ownsRow wr.heap.size 3 1 (.slice C t cc) t (intV ys) ∧ wr.grownBy W (some g)) (fun i _ => k - (intOf i).toNat)
      case atStart => exact ⟨0, by omega, rfl, hin⟩
      case round =>
        rename World => W
        clear hin
        obtain ⟨t, ht, rfl, C, cc, ys, p', e', HY, qW, kp, oy, gW⟩ := hrel
        by_cases htk : t < k
        · have hz : (0 : Int) ≤ t := by omega
          have hlt : (t : Int) < k := by omega
          have HT := hid htk
          obtain ⟨⟨y, p9, e9⟩, HN⟩ : ∃ z, rNum l p' e' 4294967295 = z := ⟨_, rfl⟩
          have HY2 : Hid (rInts l p2 e2 4294967295 (t + 1) = (ys ++ [y], p9, e9)) := by
            show _ = _
            rw [rInts, HY.out]
            dsimp only
            rw [HN]
          have cN := refRNumber g A cq l p' e' 4294967295 W.drew qW HL9.out
          rw [HN] at cN
          clear HN HY
          have c3 : W.drew.cell? ⟨gp, 3, none⟩ = some (.slice C t cc) := by have := kp.cell 3; simpa using this
          have kpd : Blk W.drew gp [.string ⟨s1.toArray⟩, .bool hb, .int .i64 u3, .slice C t cc, .int .i64 u4, .int .i64 u5, .int .i64 u6] 35 := kp
          have oyd : W.drew.ownsRow wr.heap.size 3 1 (.slice C t cc) t (intV ys) := oy
          have qWd : RefAt W.drew g A cq l p' e' := qW
          have gWd : wr.grownBy W.drew (some g) := ⟨gW.os, gW.tape, gW.output, gW.size, gW.block⟩
          clear kp oy gW qW
          go_wp2_with fail
          refine wp_region_held_drew (S := fun _ => True) (by kernel_rfl) trivial (fun hHeld => ?_)
          refine wpAnyH_take (i := 0) (oi := ⟨_, _, _, _, _, _⟩) (v := ?_) rfl (by kernel_rfl) (by kernel_rfl) (by kernel_rfl) (fun _ _ _ h => h) (Or.inl ⟨by rfl, ?_⟩) (by assumption) ?_
          rotate_left
          · intro w hSw; (try dsimp only at hSw); go_simp; (try (with_reducible rfl))
          try simp only [Act.put, List.setIfInBounds_toArray, List.set_cons_zero, List.set_cons_succ]
          refine wpAnyH_take (i := 2) (oi := ⟨_, _, _, _, _, _⟩) (v := ?_) rfl (by kernel_rfl) (by kernel_rfl) (by kernel_rfl) (fun _ _ _ h => h) (Or.inl ⟨by rfl, ?_⟩) (by assumption) ?_
          rotate_left
          · intro w hSw; (try dsimp only at hSw); go_simp; (try (with_reducible rfl))
          try simp only [Act.put, List.setIfInBounds_toArray, List.set_cons_zero, List.set_cons_succ]
          refine wpAnyH_take (i := 3) (oi := ⟨_, _, _, _, _, _⟩) (v := ?_) rfl (by kernel_rfl) (by kernel_rfl) (by kernel_rfl) (fun _ _ _ h => h) (Or.inl ⟨by rfl, ?_⟩) (by assumption) ?_
          rotate_left
          · intro w hSw; (try dsimp only at hSw); go_simp; (try (with_reducible rfl))
          try simp only [Act.put, List.setIfInBounds_toArray, List.set_cons_zero, List.set_cons_succ]
          refine wpAnyH_ready (rs := [1, 4]) (by kernel_rfl) (by simp) ?_
          refine AllReadyH.cons (o := ⟨_, _, _, _, _, _⟩) rfl (fun K hK => ?_) (AllReadyH.cons (o := ⟨_, _, _, _, _, _⟩) rfl (fun K hK => ?_) (AllReadyH.nil))
          · go_simp
            refine hK.out _ _ trivial (fun hHeld => ?_)
            clear hK K
            try simp only [Act.put, List.setIfInBounds_toArray, List.set_cons_zero, List.set_cons_succ]
            refine wpAnyH_ready (rs := [4]) (by kernel_rfl) (by simp) ?_
            refine AllReadyH.cons (o := ⟨_, _, _, _, _, _⟩) rfl (fun K hK => ?_) (AllReadyH.nil)
            go_simp
            refine cN.mono ?_
            rintro r w5 ⟨rfl, q5, hg5⟩
            simp only
            have kp5 := kpd.grown hg5 (by intro e; injection e with e; exact hgpg e.symm)
            have c35 : w5.cell? ⟨gp, 3, none⟩ = some (.slice C t cc) := by have := kp5.cell 3; simpa using this
            have oy5 := row_turn oyd hg5 qWd.1 (by decide)
            have gW5 := grown_trans gWd hg5
            refine hK.out _ _ trivial (fun hHeld => ?_)
            clear hK K
            try simp only [Act.put, List.setIfInBounds_toArray, List.set_cons_zero, List.set_cons_succ]
            refine wpAnyH_ready (rs := [5]) (by kernel_rfl) (by simp) ?_
            refine AllReadyH.cons (o := ⟨_, _, _, _, _, _⟩) rfl (fun K hK => ?_) (AllReadyH.nil)
            go_simp
            have b6 : Below w5.heap.size w5 (w5.alloc (.cells #[.int .i64 y] 3)) := (Below.refl _ _).alloc (Nat.le_refl _) _
            have kp6 := kp5.below b6
            have c36 : (w5.alloc (.cells #[.int .i64 y] 3)).cell? ⟨gp, 3, none⟩ = some (.slice C t cc) := by have := kp6.cell 3; simpa using this
            have oy6 := own_below1 oy5 b6
            have gW6 := grown_far gW5 (grown_below (row := none) b6) (by simp)
            have q6 := q5.below b6
            have hy6 : (w5.alloc (.cells #[.int .i64 y] 3)).cell? ⟨w5.heap.size, 0, none⟩ = some (.int .i64 y) := by simp
            obtain ⟨C7, cc7, w7, HRUN, oy7, g7⟩ := run_appI oy6 ⟨w5.heap.size, 0, none⟩ 1 y hy6 (by omega) gW6.size
            refine hK.out _ _ trivial (fun hHeld => ?_)
            clear hK K
            try simp only [Act.put, List.setIfInBounds_toArray, List.set_cons_zero, List.set_cons_succ]
            refine wpAnyH_ready (rs := [6]) (by kernel_rfl) (by simp) ?_
            refine AllReadyH.cons (o := ⟨_, _, _, _, _, _⟩) rfl (fun K hK => ?_) (AllReadyH.nil)
            refine stepApp2 (by rfl) (.tmp 84) (.tmp 88) 30 rfl _ _ _ rfl rfl (HRUN.out _) ?_
            refine hK.out _ _ trivial (fun hHeld => ?_)
            clear hK K
            try simp only [Act.put, List.setIfInBounds_toArray, List.set_cons_zero, List.set_cons_succ]
            refine wpAnyH_take (i := 7) (oi := ⟨_, _, _, _, _, _⟩) (v := ?_) rfl (by kernel_rfl) (by kernel_rfl) (by kernel_rfl) (fun _ _ _ h => h) (Or.inl ⟨by rfl, ?_⟩) (by assumption) ?_
            rotate_left
            · intro w hSw; (try dsimp only at hSw); go_simp; (try (with_reducible rfl))
            try simp only [Act.put, List.setIfInBounds_toArray, List.set_cons_zero, List.set_cons_succ]
            have kp7 := blk_row kp6 oy6 g7 (by decide)
            have f7 := kp7.frozen 3
            have c37 := kp7.cell 3
            simp only [List.getElem?_cons_zero, List.getElem?_cons_succ] at c37
            have gs : w7.grownBy (w7.setCell ⟨gp, 3, none⟩ (.slice C7 (t + 1) cc7)) (some gp) := grown_set 3 _
            have kp8 := kp7.set_ 3 (.slice C7 (t + 1) cc7)
            simp only [List.set_cons_zero, List.set_cons_succ] at kp8
            have rl := row_lt oy6
            have hs6 := gW6.size
            have hs7 := g7.size
            have q7 := RefAt.far qB q6 g7 (by omega) (fun k hk => by have := rl k hk; omega)
            have q8 := RefAt.far qB q7 gs (by omega) (far_row (by omega))
            have oy8 := row_turn oy7 gs kp7 (by decide)
            have gW7 := grown_far gW6 g7 rl
            have gW8 := grown_far gW7 gs (far_row hpw)
            refine wpAnyH_ready (rs := [8]) (by kernel_rfl) (by simp) ?_
            refine AllReadyH.cons (o := ⟨_, _, _, _, _, _⟩) rfl (fun K hK => ?_) (AllReadyH.nil)
            go_simp
            refine hK.out _ _ trivial (fun hHeld => ?_)
            clear hK K
            try simp only [Act.put, List.setIfInBounds_toArray, List.set_cons_zero, List.set_cons_succ]
            refine wpAnyH_done (by kernel_rfl) ?_ _
            clear hHeld
            clear q5 q6 q7 kp5 kp6 kp7 kpd c3 c35 c36 c37 f7 oy5 oy6 oy7 oyd gW5 gW6 gW7 gWd qWd HRUN g7 gs rl hs6 hs7 hy6 b6 hg5 km kz op oc sz qj bw
            go_wp2
            go_roundw
            case rel => exact ⟨t + 1, HT.out, by go_num, C7, cc7, ys ++ [y], p9, e9, HY2, q8, kp8, oy8, gW8⟩
            case measure => have := HT.out; simp [intOf]; omega
          · go_simp
            refine cN.mono ?_
            rintro r w5 ⟨rfl, q5, hg5⟩
            simp only
            have kp5 := kpd.grown hg5 (by intro e; injection e with e; exact hgpg e.symm)
            have c35 : w5.cell? ⟨gp, 3, none⟩ = some (.slice C t cc) := by have := kp5.cell 3; simpa using this
            have oy5 := row_turn oyd hg5 qWd.1 (by decide)
            have gW5 := grown_trans gWd hg5
            refine hK.out _ _ trivial (fun hHeld => ?_)
            clear hK K
            try simp only [Act.put, List.setIfInBounds_toArray, List.set_cons_zero, List.set_cons_succ]
            refine wpAnyH_ready (rs := [1, 5]) (by kernel_rfl) (by simp) ?_
            refine AllReadyH.cons (o := ⟨_, _, _, _, _, _⟩) rfl (fun K hK => ?_) (AllReadyH.cons (o := ⟨_, _, _, _, _, _⟩) rfl (fun K hK => ?_) (AllReadyH.nil))
            · go_simp
              refine hK.out _ _ trivial (fun hHeld => ?_)
              clear hK K
              try simp only [Act.put, List.setIfInBounds_toArray, List.set_cons_zero, List.set_cons_succ]
              refine wpAnyH_ready (rs := [5]) (by kernel_rfl) (by simp) ?_
              refine AllReadyH.cons (o := ⟨_, _, _, _, _, _⟩) rfl (fun K hK => ?_) (AllReadyH.nil)
              go_simp
              have b6 : Below w5.heap.size w5 (w5.alloc (.cells #[.int .i64 y] 3)) := (Below.refl _ _).alloc (Nat.le_refl _) _
              have kp6 := kp5.below b6
              have c36 : (w5.alloc (.cells #[.int .i64 y] 3)).cell? ⟨gp, 3, none⟩ = some (.slice C t cc) := by have := kp6.cell 3; simpa using this
              have oy6 := own_below1 oy5 b6
              have gW6 := grown_far gW5 (grown_below (row := none) b6) (by simp)
              have q6 := q5.below b6
              have hy6 : (w5.alloc (.cells #[.int .i64 y] 3)).cell? ⟨w5.heap.size, 0, none⟩ = some (.int .i64 y) := by simp
              obtain ⟨C7, cc7, w7, HRUN, oy7, g7⟩ := run_appI oy6 ⟨w5.heap.size, 0, none⟩ 1 y hy6 (by omega) gW6.size
              refine hK.out _ _ trivial (fun hHeld => ?_)
              clear hK K
              try simp only [Act.put, List.setIfInBounds_toArray, List.set_cons_zero, List.set_cons_succ]
              refine wpAnyH_ready (rs := [6]) (by kernel_rfl) (by simp) ?_
              refine AllReadyH.cons (o := ⟨_, _, _, _, _, _⟩) rfl (fun K hK => ?_) (AllReadyH.nil)
              refine stepApp2 (by rfl) (.tmp 84) (.tmp 88) 30 rfl _ _ _ rfl rfl (HRUN.out _) ?_
              refine hK.out _ _ trivial (fun hHeld => ?_)
              clear hK K
              try simp only [Act.put, List.setIfInBounds_toArray, List.set_cons_zero, List.set_cons_succ]
              refine wpAnyH_take (i := 7) (oi := ⟨_, _, _, _, _, _⟩) (v := ?_) rfl (by kernel_rfl) (by kernel_rfl) (by kernel_rfl) (fun _ _ _ h => h) (Or.inl ⟨by rfl, ?_⟩) (by assumption) ?_
              rotate_left
              · intro w hSw; (try dsimp only at hSw); go_simp; (try (with_reducible rfl))
              try simp only [Act.put, List.setIfInBounds_toArray, List.set_cons_zero, List.set_cons_succ]
              have kp7 := blk_row kp6 oy6 g7 (by decide)
              have f7 := kp7.frozen 3
              have c37 := kp7.cell 3
              simp only [List.getElem?_cons_zero, List.getElem?_cons_succ] at c37
              have gs : w7.grownBy (w7.setCell ⟨gp, 3, none⟩ (.slice C7 (t + 1) cc7)) (some gp) := grown_set 3 _
              have kp8 := kp7.set_ 3 (.slice C7 (t + 1) cc7)
              simp only [List.set_cons_zero, List.set_cons_succ] at kp8
              have rl := row_lt oy6
              have hs6 := gW6.size
              have hs7 := g7.size
              have q7 := RefAt.far qB q6 g7 (by omega) (fun k hk => by have := rl k hk; omega)
              have q8 := RefAt.far qB q7 gs (by omega) (far_row (by omega))
              have oy8 := row_turn oy7 gs kp7 (by decide)
              have gW7 := grown_far gW6 g7 rl
              have gW8 := grown_far gW7 gs (far_row hpw)
              refine wpAnyH_ready (rs := [8]) (by kernel_rfl) (by simp) ?_
              refine AllReadyH.cons (o := ⟨_, _, _, _, _, _⟩) rfl (fun K hK => ?_) (AllReadyH.nil)
              go_simp
              refine hK.out _ _ trivial (fun hHeld => ?_)
              clear hK K
              try simp only [Act.put, List.setIfInBounds_toArray, List.set_cons_zero, List.set_cons_succ]
              refine wpAnyH_done (by kernel_rfl) ?_ _
              clear hHeld
              clear q5 q6 q7 kp5 kp6 kp7 kpd c3 c35 c36 c37 f7 oy5 oy6 oy7 oyd gW5 gW6 gW7 gWd qWd HRUN g7 gs rl hs6 hs7 hy6 b6 hg5 km kz op oc sz qj bw
              go_wp2
              go_roundw
              case rel => exact ⟨t + 1, HT.out, by go_num, C7, cc7, ys ++ [y], p9, e9, HY2, q8, kp8, oy8, gW8⟩
              case measure => have := HT.out; simp [intOf]; omega
            · go_simp
              have b6 : Below w5.heap.size w5 (w5.alloc (.cells #[.int .i64 y] 3)) := (Below.refl _ _).alloc (Nat.le_refl _) _
              have kp6 := kp5.below b6
              have c36 : (w5.alloc (.cells #[.int .i64 y] 3)).cell? ⟨gp, 3, none⟩ = some (.slice C t cc) := by have := kp6.cell 3; simpa using this
              have oy6 := own_below1 oy5 b6
              have gW6 := grown_far gW5 (grown_below (row := none) b6) (by simp)
              have q6 := q5.below b6
              have hy6 : (w5.alloc (.cells #[.int .i64 y] 3)).cell? ⟨w5.heap.size, 0, none⟩ = some (.int .i64 y) := by simp
              obtain ⟨C7, cc7, w7, HRUN, oy7, g7⟩ := run_appI oy6 ⟨w5.heap.size, 0, none⟩ 1 y hy6 (by omega) gW6.size
              refine hK.out _ _ trivial (fun hHeld => ?_)
              clear hK K
              try simp only [Act.put, List.setIfInBounds_toArray, List.set_cons_zero, List.set_cons_succ]
              refine wpAnyH_ready (rs := [1]) (by kernel_rfl) (by simp) ?_
              refine AllReadyH.cons (o := ⟨_, _, _, _, _, _⟩) rfl (fun K hK => ?_) (AllReadyH.nil)
              go_simp
              refine hK.out _ _ trivial (fun hHeld => ?_)
              clear hK K
              try simp only [Act.put, List.setIfInBounds_toArray, List.set_cons_zero, List.set_cons_succ]
              refine wpAnyH_ready (rs := [6]) (by kernel_rfl) (by simp) ?_
              refine AllReadyH.cons (o := ⟨_, _, _, _, _, _⟩) rfl (fun K hK => ?_) (AllReadyH.nil)
              refine stepApp2 (by rfl) (.tmp 84) (.tmp 88) 30 rfl _ _ _ rfl rfl (HRUN.out _) ?_
              refine hK.out _ _ trivial (fun hHeld => ?_)
              clear hK K
              try simp only [Act.put, List.setIfInBounds_toArray, List.set_cons_zero, List.set_cons_succ]
              refine wpAnyH_take (i := 7) (oi := ⟨_, _, _, _, _, _⟩) (v := ?_) rfl (by kernel_rfl) (by kernel_rfl) (by kernel_rfl) (fun _ _ _ h => h) (Or.inl ⟨by rfl, ?_⟩) (by assumption) ?_
              rotate_left
              · intro w hSw; (try dsimp only at hSw); go_simp; (try (with_reducible rfl))
              try simp only [Act.put, List.setIfInBounds_toArray, List.set_cons_zero, List.set_cons_succ]
              have kp7 := blk_row kp6 oy6 g7 (by decide)
              have f7 := kp7.frozen 3
              have c37 := kp7.cell 3
              simp only [List.getElem?_cons_zero, List.getElem?_cons_succ] at c37
              have gs : w7.grownBy (w7.setCell ⟨gp, 3, none⟩ (.slice C7 (t + 1) cc7)) (some gp) := grown_set 3 _
              have kp8 := kp7.set_ 3 (.slice C7 (t + 1) cc7)
              simp only [List.set_cons_zero, List.set_cons_succ] at kp8
              have rl := row_lt oy6
              have hs6 := gW6.size
              have hs7 := g7.size
              have q7 := RefAt.far qB q6 g7 (by omega) (fun k hk => by have := rl k hk; omega)
              have q8 := RefAt.far qB q7 gs (by omega) (far_row (by omega))
              have oy8 := row_turn oy7 gs kp7 (by decide)
              have gW7 := grown_far gW6 g7 rl
              have gW8 := grown_far gW7 gs (far_row hpw)
              refine wpAnyH_ready (rs := [8]) (by kernel_rfl) (by simp) ?_
              refine AllReadyH.cons (o := ⟨_, _, _, _, _, _⟩) rfl (fun K hK => ?_) (AllReadyH.nil)
              go_simp
              refine hK.out _ _ trivial (fun hHeld => ?_)
              clear hK K
              try simp only [Act.put, List.setIfInBounds_toArray, List.set_cons_zero, List.set_cons_succ]
              refine wpAnyH_done (by kernel_rfl) ?_ _
              clear hHeld
              clear q5 q6 q7 kp5 kp6 kp7 kpd c3 c35 c36 c37 f7 oy5 oy6 oy7 oyd gW5 gW6 gW7 gWd qWd HRUN g7 gs rl hs6 hs7 hy6 b6 hg5 km kz op oc sz qj bw
              go_wp2
              go_roundw
              case rel => exact ⟨t + 1, HT.out, by go_num, C7, cc7, ys ++ [y], p9, e9, HY2, q8, kp8, oy8, gW8⟩
              case measure => have := HT.out; simp [intOf]; omega
        · have htk2 : t = k := by omega
          have hnl : ¬ (t : Int) < k := by omega
          subst htk2
          rw [HY.out] at HPC
          have HR2 : Hid (rPces L1 l p0 e0 (j + 1) = (pcesOf xs ++ [⟨toS s1, hb, u3, ys, u4, u5, u6⟩], p', e')) := by
            show _ = _
            rw [rPces, HR.out]
            dsimp only
            rw [HPC.out]
          have bwW := bw.trans (below_grown bw.size (far_row (by omega)) gW)
          have kzW := kz.grown gW (by intro e; injection e with e; omega)
          have kmW := km.grown gW (by intro e; injection e with e; exact hgmg e.symm)
          have opW : OwnP wB.heap.size W B j d xs := ⟨op.1, row_turn op.2 gW qj.1 (by decide)⟩
          have ocW : Hid (∀ x ∈ xs, OwnC wB.heap.size W x) := hid fun x hx => row_turn (oc.out x hx) gW qj.1 (by decide)
          have hBW : wB.heap.size ≤ W.heap.size := Nat.le_trans hBw gW.size
          have oyB := own_low1 oy hBw
          clear km kz op oc bw gW qj oy HY HPC HR
          have m7 := kmW.cell 7
          have p0c := kp.cell 0
          have p1c := kp.cell 1
          have p2c := kp.cell 2
          have p3c := kp.cell 3
          have p4c := kp.cell 4
          have p5c := kp.cell 5
          have p6c := kp.cell 6
          simp only [List.getElem?_cons_zero, List.getElem?_cons_succ] at m7 p0c p1c p2c p3c p4c p5c p6c
          have b6 := hal W (.cells #[.string ⟨s1.toArray⟩, .bool hb, .int .i64 u3, .slice C t cc, .int .i64 u4, .int .i64 u5, .int .i64 u6] 35)
          have kn := Blk.new W [.string ⟨s1.toArray⟩, .bool hb, .int .i64 u3, .slice C t cc, .int .i64 u4, .int .i64 u5, .int .i64 u6] 35
          have hyl : ys.length = t := by have := oyB.1; rw [intV_length] at this; omega
          have op6 := opW.below b6
          have hnw : (⟨⟨toS s1, hb, u3, ys, u4, u5, u6⟩, C, cc⟩ : Pw).p.chunks.length = t := hyl
          obtain ⟨B', d', w7, HRUN, op7, g7⟩ := run_appP op6 ⟨W.heap.size, 0, none⟩ 1 ⟨⟨toS s1, hb, u3, ys, u4, u5, u6⟩, C, cc⟩ (fun i u hu => by rw [Addr.add_lit, Nat.zero_add, kn.cell i, ← hyl]; exact hu) (by omega) (Nat.le_trans hBW b6.size)
          have km6 := kmW.below b6
          have kz6 := kzW.below b6
          have q6 := qW.below b6
          have bw6 := bwW.trans (b6.mono bwW.size)
          have km7 := blk_row km6 op6.2 g7 (by decide)
          have kz7 := blk_row kz6 op6.2 g7 (by decide)
          have rl := row_lt op6.2
          have q7 := RefAt.far qB q6 g7 (Nat.le_trans hBW b6.size) rl
          have bw7 := bw6.trans (below_grown bw6.size (fun k hk => by have := rl k hk; omega) g7)
          have oc7 : Hid (∀ x ∈ xs ++ [⟨⟨toS s1, hb, u3, ys, u4, u5, u6⟩, C, cc⟩], OwnC wB.heap.size w7 x) := hid fun x hx => by
            rcases List.mem_append.1 hx with hx | hx
            · exact row_row (own_below1 (ocW.out x hx) b6) op6.2 g7 (by decide)
            · obtain rfl := List.mem_singleton.1 hx
              have h9 := row_row (own_below1 oyB b6) op6.2 g7 (by decide)
              unfold OwnC
              dsimp only
              rw [hyl]
              exact h9
          have m77 := km7.cell 7
          have mf7 := km7.frozen 7
          simp only [List.getElem?_cons_zero, List.getElem?_cons_succ] at m77
          have gs : w7.grownBy (w7.setCell ⟨gm, 7, none⟩ (.slice B' (j + 1) d')) (some gm) := grown_set 7 _
          have km8 := km7.set_ 7 (.slice B' (j + 1) d')
          simp only [List.set_cons_zero, List.set_cons_succ] at km8
          have kz8 := kz7.grown gs (by intro e; injection e with e; omega)
          have q8 := ref_turnM q7 km7 gs hgmg
          have op8 : OwnP wB.heap.size (w7.setCell ⟨gm, 7, none⟩ (.slice B' (j + 1) d')) B' (j + 1) d' (xs ++ [⟨⟨toS s1, hb, u3, ys, u4, u5, u6⟩, C, cc⟩]) := ⟨op7.1, row_turn op7.2 gs km7 (by decide)⟩
          have oc8 : Hid (∀ x ∈ xs ++ [⟨⟨toS s1, hb, u3, ys, u4, u5, u6⟩, C, cc⟩], OwnC wB.heap.size (w7.setCell ⟨gm, 7, none⟩ (.slice B' (j + 1) d')) x) := hid fun x hx => row_turn (oc7.out x hx) gs km7 (by decide)
          have bw8 := bw7.setCell (p := ⟨gm, 7, none⟩) (Nat.le_of_lt hgmz) (.slice B' (j + 1) d')
          have sz8 : Hid (∀ x ∈ xs ++ [⟨⟨toS s1, hb, u3, ys, u4, u5, u6⟩, C, cc⟩], x.p.path.size ≤ 16384) := hid fun x hx => by
            rcases List.mem_append.1 hx with hx | hx
            · exact sz.out x hx
            · obtain rfl := List.mem_singleton.1 hx
              exact HXS.out
          have HR8 : Hid (rPces L1 l p0 e0 (j + 1) = (pcesOf (xs ++ [⟨⟨toS s1, hb, u3, ys, u4, u5, u6⟩, C, cc⟩]), p', e')) := by
            show _ = _
            rw [HR2.out]
            simp [pcesOf]
          have hB8 : wB.heap.size ≤ (w7.setCell ⟨gm, 7, none⟩ (.slice B' (j + 1) d')).heap.size := by have := b6.size; have := g7.size; have := gs.size; omega
          have HFIN := hid (show RfSt w wB (w7.setCell ⟨gm, 7, none⟩ (.slice B' (j + 1) d')) g gm w.heap.size A cq l v1 v2 v3 v4 v5 v6 v7 p0 e0 (j + 1) from ⟨_, _, _, B', d', HR8, q8, km8, kz8, op8, oc8, sz8, bw8, hB8⟩)
          have HRUN2 := hid (HRUN.out 22)
          clear HR8 q8 km8 kz8 op8 oc8 sz8 bw8 hB8 HRUN HR2 km6 kz6 q6 bw6 km7 kz7 q7 bw7 oc7 op7 op6 opW ocW oyB kmW kzW bwW b6 kn kp gs rl g7 hnw qW
          go_wp2_with (at_builtin; refine Lib.wpList_append_run _ rfl _ _ _ _ rfl _ _ rfl rfl _ _ HRUN2.out ?_)
          go_roundw
          case rel => exact ⟨j + 1, HJ.out, by go_num, HFIN.out⟩
          case measure => have := HJ.out; simp [intOf]; omega
    · have hjn2 : j = n := by omega
      have hnl : ¬ (j : Int) < n := by omega
      subst hjn2
      rw [HR.out] at HP
      go_wp2_with fail
      refine (refREnd g A cq l pj ej wr qj).mono ?_
      rintro r w1 ⟨rfl, q1, hg1⟩
      simp only
      have kz1 := kz.grown hg1 (by intro e; injection e with e; omega)
      have km1 := km.grown hg1 (by intro e; injection e with e; exact hgmg e.symm)
      have bw1 := bw.trans (below_grown bw.size (far_row (by omega)) hg1)
      have op1 : OwnP wB.heap.size w1 B j d xs := ⟨op.1, row_turn op.2 hg1 qj.1 (by decide)⟩
      have oc1 : ∀ x ∈ xs, OwnC wB.heap.size w1 x := fun x hx => row_turn (oc.out x hx) hg1 qj.1 (by decide)
      by_cases he : rEnd l pj ej = 0
      · rw [he]
        have mt1 := op1.mt (fun x hx => (oc1 x hx).ck) v1 v2 v3 v4 v5 v6 v7
        have hlen : (pcesOf xs).length = j := by rw [pcesOf_length]; exact op.1
        have cR := rright12_any mt1 (fun p hp => by
          obtain ⟨x, hx, rfl⟩ := List.mem_map.1 hp
          have := sz.out x hx
          omega)
        unfold manV at cR
        dsimp only at cR
        rw [hlen] at cR
        have HRM : Hid ((rMan L1 l).1 = ⟨v1, v2, v3, v4, v5, v6, v7, pcesOf xs⟩ ∧ rEnd l (rMan L1 l).2.1 (rMan L1 l).2.2 = 0) := by
          refine hid ?_
          rw [HP.out]
          exact ⟨rfl, he⟩
        have m0 := km1.cell 0
        have m1 := km1.cell 1
        have m2 := km1.cell 2
        have m3 := km1.cell 3
        have m4 := km1.cell 4
        have m5 := km1.cell 5
        have m6 := km1.cell 6
        have m7 := km1.cell 7
        simp only [List.getElem?_cons_zero, List.getElem?_cons_succ] at m0 m1 m2 m3 m4 m5 m6 m7
        clear km kz op oc qj hg1 q1 bw HP HR he
        go_wp2_with fail
        refine cR.mono ?_
        rintro r w2 ⟨rfl, b2⟩
        simp only
        have km2 := km1.below b2
        have kz2 := kz1.below b2
        have bw2 := bw1.trans (b2.mono bw1.size)
        have op2 := op1.below b2
        have oc2 : Hid (∀ x ∈ xs, OwnC wB.heap.size w2 x) := hid fun x hx => own_below1 (oc1 x hx) b2
        clear cR m0 m1 m2 m3 m4 m5 m6 m7 km1 kz1 bw1 b2 mt1 op1 oc1
        cases hM : manR ⟨v1, v2, v3, v4, v5, v6, v7, pcesOf xs⟩
        · have HF : Hid (readN L1 l = 4) := by
            refine hid (read_no fun h0 => ?_).1
            have h1 := ((readN_zero (L := L1)).1 h0).2
            rw [HRM.out.1, hM] at h1
            cases h1
          clear km2 op2 oc2
          have z0 := kz2.cell 0
          have z1 := kz2.cell 1
          have z2 := kz2.cell 2
          have z3 := kz2.cell 3
          have z4 := kz2.cell 4
          have z5 := kz2.cell 5
          have z6 := kz2.cell 6
          have z7 := kz2.cell 7
          have f0 := kz2.frozen 0
          have f1 := kz2.frozen 1
          have f2 := kz2.frozen 2
          have f3 := kz2.frozen 3
          have f4 := kz2.frozen 4
          have f5 := kz2.frozen 5
          have f6 := kz2.frozen 6
          have f7 := kz2.frozen 7
          simp only [List.getElem?_cons_zero, List.getElem?_cons_succ] at z0 z1 z2 z3 z4 z5 z6 z7
          have HKZ := hid kz2
          clear kz2
          go_upto_region 27 with (fail)
          go_step
          go_step
          go_step
          go_step
          go_step
          go_step
          go_step
          go_step
          go_step
          go_step
          go_step
          go_step
          go_step
          go_step
          go_step
          have ks := ((((((((HKZ.out.set_ 0 (.int .i64 0)).set_ 1 (.int .i64 0)).set_ 2 (.int .i64 0)).set_ 3 (.int .i64 0)).set_ 4 (.int .i64 0)).set_ 5 (.int .i64 0)).set_ 6 (.int .i64 0)).set_ 7 (.slice none 0 0))
          simp only [List.set_cons_zero, List.set_cons_succ] at ks
          have r0 := ks.cell 0
          have r1 := ks.cell 1
          have r2 := ks.cell 2
          have r3 := ks.cell 3
          have r4 := ks.cell 4
          have r5 := ks.cell 5
          have r6 := ks.cell 6
          have r7 := ks.cell 7
          simp only [List.getElem?_cons_zero, List.getElem?_cons_succ] at r0 r1 r2 r3 r4 r5 r6 r7
          have gs := sets8 w2 w.heap.size (.int .i64 0) (.int .i64 0) (.int .i64 0) (.int .i64 0) (.int .i64 0) (.int .i64 0) (.int .i64 0) (.slice none 0 0)
          have bS := bw2.trans (below_grown bw2.size (far_row (Nat.le_refl _)) gs)
          clear ks gs
          refine bodyPost_ret (v := .tuple #[.agg #[.int .i64 0, .int .i64 0, .int .i64 0, .int .i64 0, .int .i64 0, .int .i64 0, .int .i64 0, .slice none 0 0], .int .i64 4]) (by simp [results, Tryd.results23, go_sem, r0, r1, r2, r3, r4, r5, r6, r7]) rfl ?_
          have hA : readA L1 l = zeroM := by rw [HA.out, if_neg (by rw [HF.out]; decide)]
          rw [HF.out, hA]
          exact ⟨none, 0, rfl, ⟨.inl rfl, Nat.le_refl _, by unfold maxLen; omega⟩, bS⟩
        · have HF : Hid (readN L1 l = 0 ∧ readA L1 l = ⟨v1, v2, v3, v4, v5, v6, v7, pcesOf xs⟩) := by
            have h0 : readN L1 l = 0 := HQ.out.2 ⟨HRM.out.2, by rw [HRM.out.1]; exact hM⟩
            refine hid ⟨h0, ?_⟩
            rw [HA.out, if_pos h0, HRM.out.1]
          clear hM
          have m0 := km2.cell 0
          have m1 := km2.cell 1
          have m2 := km2.cell 2
          have m3 := km2.cell 3
          have m4 := km2.cell 4
          have m5 := km2.cell 5
          have m6 := km2.cell 6
          have m7 := km2.cell 7
          have z0 := kz2.cell 0
          have z1 := kz2.cell 1
          have z2 := kz2.cell 2
          have z3 := kz2.cell 3
          have z4 := kz2.cell 4
          have z5 := kz2.cell 5
          have z6 := kz2.cell 6
          have z7 := kz2.cell 7
          have f0 := kz2.frozen 0
          have f1 := kz2.frozen 1
          have f2 := kz2.frozen 2
          have f3 := kz2.frozen 3
          have f4 := kz2.frozen 4
          have f5 := kz2.frozen 5
          have f6 := kz2.frozen 6
          have f7 := kz2.frozen 7
          simp only [List.getElem?_cons_zero, List.getElem?_cons_succ] at m0 z0 m1 z1 m2 z2 m3 z3 m4 z4 m5 z5 m6 z6 m7 z7
          have ks := ((((((((kz2.set_ 0 (.int .i64 v1)).set_ 1 (.int .i64 v2)).set_ 2 (.int .i64 v3)).set_ 3 (.int .i64 v4)).set_ 4 (.int .i64 v5)).set_ 5 (.int .i64 v6)).set_ 6 (.int .i64 v7)).set_ 7 (.slice B j d))
          simp only [List.set_cons_zero, List.set_cons_succ] at ks
          have r0 := ks.cell 0
          have r1 := ks.cell 1
          have r2 := ks.cell 2
          have r3 := ks.cell 3
          have r4 := ks.cell 4
          have r5 := ks.cell 5
          have r6 := ks.cell 6
          have r7 := ks.cell 7
          simp only [List.getElem?_cons_zero, List.getElem?_cons_succ] at r0 r1 r2 r3 r4 r5 r6 r7
          have gs := sets8 w2 w.heap.size (.int .i64 v1) (.int .i64 v2) (.int .i64 v3) (.int .i64 v4) (.int .i64 v5) (.int .i64 v6) (.int .i64 v7) (.slice B j d)
          have bS := bw2.trans (below_grown bw2.size (far_row (Nat.le_refl _)) gs)
          have mtS := OwnP.mt (⟨op2.1, row_turn op2.2 gs kz2 (by decide)⟩ : OwnP wB.heap.size ((((((((w2.setCell ⟨w.heap.size, 0, none⟩ (.int .i64 v1)).setCell ⟨w.heap.size, 1, none⟩ (.int .i64 v2)).setCell ⟨w.heap.size, 2, none⟩ (.int .i64 v3)).setCell ⟨w.heap.size, 3, none⟩ (.int .i64 v4)).setCell ⟨w.heap.size, 4, none⟩ (.int .i64 v5)).setCell ⟨w.heap.size, 5, none⟩ (.int .i64 v6)).setCell ⟨w.heap.size, 6, none⟩ (.int .i64 v7)).setCell ⟨w.heap.size, 7, none⟩ (.slice B j d)) B j d xs) (fun x hx => OwnC.ck (base := wB.heap.size) (row_turn (oc2.out x hx) gs kz2 (by decide))) v1 v2 v3 v4 v5 v6 v7
          clear ks km2 kz2 gs bw2 op2 oc2
          go_upto_region 28 with (fail)
          go_step
          go_step
          go_step
          go_step
          go_step
          go_step
          go_step
          go_step
          go_step
          go_step
          go_step
          go_step
          go_step
          go_step
          refine bodyPost_ret (v := .tuple #[.agg #[.int .i64 v1, .int .i64 v2, .int .i64 v3, .int .i64 v4, .int .i64 v5, .int .i64 v6, .int .i64 v7, .slice B j d], .int .i64 0]) (by simp [results, Tryd.results23, go_sem, r0, r1, r2, r3, r4, r5, r6, r7]) rfl ?_
          rw [HF.out.1, HF.out.2]
          exact ⟨B, d, by unfold manV; dsimp only; rw [hlen]; rfl, mtS, bS⟩
      · have hne : (rEnd l pj ej != 0) = true := by simp [he]
        have HF : Hid (readN L1 l = 4) := by
          refine hid (read_no fun h0 => he ?_).1
          have h1 := ((readN_zero (L := L1)).1 h0).1
          rw [HP.out] at h1
          exact h1
        clear km op oc qj q1 km1 op1 oc1 kz HR
        have z0 := kz1.cell 0
        have z1 := kz1.cell 1
        have z2 := kz1.cell 2
        have z3 := kz1.cell 3
        have z4 := kz1.cell 4
        have z5 := kz1.cell 5
        have z6 := kz1.cell 6
        have z7 := kz1.cell 7
        have f0 := kz1.frozen 0
        have f1 := kz1.frozen 1
        have f2 := kz1.frozen 2
        have f3 := kz1.frozen 3
        have f4 := kz1.frozen 4
        have f5 := kz1.frozen 5
        have f6 := kz1.frozen 6
        have f7 := kz1.frozen 7
        simp only [List.getElem?_cons_zero, List.getElem?_cons_succ] at z0 z1 z2 z3 z4 z5 z6 z7
        have HKZ := hid kz1
        clear kz1
        go_upto_region 27 with (fail)
        go_step
        go_step
        go_step
        go_step
        go_step
        go_step
        go_step
        go_step
        go_step
        go_step
        go_step
        go_step
        go_step
        go_step
        go_step
        have ks := ((((((((HKZ.out.set_ 0 (.int .i64 0)).set_ 1 (.int .i64 0)).set_ 2 (.int .i64 0)).set_ 3 (.int .i64 0)).set_ 4 (.int .i64 0)).set_ 5 (.int .i64 0)).set_ 6 (.int .i64 0)).set_ 7 (.slice none 0 0))
        simp only [List.set_cons_zero, List.set_cons_succ] at ks
        have r0 := ks.cell 0
        have r1 := ks.cell 1
        have r2 := ks.cell 2
        have r3 := ks.cell 3
        have r4 := ks.cell 4
        have r5 := ks.cell 5
        have r6 := ks.cell 6
        have r7 := ks.cell 7
        simp only [List.getElem?_cons_zero, List.getElem?_cons_succ] at r0 r1 r2 r3 r4 r5 r6 r7
        have gs := sets8 w1 w.heap.size (.int .i64 0) (.int .i64 0) (.int .i64 0) (.int .i64 0) (.int .i64 0) (.int .i64 0) (.int .i64 0) (.slice none 0 0)
        have bS := bw1.trans (below_grown bw1.size (far_row (Nat.le_refl _)) gs)
        clear ks gs
        refine bodyPost_ret (v := .tuple #[.agg #[.int .i64 0, .int .i64 0, .int .i64 0, .int .i64 0, .int .i64 0, .int .i64 0, .int .i64 0, .slice none 0 0], .int .i64 4]) (by simp [results, Tryd.results23, go_sem, r0, r1, r2, r3, r4, r5, r6, r7]) rfl ?_
        have hA : readA L1 l = zeroM := by rw [HA.out, if_neg (by rw [HF.out]; decide)]
        rw [HF.out, hA]
        exact ⟨none, 0, rfl, ⟨.inl rfl, Nat.le_refl _, by unfold maxLen; omega⟩, bS⟩
theorem rread12_same (s : ByteArray) : readN L1 s.data.toList = readN L0 s.data.toList ∧ readA L1 s.data.toList = readA L0 s.data.toList := read_same L1_ok L0_ok _
end Go.Proofs.YtgafjbmpaeejbaaDoor
