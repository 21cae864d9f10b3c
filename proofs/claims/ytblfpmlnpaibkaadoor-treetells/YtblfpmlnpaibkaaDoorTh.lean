/- tree.anew, tree.copied. -/
import Derived.Test.YtblfpmlnpaibkaaDoorTg
import Derived.Deep.RegionHeld3
import Derived.Handy
namespace Go.Proofs.YtblfpmlnpaibkaaDoor
open Go.RowKit

set_option maxHeartbeats 1000000 in
theorem anew_any (x d : ByteArray) (w : World) (hx : x.size ≤ 281474976710656) (hd : d.size ≤ 281474976710656) :
    Calls Tryd.prog 37 #[.agg #[.string x, .string d]] w fun e w' => e = .returned (.agg #[.string x, .string d]) ∧ Below w.heap.size w w' := by
  have p0 : Blk ((w.alloc (.cells #[.string x, .string d] 33)).alloc (.cells #[zS, zS] 33)) w.heap.size [.string x, .string d] 33 := (Blk.new w [.string x, .string d] 33).below ((Below.refl _ _).alloc (Nat.le_refl _) _)
  have q0 : Blk ((w.alloc (.cells #[.string x, .string d] 33)).alloc (.cells #[zS, zS] 33)) (w.heap.size + 1) [zS, zS] 33 := by
    have := Blk.new (w.alloc (.cells #[.string x, .string d] 33)) [zS, zS] 33
    simpa using this
  have b0 : Below w.heap.size w ((w.alloc (.cells #[.string x, .string d] 33)).alloc (.cells #[zS, zS] 33)) := ((Below.refl _ _).alloc (Nat.le_refl _) _).alloc (by simp) _
  go_enter Tryd.func37, Tryd.ntmps37
  go_upto_region 1 with (fail)
  generalize (w.alloc (.cells #[.string x, .string d] 33)).alloc (.cells #[zS, zS] 33) = W0 at *
  have d1 := p0.cell 0
  have d2 := p0.cell 1
  simp only [List.getElem?_cons_zero, List.getElem?_cons_succ] at d1 d2
  refine wp_region_held_drew (S := fun w' => w'.cell? ⟨w.heap.size, 0, none⟩ = some (.string x) ∧ w'.cell? ⟨w.heap.size, 1, none⟩ = some (.string d)) (by kernel_rfl) ⟨d1, d2⟩ (fun hHeld => ?_)
  refine wpAnyH_take (i := 0) (oi := ⟨_, _, _, _, _, _⟩) (v := ?_) rfl (by kernel_rfl) (by kernel_rfl) (by kernel_rfl) (fun _ _ _ h => h) (Or.inl ⟨by rfl, ?_⟩) (by assumption) ?_
  rotate_left
  · intro w hSw; (try dsimp only at hSw); go_simp; (try (with_reducible rfl))
  try simp only [Act.put, List.setIfInBounds_toArray, List.set_cons_zero, List.set_cons_succ]
  refine wpAnyH_take (i := 1) (oi := ⟨_, _, _, _, _, _⟩) (v := ?_) rfl (by kernel_rfl) (by kernel_rfl) (by kernel_rfl) (fun _ _ _ h => h) (Or.inl ⟨by rfl, ?_⟩) (by assumption) ?_
  rotate_left
  · intro w hSw; (try dsimp only at hSw); go_simp; (try (with_reducible rfl))
  try simp only [Act.put, List.setIfInBounds_toArray, List.set_cons_zero, List.set_cons_succ]
  refine wpAnyH_take (i := 3) (oi := ⟨_, _, _, _, _, _⟩) (v := ?_) rfl (by kernel_rfl) (by kernel_rfl) (by kernel_rfl) (fun _ _ _ h => h) (Or.inl ⟨by rfl, ?_⟩) (by assumption) ?_
  rotate_left
  · intro w hSw; (try dsimp only at hSw); go_simp; (try (with_reducible rfl))
  try simp only [Act.put, List.setIfInBounds_toArray, List.set_cons_zero, List.set_cons_succ]
  refine wpAnyH_take (i := 4) (oi := ⟨_, _, _, _, _, _⟩) (v := ?_) rfl (by kernel_rfl) (by kernel_rfl) (by kernel_rfl) (fun _ _ _ h => h) (Or.inl ⟨by rfl, ?_⟩) (by assumption) ?_
  rotate_left
  · intro w hSw; (try dsimp only at hSw); go_simp; (try (with_reducible rfl))
  try simp only [Act.put, List.setIfInBounds_toArray, List.set_cons_zero, List.set_cons_succ]
  refine wpAnyH_ready (rs := [2]) (by kernel_rfl) (by simp) ?_
  refine AllReadyH.cons (o := ⟨_, _, _, _, _, _⟩) rfl (fun K hK => ?_) AllReadyH.nil
  go_simp
  refine (clone_any x _ hx).mono ?_
  rintro e w1 ⟨rfl, hb1⟩
  have p1 := Blk.below (w := W0.drew) p0 hb1
  have q1 := Blk.below (w := W0.drew) q0 hb1
  have b1 := b0.drew.trans (hb1.mono b0.drew.size)
  have d3 := p1.cell 0
  have d4 := p1.cell 1
  simp only [List.getElem?_cons_zero, List.getElem?_cons_succ] at d3 d4
  refine hK.out _ _ ⟨d3, d4⟩ (fun hHeld => ?_)
  clear hK K
  try simp only [Act.put, List.setIfInBounds_toArray, List.set_cons_zero, List.set_cons_succ]
  refine wpAnyH_ready (rs := [5]) (by kernel_rfl) (by simp) ?_
  refine AllReadyH.cons (o := ⟨_, _, _, _, _, _⟩) rfl (fun K hK => ?_) AllReadyH.nil
  go_simp
  refine (clone_any d _ hd).mono ?_
  rintro e w2 ⟨rfl, hb2⟩
  have p2 := p1.below (hb2)
  have q2 := q1.below (hb2)
  have d5 := p2.cell 0
  have d6 := p2.cell 1
  simp only [List.getElem?_cons_zero, List.getElem?_cons_succ] at d5 d6
  have b2 := b1.trans (hb2.mono b1.size)
  refine hK.out _ _ ⟨d5, d6⟩ (fun hHeld => ?_)
  clear hK K
  try simp only [Act.put, List.setIfInBounds_toArray, List.set_cons_zero, List.set_cons_succ]
  refine wpAnyH_take (i := 6) (oi := ⟨_, _, _, _, _, _⟩) (v := ?_) rfl (by kernel_rfl) (by kernel_rfl) (by kernel_rfl) (fun _ _ _ h => h) (Or.inl ⟨by rfl, ?_⟩) (by assumption) ?_
  rotate_left
  · intro w hSw; (try dsimp only at hSw); go_simp; (try (with_reducible rfl))
  try simp only [Act.put, List.setIfInBounds_toArray, List.set_cons_zero, List.set_cons_succ]
  have z0 := q2.cell 0
  have z1 := q2.cell 1
  simp only [List.getElem?_cons_zero, List.getElem?_cons_succ] at z0 z1
  have f0 := q2.frozen 0
  have f1 := q2.frozen 1
  have P3 := (p2.other (show w.heap.size ≠ w.heap.size + 1 by omega) 0 (.string x)).other (show w.heap.size ≠ w.heap.size + 1 by omega) 1 (.string d)
  have Q3 := (q2.set_ 0 (.string x)).set_ 1 (.string d)
  have B3 := (b2.setCell (p := ⟨w.heap.size + 1, 0, none⟩) (by show w.heap.size ≤ w.heap.size + 1; omega) (.string x)).setCell (p := ⟨w.heap.size + 1, 1, none⟩) (by show w.heap.size ≤ w.heap.size + 1; omega) (.string d)
  have e1 := P3.cell 0
  have e2 := P3.cell 1
  have r1 := Q3.cell 0
  have r2 := Q3.cell 1
  simp only [List.set_cons_zero, List.set_cons_succ, List.getElem?_cons_zero, List.getElem?_cons_succ] at e1 e2 r1 r2
  refine wpAnyH_ready (rs := [7]) (by kernel_rfl) (by simp) ?_
  refine AllReadyH.cons (o := ⟨_, _, _, _, _, _⟩) rfl (fun K hK => ?_) AllReadyH.nil
  go_simp
  generalize (w2.setCell ⟨w.heap.size + 1, 0, none⟩ (.string x)).setCell ⟨w.heap.size + 1, 1, none⟩ (.string d) = w3 at *
  refine hK.out _ _ ⟨e1, e2⟩ (fun hHeld => ?_)
  clear hK K
  try simp only [Act.put, List.setIfInBounds_toArray, List.set_cons_zero, List.set_cons_succ]
  refine wpAnyH_done (by kernel_rfl) ?_ _
  clear hHeld P3 Q3 p2 q2 p1 q1 p0 q0
  go_wp2
  refine bodyPost_ret (v := .agg #[.string x, .string d]) (by simp [results, Tryd.results37, go_sem, r1, r2]) rfl ⟨rfl, B3⟩

theorem make_files (n : Nat) (hn : n ≤ 1000000) (w : World) : (Instr.makeSlice 22 (.int .i64 (n : Int)) (.int .i64 (n : Int))).run Tryd.prog w = .ok (.slice (some ⟨w.heap.size, 0, none⟩) n n) (w.alloc (.cells (List.replicate (n * 2) zS).toArray 33)) := by
  obtain ⟨i, hi, hz0, hz1, hz2⟩ := info_parts Tryd.infoF
  have h := run_make (P := Tryd.prog) w 22 33 i _ Tryd.underlying22 hi hz0 .i64 .i64 n n (by omega) (Int.le_refl _) (by rw [hz2]; omega) (by omega)
  rw [h, hz1, Int.toNat_natCast, ← made_two]
  rfl

set_option maxHeartbeats 1000000 in
theorem copied_any {w : World} {A : Option Addr} {n c : Nat} {fs : List Fil} (h : Ft w A n c fs) (hn : n ≤ 1000000) :
    Calls Tryd.prog 35 #[.slice A n c] w fun e w' => e = .returned (.slice (some ⟨w.heap.size, 0, none⟩) n n) ∧ Blk w' w.heap.size (filV fs) 33 ∧ Below w.heap.size w w' := by
  have hmk := make_files n hn
  have HL := hid h.len
  have HS := hid h.sz
  have hr := h.rd
  clear h
  go_enter Tryd.func35, Tryd.ntmps35
  go_upto_region 3 with (fail)
  go_loopw [11] (fun i wr => ∃ j : Nat, j ≤ n ∧ i = .int .i64 j ∧ Blk wr w.heap.size (fill (filV fs) zS (j * 2)) 33 ∧ Below w.heap.size w wr) (fun i _ => n - (intOf i).toNat)
  case atStart =>
    refine ⟨0, by omega, rfl, ?_, (Below.refl _ _).alloc (Nat.le_refl _) _⟩
    have := Blk.new w (List.replicate (n * 2) zS) 33
    rw [Nat.zero_mul, fill_zero, filV_length, HL.out]
    simpa using this
  case round =>
    obtain ⟨j, hj, rfl, hblk, hb⟩ := hrel
    by_cases hjn : j < n
    · have hjl : j < fs.length := by rw [HL.out]; exact hjn
      have hr1 := hr.below hb
      obtain ⟨b, off, rfl, h1, h2, -⟩ := hr1.fil hjl
      have hz : (0 : Int) ≤ j := by omega
      have hlt : (j : Int) < n := by omega
      have HX0 := hid (filV_at0 fs j hjl)
      have HX1 := hid (filV_at1 fs j hjl)
      have hsz := HS.out fs[j] (List.getElem_mem hjl)
      have hll := filV_length fs
      clear hr1
      go_upto_region 5 with (fail)
      have hblk2 := hblk.below ((Below.refl _ _).alloc (Nat.le_refl _) (.cells #[.string fs[j].1, .string fs[j].2] 33))
      have hb2 := hb.alloc hb.size (.cells #[.string fs[j].1, .string fs[j].2] 33)
      have k := Blk.new wr [.string fs[j].1, .string fs[j].2] 33
      have k1 := k.cell 0
      have k2 := k.cell 1
      simp only [List.getElem?_cons_zero, List.getElem?_cons_succ] at k1 k2
      clear k hblk hb h1 h2
      generalize fs[j] = f at *
      obtain ⟨x, d⟩ := f
      simp only at hsz k1 k2 HX0 HX1
      generalize wr.alloc (.cells #[.string x, .string d] 33) = wa at *
      generalize wr.heap.size = g at *
      go_wp2_with fail
      refine (anew_any x d _ (by omega) (by omega)).mono ?_
      rintro e w1 ⟨rfl, hb1⟩
      have hblk3 := hblk2.below hb1
      have hb3 := hb2.trans (hb1.mono hb2.size)
      have c0 := hblk3.cell (j * 2)
      have c1 := hblk3.cell (j * 2 + 1)
      have f0 := hblk3.frozen (j * 2)
      have f1 := hblk3.frozen (j * 2 + 1)
      have hblk4 := (hblk3.set_ (j * 2) (.string x)).set_ (j * 2 + 1) (.string d)
      rw [fill_set _ _ _ _ HX0.out, fill_set _ _ _ _ HX1.out] at hblk4
      rw [fill_at _ _ _ (by omega)] at c0
      rw [fill, List.getElem?_append_right (by rw [List.length_take]; omega), List.length_take, List.getElem?_replicate, if_pos (by omega)] at c1
      have hb4 := (hb3.setCell (p := ⟨w.heap.size, j * 2, none⟩) (Nat.le_refl _) (.string x)).setCell (p := ⟨w.heap.size, j * 2 + 1, none⟩) (Nat.le_refl _) (.string d)
      clear hblk2 hb1 hb2 hblk3 k1 k2
      go_wp2
      go_roundw
      case rel => exact ⟨j + 1, by omega, by go_num, by rw [show (j + 1) * 2 = j * 2 + 1 + 1 by omega]; exact hblk4, hb4⟩
      case measure => simp [intOf]; omega
    · have HE := hid (show j = n by omega)
      have hnlt : ¬ (j : Int) < n := by omega
      go_wp2
      go_ret
      refine ⟨rfl, ?_, hb⟩
      have := fill_all (filV fs) zS
      rw [filV_length, HL.out] at this
      rw [HE.out, this] at hblk
      exact hblk
end Go.Proofs.YtblfpmlnpaibkaaDoor
