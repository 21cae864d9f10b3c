/- Package scan: anew, Copy, Same, Find's closure. -/
import Derived.Test.YtnkkjedckehoaaaDoorSb
import Derived.Test.YtnkkjedckehoaaaDoorFr
import Derived.Deep.RegionHeld3
namespace Go.Proofs.YtnkkjedckehoaaaDoor
open Go.RowKit

/-! ### Cells of one entry, stored -/
theorem set_zero (x e : Ent) (es : List Ent) : (((((entV (x :: es)).set 0 (.string e.path)).set 1 (.bool e.has)).set 2 (.string e.data)).set 3 (.int .i64 e.l)).set 4 (.int .i64 e.r) = entV (e :: es) := rfl
theorem ent_set : ∀ (es : List Ent) (j : Nat) (_ : j < es.length) (e : Ent), (((((entV es).set (j * 5) (.string e.path)).set (j * 5 + 1) (.bool e.has)).set (j * 5 + 2) (.string e.data)).set (j * 5 + 3) (.int .i64 e.l)).set (j * 5 + 4) (.int .i64 e.r) = entV (es.set j e)
  | x :: es, 0, _, e => by
    rw [List.set_cons_zero, Nat.zero_mul]
    exact set_zero x e es
  | x :: es, j + 1, h, e => by
    have ih := ent_set es j (by simpa using h) e
    rw [List.set_cons_succ, entV_cons, entV_cons, ← ih]
    have e0 : (j + 1) * 5 = (j * 5) + 1 + 1 + 1 + 1 + 1 := by omega
    have e1 : (j + 1) * 5 + 1 = (j * 5 + 1) + 1 + 1 + 1 + 1 + 1 := by omega
    have e2 : (j + 1) * 5 + 2 = (j * 5 + 2) + 1 + 1 + 1 + 1 + 1 := by omega
    have e3 : (j + 1) * 5 + 3 = (j * 5 + 3) + 1 + 1 + 1 + 1 + 1 := by omega
    have e4 : (j + 1) * 5 + 4 = (j * 5 + 4) + 1 + 1 + 1 + 1 + 1 := by omega
    rw [e1, e2, e3, e4, e0]
    simp only [eV, List.cons_append, List.nil_append, List.set_cons_succ]
theorem path_set : ∀ (es : List Ent) (j : Nat) (h : j < es.length) (p : ByteArray), (entV es).set (j * 5) (.string p) = entV (es.set j ⟨p, es[j].has, es[j].data, es[j].l, es[j].r⟩)
  | x :: es, 0, _, p => rfl
  | x :: es, j + 1, h, p => by
    have ih := path_set es j (by simpa using h) p
    have e0 : (j + 1) * 5 = (j * 5) + 1 + 1 + 1 + 1 + 1 := by omega
    rw [List.set_cons_succ, entV_cons, entV_cons, e0]
    simp only [eV, List.cons_append, List.nil_append, List.set_cons_succ, List.getElem_cons_succ, ih]
theorem Blk.ent {w : World} {g : Nat} {es : List Ent} {t : TypeId} (h : Blk w g (entV es) t) {j : Nat} (hj : j < es.length) :
    w.cell? ⟨g, j * 5, none⟩ = some (.string es[j].path) ∧ w.cell? ⟨g, j * 5 + 1, none⟩ = some (.bool es[j].has) ∧ w.cell? ⟨g, j * 5 + 2, none⟩ = some (.string es[j].data) ∧ w.cell? ⟨g, j * 5 + 3, none⟩ = some (.int .i64 es[j].l) ∧ w.cell? ⟨g, j * 5 + 4, none⟩ = some (.int .i64 es[j].r) := by
  have g : ∀ q, q < 5 → w.cell? ⟨g, j * 5 + q, none⟩ = (eV es[j])[q]? := fun q hq => by rw [h.cell, entV_at es j hj q hq]
  exact ⟨g 0 (by omega), g 1 (by omega), g 2 (by omega), g 3 (by omega), g 4 (by omega)⟩
theorem Blk.rd {w : World} {g : Nat} {cs : List Value} {t : TypeId} (h : Blk w g cs t) : Rd w (some ⟨g, 0, none⟩) cs :=
  .inr ⟨_, rfl, fun k u hu => by rw [Addr.add_lit, Nat.zero_add, h.cell, hu]⟩

abbrev zE : Ent := ⟨noS, false, noS, 0, 0⟩
theorem Tryd.infoE : (Tryd.prog.info? 37).map (fun i => (i.zero, i.size, i.bytes)) = some (some (eA zE), 5, 56) := by kernel_rfl
theorem made_ents (n : Nat) : madeCells (eV zE).toArray (n * 5) = (entV (List.replicate n zE)).toArray := by
  apply Array.ext
  · simp [madeCells, entV_length]
  · intro i h1 h2
    have hi : i < n * 5 := by simpa [entV_length] using h2
    have e := entV_at (List.replicate n zE) (i / 5) (by simp; omega) (i % 5) (by omega)
    rw [show i / 5 * 5 + i % 5 = i by omega] at e
    simp only [madeCells, Array.getElem_map, Array.getElem_range, List.getElem_toArray]
    have e2 : (entV (List.replicate n zE))[i]? = some ((entV (List.replicate n zE))[i]'(by simpa using h2)) := List.getElem?_eq_getElem _
    rw [e2, List.getElem_replicate] at e
    have h5 : (eV zE).toArray.size = 5 := rfl
    rw [h5]
    have h6 : (eV zE)[i % 5]? = some ((eV zE).toArray[i % 5]!) := by
      have : i % 5 < 5 := by omega
      match i % 5, this with
      | 0, _ => rfl
      | 1, _ => rfl
      | 2, _ => rfl
      | 3, _ => rfl
      | 4, _ => rfl
    rw [h6] at e
    injection e with e
    rw [e]
theorem make_ents (n : Nat) (hn : n ≤ 1000000) (w : World) : (Instr.makeSlice 22 (.int .i64 (n : Int)) (.int .i64 (n : Int))).run Tryd.prog w = .ok (.slice (some ⟨w.heap.size, 0, none⟩) n n) (w.alloc (.cells (entV (List.replicate n zE)).toArray 37)) := by
  obtain ⟨i, hi, hz0, hz1, hz2⟩ := info_parts Tryd.infoE
  have h := run_make (P := Tryd.prog) w 22 37 i _ Tryd.underlying22 hi hz0 .i64 .i64 n n (by omega) (Int.le_refl _) (by rw [hz2]; omega) (by omega)
  rw [h, hz1, Int.toNat_natCast, ← made_ents]
  rfl

set_option maxHeartbeats 1000000 in
theorem eanew_any (x : Ent) (w : World) (hx : x.path.size ≤ 281474976710656) (hd : x.data.size ≤ 281474976710656) :
    Calls Tryd.prog 35 #[eA x] w fun e w' => e = .returned (eA x) ∧ Below w.heap.size w w' := by
  obtain ⟨x, h, d, l, r⟩ := x
  simp only at hx hd
  have p0 : Blk ((w.alloc (.cells #[.string x, .bool h, .string d, .int .i64 l, .int .i64 r] 37)).alloc (.cells #[.string ⟨#[]⟩, .bool false, .string ⟨#[]⟩, .int .i64 0, .int .i64 0] 37)) w.heap.size [.string x, .bool h, .string d, .int .i64 l, .int .i64 r] 37 := (Blk.new w [.string x, .bool h, .string d, .int .i64 l, .int .i64 r] 37).below ((Below.refl _ _).alloc (Nat.le_refl _) _)
  have q0 : Blk ((w.alloc (.cells #[.string x, .bool h, .string d, .int .i64 l, .int .i64 r] 37)).alloc (.cells #[.string ⟨#[]⟩, .bool false, .string ⟨#[]⟩, .int .i64 0, .int .i64 0] 37)) (w.heap.size + 1) [.string ⟨#[]⟩, .bool false, .string ⟨#[]⟩, .int .i64 0, .int .i64 0] 37 := by
    have := Blk.new (w.alloc (.cells #[.string x, .bool h, .string d, .int .i64 l, .int .i64 r] 37)) [.string ⟨#[]⟩, .bool false, .string ⟨#[]⟩, .int .i64 0, .int .i64 0] 37
    simpa using this
  have b0 : Below w.heap.size w ((w.alloc (.cells #[.string x, .bool h, .string d, .int .i64 l, .int .i64 r] 37)).alloc (.cells #[.string ⟨#[]⟩, .bool false, .string ⟨#[]⟩, .int .i64 0, .int .i64 0] 37)) := ((Below.refl _ _).alloc (Nat.le_refl _) _).alloc (by simp) _
  go_enter Tryd.func35, Tryd.ntmps35
  go_upto_region 1 with (fail)
  generalize (w.alloc (.cells #[.string x, .bool h, .string d, .int .i64 l, .int .i64 r] 37)).alloc (.cells #[.string ⟨#[]⟩, .bool false, .string ⟨#[]⟩, .int .i64 0, .int .i64 0] 37) = W0 at *
  have d1 := p0.cell 0
  have d2 := p0.cell 2
  simp only [List.getElem?_cons_zero, List.getElem?_cons_succ] at d1 d2
  refine wp_region_held_drew (S := fun w' => w'.cell? ⟨w.heap.size, 0, none⟩ = some (.string x) ∧ w'.cell? ⟨w.heap.size, 2, none⟩ = some (.string d)) (by kernel_rfl) ⟨d1, d2⟩ (fun hHeld => ?_)
  refine wpAnyH_take (i := 0) (oi := ⟨_, _, _, _, _, _⟩) (v := ?_) rfl (by kernel_rfl) (by kernel_rfl) (by kernel_rfl) (fun _ _ _ h => h) (Or.inl ⟨by rfl, ?_⟩) (by assumption) ?_
  rotate_left
  · intro w hSw; (try dsimp only at hSw); go_simp; (try (with_reducible rfl))
  try simp only [Act.put, List.setIfInBounds_toArray, List.set_cons_zero, List.set_cons_succ]
  refine wpAnyH_take (i := 1) (oi := ⟨_, _, _, _, _, _⟩) (v := ?_) rfl (by kernel_rfl) (by kernel_rfl) (by kernel_rfl) (fun _ _ _ h => h) (Or.inl ⟨by rfl, ?_⟩) (by assumption) ?_
  rotate_left
  · intro w hSw; (try dsimp only at hSw); go_simp; (try (with_reducible rfl))
  try simp only [Act.put, List.setIfInBounds_toArray, List.set_cons_zero, List.set_cons_succ]
  refine wpAnyH_take (i := 3) (oi := ⟨_, _, _, _, _, _⟩) (v := ?_) rfl (by kernel_rfl) (by kernel_rfl) (by kernel_rfl) (fun _ _ _ h => h) (Or.inl ⟨by rfl, ?_⟩) (by assumption) ?_
  rotate_left
  · intro w hSw; (try dsimp only at hSw); go_simp; (try (with_reducible rfl))
  try simp only [Act.put, List.setIfInBounds_toArray, List.set_cons_zero, List.set_cons_succ]
  refine wpAnyH_take (i := 4) (oi := ⟨_, _, _, _, _, _⟩) (v := ?_) rfl (by kernel_rfl) (by kernel_rfl) (by kernel_rfl) (fun _ _ _ h => h) (Or.inl ⟨by rfl, ?_⟩) (by assumption) ?_
  rotate_left
  · intro w hSw; (try dsimp only at hSw); go_simp; (try (with_reducible rfl))
  try simp only [Act.put, List.setIfInBounds_toArray, List.set_cons_zero, List.set_cons_succ]
  refine wpAnyH_ready (rs := [2]) (by kernel_rfl) (by simp) ?_
  refine AllReadyH.cons (o := ⟨_, _, _, _, _, _⟩) rfl (fun K hK => ?_) AllReadyH.nil
  go_simp
  refine (clone_any x _ hx).mono ?_
  rintro e w1 ⟨rfl, hb1⟩
  have p1 := Blk.below (w := W0.drew) p0 hb1
  have q1 := Blk.below (w := W0.drew) q0 hb1
  have b1 := b0.drew.trans (hb1.mono b0.drew.size)
  have d3 := p1.cell 0
  have d4 := p1.cell 2
  simp only [List.getElem?_cons_zero, List.getElem?_cons_succ] at d3 d4
  refine hK.out _ _ ⟨d3, d4⟩ (fun hHeld => ?_)
  clear hK K
  try simp only [Act.put, List.setIfInBounds_toArray, List.set_cons_zero, List.set_cons_succ]
  refine wpAnyH_take (i := 6) (oi := ⟨_, _, _, _, _, _⟩) (v := ?_) rfl (by kernel_rfl) (by kernel_rfl) (by kernel_rfl) (fun _ _ _ h => h) (Or.inl ⟨by rfl, ?_⟩) (by assumption) ?_
  rotate_left
  · intro w hSw; (try dsimp only at hSw); go_simp; (try (with_reducible rfl))
  try simp only [Act.put, List.setIfInBounds_toArray, List.set_cons_zero, List.set_cons_succ]
  refine wpAnyH_ready (rs := [5]) (by kernel_rfl) (by simp) ?_
  refine AllReadyH.cons (o := ⟨_, _, _, _, _, _⟩) rfl (fun K hK => ?_) AllReadyH.nil
  go_simp
  refine (clone_any d _ hd).mono ?_
  rintro e w2 ⟨rfl, hb2⟩
  have p2 := p1.below (hb2)
  have q2 := q1.below (hb2)
  have d5 := p2.cell 0
  have d6 := p2.cell 2
  simp only [List.getElem?_cons_zero, List.getElem?_cons_succ] at d5 d6
  have b2 := b1.trans (hb2.mono b1.size)
  refine hK.out _ _ ⟨d5, d6⟩ (fun hHeld => ?_)
  clear hK K
  try simp only [Act.put, List.setIfInBounds_toArray, List.set_cons_zero, List.set_cons_succ]
  have f0 := p2.frozen 0
  have f1 := p2.frozen 2
  have P3 := p2.set_ 0 (.string x)
  have Q3 := q2.other (show w.heap.size + 1 ≠ w.heap.size by omega) 0 (.string x)
  have e1 := P3.cell 0
  have e2 := P3.cell 2
  simp only [List.set_cons_zero, List.getElem?_cons_zero, List.getElem?_cons_succ] at e1 e2
  have B3 := b2.setCell (p := ⟨w.heap.size, 0, none⟩) (Nat.le_refl _) (.string x)
  refine wpAnyH_ready (rs := [7]) (by kernel_rfl) (by simp) ?_
  refine AllReadyH.cons (o := ⟨_, _, _, _, _, _⟩) rfl (fun K hK => ?_) AllReadyH.nil
  go_simp
  generalize w2.setCell ⟨w.heap.size, 0, none⟩ (.string x) = w3 at *
  refine hK.out _ _ ⟨e1, e2⟩ (fun hHeld => ?_)
  clear hK K
  try simp only [Act.put, List.setIfInBounds_toArray, List.set_cons_zero, List.set_cons_succ]
  refine wpAnyH_take (i := 8) (oi := ⟨_, _, _, _, _, _⟩) (v := ?_) rfl (by kernel_rfl) (by kernel_rfl) (by kernel_rfl) (fun _ _ _ h => h) (Or.inl ⟨by rfl, ?_⟩) (by assumption) ?_
  rotate_left
  · intro w hSw; (try dsimp only at hSw); go_simp; (try (with_reducible rfl))
  try simp only [Act.put, List.setIfInBounds_toArray, List.set_cons_zero, List.set_cons_succ]
  have f2 := P3.frozen 2
  have P4 := P3.set_ 2 (.string d)
  have Q4 := Q3.other (show w.heap.size + 1 ≠ w.heap.size by omega) 2 (.string d)
  simp only [List.set_cons_zero, List.set_cons_succ] at P4
  have B4 := B3.setCell (p := ⟨w.heap.size, 2, none⟩) (Nat.le_refl _) (.string d)
  have g0 := P4.cell 0
  have g1 := P4.cell 1
  have g2 := P4.cell 2
  have g3 := P4.cell 3
  have g4 := P4.cell 4
  have z0 := Q4.cell 0
  have z1 := Q4.cell 1
  have z2 := Q4.cell 2
  have z3 := Q4.cell 3
  have z4 := Q4.cell 4
  have y0 := Q4.frozen 0
  have y1 := Q4.frozen 1
  have y2 := Q4.frozen 2
  have y3 := Q4.frozen 3
  have y4 := Q4.frozen 4
  simp only [List.getElem?_cons_zero, List.getElem?_cons_succ] at g0 g1 g2 g3 g4 z0 z1 z2 z3 z4
  refine wpAnyH_ready (rs := [9]) (by kernel_rfl) (by simp) ?_
  refine AllReadyH.cons (o := ⟨_, _, _, _, _, _⟩) rfl (fun K hK => ?_) AllReadyH.nil
  go_simp
  generalize w3.setCell ⟨w.heap.size, 2, none⟩ (.string d) = w4 at *
  refine hK.out _ _ ⟨g0, g2⟩ (fun hHeld => ?_)
  clear hK K
  try simp only [Act.put, List.setIfInBounds_toArray, List.set_cons_zero, List.set_cons_succ]
  refine wpAnyH_done (by kernel_rfl) ?_ _
  clear hHeld P3 Q3 p2 q2 p1 q1 p0 q0 f0 f1 f2
  have R4 := ((((Q4.set_ 0 (.string x)).set_ 1 (.bool h)).set_ 2 (.string d)).set_ 3 (.int .i64 l)).set_ 4 (.int .i64 r)
  have r0 := R4.cell 0
  have r1 := R4.cell 1
  have r2 := R4.cell 2
  have r3 := R4.cell 3
  have r4 := R4.cell 4
  simp only [List.set_cons_zero, List.set_cons_succ, List.getElem?_cons_zero, List.getElem?_cons_succ] at r0 r1 r2 r3 r4
  have hle : w.heap.size ≤ w.heap.size + 1 := by omega
  have B5 := ((((B4.setCell (p := ⟨w.heap.size + 1, 0, none⟩) hle (.string x)).setCell (p := ⟨w.heap.size + 1, 1, none⟩) hle (.bool h)).setCell (p := ⟨w.heap.size + 1, 2, none⟩) hle (.string d)).setCell (p := ⟨w.heap.size + 1, 3, none⟩) hle (.int .i64 l)).setCell (p := ⟨w.heap.size + 1, 4, none⟩) hle (.int .i64 r)
  go_wp2
  refine bodyPost_ret (v := .agg #[.string x, .bool h, .string d, .int .i64 l, .int .i64 r]) (by simp [results, Tryd.results35, go_sem, r0, r1, r2, r3, r4]) rfl ⟨rfl, B5⟩

set_option maxHeartbeats 1000000 in
theorem copy_any {w : World} {A : Option Addr} {n c : Nat} {es : List Ent} (h : Et w A n c es) :
    Calls Tryd.prog 14 #[.slice A n c] w fun e w' => e = .returned (.slice (some ⟨w.heap.size, 0, none⟩) n n) ∧ Blk w' w.heap.size (entV es) 37 ∧ Below w.heap.size w w' := by
  have hnb := h.big
  have hmk := make_ents n hnb
  have HL := hid h.len
  have HS := hid h.sz
  have hr := h.rd
  clear h
  go_enter Tryd.func14, Tryd.ntmps14
  go_upto_region 3 with (fail)
  go_loopw [11] (fun i wr => ∃ j : Nat, j ≤ n ∧ i = .int .i64 j ∧ Blk wr w.heap.size (entV (es.take j ++ List.replicate (n - j) zE)) 37 ∧ Below w.heap.size w wr) (fun i _ => n - (intOf i).toNat)
  case atStart =>
    refine ⟨0, by omega, rfl, ?_, (Below.refl _ _).alloc (Nat.le_refl _) _⟩
    have := Blk.new w (entV (List.replicate n zE)) 37
    simpa using this
  case round =>
    obtain ⟨j, hj, rfl, hblk, hb⟩ := hrel
    by_cases hjn : j < n
    · have hjl : j < es.length := by rw [HL.out]; exact hjn
      have hr1 := hr.below hb
      obtain ⟨b, off, rfl, h1, h2, h3, h4, h5, -⟩ := hr1.ent hjl
      have hz : (0 : Int) ≤ j := by omega
      have hlt : (j : Int) < n := by omega
      have hsz := HS.out es[j] (List.getElem_mem hjl)
      have hj2 : j < (es.take j ++ List.replicate (n - j) zE).length := by rw [List.length_append, List.length_take, List.length_replicate]; omega
      have HSET := hid (ent_set _ j hj2 es[j])
      have HT : Hid ((es.take j ++ List.replicate (n - j) zE).set j es[j] = es.take (j + 1) ++ List.replicate (n - (j + 1)) zE) := by
        show _ = _
        rw [List.set_append_right _ _ (by rw [List.length_take]; omega), List.length_take, Nat.min_eq_left (by omega), Nat.sub_self, show n - j = (n - (j + 1)) + 1 by omega, List.replicate_succ, List.set_cons_zero, List.take_add_one, List.getElem?_eq_getElem hjl, List.append_assoc]
        rfl
      clear hr1
      go_upto_region 5 with (fail)
      have hblk2 := hblk.below ((Below.refl _ _).alloc (Nat.le_refl _) (.cells #[.string es[j].path, .bool es[j].has, .string es[j].data, .int .i64 es[j].l, .int .i64 es[j].r] 37))
      have hb2 := hb.alloc hb.size (.cells #[.string es[j].path, .bool es[j].has, .string es[j].data, .int .i64 es[j].l, .int .i64 es[j].r] 37)
      have k := Blk.new wr [.string es[j].path, .bool es[j].has, .string es[j].data, .int .i64 es[j].l, .int .i64 es[j].r] 37
      have k1 := k.cell 0
      have k2 := k.cell 1
      have k3 := k.cell 2
      have k4 := k.cell 3
      have k5 := k.cell 4
      simp only [List.getElem?_cons_zero, List.getElem?_cons_succ] at k1 k2 k3 k4 k5
      clear k hblk hb h1 h2 h3 h4 h5
      generalize es[j] = x at *
      generalize wr.alloc (.cells #[.string x.path, .bool x.has, .string x.data, .int .i64 x.l, .int .i64 x.r] 37) = wa at *
      generalize wr.heap.size = g at *
      go_wp2_with fail
      refine (eanew_any x _ (by omega) (by omega)).mono ?_
      rintro e w1 ⟨rfl, hb1⟩
      have hblk3 := hblk2.below hb1
      have hb3 := hb2.trans (hb1.mono hb2.size)
      have c0 := hblk3.ent hj2
      obtain ⟨c0, c1, c2, c3, c4⟩ := c0
      generalize (es.take j ++ List.replicate (n - j) zE)[j] = z at c0 c1 c2 c3 c4
      have f0 := hblk3.frozen (j * 5)
      have f1 := hblk3.frozen (j * 5 + 1)
      have f2 := hblk3.frozen (j * 5 + 2)
      have f3 := hblk3.frozen (j * 5 + 3)
      have f4 := hblk3.frozen (j * 5 + 4)
      have hblk4 := ((((hblk3.set_ (j * 5) (.string x.path)).set_ (j * 5 + 1) (.bool x.has)).set_ (j * 5 + 2) (.string x.data)).set_ (j * 5 + 3) (.int .i64 x.l)).set_ (j * 5 + 4) (.int .i64 x.r)
      rw [HSET.out, HT.out] at hblk4
      have hb4 := ((((hb3.setCell (p := ⟨w.heap.size, j * 5, none⟩) (Nat.le_refl _) (.string x.path)).setCell (p := ⟨w.heap.size, j * 5 + 1, none⟩) (Nat.le_refl _) (.bool x.has)).setCell (p := ⟨w.heap.size, j * 5 + 2, none⟩) (Nat.le_refl _) (.string x.data)).setCell (p := ⟨w.heap.size, j * 5 + 3, none⟩) (Nat.le_refl _) (.int .i64 x.l)).setCell (p := ⟨w.heap.size, j * 5 + 4, none⟩) (Nat.le_refl _) (.int .i64 x.r)
      clear hblk2 hb1 hb2 hblk3 k1 k2 k3 k4 k5 hj2
      go_wp2
      go_roundw
      case rel => exact ⟨j + 1, by omega, by go_num, hblk4, hb4⟩
      case measure => simp [intOf]; omega
    · have HE := hid (show j = n by omega)
      have hnlt : ¬ (j : Int) < n := by omega
      go_wp2
      go_ret
      refine ⟨rfl, ?_, hb⟩
      rw [HE.out, List.take_of_length_le (by rw [HL.out]; omega), Nat.sub_self, List.replicate_zero, List.append_nil] at hblk
      exact hblk

/-! ### Same -/
theorem same_noE {fs gs : List Ent} {j : Nat} (h1 : j < fs.length) (h2 : j < gs.length) (h : fs[j] ≠ gs[j]) : fs ≠ gs := fun e => by subst e; exact h rfl
set_option maxHeartbeats 1000000 in
theorem equalE_any {w : World} {A B : Option Addr} {n c m d : Nat} {fs gs : List Ent} (hl : fs.length = n) (hr : Rd w A (entV fs)) (hl2 : gs.length = m) (hr2 : Rd w B (entV gs)) (hn : n ≤ 1000000) :
    Calls Tryd.prog 49 #[.slice A n c, .slice B m d] w fun e w' => e = .returned (.bool (decide (fs = gs))) ∧ Below w.heap.size w w' := by
  have HL := hid hl
  have HL2 := hid hl2
  clear hl hl2
  by_cases hnm : n = m
  · subst hnm
    go_enter Tryd.func49, Tryd.ntmps49
    go_wp2
    go_loopw [13] (fun i wr => ∃ j : Nat, j ≤ n ∧ i = .int .i64 j ∧ Hid (fs.take j = gs.take j) ∧ ∃ q, wr = w.drewN q) (fun i _ => n - (intOf i).toNat)
    case atStart => exact ⟨0, by omega, rfl, by simp [Hid], 0, rfl⟩
    case round =>
      obtain ⟨j, hj, rfl, HO, q, rfl⟩ := hrel
      by_cases hjn : j < n
      · have hjl : j < fs.length := by rw [HL.out]; exact hjn
        have hjl2 : j < gs.length := by rw [HL2.out]; exact hjn
        obtain ⟨b, off, rfl, h1, h2, h3, h4, h5, -⟩ := hr.ent hjl
        obtain ⟨b', off', rfl, g1, g2, g3, g4, g5, -⟩ := hr2.ent hjl2
        have HN := hid (@same_noE fs gs j hjl hjl2)
        have HT1 := hid (show fs.take (j + 1) = fs.take j ++ [fs[j]] by rw [List.take_add_one, List.getElem?_eq_getElem hjl]; rfl)
        have HT2 := hid (show gs.take (j + 1) = gs.take j ++ [gs[j]] by rw [List.take_add_one, List.getElem?_eq_getElem hjl2]; rfl)
        have hz : (0 : Int) ≤ j := by omega
        have hlt : (j : Int) < n := by omega
        have hneq := neqE fs[j] gs[j]
        generalize fs[j] = f at *
        generalize gs[j] = g at *
        by_cases hfg : f = g
        · rw [decide_eq_true hfg] at hneq
          have HFG := hid hfg
          clear hfg
          go_wp2_with fail
          go_quiet (fail)
          go_wp2
          go_roundw
          case rel => exact ⟨j + 1, by omega, by go_num, hid (by rw [HT1.out, HT2.out, HO.out, HFG.out]), _, rfl⟩
          case measure => simp [intOf]; omega
        · rw [decide_eq_false hfg] at hneq
          have HFG := hid hfg
          clear hfg
          go_wp2_with fail
          go_quiet (fail)
          go_wp2
          go_ret
          exact ⟨ret_bool (decide_eq_false (HN.out HFG.out)).symm, below_drewN (below_drewN (Below.refl _ _) _) _⟩
      · have HE := hid (show j = n by omega)
        have hnlt : ¬ (j : Int) < n := by omega
        go_wp2
        go_ret
        refine ⟨ret_bool ?_, below_drewN (Below.refl _ _) _⟩
        have ho := HO.out
        have e1 := HE.out
        rw [e1, List.take_of_length_le (by rw [HL.out]; omega), List.take_of_length_le (by rw [HL2.out]; omega)] at ho
        exact (decide_eq_true ho).symm
  · have hnz : ¬ (n : Int) = m := by omega
    go_enter Tryd.func49, Tryd.ntmps49
    go_wp2
    go_ret
    refine ⟨ret_bool ?_, Below.refl _ _⟩
    refine (decide_eq_false ?_).symm
    intro e
    subst e
    exact hnm (by rw [← HL.out, HL2.out])
set_option maxHeartbeats 400000 in
theorem sameE_any {w : World} {A B : Option Addr} {n c m d : Nat} {fs gs : List Ent} (hl : fs.length = n) (hr : Rd w A (entV fs)) (hl2 : gs.length = m) (hr2 : Rd w B (entV gs)) (hn : n ≤ 1000000) :
    Calls Tryd.prog 24 #[.slice A n c, .slice B m d] w fun e w' => e = .returned (.bool (decide (fs = gs))) ∧ Below w.heap.size w w' := by
  have c0 := equalE_any (c := c) (d := d) hl hr hl2 hr2 hn
  clear hl hr hl2 hr2
  generalize decide (fs = gs) = b at *
  go_enter Tryd.func24, Tryd.ntmps24
  go_wp2_with fail
  refine c0.mono ?_
  rintro e w1 ⟨rfl, hb⟩
  clear c0
  go_wp2
  go_ret
  exact ⟨rfl, hb⟩

/-! ### Find's closure -/
set_option maxHeartbeats 400000 in
theorem find1_any (bx : Nat) (e : Ent) (p : ByteArray) (W : World) (hx : W.cell? ⟨bx, 0, none⟩ = some (.string p)) :
    Calls Tryd.prog 48 (#[eA e] ++ #[.pointer (some ⟨bx, 0, none⟩)]) W fun x w' => x = .returned (.bool (decide (e.path = p))) ∧ Below W.heap.size W w' := by
  obtain ⟨x, h, d, l, r⟩ := e
  have hb := World.block_lt_of_cell? _ _ hx
  have HE := hid (str_eqb x p)
  go_enter Tryd.func48, Tryd.ntmps48
  go_wp2
  go_ret
  exact ⟨ret_bool HE.out, by go_grown⟩

set_option maxHeartbeats 1000000 in
theorem idxE_any (bx : Nat) (A : Option Addr) (n c : Nat) (es : List Ent) (p : ByteArray) (w : World) (hl : es.length = n) (hx : w.cell? ⟨bx, 0, none⟩ = some (.string p)) (hr : Rd w A (entV es)) (hn : n ≤ 1000000) :
    Calls Tryd.prog 47 #[.slice A n c, .func (.func 48) #[] #[.pointer (some ⟨bx, 0, none⟩)]] w fun x w' => x = .returned (.int .i64 (idxE es p)) ∧ Below w.heap.size w w' := by
  have eg := enters_of Tryd.func48 (by kernel_rfl) rfl
  have hbx := World.block_lt_of_cell? _ _ hx
  have HL := hid hl
  clear hl
  go_enter Tryd.func47, Tryd.ntmps47
  go_wp2_with fail
  go_loopw [8] (fun i wr => ∃ j : Nat, j ≤ n ∧ i = .int .i64 j ∧ Hid (∀ k (hk : k < es.length), k < j → es[k].path ≠ p) ∧ Below w.heap.size w wr) (fun i _ => n - (intOf i).toNat)
  case atStart => exact ⟨0, by omega, rfl, hid (fun k _ hk => absurd hk (by omega)), Below.refl _ _⟩
  case round =>
    obtain ⟨j, hj, rfl, HO, hb⟩ := hrel
    by_cases hjn : j < n
    · have hjl : j < es.length := by rw [HL.out]; exact hjn
      have hr1 := hr.below hb
      obtain ⟨b, off, rfl, h1, h2, h3, h4, h5, -⟩ := hr1.ent hjl
      have hx1 := (hb.cell (p := ⟨bx, 0, none⟩) hbx).trans hx
      have cc := find1_any bx es[j] p wr hx1
      have HY := hid (fun h => @idxE_at es p j hjl h HO.out)
      have HN : Hid (es[j].path ≠ p → ∀ k (hk : k < es.length), k < j + 1 → es[k].path ≠ p) := fun h k hk hkj => by
        by_cases e : k = j
        · subst e; exact h
        · exact HO.out k hk (by omega)
      generalize es[j] = f at *
      clear hr1
      have hz : (0 : Int) ≤ j := by omega
      have hlt : (j : Int) < n := by omega
      go_wp2_with fail
      refine cc.mono ?_
      rintro e w1 ⟨rfl, hb1⟩
      have hb1' := below2 hb hb1
      clear cc hb hb1 hx1
      by_cases hq : f.path = p
      · rw [decide_eq_true hq]
        have HQ := hid hq
        clear hq
        go_wp2
        go_ret
        exact ⟨ret_int (HY.out HQ.out).symm, hb1'⟩
      · rw [decide_eq_false hq]
        have HQ := hid hq
        clear hq
        go_wp2
        go_roundw
        case rel => exact ⟨j + 1, by omega, by go_num, hid (HN.out HQ.out), hb1'⟩
        case measure => simp [intOf]; omega
    · have HE := hid (show j = n by omega)
      have hnlt : ¬ (j : Int) < n := by omega
      go_wp2
      go_ret
      refine ⟨ret_int ?_, hb⟩
      symm
      refine idxE_no fun e he => ?_
      obtain ⟨k, hk, rfl⟩ := List.mem_iff_getElem.1 he
      exact HO.out k hk (by rw [HE.out, ← HL.out]; exact hk)
end Go.Proofs.YtnkkjedckehoaaaDoor
