/- WireReads: the walk. -/
import Derived.Test.YtpiinamfibhjdaaRd
import Derived.Test.YtpiinamfibhjdaaLh
import Derived.Test.YtpiinamfibhjdaaArg3
import Derived.Deep.CutBlock
namespace Go.Proofs.Ytpiinamfibhjdaa
open Go.RowKit

set_option maxHeartbeats 400000 in
theorem read_new (A : Option Addr) (n c : Nat) (l : List UInt8) (w : World) (hl : l.length = n) (hr : Rd w A (by8 l)) (hn : n ≤ 140737488354000) :
    Calls Try.prog 21 #[.slice A n c] w fun r w' => ∃ g A' c', r = .returned (.pointer (some ⟨g, 0, none⟩)) ∧ RdrAt w' g A' c' l 0 0 ∧ w.heap.size ≤ g ∧ Below w.heap.size w w' ∧ ∀ ad, A' = some ad → w.heap.size ≤ ad.block := by
  have HL := hid hl
  clear hl
  go_enter Try.func21, Try.ntmps21
  go_wp2_with fail
  refine (copied_any A n c l 0 _ HL.out hr (by omega) (by omega)).mono ?_
  rintro e w1 ⟨A1, c1, rfl, hown1, hb1⟩
  go_wp2
  go_ret
  have hl := HL.out
  subst hl
  obtain ⟨_, A2, c2, hv, hc1, hc2⟩ := own_form hown1
  injection hv with e1 e2 e3
  subst e1 e3
  exact ⟨_, A1, c1, rfl, ⟨heap_alloc_new w1 _, (Rd.of_own hown1).alloc _, hc1, hc2, Nat.zero_le _⟩, hb1.size, hb1.alloc hb1.size _, fun ad h => own_app_block hown1 ad.block (by rw [h]; rfl)⟩

theorem Rd.side {w w' : World} {A : Option Addr} {xs : List Value} {g : Nat} (h : Rd w A xs) (hg : w.grownBy w' (some g)) (hA : ∀ ad, A = some ad → ad.block ≠ g) : Rd w' A xs := by
  rcases h with h | ⟨ad, rfl, hc⟩
  · exact .inl h
  · refine .inr ⟨ad, rfl, fun j u hu => ?_⟩
    have hin := hc j u hu
    refine (World.cell?_of_block (hg.block _ (World.block_lt_of_cell? w _ hin) ?_)).trans hin
    rw [add_block]
    exact fun e => hA ad rfl (by injection e)
theorem RdrAt.side {w w' : World} {g gi : Nat} {A : Option Addr} {c : Nat} {l : List UInt8} {p : Nat} {e : Int} (h : RdrAt w g A c l p e) (hg : w.grownBy w' (some gi)) (hne : g ≠ gi) (hA : ∀ ad, A = some ad → ad.block ≠ gi) : RdrAt w' g A c l p e := by
  obtain ⟨h0, hr, h1, h2, h3⟩ := h
  refine ⟨?_, hr.side hg hA, h1, h2, h3⟩
  unfold Blk
  rw [hg.block g (Blk.lt h0) (by simpa using hne)]
  exact h0
theorem RefAt.side {w w' : World} {g gi : Nat} {A : Option Addr} {c : Nat} {l : List UInt8} {p : Nat} {e : Int} (h : RefAt w g A c l p e) (hg : w.grownBy w' (some gi)) (hne : g ≠ gi) (hA : ∀ ad, A = some ad → ad.block ≠ gi) : RefAt w' g A c l p e := by
  obtain ⟨h0, hr, h1, h2, h3⟩ := h
  refine ⟨?_, hr.side hg hA, h1, h2, h3⟩
  unfold Blk
  rw [hg.block g (Blk.lt h0) (by simpa using hne)]
  exact h0
theorem Rd3.side {w w' : World} {A : Option Addr} {n gi B : Nat} (h : Rd3 w A n) (hg : w.grownBy w' (some gi)) (hlt : ∀ ad, A = some ad → 0 < n → ad.block < B) (hB : B ≤ gi) : Rd3 w' A n := by
  intro i hi
  obtain ⟨b, off, x, y, z, rfl, h1, h2, h3⟩ := h i hi
  have hb := hlt _ rfl (by omega)
  have hw := World.block_lt_of_cell? w _ h1
  have hsame : ∀ o, w'.cell? ⟨b, o, none⟩ = w.cell? ⟨b, o, none⟩ := fun o => World.cell?_of_block (a := ⟨b, o, none⟩) (hg.block b hw (fun e => by injection e with e; simp only at hb; omega))
  exact ⟨b, off, x, y, z, rfl, (hsame _).trans h1, (hsame _).trans h2, (hsame _).trans h3⟩
theorem Rd3.lt {w : World} {A : Option Addr} {n : Nat} (h : Rd3 w A n) : ∀ ad, A = some ad → 0 < n → ad.block < w.heap.size := by
  intro ad he hn
  obtain ⟨b, off, x, y, z, e, h1, _⟩ := h 0 hn
  rw [he] at e
  injection e with e
  subst e
  exact World.block_lt_of_cell? w _ h1

/-- Both readers, and all that is read besides. -/
def ReadsInv (w : World) (gx : Nat) (Bx : Option Addr) (dx gy : Nat) (By : Option Addr) (dy : Nat) (M : List UInt8) (C : Option Addr) (n : Nat) (p : Nat) (e : Int) (wr : World) : Prop :=
  RdrAt wr gx Bx dx M p e ∧ RefAt wr gy By dy M p e ∧ Rd3 wr C n ∧ Below w.heap.size w wr

theorem steps_len (l : List UInt8) (each : Int) (p : Nat) : ∀ j, (steps l each p j).1.length ≤ j
  | 0 => by simp [steps]
  | j + 1 => by
    have := steps_len l each p j
    rw [steps]
    split
    · omega
    · split
      · simp
      · simp; omega
theorem rRow_len (l : List UInt8) (p : Nat) (e most each : Int) : (rRow l p e most each).1.length ≤ 256 := by
  rcases rNum_cases l p e (min most 256) with ⟨e', he', hx⟩ | ⟨n, hn1, _, _, _, _, hx⟩
  · rw [rRow, hx, rowOf, if_pos he']; simp
  · rw [rRow, hx, rowOf, if_neg (by simp)]
    have := steps_len l each (p + 4) n
    simp only [Int.toNat_natCast]
    split
    · simp
    · omega
theorem ReadsInv.step {w W w5 w6 : World} {gx : Nat} {Bx : Option Addr} {dx gy : Nat} {By : Option Addr} {dy : Nat} {M : List UInt8} {C : Option Addr} {n p p' : Nat} {e e' : Int} (hI : ReadsInv w gx Bx dx gy By dy M C n p e W) (hx5 : RdrAt w5 gx Bx dx M p' e') (hg5 : W.grownBy w5 (some gx)) (hy6 : RefAt w6 gy By dy M p' e') (hg6 : w5.grownBy w6 (some gy))
    (hne : gx ≠ gy) (h1 : w.heap.size ≤ gx) (h2 : w.heap.size ≤ gy) (hy5 : RefAt w5 gy By dy M p e) (hC : ∀ ad, C = some ad → 0 < n → ad.block < w.heap.size) : ReadsInv w gx Bx dx gy By dy M C n p' e' w6 := by
  have hb5 := hI.2.2.2.grown hg5 hI.2.2.2.size (by intro k hk; injection hk with hk; omega)
  exact ⟨hx5.apart hy5.1 hg6 hne, hy6, (hI.2.2.1.side hg5 hC h1).side hg6 hC h2, hb5.grown hg6 hb5.size (by intro k hk; injection hk with hk; omega)⟩
theorem Blk.grown {w w' : World} {g : Nat} {cs : List Value} {t : TypeId} {row : Option Nat} (h : Blk w g cs t) (hg : w.grownBy w' row) (hne : some g ≠ row) : Blk w' g cs t := (hg.block g h.lt hne).trans h

set_option maxHeartbeats 4000000 in
set_option maxRecDepth 100000 in
theorem wireReads_walk (A : Option Addr) (c : Nat) (M : List UInt8) (C : Option Addr) (cc n : Nat) (w : World) (hr : Rd w A (by8 M)) (hlc : M.length ≤ c) (hc : c ≤ 140737488351232) (h3 : Rd3 w C n) (_ : n ≤ cc) (_ : cc ≤ 140737488351232) (_ : True) :
    Calls Try.prog 4 #[.slice A M.length c, .slice C n cc] w fun e w' => e = .returned (.bool true) ∧ Below w.heap.size w w' := by
  go_enter Try.func4, Try.ntmps4
  go_wp2_with fail
  refine (small_any _).mono ?_
  rintro e w1 ⟨rfl, hb1⟩
  have hr1 := hr.below hb1
  have h31 := h3.below hb1
  have hAlt : ∀ ad, A = some ad → M ≠ [] → ad.block < w.heap.size := by
    intro ad he hn
    rcases hr with h | ⟨ad', he', hcell⟩
    · exact absurd h (by simpa [by8] using hn)
    · rw [he] at he'
      injection he' with he'
      subst he'
      have h5 := World.block_lt_of_cell? w _ (hcell 0 _ (List.getElem?_eq_getElem (show 0 < (by8 M).length by rw [by8_length]; exact List.length_pos_iff.2 hn)))
      rwa [add_block] at h5
  have HA := hid hAlt
  have HC := hid h3.lt
  clear hr h3 hAlt
  have hown0 := own_empty w1 5
  go_wp2_with (at_builtin; refine wpApp _ rfl (.tmp 14) (.tmp 15) 22 rfl w1.heap.size 5 (.int .u8 0) 1 Try.underlying22 Try.info8 rfl _ 0 0 [] rfl hown0 _ M.length _ (by8 M) rfl (by8_length _) (hr1.alloc _) (by8_one _) (by omega) (by simp) (by omega) ?_)
  intro A2 c2 w2 hown2 hg2
  have hb2 : Below w1.heap.size w1 w2 := ((Below.refl _ _).alloc (Nat.le_refl _) _).grown hg2 (by simp) (by intro k hk; simp [Value.ownBlock] at hk; omega)
  have hown2' : w2.ownsRow w1.heap.size 5 1 (.slice A2 M.length c2) M.length (by8 M) := by simpa using hown2
  have hr2 := hr1.below hb2
  have h32 := h31.below hb2
  have hi2 : Rd w2 A2 (by8 M) := Rd.of_own hown2'
  have hb2' := hb1.trans (hb2.mono hb1.size)
  have hz1 : w.heap.size ≤ w1.heap.size := hb1.size
  have hz2 : w1.heap.size ≤ w2.heap.size := hb2.size
  clear hr1 h31 hb2 hg2 hown2 hown0 hb1
  go_wp2_with fail
  refine (read_new A2 M.length c2 M _ rfl hi2 (by omega)).mono ?_
  rintro e w3 ⟨gx, Bx, dx, rfl, hx3, hgx, hb3, hBx⟩
  have hr3 := hr2.below hb3
  have h33 := h32.below hb3
  have hown3 := hown2'.kept (row := none) (grown_below hb3) (by cases (Value.slice A2 M.length c2).ownBlock <;> simp)
  have hown3lt := fun k hk => (hown2'.lt k hk).2
  have hb3' := hb2'.trans (hb3.mono hb2'.size)
  have hz3 := hx3.1.lt
  have HB := hid hBx
  have HO := hid hown3lt
  clear hr2 h32 hi2 hb3 hb2' hown2' hBx hown3lt
  by_cases hM : M.length ≤ 5000 ∧ n ≤ 60
  · obtain ⟨hM1, hn1⟩ := hM
    have hy4 : RefAt (w3.alloc (.cells #[.slice A M.length c, .int .i64 0, .int .i64 0] 37)) w3.heap.size A c M 0 0 := ⟨heap_alloc_new w3 _, hr3.alloc _, hlc, by unfold maxLen; omega, Nat.zero_le _⟩
    have hba := (Below.refl w3.heap.size w3).alloc (Nat.le_refl _) (.cells #[.slice A M.length c, .int .i64 0, .int .i64 0] 37)
    have hx4 := hx3.below hba
    have h34 := h33.below hba
    have hown4 := hown3.alloc (.cells #[.slice A M.length c, .int .i64 0, .int .i64 0] 37)
    have hb4 := hb3'.trans (hba.mono hb3'.size)
    have hI : ReadsInv w gx Bx dx w3.heap.size A c M C n 0 0 (w3.alloc (.cells #[.slice A M.length c, .int .i64 0, .int .i64 0] 37)) := ⟨hx4, hy4, h34, hb4⟩
    have hgxy : gx ≠ w3.heap.size := by omega
    have hgyw : w.heap.size ≤ w3.heap.size := hb3'.size
    have hgxw : w.heap.size ≤ gx := by omega
    clear hx4 hy4 h34 hb4 hx3 hr3 h33 hown3 hba
    have hd1 : decide (5000 < (M.length : Int)) = false := by simp; omega
    have hd2 : decide (60 < (n : Int)) = false := by simp; omega
    go_wp2_with fail
    go_loopw [9] (fun i wr => ∃ j : Nat, j ≤ M.length ∧ i = .int .i64 j ∧ ∃ xs, wr.ownsRow w1.heap.size 5 1 (.slice A2 M.length c2) M.length xs ∧ ReadsInv w gx Bx dx w3.heap.size A c M C n 0 0 wr) (fun i _ => M.length - (intOf i).toNat)
    case atStart => exact ⟨0, by omega, rfl, _, hown4, hI⟩
    case round =>
      clear hown4 hI
      obtain ⟨j, hj, rfl, xs, hown7, hI7⟩ := hrel
      by_cases hjn : j < M.length
      · obtain ⟨hxl, -⟩ := own_form hown7
        rcases hown7.2 with ⟨hv, hn0⟩ | ⟨g, cap, cur, hv, hgb, -⟩
        · omega
        · injection hv with hv1 hv2 hv3
          subst hv1
          have hglt := HO.out g rfl
          have hc7 := hown7.cellAt j (by omega)
          rw [List.getElem?_eq_getElem (by omega)] at hc7
          have hf7 := hown7.frozenAt j
          obtain ⟨hst, hgr⟩ := hown7.stored j (.int .u8 7)
          have hI8 : ReadsInv w gx Bx dx w3.heap.size A c M C n 0 0 (wr.setCell ⟨g, j, none⟩ (.int .u8 7)) := by
            refine ⟨hI7.1.side hgr (by omega) (fun ad h => by have := HB.out ad h; omega), hI7.2.1.side hgr (by omega) (fun ad h => ?_), hI7.2.2.1.side hgr HC.out (by omega), hI7.2.2.2.grown hgr hI7.2.2.2.size (by intro k hk; injection hk with hk; omega)⟩
            have := HA.out ad h (by intro e; rw [e] at hjn; simp at hjn)
            omega
          have H8 := hid hI8
          generalize xs[j] = x0 at *
          clear hown7 hgr hI7 hI8
          go_wp2
          go_roundw
          case rel => exact ⟨j + 1, by omega, by go_num, _, hst, H8.out⟩
          case measure => simp [intOf]; omega
      · clear hown7
        go_wp2_with fail
        go_loopw [10] (fun i wr => ∃ j : Nat, j ≤ n ∧ i = .int .i64 j ∧ ∃ p e, ReadsInv w gx Bx dx w3.heap.size A c M C n p e wr) (fun i _ => n - (intOf i).toNat)
        case atStart => exact ⟨0, by omega, rfl, 0, 0, hI7⟩
        case round =>
          clear hI7
          obtain ⟨k, hk, rfl, p, e, hI9⟩ := hrel
          by_cases hkn : k < n
          · obtain ⟨b, off, x0, y0, z0, rfl, hcx, hcy, hcz⟩ := hI9.2.2.1 k hkn
            have hBl : Blk (wr.alloc (.cells #[.int .i64 x0, .int .i64 y0, .int .i64 z0] 38)) wr.heap.size [.int .i64 x0, .int .i64 y0, .int .i64 z0] 38 := heap_alloc_new wr _
            have hba := (Below.refl wr.heap.size wr).alloc (Nat.le_refl _) (.cells #[.int .i64 x0, .int .i64 y0, .int .i64 z0] 38)
            have hI : ReadsInv w gx Bx dx w3.heap.size A c M (some ⟨b, off, none⟩) n p e (wr.alloc (.cells #[.int .i64 x0, .int .i64 y0, .int .i64 z0] 38)) := ⟨hI9.1.below hba, hI9.2.1.below hba, hI9.2.2.1.below hba, hI9.2.2.2.trans (hba.mono hI9.2.2.2.size)⟩
            have hgc1 : gx < wr.heap.size := hI9.1.1.lt
            have hgc2 : w3.heap.size < wr.heap.size := hI9.2.1.1.lt
            clear hba hI9
            go_upto_block 4 with (fail)
            generalize wr.alloc (.cells #[.int .i64 x0, .int .i64 y0, .int .i64 z0] 38) = W at *
            generalize wr.heap.size = gc at *
            go_cut [12] (fun v wx => v = .bool true ∧ ∃ p' e', ReadsInv w gx Bx dx w3.heap.size A c M (some ⟨b, off, none⟩) n p' e' wx)
            case first =>
              have hc0 := hBl.cell 0
              have hc1 := hBl.cell 1
              have hc2 := hBl.cell 2
              simp only [List.getElem?_cons_zero, List.getElem?_cons_succ] at hc0 hc1 hc2
              by_cases h0 : bits .and .i64 x0 3 = 0
              · have g0 : (bits .and .i64 x0 3 == 0) = true := by simpa using h0
                clear h0
                have hD : ReadsInv w gx Bx dx w3.heap.size A c M (some ⟨b, off, none⟩) n p e W.drew := ⟨hI.1, hI.2.1, hI.2.2.1, hI.2.2.2.drew⟩
                have hBd : Blk W.drew gc [.int .i64 x0, .int .i64 y0, .int .i64 z0] 38 := hBl
                go_wp2_with fail
                refine wp_region_held_drew (S := fun w' => w'.cell? ⟨gc, 1, none⟩ = some (.int .i64 y0) ∧ w'.cell? ⟨gc, 2, none⟩ = some (.int .i64 z0)) (by kernel_rfl) ⟨hBd.cell 1, hBd.cell 2⟩ (fun hHeld => ?_)
                refine wpAnyH_take (i := 0) (oi := ⟨_, _, _, _, _, _⟩) (v := ?_) rfl (by kernel_rfl) (by kernel_rfl) (by kernel_rfl) (fun _ _ _ h => h) (Or.inl ⟨by rfl, ?_⟩) (by assumption) ?_
                rotate_left
                · intro w hSw; (try dsimp only at hSw); go_simp; (try (with_reducible rfl))
                try simp only [Act.put, List.setIfInBounds_toArray, List.set_cons_zero, List.set_cons_succ]
                refine wpAnyH_take (i := 1) (oi := ⟨_, _, _, _, _, _⟩) (v := ?_) rfl (by kernel_rfl) (by kernel_rfl) (by kernel_rfl) (fun _ _ _ h => h) (Or.inl ⟨by rfl, ?_⟩) (by assumption) ?_
                rotate_left
                · intro w hSw; (try dsimp only at hSw); go_simp; (try (with_reducible rfl))
                try simp only [Act.put, List.setIfInBounds_toArray, List.set_cons_zero, List.set_cons_succ]
                refine wpAnyH_take (i := 2) (oi := ⟨_, _, _, _, _, _⟩) (v := ?_) rfl (by kernel_rfl) (by kernel_rfl) (by kernel_rfl) (fun _ _ _ h => h) (Or.inl ⟨by rfl, ?_⟩) (by assumption) ?_
                rotate_left
                · intro w hSw; (try dsimp only at hSw); go_simp; (try (with_reducible rfl))
                try simp only [Act.put, List.setIfInBounds_toArray, List.set_cons_zero, List.set_cons_succ]
                refine wpAnyH_take (i := 4) (oi := ⟨_, _, _, _, _, _⟩) (v := ?_) rfl (by kernel_rfl) (by kernel_rfl) (by kernel_rfl) (fun _ _ _ h => h) (Or.inl ⟨by rfl, ?_⟩) (by assumption) ?_
                rotate_left
                · intro w hSw; (try dsimp only at hSw); go_simp; (try (with_reducible rfl))
                try simp only [Act.put, List.setIfInBounds_toArray, List.set_cons_zero, List.set_cons_succ]
                refine wpAnyH_take (i := 5) (oi := ⟨_, _, _, _, _, _⟩) (v := ?_) rfl (by kernel_rfl) (by kernel_rfl) (by kernel_rfl) (fun _ _ _ h => h) (Or.inl ⟨by rfl, ?_⟩) (by assumption) ?_
                rotate_left
                · intro w hSw; (try dsimp only at hSw); go_simp; (try (with_reducible rfl))
                try simp only [Act.put, List.setIfInBounds_toArray, List.set_cons_zero, List.set_cons_succ]
                refine wpAnyH_take (i := 6) (oi := ⟨_, _, _, _, _, _⟩) (v := ?_) rfl (by kernel_rfl) (by kernel_rfl) (by kernel_rfl) (fun _ _ _ h => h) (Or.inl ⟨by rfl, ?_⟩) (by assumption) ?_
                rotate_left
                · intro w hSw; (try dsimp only at hSw); go_simp; (try (with_reducible rfl))
                try simp only [Act.put, List.setIfInBounds_toArray, List.set_cons_zero, List.set_cons_succ]
                refine wpAnyH_ready (rs := [3]) (by kernel_rfl) (by simp) ?_
                refine AllReadyH.cons (o := ⟨_, _, _, _, _, _⟩) rfl (fun K hK => ?_) AllReadyH.nil
                go_simp
                refine (rdNumber gx Bx dx M p e y0 _ hD.1 (by omega)).mono ?_
                rintro r w5 ⟨rfl, hx5, hg5⟩
                have hB5 := hBd.grown hg5 (by simp; omega)
                have hy5 := hD.2.1.apart hD.1.1 hg5 (by omega)
                refine hK.out _ _ ⟨hB5.cell 1, hB5.cell 2⟩ (fun hHeld => ?_)
                clear hK K
                try simp only [Act.put, List.setIfInBounds_toArray, List.set_cons_zero, List.set_cons_succ]
                refine wpAnyH_ready (rs := [7]) (by kernel_rfl) (by simp) ?_
                refine AllReadyH.cons (o := ⟨_, _, _, _, _, _⟩) rfl (fun K hK => ?_) AllReadyH.nil
                go_simp
                refine (refRNumber w3.heap.size A c M p e y0 _ hy5 (by omega)).mono ?_
                rintro r w6 ⟨rfl, hy6, hg6⟩
                have hB6 := hB5.grown hg6 (by simp; omega)
                refine hK.out _ _ ⟨hB6.cell 1, hB6.cell 2⟩ (fun hHeld => ?_)
                clear hK K
                try simp only [Act.put, List.setIfInBounds_toArray, List.set_cons_zero, List.set_cons_succ]
                refine wpAnyH_take (i := 8) (oi := ⟨_, _, _, _, _, _⟩) (v := ?_) rfl (by kernel_rfl) (by kernel_rfl) (by kernel_rfl) (fun _ _ _ h => h) (Or.inl ⟨by rfl, ?_⟩) (by assumption) ?_
                rotate_left
                · intro w hSw; (try dsimp only at hSw); go_simp; (try (with_reducible rfl))
                try simp only [Act.put, List.setIfInBounds_toArray, List.set_cons_zero, List.set_cons_succ]
                refine wpAnyH_take (i := 9) (oi := ⟨_, _, _, _, _, _⟩) (v := ?_) rfl (by kernel_rfl) (by kernel_rfl) (by kernel_rfl) (fun _ _ _ h => h) (Or.inl ⟨by rfl, ?_⟩) (by assumption) ?_
                rotate_left
                · intro w hSw; (try dsimp only at hSw); go_simp; (try (with_reducible rfl))
                try simp only [Act.put, List.setIfInBounds_toArray, List.set_cons_zero, List.set_cons_succ]
                refine wpAnyH_done (by kernel_rfl) ?_ _
                go_wp2_with fail
                go_meet
                case rel => exact ⟨rfl, _, _, ReadsInv.step hD hx5 hg5 hy6 hg6 (by omega) (by omega) (by omega) hy5 HC.out⟩
              have g0 : (bits .and .i64 x0 3 == 0) = false := by simpa using h0
              clear h0
              by_cases h1 : bits .and .i64 x0 3 = 1
              · have g1 : (bits .and .i64 x0 3 == 1) = true := by simpa using h1
                clear h1
                have hD : ReadsInv w gx Bx dx w3.heap.size A c M (some ⟨b, off, none⟩) n p e W.drew := ⟨hI.1, hI.2.1, hI.2.2.1, hI.2.2.2.drew⟩
                have hBd : Blk W.drew gc [.int .i64 x0, .int .i64 y0, .int .i64 z0] 38 := hBl
                go_wp2_with fail
                refine wp_region_held_drew (S := fun w' => w'.cell? ⟨gc, 1, none⟩ = some (.int .i64 y0) ∧ w'.cell? ⟨gc, 2, none⟩ = some (.int .i64 z0)) (by kernel_rfl) ⟨hBd.cell 1, hBd.cell 2⟩ (fun hHeld => ?_)
                refine wpAnyH_take (i := 0) (oi := ⟨_, _, _, _, _, _⟩) (v := ?_) rfl (by kernel_rfl) (by kernel_rfl) (by kernel_rfl) (fun _ _ _ h => h) (Or.inl ⟨by rfl, ?_⟩) (by assumption) ?_
                rotate_left
                · intro w hSw; (try dsimp only at hSw); go_simp; (try (with_reducible rfl))
                try simp only [Act.put, List.setIfInBounds_toArray, List.set_cons_zero, List.set_cons_succ]
                refine wpAnyH_take (i := 1) (oi := ⟨_, _, _, _, _, _⟩) (v := ?_) rfl (by kernel_rfl) (by kernel_rfl) (by kernel_rfl) (fun _ _ _ h => h) (Or.inl ⟨by rfl, ?_⟩) (by assumption) ?_
                rotate_left
                · intro w hSw; (try dsimp only at hSw); go_simp; (try (with_reducible rfl))
                try simp only [Act.put, List.setIfInBounds_toArray, List.set_cons_zero, List.set_cons_succ]
                refine wpAnyH_take (i := 2) (oi := ⟨_, _, _, _, _, _⟩) (v := ?_) rfl (by kernel_rfl) (by kernel_rfl) (by kernel_rfl) (fun _ _ _ h => h) (Or.inl ⟨by rfl, ?_⟩) (by assumption) ?_
                rotate_left
                · intro w hSw; (try dsimp only at hSw); go_simp; (try (with_reducible rfl))
                try simp only [Act.put, List.setIfInBounds_toArray, List.set_cons_zero, List.set_cons_succ]
                refine wpAnyH_take (i := 4) (oi := ⟨_, _, _, _, _, _⟩) (v := ?_) rfl (by kernel_rfl) (by kernel_rfl) (by kernel_rfl) (fun _ _ _ h => h) (Or.inl ⟨by rfl, ?_⟩) (by assumption) ?_
                rotate_left
                · intro w hSw; (try dsimp only at hSw); go_simp; (try (with_reducible rfl))
                try simp only [Act.put, List.setIfInBounds_toArray, List.set_cons_zero, List.set_cons_succ]
                refine wpAnyH_take (i := 5) (oi := ⟨_, _, _, _, _, _⟩) (v := ?_) rfl (by kernel_rfl) (by kernel_rfl) (by kernel_rfl) (fun _ _ _ h => h) (Or.inl ⟨by rfl, ?_⟩) (by assumption) ?_
                rotate_left
                · intro w hSw; (try dsimp only at hSw); go_simp; (try (with_reducible rfl))
                try simp only [Act.put, List.setIfInBounds_toArray, List.set_cons_zero, List.set_cons_succ]
                refine wpAnyH_take (i := 6) (oi := ⟨_, _, _, _, _, _⟩) (v := ?_) rfl (by kernel_rfl) (by kernel_rfl) (by kernel_rfl) (fun _ _ _ h => h) (Or.inl ⟨by rfl, ?_⟩) (by assumption) ?_
                rotate_left
                · intro w hSw; (try dsimp only at hSw); go_simp; (try (with_reducible rfl))
                try simp only [Act.put, List.setIfInBounds_toArray, List.set_cons_zero, List.set_cons_succ]
                refine wpAnyH_ready (rs := [3]) (by kernel_rfl) (by simp) ?_
                refine AllReadyH.cons (o := ⟨_, _, _, _, _, _⟩) rfl (fun K hK => ?_) AllReadyH.nil
                go_simp
                refine (rdString gx Bx dx M p e y0 _ hD.1 (by omega)).mono ?_
                rintro r w5 ⟨rfl, hx5, hg5⟩
                have hB5 := hBd.grown hg5 (by simp; omega)
                have hy5 := hD.2.1.apart hD.1.1 hg5 (by omega)
                refine hK.out _ _ ⟨hB5.cell 1, hB5.cell 2⟩ (fun hHeld => ?_)
                clear hK K
                try simp only [Act.put, List.setIfInBounds_toArray, List.set_cons_zero, List.set_cons_succ]
                refine wpAnyH_ready (rs := [7]) (by kernel_rfl) (by simp) ?_
                refine AllReadyH.cons (o := ⟨_, _, _, _, _, _⟩) rfl (fun K hK => ?_) AllReadyH.nil
                go_simp
                refine (refRString w3.heap.size A c M p e y0 _ hy5 (by omega)).mono ?_
                rintro r w6 ⟨rfl, hy6, hg6⟩
                have hB6 := hB5.grown hg6 (by simp; omega)
                refine hK.out _ _ ⟨hB6.cell 1, hB6.cell 2⟩ (fun hHeld => ?_)
                clear hK K
                try simp only [Act.put, List.setIfInBounds_toArray, List.set_cons_zero, List.set_cons_succ]
                refine wpAnyH_take (i := 8) (oi := ⟨_, _, _, _, _, _⟩) (v := ?_) rfl (by kernel_rfl) (by kernel_rfl) (by kernel_rfl) (fun _ _ _ h => h) (Or.inl ⟨by rfl, ?_⟩) (by assumption) ?_
                rotate_left
                · intro w hSw; (try dsimp only at hSw); go_simp; (try (with_reducible rfl))
                try simp only [Act.put, List.setIfInBounds_toArray, List.set_cons_zero, List.set_cons_succ]
                refine wpAnyH_take (i := 9) (oi := ⟨_, _, _, _, _, _⟩) (v := ?_) rfl (by kernel_rfl) (by kernel_rfl) (by kernel_rfl) (fun _ _ _ h => h) (Or.inl ⟨by rfl, ?_⟩) (by assumption) ?_
                rotate_left
                · intro w hSw; (try dsimp only at hSw); go_simp; (try (with_reducible rfl))
                try simp only [Act.put, List.setIfInBounds_toArray, List.set_cons_zero, List.set_cons_succ]
                refine wpAnyH_done (by kernel_rfl) ?_ _
                go_wp2_with fail
                go_meet
                case rel => exact ⟨rfl, _, _, ReadsInv.step hD hx5 hg5 hy6 hg6 (by omega) (by omega) (by omega) hy5 HC.out⟩
              have g1 : (bits .and .i64 x0 3 == 1) = false := by simpa using h1
              clear h1
              by_cases h2 : bits .and .i64 x0 3 = 2
              · have g2 : (bits .and .i64 x0 3 == 2) = true := by simpa using h2
                clear h2
                have hD : ReadsInv w gx Bx dx w3.heap.size A c M (some ⟨b, off, none⟩) n p e W.drew := ⟨hI.1, hI.2.1, hI.2.2.1, hI.2.2.2.drew⟩
                have hBd : Blk W.drew gc [.int .i64 x0, .int .i64 y0, .int .i64 z0] 38 := hBl
                go_wp2_with fail
                refine wp_region_held_drew (S := fun w' => w'.cell? ⟨gc, 1, none⟩ = some (.int .i64 y0) ∧ w'.cell? ⟨gc, 2, none⟩ = some (.int .i64 z0)) (by kernel_rfl) ⟨hBd.cell 1, hBd.cell 2⟩ (fun hHeld => ?_)
                refine wpAnyH_take (i := 0) (oi := ⟨_, _, _, _, _, _⟩) (v := ?_) rfl (by kernel_rfl) (by kernel_rfl) (by kernel_rfl) (fun _ _ _ h => h) (Or.inl ⟨by rfl, ?_⟩) (by assumption) ?_
                rotate_left
                · intro w hSw; (try dsimp only at hSw); go_simp; (try (with_reducible rfl))
                try simp only [Act.put, List.setIfInBounds_toArray, List.set_cons_zero, List.set_cons_succ]
                refine wpAnyH_take (i := 1) (oi := ⟨_, _, _, _, _, _⟩) (v := ?_) rfl (by kernel_rfl) (by kernel_rfl) (by kernel_rfl) (fun _ _ _ h => h) (Or.inl ⟨by rfl, ?_⟩) (by assumption) ?_
                rotate_left
                · intro w hSw; (try dsimp only at hSw); go_simp; (try (with_reducible rfl))
                try simp only [Act.put, List.setIfInBounds_toArray, List.set_cons_zero, List.set_cons_succ]
                refine wpAnyH_take (i := 2) (oi := ⟨_, _, _, _, _, _⟩) (v := ?_) rfl (by kernel_rfl) (by kernel_rfl) (by kernel_rfl) (fun _ _ _ h => h) (Or.inl ⟨by rfl, ?_⟩) (by assumption) ?_
                rotate_left
                · intro w hSw; (try dsimp only at hSw); go_simp; (try (with_reducible rfl))
                try simp only [Act.put, List.setIfInBounds_toArray, List.set_cons_zero, List.set_cons_succ]
                refine wpAnyH_take (i := 3) (oi := ⟨_, _, _, _, _, _⟩) (v := ?_) rfl (by kernel_rfl) (by kernel_rfl) (by kernel_rfl) (fun _ _ _ h => h) (Or.inl ⟨by rfl, ?_⟩) (by assumption) ?_
                rotate_left
                · intro w hSw; (try dsimp only at hSw); go_simp; (try (with_reducible rfl))
                try simp only [Act.put, List.setIfInBounds_toArray, List.set_cons_zero, List.set_cons_succ]
                refine wpAnyH_take (i := 4) (oi := ⟨_, _, _, _, _, _⟩) (v := ?_) rfl (by kernel_rfl) (by kernel_rfl) (by kernel_rfl) (fun _ _ _ h => h) (Or.inl ⟨by rfl, ?_⟩) (by assumption) ?_
                rotate_left
                · intro w hSw; (try dsimp only at hSw); go_simp; (try (with_reducible rfl))
                try simp only [Act.put, List.setIfInBounds_toArray, List.set_cons_zero, List.set_cons_succ]
                refine wpAnyH_take (i := 6) (oi := ⟨_, _, _, _, _, _⟩) (v := ?_) rfl (by kernel_rfl) (by kernel_rfl) (by kernel_rfl) (fun _ _ _ h => h) (Or.inl ⟨by rfl, ?_⟩) (by assumption) ?_
                rotate_left
                · intro w hSw; (try dsimp only at hSw); go_simp; (try (with_reducible rfl))
                try simp only [Act.put, List.setIfInBounds_toArray, List.set_cons_zero, List.set_cons_succ]
                refine wpAnyH_take (i := 7) (oi := ⟨_, _, _, _, _, _⟩) (v := ?_) rfl (by kernel_rfl) (by kernel_rfl) (by kernel_rfl) (fun _ _ _ h => h) (Or.inl ⟨by rfl, ?_⟩) (by assumption) ?_
                rotate_left
                · intro w hSw; (try dsimp only at hSw); go_simp; (try (with_reducible rfl))
                try simp only [Act.put, List.setIfInBounds_toArray, List.set_cons_zero, List.set_cons_succ]
                refine wpAnyH_take (i := 8) (oi := ⟨_, _, _, _, _, _⟩) (v := ?_) rfl (by kernel_rfl) (by kernel_rfl) (by kernel_rfl) (fun _ _ _ h => h) (Or.inl ⟨by rfl, ?_⟩) (by assumption) ?_
                rotate_left
                · intro w hSw; (try dsimp only at hSw); go_simp; (try (with_reducible rfl))
                try simp only [Act.put, List.setIfInBounds_toArray, List.set_cons_zero, List.set_cons_succ]
                refine wpAnyH_take (i := 9) (oi := ⟨_, _, _, _, _, _⟩) (v := ?_) rfl (by kernel_rfl) (by kernel_rfl) (by kernel_rfl) (fun _ _ _ h => h) (Or.inl ⟨by rfl, ?_⟩) (by assumption) ?_
                rotate_left
                · intro w hSw; (try dsimp only at hSw); go_simp; (try (with_reducible rfl))
                try simp only [Act.put, List.setIfInBounds_toArray, List.set_cons_zero, List.set_cons_succ]
                refine wpAnyH_take (i := 10) (oi := ⟨_, _, _, _, _, _⟩) (v := ?_) rfl (by kernel_rfl) (by kernel_rfl) (by kernel_rfl) (fun _ _ _ h => h) (Or.inl ⟨by rfl, ?_⟩) (by assumption) ?_
                rotate_left
                · intro w hSw; (try dsimp only at hSw); go_simp; (try (with_reducible rfl))
                try simp only [Act.put, List.setIfInBounds_toArray, List.set_cons_zero, List.set_cons_succ]
                refine wpAnyH_ready (rs := [5]) (by kernel_rfl) (by simp) ?_
                refine AllReadyH.cons (o := ⟨_, _, _, _, _, _⟩) rfl (fun K hK => ?_) AllReadyH.nil
                go_simp
                refine (rdRow gx Bx dx M p e y0 z0 _ hD.1 (by omega)).mono ?_
                rintro r w5 ⟨A5, c5, rfl, hown5, hx5, hg5⟩
                have hB5 := hBd.grown hg5 (by simp; omega)
                have hy5 := hD.2.1.apart hD.1.1 hg5 (by omega)
                refine hK.out _ _ ⟨hB5.cell 1, hB5.cell 2⟩ (fun hHeld => ?_)
                clear hK K
                try simp only [Act.put, List.setIfInBounds_toArray, List.set_cons_zero, List.set_cons_succ]
                refine wpAnyH_ready (rs := [11]) (by kernel_rfl) (by simp) ?_
                refine AllReadyH.cons (o := ⟨_, _, _, _, _, _⟩) rfl (fun K hK => ?_) AllReadyH.nil
                go_simp
                refine (refRRow w3.heap.size A c M p e y0 z0 _ hy5 (by omega)).mono ?_
                rintro r w6 ⟨A6, c6, rfl, hown6, hy6, hg6⟩
                have hB6 := hB5.grown hg6 (by simp; omega)
                refine hK.out _ _ ⟨hB6.cell 1, hB6.cell 2⟩ (fun hHeld => ?_)
                clear hK K
                try simp only [Act.put, List.setIfInBounds_toArray, List.set_cons_zero, List.set_cons_succ]
                refine wpAnyH_ready (rs := [12]) (by kernel_rfl) (by simp) ?_
                refine AllReadyH.cons (o := ⟨_, _, _, _, _, _⟩) rfl (fun K hK => ?_) AllReadyH.nil
                go_simp
                have hl5 := (Rd.of_own hown5).grown hg6 (blk_not_str hy5.1)
                have hl6 := Rd.of_own hown6
                refine (rows_same A5 A6 _ c5 c6 _ _ (by rw [List.length_map]) (by have := rRow_len M p e y0 z0; omega) hl5 hl6).mono ?_
                rintro r w7 ⟨rfl, hb7⟩
                refine hK.out _ _ ⟨(hb7.cell (p := ⟨gc, 1, none⟩) (by exact hB6.lt)).trans (hB6.cell 1), (hb7.cell (p := ⟨gc, 2, none⟩) (by exact hB6.lt)).trans (hB6.cell 2)⟩ (fun hHeld => ?_)
                clear hK K
                try simp only [Act.put, List.setIfInBounds_toArray, List.set_cons_zero, List.set_cons_succ]
                refine wpAnyH_take (i := 13) (oi := ⟨_, _, _, _, _, _⟩) (v := ?_) rfl (by kernel_rfl) (by kernel_rfl) (by kernel_rfl) (fun _ _ _ h => h) (Or.inl ⟨by rfl, ?_⟩) (by assumption) ?_
                rotate_left
                · intro w hSw; (try dsimp only at hSw); go_simp; (try (with_reducible rfl))
                try simp only [Act.put, List.setIfInBounds_toArray, List.set_cons_zero, List.set_cons_succ]
                refine wpAnyH_done (by kernel_rfl) ?_ _
                go_wp2_with fail
                go_meet
                case rel =>
                  have hS := ReadsInv.step hD hx5 hg5 hy6 hg6 (by omega) (by omega) (by omega) hy5 HC.out
                  exact ⟨rfl, _, _, hS.1.below hb7, hS.2.1.below hb7, hS.2.2.1.below hb7, hS.2.2.2.trans (hb7.mono hS.2.2.2.size)⟩
              have g2 : (bits .and .i64 x0 3 == 2) = false := by simpa using h2
              clear h2
              by_cases h3 : bits .and .i64 x0 3 = 3
              · have g3 : (bits .and .i64 x0 3 == 3) = true := by simpa using h3
                clear h3
                by_cases hy1 : y0 = 1
                · have gy1 : (y0 == 1) = true := by simpa using hy1
                  clear hy1
                  go_wp2_with fail
                  refine (rdEnd gx Bx dx M p e _ hI.1 (by omega)).mono ?_
                  rintro r w5 ⟨rfl, hx5, hg5⟩
                  have hy5 := hI.2.1.apart hI.1.1 hg5 (by omega)
                  go_wp2_with fail
                  refine (refREnd w3.heap.size A c M p e _ hy5).mono ?_
                  rintro r w6 ⟨rfl, hy6, hg6⟩
                  go_wp2_with fail
                  go_meet
                  case rel => exact ⟨rfl, _, _, ReadsInv.step hI hx5 hg5 hy6 hg6 (by omega) (by omega) (by omega) hy5 HC.out⟩
                · have gy1 : (y0 == 1) = false := by simpa using hy1
                  go_wp2_with fail
                  go_meet
                  case rel => exact ⟨rfl, _, _, hI⟩
              · have g3 : (bits .and .i64 x0 3 == 3) = false := by simpa using h3
                clear h3
                go_wp2_with fail
                go_meet
                case rel => exact ⟨rfl, _, _, hI⟩
            case rest =>
              obtain ⟨rfl, p', e', hI'⟩ := hcut
              have cy1 := hI'.2.1.1.cell 1
              have cy2 := hI'.2.1.1.cell 2
              simp only [List.getElem?_cons_zero, List.getElem?_cons_succ] at cy1 cy2
              clear hI hBl hcx hcy hcz
              go_wp2_with fail
              go_quiet (first | (go_at_call 31; exact still_call (turn_call (rdErr gx Bx dx M p' e' _ (hI'.1.drewN _))) ⟨_, rfl⟩) | (go_at_call 32; exact still_call (turn_call (rdAt gx Bx dx M p' e' _ (hI'.1.drewN _))) ⟨_, rfl⟩))
              have FIN : Hid (ReadsInv w gx Bx dx w3.heap.size A c M (some ⟨b, off, none⟩) n p' e' (wc.drewN nq)) := ⟨hI'.1.drewN nq, hI'.2.1.drewN nq, hI'.2.2.1, hI'.2.2.2.trans ⟨rfl, rfl, rfl, Nat.le_refl _, fun _ _ => rfl⟩⟩
              clear hI' cy1 cy2
              go_wp2
              go_roundw
              case rel => exact ⟨k + 1, by omega, by go_num, p', e', FIN.out⟩
              case measure => simp [intOf]; omega
          · have hD : ReadsInv w gx Bx dx w3.heap.size A c M C n p e wr.drew := ⟨hI9.1, hI9.2.1, hI9.2.2.1, hI9.2.2.2.drew⟩
            clear hI9
            go_wp2_with fail
            refine wp_region_held_drew (S := fun _ => True) (by kernel_rfl) trivial (fun hHeld => ?_)
            refine wpAnyH_take (i := 0) (oi := ⟨_, _, _, _, _, _⟩) (v := ?_) rfl (by kernel_rfl) (by kernel_rfl) (by kernel_rfl) (fun _ _ _ h => h) (Or.inl ⟨by rfl, ?_⟩) (by assumption) ?_
            rotate_left
            · intro w hSw; (try dsimp only at hSw); go_simp; (try (with_reducible rfl))
            try simp only [Act.put, List.setIfInBounds_toArray, List.set_cons_zero, List.set_cons_succ]
            refine wpAnyH_take (i := 1) (oi := ⟨_, _, _, _, _, _⟩) (v := ?_) rfl (by kernel_rfl) (by kernel_rfl) (by kernel_rfl) (fun _ _ _ h => h) (Or.inl ⟨by rfl, ?_⟩) (by assumption) ?_
            rotate_left
            · intro w hSw; (try dsimp only at hSw); go_simp; (try (with_reducible rfl))
            try simp only [Act.put, List.setIfInBounds_toArray, List.set_cons_zero, List.set_cons_succ]
            refine wpAnyH_take (i := 2) (oi := ⟨_, _, _, _, _, _⟩) (v := ?_) rfl (by kernel_rfl) (by kernel_rfl) (by kernel_rfl) (fun _ _ _ h => h) (Or.inl ⟨by rfl, ?_⟩) (by assumption) ?_
            rotate_left
            · intro w hSw; (try dsimp only at hSw); go_simp; (try (with_reducible rfl))
            try simp only [Act.put, List.setIfInBounds_toArray, List.set_cons_zero, List.set_cons_succ]
            refine wpAnyH_take (i := 4) (oi := ⟨_, _, _, _, _, _⟩) (v := ?_) rfl (by kernel_rfl) (by kernel_rfl) (by kernel_rfl) (fun _ _ _ h => h) (Or.inl ⟨by rfl, ?_⟩) (by assumption) ?_
            rotate_left
            · intro w hSw; (try dsimp only at hSw); go_simp; (try (with_reducible rfl))
            try simp only [Act.put, List.setIfInBounds_toArray, List.set_cons_zero, List.set_cons_succ]
            refine wpAnyH_ready (rs := [3]) (by kernel_rfl) (by simp) ?_
            refine AllReadyH.cons (o := ⟨_, _, _, _, _, _⟩) rfl (fun K hK => ?_) AllReadyH.nil
            go_simp
            refine (rdEnd gx Bx dx M p e _ hD.1 (by omega)).mono ?_
            rintro r w5 ⟨rfl, hx5, hg5⟩
            have hy5 := hD.2.1.apart hD.1.1 hg5 (by omega)
            refine hK.out _ _ trivial (fun hHeld => ?_)
            clear hK K
            try simp only [Act.put, List.setIfInBounds_toArray, List.set_cons_zero, List.set_cons_succ]
            refine wpAnyH_ready (rs := [5]) (by kernel_rfl) (by simp) ?_
            refine AllReadyH.cons (o := ⟨_, _, _, _, _, _⟩) rfl (fun K hK => ?_) AllReadyH.nil
            go_simp
            refine (refREnd w3.heap.size A c M p e _ hy5).mono ?_
            rintro r w6 ⟨rfl, hy6, hg6⟩
            have hS := ReadsInv.step hD hx5 hg5 hy6 hg6 (by omega) (by omega) (by omega) hy5 HC.out
            have cy2 := hS.2.1.1.cell 2
            simp only [List.getElem?_cons_zero, List.getElem?_cons_succ] at cy2
            refine hK.out _ _ trivial (fun hHeld => ?_)
            clear hK K
            try simp only [Act.put, List.setIfInBounds_toArray, List.set_cons_zero, List.set_cons_succ]
            refine wpAnyH_take (i := 6) (oi := ⟨_, _, _, _, _, _⟩) (v := ?_) rfl (by kernel_rfl) (by kernel_rfl) (by kernel_rfl) (fun _ _ _ h => h) (Or.inl ⟨by rfl, ?_⟩) (by assumption) ?_
            rotate_left
            · intro w hSw; (try dsimp only at hSw); go_simp; (try (with_reducible rfl))
            try simp only [Act.put, List.setIfInBounds_toArray, List.set_cons_zero, List.set_cons_succ]
            refine wpAnyH_take (i := 7) (oi := ⟨_, _, _, _, _, _⟩) (v := ?_) rfl (by kernel_rfl) (by kernel_rfl) (by kernel_rfl) (fun _ _ _ h => h) (Or.inl ⟨by rfl, ?_⟩) (by assumption) ?_
            rotate_left
            · intro w hSw; (try dsimp only at hSw); go_simp; (try (with_reducible rfl))
            try simp only [Act.put, List.setIfInBounds_toArray, List.set_cons_zero, List.set_cons_succ]
            refine wpAnyH_take (i := 8) (oi := ⟨_, _, _, _, _, _⟩) (v := ?_) rfl (by kernel_rfl) (by kernel_rfl) (by kernel_rfl) (fun _ _ _ h => h) (Or.inl ⟨by rfl, ?_⟩) (by assumption) ?_
            rotate_left
            · intro w hSw; (try dsimp only at hSw); go_simp; (try (with_reducible rfl))
            try simp only [Act.put, List.setIfInBounds_toArray, List.set_cons_zero, List.set_cons_succ]
            refine wpAnyH_take (i := 9) (oi := ⟨_, _, _, _, _, _⟩) (v := ?_) rfl (by kernel_rfl) (by kernel_rfl) (by kernel_rfl) (fun _ _ _ h => h) (Or.inl ⟨by rfl, ?_⟩) (by assumption) ?_
            rotate_left
            · intro w hSw; (try dsimp only at hSw); go_simp; (try (with_reducible rfl))
            try simp only [Act.put, List.setIfInBounds_toArray, List.set_cons_zero, List.set_cons_succ]
            refine wpAnyH_take (i := 11) (oi := ⟨_, _, _, _, _, _⟩) (v := ?_) rfl (by kernel_rfl) (by kernel_rfl) (by kernel_rfl) (fun _ _ _ h => h) (Or.inl ⟨by rfl, ?_⟩) (by assumption) ?_
            rotate_left
            · intro w hSw; (try dsimp only at hSw); go_simp; (try (with_reducible rfl))
            try simp only [Act.put, List.setIfInBounds_toArray, List.set_cons_zero, List.set_cons_succ]
            refine wpAnyH_take (i := 12) (oi := ⟨_, _, _, _, _, _⟩) (v := ?_) rfl (by kernel_rfl) (by kernel_rfl) (by kernel_rfl) (fun _ _ _ h => h) (Or.inl ⟨by rfl, ?_⟩) (by assumption) ?_
            rotate_left
            · intro w hSw; (try dsimp only at hSw); go_simp; (try (with_reducible rfl))
            try simp only [Act.put, List.setIfInBounds_toArray, List.set_cons_zero, List.set_cons_succ]
            refine wpAnyH_take (i := 13) (oi := ⟨_, _, _, _, _, _⟩) (v := ?_) rfl (by kernel_rfl) (by kernel_rfl) (by kernel_rfl) (fun _ _ _ h => h) (Or.inl ⟨by rfl, ?_⟩) (by assumption) ?_
            rotate_left
            · intro w hSw; (try dsimp only at hSw); go_simp; (try (with_reducible rfl))
            try simp only [Act.put, List.setIfInBounds_toArray, List.set_cons_zero, List.set_cons_succ]
            refine wpAnyH_ready (rs := [10, 14]) (by kernel_rfl) (by simp) ?_
            refine AllReadyH.cons (o := ⟨_, _, _, _, _, _⟩) rfl (fun K hK => ?_) (AllReadyH.cons (o := ⟨_, _, _, _, _, _⟩) rfl (fun K hK => ?_) AllReadyH.nil)
            · go_simp
              refine (rdErr gx Bx dx M _ _ _ hS.1).mono ?_
              rintro r wx ⟨rfl, rfl⟩
              refine hK.out _ _ trivial (fun hHeld => ?_)
              clear hK K
              refine wpAnyH_ready (rs := [14]) (by kernel_rfl) (by simp) ?_
              refine AllReadyH.cons (o := ⟨_, _, _, _, _, _⟩) rfl (fun K hK => ?_) AllReadyH.nil
              go_simp
              refine hK.out _ _ trivial (fun hHeld => ?_)
              clear hK K
              try simp only [Act.put, List.setIfInBounds_toArray, List.set_cons_zero, List.set_cons_succ]
              refine wpAnyH_take (i := 15) (oi := ⟨_, _, _, _, _, _⟩) (v := ?_) rfl (by kernel_rfl) (by kernel_rfl) (by kernel_rfl) (fun _ _ _ h => h) (Or.inl ⟨by rfl, ?_⟩) (by assumption) ?_
              rotate_left
              · intro w hSw; (try dsimp only at hSw); go_simp; (try (with_reducible rfl))
              try simp only [Act.put, List.setIfInBounds_toArray, List.set_cons_zero, List.set_cons_succ]
              refine wpAnyH_take (i := 16) (oi := ⟨_, _, _, _, _, _⟩) (v := ?_) rfl (by kernel_rfl) (by kernel_rfl) (by kernel_rfl) (fun _ _ _ h => h) (Or.inl ⟨by rfl, ?_⟩) (by assumption) ?_
              rotate_left
              · intro w hSw; (try dsimp only at hSw); go_simp; (try (with_reducible rfl))
              try simp only [Act.put, List.setIfInBounds_toArray, List.set_cons_zero, List.set_cons_succ]
              refine wpAnyH_take (i := 17) (oi := ⟨_, _, _, _, _, _⟩) (v := ?_) rfl (by kernel_rfl) (by kernel_rfl) (by kernel_rfl) (fun _ _ _ h => h) (Or.inl ⟨by rfl, ?_⟩) (by assumption) ?_
              rotate_left
              · intro w hSw; (try dsimp only at hSw); go_simp; (try (with_reducible rfl))
              try simp only [Act.put, List.setIfInBounds_toArray, List.set_cons_zero, List.set_cons_succ]
              refine wpAnyH_done (by kernel_rfl) ?_ _
              go_wp2
              go_ret
              exact ⟨rfl, hS.2.2.2⟩
            · go_simp
              refine hK.out _ _ trivial (fun hHeld => ?_)
              clear hK K
              try simp only [Act.put, List.setIfInBounds_toArray, List.set_cons_zero, List.set_cons_succ]
              refine wpAnyH_ready (rs := [10]) (by kernel_rfl) (by simp) ?_
              refine AllReadyH.cons (o := ⟨_, _, _, _, _, _⟩) rfl (fun K hK => ?_) AllReadyH.nil
              go_simp
              refine (rdErr gx Bx dx M _ _ _ hS.1).mono ?_
              rintro r wx ⟨rfl, rfl⟩
              refine hK.out _ _ trivial (fun hHeld => ?_)
              clear hK K
              refine wpAnyH_take (i := 15) (oi := ⟨_, _, _, _, _, _⟩) (v := ?_) rfl (by kernel_rfl) (by kernel_rfl) (by kernel_rfl) (fun _ _ _ h => h) (Or.inl ⟨by rfl, ?_⟩) (by assumption) ?_
              rotate_left
              · intro w hSw; (try dsimp only at hSw); go_simp; (try (with_reducible rfl))
              try simp only [Act.put, List.setIfInBounds_toArray, List.set_cons_zero, List.set_cons_succ]
              refine wpAnyH_take (i := 16) (oi := ⟨_, _, _, _, _, _⟩) (v := ?_) rfl (by kernel_rfl) (by kernel_rfl) (by kernel_rfl) (fun _ _ _ h => h) (Or.inl ⟨by rfl, ?_⟩) (by assumption) ?_
              rotate_left
              · intro w hSw; (try dsimp only at hSw); go_simp; (try (with_reducible rfl))
              try simp only [Act.put, List.setIfInBounds_toArray, List.set_cons_zero, List.set_cons_succ]
              refine wpAnyH_take (i := 17) (oi := ⟨_, _, _, _, _, _⟩) (v := ?_) rfl (by kernel_rfl) (by kernel_rfl) (by kernel_rfl) (fun _ _ _ h => h) (Or.inl ⟨by rfl, ?_⟩) (by assumption) ?_
              rotate_left
              · intro w hSw; (try dsimp only at hSw); go_simp; (try (with_reducible rfl))
              try simp only [Act.put, List.setIfInBounds_toArray, List.set_cons_zero, List.set_cons_succ]
              refine wpAnyH_done (by kernel_rfl) ?_ _
              go_wp2
              go_ret
              exact ⟨rfl, hS.2.2.2⟩
  · go_wp2
    all_goals
      go_ret
      exact ⟨rfl, hb3'.alloc hb3'.size _⟩
end Go.Proofs.Ytpiinamfibhjdaa
