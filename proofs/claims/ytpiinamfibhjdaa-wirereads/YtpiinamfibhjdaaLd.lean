/- WireRows: the walk. -/
import Derived.Test.YtpiinamfibhjdaaPb
namespace Go.Proofs.Ytpiinamfibhjdaa
open Go.RowKit

theorem Rd.far {w0 w w' : World} {A : Option Addr} {xs : List Value} {row : Option Nat} (h0 : Rd w0 A xs) (h : Rd w A xs) (hg : w.grownBy w' row) (hrow : ∀ k, row = some k → w0.heap.size ≤ k) : Rd w' A xs := by
  rcases h with rfl | ⟨ad, rfl, hc⟩
  · exact .inl rfl
  · refine .inr ⟨ad, rfl, fun j u hu => ?_⟩
    have hin := hc j u hu
    have hbl : ad.block < w0.heap.size := by
      rcases h0 with rfl | ⟨ad', he, hc'⟩
      · simp at hu
      · injection he with he
        subst he
        have := World.block_lt_of_cell? w0 _ (hc' j u hu)
        rwa [add_block] at this
    refine (World.cell?_of_block (hg.block _ (World.block_lt_of_cell? w _ hin) ?_)).trans hin
    rw [add_block]
    exact fun e => by have := hrow _ e.symm; omega

theorem rStr_err_place (l : List UInt8) (p : Nat) (each : Int) (h : (rStr l p 0 each).2.2 ≠ 0) : (rStr l p 0 each).2.1 = p := by
  unfold rStr strOf at *
  split at h <;> rename_i h1
  · rw [if_pos h1]
  · rw [if_neg h1]
    split at h <;> rename_i h2
    · rw [if_pos h2]
    · simp at h
theorem rStr_err_str (l : List UInt8) (p : Nat) (e each : Int) (h : (rStr l p e each).2.2 ≠ 0) : (rStr l p e each).1 = [] := by
  unfold rStr strOf at *
  split at h <;> rename_i h1
  · rw [if_pos h1]
  · rw [if_neg h1]
    split at h <;> rename_i h2
    · rw [if_pos h2]
    · simp at h

/-- What holds at the head of the loop. -/
def RowsInv (w w5 : World) (gx : Nat) (Bx : Option Addr) (dx px : Nat) (ex : Int) (gy : Nat) (By : Option Addr) (dy : Nat) (M : List UInt8) (each : Int) (Al : Option Addr) (xs : List Value) (j : Nat) (A1 : Option Addr) (c1 : Nat) (wr : World) : Prop :=
  ∃ outs : List ByteArray, outs.length = j ∧ ((steps M each 4 j).2.2 = 0 → outs = (steps M each 4 j).1.map toS) ∧ wr.ownsRow w5.heap.size 9 1 (.slice A1 j c1) j (strV outs) ∧
    RdrAt wr gx Bx dx M px ex ∧ RdrAt wr gy By dy M (steps M each 4 j).2.1 (steps M each 4 j).2.2 ∧ Rd wr Al xs ∧ Below w.heap.size w wr ∧ w5.heap.size ≤ wr.heap.size

set_option maxHeartbeats 2000000 in
set_option maxRecDepth 100000 in
theorem wireRows_walk (A : Option Addr) (c : Nat) (M : List UInt8) (most each : Int) (w : World) (hr : Rd w A (by8 M)) (hlc : M.length ≤ c) (hc : c ≤ 140737488351232) (_ : (Lit.int .i64 most).wf = true) (_ : (Lit.int .i64 each).wf = true) :
    Calls Try.prog 9 #[.slice A M.length c, .int .i64 most, .int .i64 each] w fun e w' => e = .returned (.bool true) ∧ Below w.heap.size w w' := by
  go_enter Try.func9, Try.ntmps9
  go_wp2_with fail
  refine (small_any _).mono ?_
  rintro e w1 ⟨rfl, hb1⟩
  have hr1 := hr.below hb1
  clear hr
  go_wp2_with fail
  refine (read_any A M.length c M _ rfl hr1 (by omega)).mono ?_
  rintro e w2 ⟨gx, Bx, dx, rfl, hx2, hgx, hb2⟩
  have hr2 := hr1.below hb2
  have hb2' := hb1.trans (hb2.mono hb1.size)
  have hgx1 : w.heap.size ≤ gx := Nat.le_trans hb1.size hgx
  have hgx2 := hx2.1.lt
  clear hr1 hb2 hb1 hgx
  go_wp2_with fail
  refine (read_any A M.length c M _ rfl hr2 (by omega)).mono ?_
  rintro e w3 ⟨gy, By, dy, rfl, hy3, hgy, hb3⟩
  have hx3 := hx2.below hb3
  have hb3' := hb2'.trans (hb3.mono hb2'.size)
  have hgy1 : w.heap.size ≤ gy := Nat.le_trans hb2'.size hgy
  have hne : gx ≠ gy := by omega
  clear hr2 hx2 hb3 hb2' hgy
  by_cases hM : M.length ≤ 4000
  · go_wp2_with fail
    refine (rdRow gx Bx dx M 0 0 most each _ hx3 (by omega)).mono ?_
    rintro e w4 ⟨Al, cl, rfl, hown4, hx4, hg4⟩
    have hy4 := hy3.apart hx3.1 hg4 (Ne.symm hne)
    have hl4 := Rd.of_own hown4
    have hb4 := hb3'.grown hg4 hb3'.size (by intro k hk; simp at hk; omega)
    clear hx3 hy3 hb3' hg4 hown4
    obtain ⟨lim, hlim⟩ : ∃ lim, lim = min most 256 := ⟨_, rfl⟩
    have HR : Hid (rRow M 0 0 most each = rowOf M 0 each (rNum M 0 0 lim)) := by rw [hlim]; rfl
    have hl2 : lim ≤ 256 := by omega
    obtain ⟨rfl, hm⟩ | ⟨rfl, hm⟩ : (most = lim ∧ most ≤ 256) ∨ (lim = 256 ∧ 256 < most) := by omega
    all_goals
      clear hlim
      go_wp2_with fail
      refine (rdNumber gy By dy M 0 0 _ _ hy4 (by omega)).mono ?_
      rintro r w5 ⟨rfl, hy5, hg5⟩
      have hx5 := hx4.apart hy4.1 hg5 hne
      have hl5 := hl4.grown hg5 (blk_not_str hy4.1)
      have hb5 := hb4.grown hg5 hb4.size (by intro k hk; simp at hk; omega)
      clear hx4 hy4 hb4 hg5 hl4
      rcases rNum_cases M 0 0 _ with ⟨e', he', hx⟩ | ⟨n, hn1, hn2, hn3, hn4, -, hx⟩
      · rw [hx] at HR hy5 ⊢
        have hrow : rRow M 0 0 most each = ([], 0, e') := by rw [HR.out]; simp [rowOf, he']
        rw [hrow] at hx5 hl5 ⊢
        clear HR hx hrow
        simp only [List.length_nil] at hy5 hx5 hl5 ⊢
        have hne' : (e' != 0) = true := by simp [he']
        go_wp2_with fail
        refine wp_loop_rounds 1 ?_
        rw [rounds_succ]
        go_wp2_with fail
        refine (rdErr gy By dy M 0 e' _ hy5).mono ?_
        rintro e wx ⟨rfl, rfl⟩
        go_wp2_with fail
        refine (rdErr gx Bx dx M 0 e' _ hx5).mono ?_
        rintro e wx ⟨rfl, rfl⟩
        go_wp2_with fail
        refine (rdErr gy By dy M 0 e' _ hy5).mono ?_
        rintro e wx ⟨rfl, rfl⟩
        go_wp2_with fail
        refine (rdAt gx Bx dx M 0 e' _ hx5).mono ?_
        rintro e wx ⟨rfl, rfl⟩
        go_wp2
        go_ret
        exact ⟨rfl, hb5⟩
      · rw [hx] at HR hy5 ⊢
        clear hx
        have HW := hid (show rRow M 0 0 most each = if (steps M each 4 n).2.2 ≠ 0 then ([], 0, (steps M each 4 n).2.2) else steps M each 4 n by rw [HR.out]; simp [rowOf])
        clear HR
        obtain ⟨⟨xs, px, ex⟩, hq⟩ : ∃ z, rRow M 0 0 most each = z := ⟨_, rfl⟩
        rw [hq] at HW hx5 hl5 ⊢
        clear hq
        simp only [Nat.zero_add] at hy5 hx5 hl5 ⊢
        have hgy2 := hy5.1.lt
        have hgx5 := hx5.1.lt
        go_wp2_with fail
        go_loopw [12, 13] (fun v i wr => ∃ j : Nat, j ≤ n ∧ i = .int .i64 j ∧ ∃ A1 c1, v = .slice A1 j c1 ∧ RowsInv w w5 gx Bx dx px ex gy By dy M each Al (strV (xs.map toS)) j A1 c1 wr) (fun _ i _ => n - (intOf i).toNat)
        case atStart => exact ⟨0, by omega, rfl, none, 0, rfl, [], rfl, fun _ => rfl, World.ownsRow_nil _ _ _ _, hx5, hy5, hl5, hb5, Nat.le_refl _⟩
        case round =>
          obtain ⟨j, hj, rfl, A1, c1, rfl, outs, ho, hst, hown, hx6, hy6, hl6, hb6, hz6⟩ := hrel
          have HST := hid hst
          have HO := hid ho
          clear hst ho
          by_cases hjn : j < n
          · by_cases hee : (steps M each 4 j).2.2 = 0
            · have HE := hid hee
              have HO2 := hid (HST.out hee)
              rw [hee] at hy6
              clear hee HST
              go_wp2_with fail
              refine (rdErr gy By dy M _ 0 _ hy6).mono ?_
              rintro e wx ⟨rfl, rfl⟩
              go_wp2_with fail
              refine (rdString gy By dy M _ 0 each _ hy6 (by omega)).mono ?_
              rintro e w7 ⟨rfl, hy7, hg7⟩
              have hown7 := hown.kept hg7 (.inr (fun e => by have h5 := (hown.lt gy e).1; omega))
              have hx7 := hx6.apart hy6.1 hg7 hne
              have hl7 := hl6.grown hg7 (blk_not_str hy6.1)
              have hb7 := hb6.grown hg7 hb6.size (by intro k hk; simp at hk; omega)
              have hz7 := Nat.le_trans hz6 hg7.size
              have HJ := hid (show steps M each 4 (j + 1) = if (rStr M (steps M each 4 j).2.1 0 each).2.2 ≠ 0 then ([], (steps M each 4 j).2.1, (rStr M (steps M each 4 j).2.1 0 each).2.2) else ((steps M each 4 j).1 ++ [(rStr M (steps M each 4 j).2.1 0 each).1], (rStr M (steps M each 4 j).2.1 0 each).2.1, 0) by rw [steps, if_neg (by rw [HE.out]; simp)])
              have HPl := hid (rStr_err_place M (steps M each 4 j).2.1 each)
              obtain ⟨⟨x, pz, ez⟩, hzz⟩ : ∃ z, rStr M (steps M each 4 j).2.1 0 each = z := ⟨_, rfl⟩
              rw [hzz] at hy7 HJ HPl ⊢
              clear hzz hx6 hy6 hl6 hb6 hg7 hz6
              simp only at hy7 HJ HPl ⊢
              go_wp2_with (at_builtin; refine wpApp _ rfl _ _ 23 rfl w5.heap.size 9 (.string ⟨#[]⟩) 16 Try.underlying23 Try.infoS rfl A1 j c1 _ rfl (hown7.alloc _) _ _ _ (strV [toS x]) rfl rfl (.inr ⟨_, rfl, new_cells w7 9 _⟩) (strV_one _) (by omega) (by simp; omega) (by omega) ?_)
              intro A8 c8 w8 hown8 hg8
              have hrw : ∀ k, (Value.slice A1 j c1).ownBlock = some k → w5.heap.size ≤ k := own_app_block hown7
              have hga := World.grownBy_alloc w7 (.cells #[.string (toS x)] 9) none
              have fin : RowsInv w w5 gx Bx dx px ex gy By dy M each Al (strV (xs.map toS)) (j + 1) A8 c8 w8 := by
                refine ⟨outs ++ [toS x], by simp [HO.out], ?_, by simpa [strV] using hown8, ?_, ?_, ?_, ?_, ?_⟩
                · intro h0
                  have h5 := HJ.out
                  by_cases hez : ez = 0
                  · subst hez
                    rw [if_neg (by simp)] at h5
                    rw [h5, HO2.out]
                    simp
                  · rw [if_pos hez] at h5
                    rw [h5] at h0
                    exact absurd h0 hez
                · exact RdrAt.far hx5 (RdrAt.far hx5 hx7 hga hz7 (by simp)) hg8 (by simp; omega) hrw
                · have h5 := HJ.out
                  have hy8 := RdrAt.far hy5 (RdrAt.far hy5 hy7 hga hz7 (by simp)) hg8 (by simp; omega) hrw
                  by_cases hez : ez = 0
                  · subst hez
                    rw [if_neg (by simp)] at h5
                    rw [h5]
                    exact hy8
                  · rw [if_pos hez] at h5
                    rw [h5]
                    rw [HPl.out hez] at hy8
                    exact hy8
                · exact Rd.far hl5 (hl7.alloc _) hg8 hrw
                · exact (hb7.alloc hb7.size _).grown hg8 (by have := hb7.size; simp; omega) (fun k hk => Nat.le_trans hb5.size (hrw k hk))
                · have := hg8.size; simp at this; omega
              have FIN := hid fin
              clear fin hown8 hg8 hown7 hx7 hy7 hl7 hb7 hga hown
              go_wp2
              go_roundw
              case rel => exact ⟨j + 1, by omega, by go_num, A8, c8, rfl, FIN.out⟩
              case measure => simp [intOf]; omega
            · have h5 := steps_err M each 4 j hee n (by omega)
              have h6 := HW.out
              rw [h5, if_pos hee] at h6
              simp only [Prod.mk.injEq] at h6
              obtain ⟨rfl, rfl, rfl⟩ := h6
              generalize (steps M each 4 j).2.2 = ee at *
              generalize (steps M each 4 j).2.1 = pj at *
              have hne' : (ee != 0) = true := by simp [hee]
              have hne2 : (ee == 0) = false := by simp [hee]
              clear h5 HW HST HO hown hl6
              go_wp2_with fail
              refine (rdErr gy By dy M pj ee _ hy6).mono ?_
              rintro e wx ⟨rfl, rfl⟩
              go_wp2_with fail
              refine (rdErr gy By dy M pj ee _ hy6).mono ?_
              rintro e wx ⟨rfl, rfl⟩
              go_wp2_with fail
              refine (rdErr gx Bx dx M 0 ee _ hx6).mono ?_
              rintro e wx ⟨rfl, rfl⟩
              go_wp2_with fail
              refine (rdErr gy By dy M pj ee _ hy6).mono ?_
              rintro e wx ⟨rfl, rfl⟩
              go_wp2_with fail
              refine (rdAt gx Bx dx M 0 ee _ hx6).mono ?_
              rintro e wx ⟨rfl, rfl⟩
              go_wp2
              go_ret
              exact ⟨rfl, hb6⟩
          · have hjn' : n = j := by omega
            by_cases hee : (steps M each 4 j).2.2 = 0
            · have h6 := HW.out
              rw [hjn', if_neg (by rw [hee]; simp)] at h6
              have HO2 := HST.out hee
              rw [← h6] at hy6 HO2 hee
              simp only at hy6 HO2 hee
              subst hee
              have hxl : xs.length = j := by rw [← HO.out, HO2]; simp
              rw [hxl]
              have hro := Rd.of_own hown
              rw [HO2] at hro
              have hml : (xs.map toS).length = j := by rw [List.length_map]; exact hxl
              subst hjn'
              have HML := hid hml
              clear h6 HW HST HO HO2 hxl hml hown
              go_wp2_with fail
              refine (rdErr gy By dy M px 0 _ hy6).mono ?_
              rintro e wx ⟨rfl, rfl⟩
              go_wp2_with fail
              refine (rdErr gx Bx dx M px 0 _ hx6).mono ?_
              rintro e wx ⟨rfl, rfl⟩
              go_wp2_with fail
              refine (rdAt gx Bx dx M px 0 _ hx6).mono ?_
              rintro e wx ⟨rfl, rfl⟩
              go_wp2_with fail
              refine (rdAt gy By dy M px 0 _ hy6).mono ?_
              rintro e wx ⟨rfl, rfl⟩
              go_wp2_with fail
              refine (rows_same Al A1 n cl c1 (xs.map toS) _ HML.out (by omega) hl6 hro).mono ?_
              rintro e w9 ⟨rfl, hb9⟩
              have hb9' := hb6.trans (hb9.mono hb6.size)
              clear hb9 hb6
              go_wp2
              go_ret
              exact ⟨rfl, hb9'⟩
            · have h5 := steps_err M each 4 j hee n (by omega)
              have h6 := HW.out
              rw [h5, if_pos hee] at h6
              simp only [Prod.mk.injEq] at h6
              obtain ⟨rfl, rfl, rfl⟩ := h6
              generalize (steps M each 4 j).2.2 = ee at *
              generalize (steps M each 4 j).2.1 = pj at *
              have hne' : (ee != 0) = true := by simp [hee]
              have hne2 : (ee == 0) = false := by simp [hee]
              clear h5 HW HST HO hown hl6
              go_wp2_with fail
              refine (rdErr gy By dy M pj ee _ hy6).mono ?_
              rintro e wx ⟨rfl, rfl⟩
              go_wp2_with fail
              refine (rdErr gx Bx dx M 0 ee _ hx6).mono ?_
              rintro e wx ⟨rfl, rfl⟩
              go_wp2_with fail
              refine (rdErr gy By dy M pj ee _ hy6).mono ?_
              rintro e wx ⟨rfl, rfl⟩
              go_wp2_with fail
              refine (rdAt gx Bx dx M 0 ee _ hx6).mono ?_
              rintro e wx ⟨rfl, rfl⟩
              go_wp2
              go_ret
              exact ⟨rfl, hb6⟩
  · go_wp2
    go_ret
    exact ⟨rfl, hb3'⟩
end Go.Proofs.Ytpiinamfibhjdaa
