/- The document's answer of layer 1: its reader's Row. -/
import Derived.Test.YtpiinamfibhjdaaRc
namespace Go.Proofs.Ytpiinamfibhjdaa
open Go.RowKit

def RefRowPost (w : World) (g : Nat) (A : Option Addr) (c : Nat) (l : List UInt8) (q : List (List UInt8) × Nat × Int) (r : Ending) (w' : World) : Prop :=
  ∃ A' c', r = .returned (.slice A' q.1.length c') ∧ w'.ownsRow w.heap.size 9 1 (.slice A' q.1.length c') q.1.length (strV (q.1.map toS)) ∧ RefAt w' g A c l q.2.1 q.2.2 ∧ w.grownBy w' (some g)

/-- What holds at the head of the loop. -/
def RefRowInv (w : World) (g : Nat) (A : Option Addr) (c : Nat) (l : List UInt8) (p : Nat) (each : Int) (q j : Nat) (A1 : Option Addr) (c1 : Nat) (wr : World) : Prop :=
  ∃ outs : List ByteArray, outs.length = j ∧ ((steps l each q j).2.2 = 0 → outs = (steps l each q j).1.map toS) ∧ wr.ownsRow w.heap.size 9 1 (.slice A1 j c1) j (strV outs) ∧ RefAt wr g A c l p 0 ∧ Below w.heap.size w wr
theorem steps_place (l : List UInt8) (each : Int) (q : Nat) (hq : q ≤ l.length) : ∀ j, (steps l each q j).2.1 ≤ l.length
  | 0 => hq
  | j + 1 => by
    have ih := steps_place l each q hq j
    rw [steps]
    split
    · exact ih
    · split
      · exact ih
      · exact rStr_place l _ 0 each ih

set_option maxHeartbeats 2000000 in
theorem refRRow (g : Nat) (A : Option Addr) (c : Nat) (l : List UInt8) (p : Nat) (e : Int) (most each : Int) (w : World) (h : RefAt w g A c l p e) (hl : l.length ≤ 140737488355328) :
    Calls Try.prog 28 #[.pointer (some ⟨g, 0, none⟩), .int .i64 most, .int .i64 each] w (RefRowPost w g A c l (rRow l p e most each)) := by
  have h' := h
  obtain ⟨hb, hr, h1, h2, h3⟩ := h'
  have c0 := hb.cell 0
  have c1 := hb.cell 1
  have c2 := hb.cell 2
  have f1 := hb.frozen 1
  have f2 := hb.frozen 2
  simp only [List.getElem?_cons_zero, List.getElem?_cons_succ] at c0 c1 c2
  by_cases he : e = 0
  · subst he
    obtain ⟨lim, hlim⟩ : ∃ lim, lim = min most 256 := ⟨_, rfl⟩
    have HR : Hid (rRow l p 0 most each = rowOf l p each (rNum l p 0 lim)) := by rw [hlim]; rfl
    have hl2 : lim ≤ 256 := by omega
    have K := fun m => still_call (R := fun w' => ∃ k, w' = w.drewN k) (turn_call (refnum A l.length c l p lim (w.drewN m) rfl (hr.drewN m) hl h3)) ⟨m, rfl⟩
    obtain ⟨rfl, hm⟩ | ⟨rfl, hm⟩ : (most = lim ∧ most ≤ 256) ∨ (lim = 256 ∧ 256 < most) := by omega
    all_goals
      clear hlim
      rcases rNum_cases l p 0 _ with ⟨e', he', hx⟩ | ⟨n, hn1, hn2, -, hn4, -, hx⟩
      · rw [hx] at HR K
        have HS := hid (show rRow l p 0 most each = ([], p, e') by rw [HR.out]; simp [rowOf, he'])
        have HK := hid K
        clear HR hx K
        simp only at HK
        have hne : (e' != 0) = true := by simp [he']
        have hne2 : (e' == 0) = false := by simp [he']
        go_enter Try.func28, Try.ntmps28
        go_wp2_with fail
        go_quiet ((go_at_call 38; exact HK.out _))
        go_wp2_with fail
        refine wp_loop_rounds 1 ?_
        rw [rounds_succ]
        go_wp2
        go_ret
        rw [HS.out]
        exact ⟨none, 0, rfl, World.ownsRow_nil _ _ _ _, ref_err (h.drewN nq) rfl, grown_trans (grown_drewN (World.grownBy.refl _ _) nq) (grown_set 2 _)⟩
      · rw [hx] at HR K
        have HW := hid (show rRow l p 0 most each = if (steps l each (p + 4) n).2.2 ≠ 0 then ([], p, (steps l each (p + 4) n).2.2) else steps l each (p + 4) n by rw [HR.out]; simp [rowOf])
        obtain ⟨q4, hq4⟩ : ∃ q4, p + 4 = q4 := ⟨_, rfl⟩
        rw [hq4] at HW hn4 K
        have HK := hid K
        clear HR hx K hq4
        simp only at HK
        have hglt := hb.lt
        go_enter Try.func28, Try.ntmps28
        go_wp2_with fail
        go_quiet ((go_at_call 38; exact HK.out _))
        go_wp2_with fail
        go_loopw [8, 9, 10, 11] (fun va ve v i wr => ∃ j : Nat, j ≤ n ∧ i = .int .i64 j ∧ va = .int .i64 (steps l each q4 j).2.1 ∧ ve = .int .i64 (steps l each q4 j).2.2 ∧ ∃ A1 k1, v = .slice A1 j k1 ∧ RefRowInv w g A c l p each q4 j A1 k1 wr) (fun _ _ _ i _ => n - (intOf i).toNat)
        case atStart => exact ⟨0, by omega, rfl, rfl, rfl, none, 0, rfl, [], rfl, fun _ => rfl, World.ownsRow_nil _ _ _ _, h.drewN nq, ⟨rfl, rfl, rfl, Nat.le_refl _, fun _ _ => rfl⟩⟩
        case round =>
          obtain ⟨j, hj, rfl, rfl, rfl, A1, k1, rfl, outs, ho, hst, hown, hq6, hb6⟩ := hrel
          have HST := hid hst
          have HO := hid ho
          clear hst ho
          have hpj := steps_place l each q4 (by omega) j
          by_cases hee : (steps l each q4 j).2.2 = 0
          · by_cases hjn : j < n
            · have HE := hid hee
              have HO2 := hid (HST.out hee)
              rw [hee]
              clear hee HST
              have HJ := hid (show steps l each q4 (j + 1) = if (rStr l (steps l each q4 j).2.1 0 each).2.2 ≠ 0 then ([], (steps l each q4 j).2.1, (rStr l (steps l each q4 j).2.1 0 each).2.2) else ((steps l each q4 j).1 ++ [(rStr l (steps l each q4 j).2.1 0 each).1], (rStr l (steps l each q4 j).2.1 0 each).2.1, 0) by rw [steps, if_neg (by rw [HE.out]; simp)])
              have HPl := hid (rStr_err_place l (steps l each q4 j).2.1 each)
              have T := reftext A l.length c l (steps l each q4 j).2.1 each wr rfl hq6.2.1 h1 hl hpj
              obtain ⟨⟨x, pz, ez⟩, hzz⟩ : ∃ z, rStr l (steps l each q4 j).2.1 0 each = z := ⟨_, rfl⟩
              rw [hzz] at HJ HPl T
              clear hzz
              simp only at HJ HPl T
              have HT := hid T
              clear T
              have hs1 : (steps l each q4 (j + 1)).2.1 = pz ∧ (steps l each q4 (j + 1)).2.2 = ez := by
                rw [HJ.out]
                by_cases hez : ez = 0
                · subst hez; simp
                · rw [if_pos hez]; exact ⟨(HPl.out hez).symm, rfl⟩
              have HS1 := hid hs1.1
              have HS2 := hid hs1.2
              have hc0 := hq6.1.cell 0
              simp only [List.getElem?_cons_zero] at hc0
              clear hs1
              go_wp2_with fail
              refine HT.out.mono ?_
              rintro r w7 ⟨rfl, rfl⟩
              go_wp2_with (at_builtin; refine wpApp _ rfl _ _ 23 rfl w.heap.size 9 (.string ⟨#[]⟩) 16 Try.underlying23 Try.infoS rfl A1 j k1 _ rfl (hown.alloc _) _ _ _ (strV [toS x]) rfl rfl (.inr ⟨_, rfl, new_cells wr 9 _⟩) (strV_one _) (by omega) (by have := hb6.size; simp; omega) (by omega) ?_)
              intro A8 c8 w8 hown8 hg8
              have hrw : ∀ k, (Value.slice A1 j k1).ownBlock = some k → w.heap.size ≤ k := own_app_block hown
              have hga := World.grownBy_alloc wr (.cells #[.string (toS x)] 9) none
              have fin : RefRowInv w g A c l p each q4 (j + 1) A8 c8 w8 := by
                refine ⟨outs ++ [toS x], by simp [HO.out], ?_, by simpa [strV] using hown8, ?_, ?_⟩
                · intro h0
                  have h5 := HJ.out
                  by_cases hez : ez = 0
                  · subst hez
                    rw [if_neg (by simp)] at h5
                    rw [h5, HO2.out]
                    simp
                  · rw [if_pos hez] at h5
                    rw [h5] at h0
                    exact absurd h0 hez
                · exact RefAt.far h (RefAt.far h hq6 hga hb6.size (by simp)) hg8 (by have := hb6.size; simp; omega) hrw
                · exact (hb6.alloc hb6.size _).grown hg8 (by have := hb6.size; simp; omega) hrw
              have FIN := hid fin
              clear fin hown8 hg8 hown hq6 hb6 hga
              go_wp2
              go_roundw
              case rel => exact ⟨j + 1, by omega, by go_num, by rw [HS1.out], by rw [HS2.out], A8, c8, rfl, FIN.out⟩
              case measure => simp [intOf]; omega
            · have hjn' : n = j := by omega
              subst hjn'
              have h6 := HW.out
              rw [if_neg (by rw [hee]; simp)] at h6
              have HO2 := HST.out hee
              rw [HO2] at hown
              rw [hee]
              have hlen : (steps l each q4 n).1.length = n := by have := HO.out; rw [HO2] at this; simpa using this
              have HH6 := hid h6
              have HEE := hid hee
              have HLen := hid hlen
              clear h6 HW HST HO HO2 hlen hee
              have hc1 := hq6.1.cell 1
              have hf1 := hq6.1.frozen 1
              simp only [List.getElem?_cons_zero, List.getElem?_cons_succ] at hc1
              go_wp2
              go_ret
              rw [HH6.out]
              refine ⟨A1, k1, by rw [HLen.out]; rfl, ?_, ?_, ?_⟩
              · rw [HLen.out]
                exact ownsRow_setCell_below hown (by exact hglt) _
              · rw [HEE.out]
                exact ref_pos hq6 hpj rfl
              · exact grown_trans (grown_below hb6) (grown_set 1 _)
          · have h5 := steps_err l each q4 j hee n (by omega)
            have h6 := HW.out
            rw [h5, if_pos hee] at h6
            have HH6 := hid h6
            clear h5 h6 HW HST HO
            generalize (steps l each q4 j).2.2 = ee at *
            generalize (steps l each q4 j).2.1 = pj at *
            have hne' : (ee != 0) = true := by simp [hee]
            have hne2 : (ee == 0) = false := by simp [hee]
            have hc2 := hq6.1.cell 2
            have hf2 := hq6.1.frozen 2
            simp only [List.getElem?_cons_zero, List.getElem?_cons_succ] at hc2
            by_cases hjn : j < n
            all_goals
              go_wp2
              go_ret
              rw [HH6.out]
              exact ⟨none, 0, rfl, World.ownsRow_nil _ _ _ _, ref_err hq6 rfl, grown_trans (grown_below hb6) (grown_set 2 _)⟩
  · have he' : (e != 0) = true := by simp [he]
    rw [rRow_bad he]
    go_enter Try.func28, Try.ntmps28
    go_wp2
    go_ret
    exact ⟨none, 0, rfl, World.ownsRow_nil _ _ _ _, h, World.grownBy.refl _ _⟩
end Go.Proofs.Ytpiinamfibhjdaa
