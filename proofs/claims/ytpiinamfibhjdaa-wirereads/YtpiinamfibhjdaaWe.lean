/- Package wire: the reader's Row. -/
import Derived.Test.YtpiinamfibhjdaaWd
import Derived.WalkMore
import Derived.ScopeJumps
namespace Go.Proofs.Ytpiinamfibhjdaa
open Go.RowKit

/-- What j calls of String tell, one behind the other, up to the first error. -/
def steps (l : List UInt8) (each : Int) (p : Nat) : Nat → List (List UInt8) × Nat × Int
  | 0 => ([], p, 0)
  | j + 1 => if (steps l each p j).2.2 ≠ 0 then steps l each p j else
      if (rStr l (steps l each p j).2.1 0 each).2.2 ≠ 0 then ([], (steps l each p j).2.1, (rStr l (steps l each p j).2.1 0 each).2.2)
      else ((steps l each p j).1 ++ [(rStr l (steps l each p j).2.1 0 each).1], (rStr l (steps l each p j).2.1 0 each).2.1, 0)
/-- What Row makes of what Number told. -/
def rowOf (l : List UInt8) (p : Nat) (each : Int) (a : Int × Nat × Int) : List (List UInt8) × Nat × Int :=
  if a.2.2 ≠ 0 then ([], p, a.2.2) else if (steps l each a.2.1 a.1.toNat).2.2 ≠ 0 then ([], p, (steps l each a.2.1 a.1.toNat).2.2) else steps l each a.2.1 a.1.toNat
def rRow (l : List UInt8) (p : Nat) (e : Int) (most each : Int) : List (List UInt8) × Nat × Int := rowOf l p each (rNum l p e (min most 256))

/-- Lists of bytes as strings. -/
def toS (x : List UInt8) : ByteArray := ⟨x.toArray⟩
theorem toS_size (x : List UInt8) : (toS x).size = x.length := by simp [toS, ByteArray.size]

def RowPost (w : World) (g : Nat) (A : Option Addr) (c : Nat) (l : List UInt8) (q : List (List UInt8) × Nat × Int) (r : Ending) (w' : World) : Prop :=
  ∃ A' c', r = .returned (.slice A' q.1.length c') ∧ w'.ownsRow w.heap.size 9 1 (.slice A' q.1.length c') q.1.length (strV (q.1.map toS)) ∧ RdrAt w' g A c l q.2.1 q.2.2 ∧ w.grownBy w' (some g)

theorem steps_err (l : List UInt8) (each : Int) (p j : Nat) (h : (steps l each p j).2.2 ≠ 0) : ∀ k, j ≤ k → steps l each p k = steps l each p j := by
  intro k hk
  induction k with
  | zero => obtain rfl : j = 0 := by omega
            rfl
  | succ k ih =>
    by_cases hj : j = k + 1
    · rw [hj]
    · have := ih (by omega)
      rw [steps, if_pos (by rw [this]; exact h), this]

theorem RdrAt.far {w0 w w' : World} {g : Nat} {A : Option Addr} {c : Nat} {l : List UInt8} {p p0 : Nat} {e e0 : Int} {row : Option Nat} (h0 : RdrAt w0 g A c l p0 e0) (h : RdrAt w g A c l p e) (hg : w.grownBy w' row) (hsz : w0.heap.size ≤ w.heap.size)
    (hrow : ∀ k, row = some k → w0.heap.size ≤ k) : RdrAt w' g A c l p e := by
  obtain ⟨hb, hr, h1, h2, h3⟩ := h
  have hlt := h0.1.lt
  refine ⟨?_, ?_, h1, h2, h3⟩
  · unfold Blk
    rw [hg.block g (by omega) (fun e => by have := hrow g e.symm; omega)]
    exact hb
  · rcases hr with hr | ⟨ad, rfl, hc⟩
    · exact .inl hr
    · refine .inr ⟨ad, rfl, fun j u hu => ?_⟩
      have hin := hc j u hu
      have hbl : ad.block < w0.heap.size := by
        rcases h0.2.1 with h0r | ⟨ad', he, hc'⟩
        · rw [h0r] at hu; simp at hu
        · injection he with he
          subst he
          have := World.block_lt_of_cell? w0 _ (hc' j u hu)
          rwa [add_block] at this
      refine (World.cell?_of_block (hg.block _ (World.block_lt_of_cell? w _ hin) ?_)).trans hin
      rw [add_block]
      exact fun e => by have := hrow _ e.symm; omega
theorem grown_far {w0 w w' : World} {g row : Option Nat} (h : w0.grownBy w g) (hg : w.grownBy w' row) (hrow : ∀ k, row = some k → w0.heap.size ≤ k) : w0.grownBy w' g :=
  ⟨hg.os.trans h.os, hg.tape.trans h.tape, hg.output.trans h.output, Nat.le_trans h.size hg.size, fun i hi hne => (hg.block i (Nat.lt_of_lt_of_le hi h.size) (fun e => by have := hrow i e.symm; omega)).trans (h.block i hi hne)⟩

/-- What holds where the row is left by its label. -/
def RowJump (w : World) (g : Nat) (A : Option Addr) (c : Nat) (l : List UInt8) (p : Nat) (most each : Int) (q : List (List UInt8) × Nat × Int) (a' : Act) (w' : World) : Prop :=
  ∃ (u8 u9 u10 u11 u12 u13 u14 u15 u16 u17 u18 u19 u20 u21 u22 u23 u24 u25 u26 u27 u28 u29 u30 u31 u32 u33 u34 u35 u36 u37 u38 u39 u40 u41 u42 u43 u44 : Value) (e1 : Int) (p1 : Nat), a' = { tmps := #[.pointer (some ⟨g, 0, none⟩), .int .i64 most, .int .i64 each, undef, undef, undef, .slice none 0 0, .int .i64 p, u8, u9, u10, u11, u12, u13, u14, u15, u16, u17, u18, u19, u20, u21, u22, u23, u24, u25, u26, u27, u28, u29, u30, u31, u32, u33, u34, u35, u36, u37, u38, u39, u40, u41, u42, u43, u44], defers := [] } ∧ q = ([], p, e1) ∧ RdrAt w' g A c l p1 e1 ∧ w.grownBy w' (some g)

set_option maxHeartbeats 1000000 in
theorem rdRow (g : Nat) (A : Option Addr) (c : Nat) (l : List UInt8) (p : Nat) (e : Int) (most each : Int) (w : World) (h : RdrAt w g A c l p e) (hl : l.length ≤ 140737488355328) :
    Calls Try.prog 27 #[.pointer (some ⟨g, 0, none⟩), .int .i64 most, .int .i64 each] w (RowPost w g A c l (rRow l p e most each)) := by
  have h' := h
  obtain ⟨hb, hr, h1, h2, h3⟩ := h'
  have c1 := hb.cell 1
  simp only [List.getElem?_cons_zero, List.getElem?_cons_succ] at c1
  obtain ⟨lim, hlim⟩ : ∃ lim, lim = min most 256 := ⟨_, rfl⟩
  have HR : Hid (rRow l p e most each = rowOf l p each (rNum l p e lim)) := by rw [hlim]; rfl
  have hl2 : lim ≤ 256 := by omega
  obtain ⟨rfl, hm⟩ | ⟨rfl, hm⟩ : (most = lim ∧ most ≤ 256) ∨ (lim = 256 ∧ 256 < most) := by omega
  all_goals
    clear hlim
    go_enter Try.func27, Try.ntmps27
    go_wp2_with fail
    refine wp_scope_jumps 0 (RowJump w g A c l p most each (rRow l p e most each)) (fun _ _ => 0) (by rfl) ?_ ?_
    · go_wp2_with fail
      refine (rdNumber g A c l p e _ _ h hl).mono ?_
      rintro r w1 ⟨rfl, hq, hg⟩
      clear hb hr h1 h2 c1
      have h3' := h3
      clear h3
      rcases rNum_cases l p e _ with ⟨e', he', hx⟩ | ⟨n, hn1, hn2, hn3, hn4, -, hx⟩
      · rw [hx] at HR hq ⊢
        have HS := hid (show rRow l p e most each = ([], p, e') by rw [HR.out]; simp [rowOf, he'])
        clear HR hx
        have hq' := hq
        obtain ⟨hb, -⟩ := hq'
        have c2 := hb.cell 2
        simp only [List.getElem?_cons_zero, List.getElem?_cons_succ] at c2
        have hne : (e' != 0) = true := by simp [he']
        go_wp2
        go_step3
        exact ⟨rfl, _, _, _, _, _, _, _, _, _, _, _, _, _, _, _, _, _, _, _, _, _, _, _, _, _, _, _, _, _, _, _, _, _, _, _, _, _, e', p, rfl, HS.out, hq, hg⟩
      · rw [hx] at HR hq ⊢
        clear hx
        have hrow : rRow l p e most each = if (steps l each (p + 4) n).2.2 ≠ 0 then ([], p, (steps l each (p + 4) n).2.2) else steps l each (p + 4) n := by rw [HR.out]; simp [rowOf]
        have HW := hid hrow
        clear hrow HR
        simp only at hq
        obtain ⟨q4, hq4⟩ : ∃ q4, p + 4 = q4 := ⟨_, rfl⟩
        rw [hq4] at hq HW hn4
        clear hq4
        have hq' := hq
        obtain ⟨hb, -⟩ := hq'
        have c2 := hb.cell 2
        simp only [List.getElem?_cons_zero, List.getElem?_cons_succ] at c2
        go_wp2_with fail
        go_loopw [8, 25] (fun v i wr => ∃ j : Nat, j ≤ n ∧ i = .int .i64 j ∧ ∃ pj ss, Hid (steps l each q4 j = (ss, pj, 0)) ∧ ∃ A1 c1, v = .slice A1 j c1 ∧ wr.ownsRow w.heap.size 9 1 (.slice A1 j c1) j (strV (ss.map toS)) ∧ RdrAt wr g A c l pj 0 ∧ w.grownBy wr (some g)) (fun _ i _ => n - (intOf i).toNat)
        case atStart => exact ⟨0, by omega, rfl, q4, [], rfl, none, 0, rfl, World.ownsRow_nil _ _ _ _, hq, hg⟩
        case round =>
          clear c2 hq hb hg
          obtain ⟨j, hj, rfl, pj, ss, HS, A1, c1, rfl, hown, hq, hg⟩ := hrel
          by_cases hjn : j < n
          · go_wp2_with fail
            refine (rdString g A c l pj 0 each _ hq hl).mono ?_
            rintro r w2 ⟨rfl, hq2, hg2⟩
            have HJ := hid (show steps l each q4 (j + 1) = if (rStr l pj 0 each).2.2 ≠ 0 then ([], pj, (rStr l pj 0 each).2.2) else (ss ++ [(rStr l pj 0 each).1], (rStr l pj 0 each).2.1, 0) by rw [steps, HS.out]; simp)
            obtain ⟨⟨x, px, ex⟩, hx⟩ : ∃ z, rStr l pj 0 each = z := ⟨_, rfl⟩
            rw [hx] at hq2 HJ ⊢
            clear hx
            simp only at hq2 HJ ⊢
            have hqb := hq2.1
            have c2 := hqb.cell 2
            simp only [List.getElem?_cons_zero, List.getElem?_cons_succ] at c2
            by_cases hex : ex = 0
            · subst hex
              have hown2 := hown.kept hg2 (.inr (fun e => by have h5 := (hown.lt g e).1; have h6 := h.1.lt; omega))
              go_wp2_with (at_builtin; refine wpApp _ rfl _ _ 23 rfl w.heap.size 9 (.string ⟨#[]⟩) 16 Try.underlying23 Try.infoS rfl A1 j c1 _ rfl (hown2.alloc _) _ _ _ (strV [toS x]) rfl rfl (.inr ⟨_, rfl, new_cells w2 9 _⟩) (strV_one _) (by omega) (by have h5 := hg.size; have h6 := hg2.size; simp; omega) (by omega) ?_)
              intro A3 c3 w3 hown3 hg3
              have hrw : ∀ k, (Value.slice A1 j c1).ownBlock = some k → w.heap.size ≤ k := own_app_block hown
              go_wp2
              go_roundw
              case rel =>
                refine ⟨j + 1, by omega, by go_num, px, ss ++ [x], ?_, A3, c3, rfl, ?_, ?_, ?_⟩
                · have h5 := HJ.out; simp at h5; exact h5
                · simpa [strV] using hown3
                · refine RdrAt.far h (RdrAt.far h hq2 (World.grownBy_alloc w2 _ none) ?_ (by simp)) hg3 ?_ hrw
                  · have h5 := hg.size; have h6 := hg2.size; omega
                  · have h5 := hg.size; have h6 := hg2.size; simp; omega
                · exact grown_far (grown_far (grown_trans hg hg2) (World.grownBy_alloc w2 _ none) (by simp)) hg3 hrw
              case measure => simp [intOf]; omega
            · have hne : (ex != 0) = true := by simp [hex]
              have HF := hid (show rRow l p e most each = ([], p, ex) by
                have h5 := HJ.out
                rw [if_pos hex] at h5
                have h6 := steps_err l each q4 (j + 1) (by rw [h5]; exact hex) n (by omega)
                rw [HW.out, h6, h5]
                simp [hex])
              go_wp2
              go_step3
              exact ⟨rfl, _, _, _, _, _, _, _, _, _, _, _, _, _, _, _, _, _, _, _, _, _, _, _, _, _, _, _, _, _, _, _, _, _, _, _, _, _, ex, px, rfl, HF.out, hq2, grown_trans hg hg2⟩
          · have e5 : n = j := by omega
            subst e5
            go_wp2
            simp only [Exit.jump]
            go_ret
            have h5 : rRow l p e most each = (ss, pj, 0) := by rw [HW.out, HS.out]; simp
            rw [h5]
            have h6 : ss.length = n := by have := (own_form hown).1; simpa [strV] using this
            exact ⟨A1, c1, by rw [h6]; rfl, by rw [h6]; exact hown, hq, hg⟩
    · rintro a' w' ⟨u8, u9, u10, u11, u12, u13, u14, u15, u16, u17, u18, u19, u20, u21, u22, u23, u24, u25, u26, u27, u28, u29, u30, u31, u32, u33, u34, u35, u36, u37, u38, u39, u40, u41, u42, u43, u44, e1, p1, rfl, hrow, hq1, hg1⟩
      have HW := hid hrow
      clear hrow
      have hqb := hq1.1
      have f1 := hqb.frozen 1
      have c1 := hqb.cell 1
      simp only [List.getElem?_cons_zero, List.getElem?_cons_succ] at c1
      go_wp2
      simp only [Exit.jump]
      go_ret
      rw [HW.out]
      exact ⟨none, 0, rfl, World.ownsRow_nil _ _ _ _, rdr_pos hq1 h3 rfl, grown_trans hg1 (grown_set 1 _)⟩
end Go.Proofs.Ytpiinamfibhjdaa
