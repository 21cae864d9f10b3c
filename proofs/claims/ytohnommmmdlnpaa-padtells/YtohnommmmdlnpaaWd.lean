/- Package wire: the reader's String. -/
import Derived.Test.YtohnommmmdlnpaaWc
namespace Go.Proofs.Ytohnommmmdlnpaa
open Go.RowKit

/-- What String makes of what Number told. -/
def strOf (l : List UInt8) (p : Nat) (a : Int × Nat × Int) : List UInt8 × Nat × Int :=
  if a.2.2 ≠ 0 then ([], p, a.2.2) else if l.length < a.2.1 + a.1.toNat then ([], p, 4) else ((l.drop a.2.1).take a.1.toNat, a.2.1 + a.1.toNat, 0)
/-- What String tells, the place, the error. -/
def rStr (l : List UInt8) (p : Nat) (e : Int) (most : Int) : List UInt8 × Nat × Int := strOf l p (rNum l p e (min most 16384))

theorem rNum_cases (l : List UInt8) (p : Nat) (e most : Int) : (∃ e', e' ≠ 0 ∧ rNum l p e most = (0, p, e')) ∨ (∃ n : Nat, (n : Int) ≤ most ∧ n < 4294967296 ∧ e = 0 ∧ p + 4 ≤ l.length ∧ n = num4 l p ∧ rNum l p e most = ((n : Int), p + 4, 0)) := by
  by_cases he : e = 0
  · subst he
    by_cases hs : l.length < p + 4
    · exact .inl ⟨4, by decide, rNum_short hs⟩
    · by_cases hg : most < num4 l p
      · exact .inl ⟨5, by decide, rNum_great (by omega) hg⟩
      · exact .inr ⟨num4 l p, by omega, num4_lt l p, rfl, by omega, rfl, rNum_ok (by omega) (by omega)⟩
  · exact .inl ⟨e, he, rNum_bad he⟩

set_option maxHeartbeats 400000 in
theorem rdString (g : Nat) (A : Option Addr) (c : Nat) (l : List UInt8) (p : Nat) (e : Int) (most : Int) (w : World) (h : RdrAt w g A c l p e) (hl : l.length ≤ 140737488355328) :
    Calls Try.prog 24 #[.pointer (some ⟨g, 0, none⟩), .int .i64 most] w (RdrPost w g A c l (.string ⟨(rStr l p e most).1.toArray⟩) (rStr l p e most).2) := by
  have h' := h
  obtain ⟨hb, hr, h1, h2, h3⟩ := h'
  have c1 := hb.cell 1
  simp only [List.getElem?_cons_zero, List.getElem?_cons_succ] at c1
  obtain ⟨lim, hlim⟩ : ∃ lim, lim = min most 16384 := ⟨_, rfl⟩
  have HR : Hid (rStr l p e most = strOf l p (rNum l p e lim)) := by rw [hlim]; rfl
  have hl2 : lim ≤ 16384 := by omega
  obtain ⟨rfl, hm⟩ | ⟨rfl, hm⟩ : (most = lim ∧ most ≤ 16384) ∨ (lim = 16384 ∧ 16384 < most) := by omega
  all_goals
    clear hlim
    go_enter Try.func24, Try.ntmps24
    go_wp2_with fail
    refine (rdNumber g A c l p e _ _ h hl).mono ?_
    rintro r w1 ⟨rfl, hq, hg⟩
    clear hb hr h1 h2 c1
    have h3' := h3
    clear h3
    rcases rNum_cases l p e _ with ⟨e', he', hx⟩ | ⟨n, hn1, hn2, hn3, hn4, -, hx⟩
    · rw [hx] at HR hq ⊢
      have HS := hid (show rStr l p e most = ([], p, e') by rw [HR.out]; simp [strOf, he'])
      clear HR hx
      have hq' := hq
      obtain ⟨hb, -⟩ := hq'
      have c2 := hb.cell 2
      simp only [List.getElem?_cons_zero, List.getElem?_cons_succ] at c2
      have hne : (e' != 0) = true := by simp [he']
      go_wp2
      go_ret
      rw [HS.out]
      exact ⟨rfl, hq, hg⟩
    · rw [hx] at HR hq ⊢
      clear hx
      have hq' := hq
      obtain ⟨hb, hr, h1, h2, h3⟩ := hq'
      have c0 := hb.cell 0
      have c1 := hb.cell 1
      have c2 := hb.cell 2
      have f1 := hb.frozen 1
      have f2 := hb.frozen 2
      simp only [List.getElem?_cons_zero, List.getElem?_cons_succ] at c0 c1 c2
      by_cases hsh : l.length < p + 4 + n
      · have HS := hid (show rStr l p e most = ([], p, 4) by rw [HR.out]; simp [strOf, hsh])
        clear HR
        have hdc : decide ((l.length : Int) - (p + 4 : Nat) < n) = true := by simp; omega
        go_wp2_with fail
        refine (left_any g _ c l (p + 4) 0 _ hq hl).mono ?_
        rintro r w2 ⟨rfl, m, rfl⟩
        go_wp2
        go_ret
        rw [HS.out]
        exact ⟨rfl, rdr_err (rdr_pos (hq.drewN m) h3' rfl) rfl, grown_trans (grown_trans (grown_drewN hg m) (grown_set 1 _)) (grown_set 2 _)⟩
      · have HS := hid (show rStr l p e most = ((l.drop (p + 4)).take n, p + 4 + n, 0) by rw [HR.out]; simp [strOf, hsh])
        clear HR
        obtain ⟨b, off, rfl, -, hbl⟩ := hr.at_ (k := p) (by rw [by8_length]; omega)
        simp only at hq c1 c2 hb h3
        obtain ⟨q, hq4⟩ : ∃ q, p + 4 = q := ⟨_, rfl⟩
        rw [hq4] at hq c1 HS hsh h3 hn4 hb
        clear hq4 hb
        have hwr : IntKind.i64.wrap ((q : Int) + n) = (q : Int) + n := IntWalk.i64_in _ (by omega)
        have hdc : decide ((l.length : Int) - q < n) = false := by simp; omega
        have hqc : (q : Int) + n ≤ c := by omega
        have hqc' : q + n ≤ c := by omega
        have htn : ((q : Int) + n).toNat = q + n := by omega
        go_wp2_with fail
        refine (left_any g _ c l q 0 _ hq hl).mono ?_
        rintro r w2 ⟨rfl, m, rfl⟩
        by_cases hcp : c = q
        · obtain rfl : n = 0 := by omega
          have hcv : ∀ A d k, (convert 23 9 (.slice A 0 d)).run Try.prog (w1.drewN k) = .ok (.string ⟨#[]⟩) (w1.drewN k) := fun A d k => conv_rd (w1.drewN k) 23 9 5 Try.underlying23 Try.underlying5 Try.underlying9 A 0 d [] rfl (.inl rfl)
          subst hcp
          go_wp2_with fail
          go_quiet (fail)
          rw [World.drewN_drewN]
          generalize m + nq = M
          go_wp2
          go_ret
          rw [HS.out]
          exact ⟨by simp, rdr_pos (p' := c + 0) (hq.drewN M) (by omega) rfl, grown_trans (grown_drewN hg M) (grown_set 1 _)⟩
        · have hcv : ∀ k, (convert 23 9 (.slice (some ⟨b, off + q, none⟩) n (c - q))).run Try.prog (w1.drewN k) = .ok (.string ⟨((l.drop q).take n).toArray⟩) (w1.drewN k) := by
            intro k
            refine conv_rd (w1.drewN k) 23 9 5 Try.underlying23 Try.underlying5 Try.underlying9 _ n _ _ (by simp; omega) ?_
            have h0 := hr.cut (k := q) (m := n) (cap := c) (by rw [by8_length]; omega) (by rw [by8_length]; omega)
            rw [if_neg hcp, Option.map_some, Addr.add_lit] at h0
            have e : by8 ((l.drop q).take n) = ((by8 l).drop q).take n := by simp [by8]
            rw [e]
            exact h0
          go_wp2_with fail
          go_quiet (fail)
          rw [World.drewN_drewN]
          generalize m + nq = M
          go_wp2
          go_ret
          rw [HS.out]
          exact ⟨rfl, rdr_pos (p' := q + n) (hq.drewN M) (by omega) rfl, grown_trans (grown_drewN hg M) (grown_set 1 _)⟩
end Go.Proofs.Ytohnommmmdlnpaa
