/- The document's answer of layer 1: what it reads. -/
import Derived.Test.YtohnommmmdlnpaaRa
import Derived.Deep.RegionHeld3
namespace Go.Proofs.Ytohnommmmdlnpaa
open Go.RowKit

set_option maxHeartbeats 1000000 in
theorem refnum (A : Option Addr) (n c : Nat) (l : List UInt8) (p : Nat) (most : Int) (w : World) (hl : l.length = n) (hr : Rd w A (by8 l)) (hn : n ≤ 140737488355328) (hp : p ≤ n) :
    Calls Try.prog 37 #[.slice A n c, .int .i64 p, .int .i64 most] w fun e w' => e = .returned (.tuple #[.int .i64 (rNum l p 0 most).1, .int .i64 (rNum l p 0 most).2.1, .int .i64 (rNum l p 0 most).2.2]) ∧ w = w' := by
  have HL := hid hl
  clear hl
  by_cases hs : n < p + 4
  · rw [rNum_short (by have := HL.out; omega)]
    go_enter Try.func37, Try.ntmps37
    go_wp2
    go_ret3
    exact ⟨rfl, rfl⟩
  · have hdc : decide ((n : Int) - p < 4) = false := by simp; omega
    obtain ⟨b, off, rfl, -, -⟩ := hr.at_ (k := p) (by rw [by8_length, HL.out]; omega)
    go_enter Try.func37, Try.ntmps37
    go_wp2_with fail
    go_loop [9, 10] (fun z i => ∃ k : Nat, k ≤ 4 ∧ i = .int .i64 k ∧ z = .int .i64 (pnum l p k)) (fun _ i => 4 - (intOf i).toNat)
    case atStart => exact ⟨0, by omega, rfl, rfl⟩
    case round =>
      obtain ⟨k, hk, rfl, rfl⟩ := hrel
      by_cases hk4 : k < 4
      · have hc := byte_at hr (j := p + k) (by rw [HL.out]; omega)
        have hx : (l.getD (p + k) 0).toNat < 256 := (l.getD (p + k) 0).toNat_lt
        have hsm := pnum_small l p k hk4
        have HP : Hid (pnum l p (k + 1) = pnum l p k * 256 + (l.getD (p + k) 0).toNat) := rfl
        generalize (l.getD (p + k) 0).toNat = x at *
        generalize pnum l p k = y at *
        go_wp2
        go_round
        case rel => exact ⟨k + 1, by omega, by go_num, by rw [HP.out]; go_num⟩
        case measure => simp [intOf]; omega
      · have e : k = 4 := by omega
        subst e
        rw [pnum_four]
        have hnl := num4_lt l p
        by_cases hgt : most < (num4 l p : Int)
        · have HR := hid (rNum_great (by have := HL.out; omega) hgt)
          generalize num4 l p = y at *
          go_wp2
          go_ret3
          rw [HR.out]
          exact ⟨rfl, rfl⟩
        · have HR := hid (rNum_ok (l := l) (p := p) (most := most) (by have := HL.out; omega) (by omega))
          generalize num4 l p = y at *
          go_wp2
          go_ret3
          rw [HR.out]
          exact ⟨rfl, rfl⟩

set_option maxHeartbeats 1000000 in
theorem reftext (A : Option Addr) (n c : Nat) (l : List UInt8) (p : Nat) (most : Int) (w : World) (hl : l.length = n) (hr : Rd w A (by8 l)) (hnc : n ≤ c) (hn : n ≤ 140737488355328) (hp : p ≤ n) :
    Calls Try.prog 35 #[.slice A n c, .int .i64 p, .int .i64 most] w fun e w' => e = .returned (.tuple #[.string ⟨(rStr l p 0 most).1.toArray⟩, .int .i64 (rStr l p 0 most).2.1, .int .i64 (rStr l p 0 most).2.2]) ∧ w = w' := by
  subst hl
  obtain ⟨lim, hlim⟩ : ∃ lim, lim = min most 16384 := ⟨_, rfl⟩
  have HR : Hid (rStr l p 0 most = strOf l p (rNum l p 0 lim)) := by rw [hlim]; rfl
  have hl2 : lim ≤ 16384 := by omega
  obtain ⟨rfl, hm⟩ | ⟨rfl, hm⟩ : (most = lim ∧ most ≤ 16384) ∨ (lim = 16384 ∧ 16384 < most) := by omega
  all_goals
    clear hlim
    go_enter Try.func35, Try.ntmps35
    go_wp2_with fail
    refine (refnum A l.length c l p _ _ rfl hr hn hp).mono ?_
    rintro r w1 ⟨rfl, rfl⟩
    rcases rNum_cases l p 0 _ with ⟨e', he', hx⟩ | ⟨k, hn1, hn2, -, hn4, -, hx⟩
    · rw [hx] at HR ⊢
      have HS := hid (show rStr l p 0 most = ([], p, e') by rw [HR.out]; simp [strOf, he'])
      clear HR hx
      have hne : (e' != 0) = true := by simp [he']
      go_wp2
      go_ret3
      rw [HS.out]
      exact ⟨rfl, rfl⟩
    · rw [hx] at HR ⊢
      clear hx
      obtain ⟨b, off, rfl, -, hbl⟩ := hr.at_ (k := p) (by rw [by8_length]; omega)
      by_cases hsh : l.length < p + 4 + k
      · have HS := hid (show rStr l p 0 most = ([], p, 4) by rw [HR.out]; simp [strOf, hsh])
        clear HR
        go_wp2
        go_ret3
        rw [HS.out]
        exact ⟨rfl, rfl⟩
      · have HS := hid (show rStr l p 0 most = ((l.drop (p + 4)).take k, p + 4 + k, 0) by rw [HR.out]; simp [strOf, hsh])
        clear HR
        obtain ⟨q, hq4⟩ : ∃ q, p + 4 = q := ⟨_, rfl⟩
        have hq5 : ((p + 4 : Nat) : Int) = (q : Int) := by omega
        rw [hq4] at HS hsh hn4
        simp only
        rw [hq5]
        clear hq4 hq5
        have hqc : (q : Int) + k ≤ c := by omega
        by_cases hcp : c = q
        · obtain rfl : k = 0 := by omega
          have hcv : ∀ A d, (convert 23 9 (.slice A 0 d)).run Try.prog w = .ok (.string ⟨#[]⟩) w := fun A d => conv_rd w 23 9 5 Try.underlying23 Try.underlying5 Try.underlying9 A 0 d [] rfl (.inl rfl)
          subst hcp
          go_wp2
          go_ret3
          rw [HS.out]
          exact ⟨by simp, rfl⟩
        · have hcv : (convert 23 9 (.slice (some ⟨b, off + q, none⟩) k (c - q))).run Try.prog w = .ok (.string ⟨((l.drop q).take k).toArray⟩) w := by
            refine conv_rd w 23 9 5 Try.underlying23 Try.underlying5 Try.underlying9 _ k _ _ (by simp; omega) ?_
            have h0 := hr.cut (k := q) (m := k) (cap := c) (by rw [by8_length]; omega) (by rw [by8_length]; omega)
            rw [if_neg hcp, Option.map_some, Addr.add_lit] at h0
            have e : by8 ((l.drop q).take k) = ((by8 l).drop q).take k := by simp [by8]
            rw [e]
            exact h0
          go_wp2
          go_ret3
          rw [HS.out]
          exact ⟨rfl, rfl⟩
end Go.Proofs.Ytohnommmmdlnpaa
