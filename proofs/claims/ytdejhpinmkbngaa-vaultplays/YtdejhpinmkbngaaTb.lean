/- sort.Search, over any closure that tells whether a place is at or behind k. -/
import Derived.Test.YtdejhpinmkbngaaMem
import Derived.Deep.QuietTactic
import Derived.BigQuiet
import Derived.Shelf.Abstract
namespace Go.Proofs.Ytdejhpinmkbngaa
open Go.RowKit

set_option maxHeartbeats 1000000 in
theorem search_any (g : Nat) (cb : Array Value) (n k : Nat) (w : World) (eg : ∀ args w, (callFunc g args).run Try.prog w = .ok (.enter g args) w) (hn : n < 4611686018427387904) (hk : k ≤ n)
    (hf : ∀ W i, i < n → Below w.heap.size w W → Calls Try.prog g (#[.int .i64 (i : Nat)] ++ cb) W fun e w' => e = .returned (.bool (decide (k ≤ i))) ∧ Below w.heap.size w w') :
    Calls Try.prog 37 #[.int .i64 n, .func (.func g) #[] cb] w fun e w' => e = .returned (.int .i64 k) ∧ Below w.heap.size w w' := by
  have HF := hid hf
  clear hf
  go_enter Try.func37, Try.ntmps37
  go_wp2
  go_loopw [5, 6] (fun s5 s6 wr => ∃ lo hi : Nat, s5 = .int .i64 lo ∧ s6 = .int .i64 hi ∧ lo ≤ k ∧ k ≤ hi ∧ hi ≤ n ∧ Below w.heap.size w wr) (fun s5 s6 _ => (intOf s6).toNat - (intOf s5).toNat)
  case atStart => exact ⟨0, n, rfl, rfl, by omega, hk, Nat.le_refl _, Below.refl _ _⟩
  case round =>
    obtain ⟨lo, hi, rfl, rfl, h1, h2, h3, hb⟩ := hrel
    by_cases hlt : lo < hi
    · have hc := HF.out wr ((lo + hi) / 2) (by omega) hb
      have em : (((lo + hi) / 2 : Nat) : Int) = ((lo : Int) + (hi : Int)) / 2 := by omega
      rw [em] at hc
      have HM := hid em
      clear em
      have hlz : (lo : Int) < hi := by omega
      by_cases hm : k ≤ (lo + hi) / 2
      · rw [decide_eq_true hm] at hc
        have HMM := hid hm
        clear hm
        go_wp2_with (go_at_fn g; refine hc.mono ?_; rintro e w' ⟨rfl, hb'⟩)
        go_roundw
        case rel => exact ⟨lo, (lo + hi) / 2, rfl, by rw [HM.out], h1, HMM.out, by omega, hb'⟩
        case measure => simp [intOf]; omega
      · rw [decide_eq_false hm] at hc
        have HMM := hid hm
        clear hm
        go_wp2_with (go_at_fn g; refine hc.mono ?_; rintro e w' ⟨rfl, hb'⟩)
        go_roundw
        case rel => exact ⟨(lo + hi) / 2 + 1, hi, by rw [← HM.out]; rfl, rfl, by have := HMM.out; omega, h2, h3, hb'⟩
        case measure => simp [intOf]; omega
    · have hnlt : ¬ (lo : Int) < hi := by omega
      have e : lo = k := by omega
      go_wp2
      go_ret
      exact ⟨rfl, hb⟩
end Go.Proofs.Ytdejhpinmkbngaa
