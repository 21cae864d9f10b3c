/- ClockJoins: the walk. -/
import Derived.Test.YtggaaigeaogghaaCi
import Derived.Test.YtggaaigeaogghaaArgQ
namespace Go.Proofs.Ytggaaigeaogghaa
open Go.RowKit

/-- The greatest of these counts. -/
def mx (f : Int × Int → Int) (ps : List (Int × Int)) : Nat := ps.foldl (fun m p => max m (cl (f p))) 0
theorem mx_more (f : Int × Int → Int) (ps : List (Int × Int)) (j : Nat) (h : j < ps.length) : mx f (ps.take (j + 1)) = max (mx f (ps.take j)) (cl (f ps[j])) := by
  unfold mx
  rw [List.take_add_one, List.getElem?_eq_getElem h, List.foldl_append]
  rfl
theorem mx_le (f : Int × Int → Int) (ps : List (Int × Int)) (n : Nat) (hn : n ≤ ps.length) : mx f (ps.take n) ≤ 1073741824 := by
  induction n with
  | zero => simp [mx]
  | succ k ih =>
    rw [mx_more f ps k (by omega)]
    have := ih (by omega)
    have := cl_le (f ps[k])
    omega
theorem mx_ge (f : Int × Int → Int) (ps : List (Int × Int)) (n : Nat) (hn : n ≤ ps.length) (j : Nat) (hj : j < n) : cl (f (ps[j]'(by omega))) ≤ mx f (ps.take n) := by
  induction n with
  | zero => omega
  | succ k ih =>
    rw [mx_more f ps k (by omega)]
    by_cases h : j = k
    · subst h; omega
    · have := ih (by omega) (by omega); omega

theorem RdP.cells {w : World} {b off : Nat} {ps : List (Int × Int)} (h : RdP w (some ⟨b, off, none⟩) ps) {k : Nat} (hk : k < ps.length) :
    ∀ w', Below w.heap.size w w' → w'.cell? ⟨b, off + k * 2, none⟩ = some (.int .i64 ps[k].1) ∧ w'.cell? ⟨b, off + k * 2 + 1, none⟩ = some (.int .i64 ps[k].2) := by
  intro w' hb
  obtain ⟨b', off', e, h1, h2⟩ := h.below hb k hk
  cases e
  exact ⟨h1, h2⟩

set_option maxHeartbeats 4000000 in
set_option maxRecDepth 10000 in
theorem clockJoins_walk (A : Option Addr) (c : Nat) (ps : List (Int × Int)) (w : World) (hr : RdP w A ps) (hlc : ps.length ≤ c) (hc : c ≤ maxLen) (_ : True) :
    Calls Try.prog 9 #[.slice A ps.length c] w fun e w' => e = .returned (.bool true) ∧ Below w.heap.size w w' := by
  unfold maxLen at hc
  go_enter Try.func9, Try.ntmps9
  go_wp2_with fail
  refine (small_any _).mono ?_
  rintro e w1 ⟨rfl, b1⟩
  go_wp2_with fail
  refine (of_any _ _ _).mono ?_
  rintro e w2 ⟨rfl, hb2⟩
  rw [show cl 0 = 0 by decide]
  have b2 := below2 b1 hb2
  clear b1 hb2
  go_upto_region 3 with (fail)
  go_cut [5] (fun v wx => v = .int .i64 (min ps.length 200 : Nat) ∧ w2 = wx)
  case first =>
    go_wp2_with fail
    all_goals
      go_meet
      case rel => exact ⟨by congr 1; omega, rfl⟩
  case rest =>
  obtain ⟨rfl, rfl⟩ := hcut
  obtain ⟨n, hn⟩ : ∃ n, n = min ps.length 200 := ⟨_, rfl⟩
  rw [← hn]
  have hn1 : n ≤ ps.length := by omega
  have hn2 : n ≤ 200 := by omega
  clear hn
  have x1 := mx_le Prod.fst ps
  have x2 := mx_le Prod.snd ps
  have X1 := hid x1
  have X2 := hid x2
  clear x1 x2
  go_wp2_with fail
  go_loopw [4, 6] (fun v i wr => ∃ j : Nat, j ≤ n ∧ i = .int .i64 j ∧ v = .complex .f64 (fl (mx Prod.fst (ps.take j))) (fl (mx Prod.snd (ps.take j))) ∧ Below w.heap.size w wr) (fun _ i _ => n - (intOf i).toNat)
  case atStart => exact ⟨0, by omega, rfl, rfl, b2⟩
  case round =>
    obtain ⟨j, hj, rfl, rfl, b3⟩ := hrel
    clear b2
    by_cases hjn : j < n
    · obtain ⟨b, off, rfl, h1, h2⟩ := hr.below b3 j (by omega)
      have y1 := mx_more Prod.fst ps j (by omega)
      have y2 := mx_more Prod.snd ps j (by omega)
      have Y1 := hid y1
      have Y2 := hid y2
      clear y1 y2
      have k1 := cl_le ps[j].1
      have k2 := cl_le ps[j].2
      generalize ps[j].1 = l at *
      generalize ps[j].2 = r at *
      go_wp2_with fail
      refine (of_any _ _ _).mono ?_
      rintro e w4 ⟨rfl, hb4⟩
      have b4 := below2 b3 hb4
      clear b3 hb4 h1 h2
      go_wp2_with fail
      refine (join_any (X1.out j (by omega)) (X2.out j (by omega)) k1 k2 _).mono ?_
      rintro e w5 ⟨rfl, hb5⟩
      have b5 := below2 b4 hb5
      clear b4 hb5
      rw [← Y1.out, ← Y2.out]
      go_wp2
      go_roundw
      case rel => exact ⟨j + 1, by omega, by go_num, rfl, b5⟩
      case measure => simp [intOf]; omega
    · obtain rfl : j = n := by omega
      clear hjn hj
      have x1 := X1.out j hn1
      have x2 := X2.out j hn1
      go_wp2_with fail
      go_loopw [7, 8, 9] (fun a b i wx => ∃ k : Nat, k ≤ j ∧ i = .int .i64 k ∧ a = .int .i64 (mx Prod.fst (ps.take k)) ∧ b = .int .i64 (mx Prod.snd (ps.take k)) ∧ Below w.heap.size w wx) (fun _ _ i _ => j - (intOf i).toNat)
      case atStart => exact ⟨0, by omega, rfl, rfl, rfl, b3⟩
      case round =>
        clear b3
        obtain ⟨k, hk, rfl, rfl, rfl, b4⟩ := hrel
        by_cases hkn : k < j
        · obtain ⟨b, off, rfl, -⟩ := hr k (by omega)
          have HC := hid (RdP.cells hr (k := k) (by omega))
          obtain ⟨h1, h2⟩ := HC.out _ b4
          have y1 := mx_more Prod.fst ps k (by omega)
          have y2 := mx_more Prod.snd ps k (by omega)
          have z1 := mx_ge Prod.fst ps j hn1 k hkn
          have z2 := mx_ge Prod.snd ps j hn1 k hkn
          have k1 := cl_le ps[k].1
          have k2 := cl_le ps[k].2
          generalize ps[k].1 = l at *
          generalize ps[k].2 = r at *
          have Y1 := hid y1
          have Y2 := hid y2
          have o2 : (ordI (cl l) (cl r) (mx Prod.fst (ps.take j)) (mx Prod.snd (ps.take j)) == 2) = false := by rw [beq_eq_false_iff_ne]; unfold ordI; omega
          have o3 : (ordI (cl l) (cl r) (mx Prod.fst (ps.take j)) (mx Prod.snd (ps.take j)) == 3) = false := by rw [beq_eq_false_iff_ne]; unfold ordI; omega
          clear y1 y2 z1 z2
          go_wp2_with fail
          refine (of_any _ _ _).mono ?_
          rintro e w5 ⟨rfl, hb5⟩
          have b5 := below2 b4 hb5
          clear hb5 h1 h2
          go_wp2_with fail
          refine (pair_clk k1 k2 _).mono ?_
          rintro e w6 ⟨rfl, hb6⟩
          have b6 := below2 b5 hb6
          clear b5 hb6
          obtain ⟨h1, h2⟩ := HC.out _ (b6.alloc b6.size (.cells #[.int .i64 (cl l), .int .i64 (cl r)] 23))
          go_wp2_with fail
          all_goals
            refine (of_any _ _ _).mono ?_
            rintro e w7 ⟨rfl, hb7⟩
            have b7 := below2 b6 (below_al _ hb7)
            clear hb7 h1 h2
            go_wp2_with fail
            refine (order_any k1 k2 x1 x2 _).mono ?_
            rintro e w8 ⟨rfl, hb8⟩
            have b8 := below2 b7 hb8
            clear hb8
            go_wp2
            go_roundw
            case rel => exact ⟨k + 1, by omega, by go_num, by rw [Y1.out]; congr 1; omega, by rw [Y2.out]; congr 1; omega, b8⟩
            case measure => simp [intOf]; omega
        · obtain rfl : k = j := by omega
          go_wp2_with fail
          refine (pair_clk x1 x2 _).mono ?_
          rintro e w5 ⟨rfl, hb5⟩
          have b5 := below2 b4 hb5
          go_wp2
          go_ret
          exact ⟨rfl, b5⟩
end Go.Proofs.Ytggaaigeaogghaa
