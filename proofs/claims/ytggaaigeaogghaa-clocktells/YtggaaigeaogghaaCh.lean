/- ClockTicks: the walk. -/
import Derived.Test.YtggaaigeaogghaaCg
namespace Go.Proofs.Ytggaaigeaogghaa
open Go.RowKit

/-- From (a, b) to (x, y): n ticks of that author. -/
def Ticked (author : Int) (a b n x y : Nat) : Prop := (odd author = true → x = a ∧ y = b + n) ∧ (odd author = false → x = a + n ∧ y = b)

theorem tick_one {a b : Nat} (ha : a < 1073741824) (hb : b < 1073741824) (author : Int) (w : World) :
    Calls Try.prog 18 #[.complex .f64 (fl a) (fl b), .int .i64 author] w fun e w' => ∃ x y, e = .returned (.complex .f64 (fl x) (fl y)) ∧ Ticked author a b 1 x y ∧ Below w.heap.size w w' := by
  have u1 : up a = a + 1 := by unfold up; omega
  have u2 : up b = b + 1 := by unfold up; omega
  cases h : odd author
  · refine (tick_even (by omega) (by omega) author h w).mono fun e w' ⟨h1, h2⟩ => ⟨_, _, h1, ⟨fun k => (by rw [h] at k; cases k), fun _ => ⟨u1, rfl⟩⟩, h2⟩
  · refine (tick_odd (by omega) (by omega) author h w).mono fun e w' ⟨h1, h2⟩ => ⟨_, _, h1, ⟨fun _ => ⟨rfl, u2⟩, fun k => (by rw [h] at k; cases k)⟩, h2⟩

theorem Ticked.cases {author : Int} {a b n x y : Nat} (h : Ticked author a b n x y) : (odd author = true ∧ x = a ∧ y = b + n) ∨ (odd author = false ∧ x = a + n ∧ y = b) := by
  cases ho : odd author
  · exact .inr ⟨rfl, h.2 ho⟩
  · exact .inl ⟨rfl, h.1 ho⟩
theorem Ticked.more {author : Int} {a b n x y x' y' : Nat} (h : Ticked author a b n x y) (k : Ticked author x y 1 x' y') : Ticked author a b (n + 1) x' y' := by
  refine ⟨fun ho => ?_, fun ho => ?_⟩
  · have := h.1 ho
    have := k.1 ho
    omega
  · have := h.2 ho
    have := k.2 ho
    omega
theorem Ticked.after {author : Int} {x y x' y' : Nat} (k : Ticked author x y 1 x' y') : ordI x' y' x y = 2 ∧ ordI x y x' y' = 1 := by
  unfold ordI
  rcases k.cases with ⟨_, h, h'⟩ | ⟨_, h, h'⟩ <;> omega
theorem Ticked.mine {author : Int} {a b n x y : Nat} (h : Ticked author a b n x y) : mineI x y author = mineI a b author + n := by
  unfold mineI
  rcases h.cases with ⟨ho, rfl, rfl⟩ | ⟨ho, rfl, rfl⟩ <;> rw [ho] <;> simp
theorem Ticked.other {author other : Int} {a b n x y : Nat} (h : Ticked author a b n x y) (ho : odd other = !odd author) : mineI x y other = mineI a b other := by
  unfold mineI
  rcases h.cases with ⟨h1, rfl, rfl⟩ | ⟨h1, rfl, rfl⟩ <;> rw [ho, h1] <;> simp
theorem odd_next (n : Int) : odd (wrap64 (n + 1)) = !odd n := by
  unfold odd wrap64
  rw [Bool.eq_iff_iff]
  simp only [bne_iff_ne, Bool.not_eq_true', bne_eq_false_iff_eq]
  omega
theorem mine_le {a b : Nat} (author : Int) (ha : a ≤ 1073741824) (hb : b ≤ 1073741824) : 0 ≤ mineI a b author ∧ mineI a b author ≤ 1073741824 := by
  unfold mineI
  split <;> omega
theorem Ticked.max {author : Int} {a b n x y : Nat} (h : Ticked author a b n x y) : max a x = x ∧ max b y = y := by
  rcases h.cases with ⟨_, rfl, rfl⟩ | ⟨_, rfl, rfl⟩ <;> omega
theorem Ticked.le {author : Int} {a b n x y : Nat} (h : Ticked author a b n x y) : x ≤ a + n ∧ y ≤ b + n := by
  rcases h.cases with ⟨_, rfl, rfl⟩ | ⟨_, rfl, rfl⟩ <;> omega

set_option maxHeartbeats 4000000 in
set_option maxRecDepth 10000 in
theorem clockTicks_walk (l r author n : Int) (w : World) (_ : (Lit.int .i64 author).wf = true) (_ : (Lit.int .i64 n).wf = true) :
    Calls Try.prog 6 #[.agg #[.int .i64 l, .int .i64 r], .int .i64 author, .int .i64 n] w fun e w' => e = .returned (.bool true) ∧ Below w.heap.size w w' := by
  go_enter Try.func6, Try.ntmps6
  go_wp2_with fail
  refine (small_any _).mono ?_
  rintro e w1 ⟨rfl, hb1⟩
  have pp : PairAt w1 w.heap.size l r := (PairAt.new w l r 23).below hb1
  have b1 : Below w.heap.size w w1 := below_al _ hb1
  clear hb1
  go_upto_region 2 with (fail)
  go_cut [33] (fun x wx => (∃ t, x = .bool t ∧ (t = false → (0 ≤ l ∧ 0 ≤ r) ∧ 0 ≤ n ∧ n ≤ 50 ∧ l ≤ 1073741774 ∧ r ≤ 1073741774)) ∧ PairAt wx w.heap.size l r ∧ Below w.heap.size w wx)
  case first =>
    have ⟨c1, c2⟩ := pp
    go_wp2_with fail
    refine (right_any _ _ _).mono ?_
    rintro e w2 ⟨rfl, hb2⟩
    clear c1 c2
    have p2 := pp.below hb2
    have b2 := below2 b1 hb2
    clear hb2 pp b1
    have ⟨c1, c2⟩ := p2
    have hrt : rt l r = true → 0 ≤ l ∧ 0 ≤ r := by unfold rt; simp only [decide_eq_true_eq]; omega
    cases hr : rt l r
    · clear hrt
      go_wp2_with fail
      go_meet
      case rel => exact ⟨⟨_, rfl, fun h => by simp at h⟩, p2, b2⟩
    · have h0 := hrt hr
      clear hrt
      go_wp2_with fail
      all_goals
        go_meet
        case rel => exact ⟨⟨_, rfl, fun h => by first | (simp at h; omega) | simp at h⟩, p2, b2⟩
  case rest =>
  rename_i wx
  obtain ⟨⟨t, rfl, ht⟩, px, bx⟩ := hcut
  clear pp b1
  cases t
  · obtain ⟨⟨l0, r0⟩, n0, n5, l1, r1⟩ := ht rfl
    clear ht
    obtain ⟨a, rfl⟩ := Int.eq_ofNat_of_zero_le l0
    obtain ⟨b, rfl⟩ := Int.eq_ofNat_of_zero_le r0
    obtain ⟨m, rfl⟩ := Int.eq_ofNat_of_zero_le n0
    have ea := cl_nat (show a ≤ 1073741824 by omega)
    have eb := cl_nat (show b ≤ 1073741824 by omega)
    have ⟨c1, c2⟩ := px
    go_wp2_with fail
    refine (of_any _ _ _).mono ?_
    rintro e w2 ⟨rfl, hb2⟩
    rw [ea, eb]
    have b2 := below2 bx hb2
    clear hb2 bx px c1 c2 ea eb l0 r0 n0
    go_wp2_with fail
    go_loopw [9, 10] (fun v i wr => ∃ j : Nat, j ≤ m ∧ i = .int .i64 j ∧ ∃ x y, v = .complex .f64 (fl x) (fl y) ∧ Ticked author a b j x y ∧ Below w.heap.size w wr) (fun _ i _ => m - (intOf i).toNat)
    case atStart => exact ⟨0, by omega, rfl, a, b, rfl, ⟨fun _ => ⟨rfl, rfl⟩, fun _ => ⟨rfl, rfl⟩⟩, b2⟩
    case round =>
      clear b2
      obtain ⟨j, hj, rfl, x, y, rfl, tk, b3⟩ := hrel
      have hle := tk.le
      by_cases hjm : j < m
      · go_wp2_with fail
        refine (tick_one (a := x) (b := y) (by omega) (by omega) author _).mono ?_
        rintro e w4 ⟨x', y', rfl, tk1, hb4⟩
        have b4 := below2 b3 hb4
        have hle' := tk1.le
        have tk' := tk.more tk1
        have haft := tk1.after
        clear b3 hb4 tk tk1
        go_wp2_with fail
        refine (order_any (a := x') (b := y') (c := x) (d := y) (by omega) (by omega) (by omega) (by omega) _).mono ?_
        rintro e w5 ⟨rfl, hb5⟩
        have b5 := below2 b4 hb5
        clear b4 hb5
        rw [haft.1]
        go_wp2_with fail
        refine (order_any (a := x) (b := y) (c := x') (d := y') (by omega) (by omega) (by omega) (by omega) _).mono ?_
        rintro e w6 ⟨rfl, hb6⟩
        have b6 := below2 b5 hb6
        clear b5 hb6
        rw [haft.2]
        clear haft
        go_wp2
        go_roundw
        case rel => exact ⟨j + 1, by omega, by go_num, x', y', rfl, tk', b6⟩
        case measure => simp [intOf]; omega
      · obtain rfl : j = m := by omega
        go_wp2_with fail
        refine (mine_any (a := x) (b := y) (by omega) (by omega) author _).mono ?_
        rintro e w4 ⟨rfl, hb4⟩
        have b4 := below2 b3 hb4
        clear b3 hb4
        rw [tk.mine]
        have hz := mine_le author (show a ≤ 1073741824 by omega) (show b ≤ 1073741824 by omega)
        go_wp2_with fail
        refine (mine_any (a := a) (b := b) (by omega) (by omega) author _).mono ?_
        rintro e w5 ⟨rfl, hb5⟩
        have b5 := below2 b4 hb5
        clear b4 hb5
        go_wp2_with fail
        refine (mine_any (a := x) (b := y) (by omega) (by omega) _ _).mono ?_
        rintro e w6 ⟨rfl, hb6⟩
        have b6 := below2 b5 hb6
        clear b5 hb6
        rw [tk.other (odd_next author)]
        go_wp2_with fail
        refine (mine_any (a := a) (b := b) (by omega) (by omega) _ _).mono ?_
        rintro e w7 ⟨rfl, hb7⟩
        have b7 := below2 b6 hb7
        clear b6 hb7
        go_wp2_with fail
        refine (join_any (a := a) (b := b) (c := x) (d := y) (by omega) (by omega) (by omega) (by omega) _).mono ?_
        rintro e w8 ⟨rfl, hb8⟩
        have b8 := below2 b7 hb8
        clear b7 hb8
        rw [tk.max.1, tk.max.2]
        have s1 := fl_same (show x ≤ 1073741824 by omega)
        have s2 := fl_same (show y ≤ 1073741824 by omega)
        clear tk
        go_wp2
        go_ret
        exact ⟨rfl, b8⟩
  · go_wp2
    go_ret
    exact ⟨rfl, bx⟩
end Go.Proofs.Ytggaaigeaogghaa
