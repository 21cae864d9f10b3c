/- ClockOrders: the walk. -/
import Derived.Test.YtggaaigeaogghaaCf
namespace Go.Proofs.Ytggaaigeaogghaa
open Go.RowKit

theorem und_ord (a b c d : Nat) : und (ordI a b c d) = decide (a ≤ c ∧ b ≤ d) := by
  rw [Bool.eq_iff_iff]
  unfold und ordI
  simp only [Bool.or_eq_true, beq_iff_eq, decide_eq_true_eq]
  omega
theorem fl_same {a : Nat} (h : a ≤ 1073741824) : (FloatKind.f64.format.order (fl a) (fl a) == some .eq) = true := by
  have := order_whole (fl_whole h) (fl_whole h)
  rw [decide_eq_true rfl] at this
  exact this
theorem fl_both {a b c d : Nat} (ha : a ≤ 1073741824) (hb : b ≤ 1073741824) (hc : c ≤ 1073741824) (hd : d ≤ 1073741824) :
    ((FloatKind.f64.format.order (fl a) (fl c) == some .eq) && (FloatKind.f64.format.order (fl b) (fl d) == some .eq)) = decide (a = c ∧ b = d) := by
  have h1 := order_whole (fl_whole ha) (fl_whole hc)
  have h2 := order_whole (fl_whole hb) (fl_whole hd)
  rw [show FloatKind.f64.format = Ieee.double from rfl, h1, h2, Bool.decide_and]

set_option maxHeartbeats 4000000 in
set_option maxRecDepth 10000 in
theorem clockOrders_walk (l r l2 r2 l3 r3 : Int) (w : World) :
    Calls Try.prog 5 #[.agg #[.int .i64 l, .int .i64 r], .agg #[.int .i64 l2, .int .i64 r2], .agg #[.int .i64 l3, .int .i64 r3]] w fun e w' => e = .returned (.bool true) ∧ Below w.heap.size w w' := by
  have ka := cl_le l
  have kb := cl_le r
  have kc := cl_le l2
  have kd := cl_le r2
  have ke := cl_le l3
  have kf := cl_le r3
  go_enter Try.func5, Try.ntmps5
  go_wp2_with fail
  refine (small_any _).mono ?_
  rintro e w1 ⟨rfl, hb1⟩
  have pp : PairAt w1 (w.heap.size) (l) (r) := by have h := (((PairAt.new w l r 23).alloc (.cells #[.int .i64 l2, .int .i64 r2] 23)).alloc (.cells #[.int .i64 l3, .int .i64 r3] 23)).below hb1; (try simp only [World.size_alloc] at h); exact h
  have pq : PairAt w1 (w.heap.size + 1) (l2) (r2) := by have h := ((PairAt.new (w.alloc (.cells #[.int .i64 l, .int .i64 r] 23)) l2 r2 23).alloc (.cells #[.int .i64 l3, .int .i64 r3] 23)).below hb1; (try simp only [World.size_alloc] at h); exact h
  have ps : PairAt w1 (w.heap.size + 2) (l3) (r3) := by have h := (PairAt.new ((w.alloc (.cells #[.int .i64 l, .int .i64 r] 23)).alloc (.cells #[.int .i64 l2, .int .i64 r2] 23)) l3 r3 23).below hb1; (try simp only [World.size_alloc] at h); exact h
  have b1 : Below w.heap.size w w1 := (below_al _ (below_al _ (below_al _ hb1)))
  clear hb1
  have ⟨cpl, cpr⟩ := pp
  go_wp2_with fail
  refine (of_any _ _ _).mono ?_
  rintro e w2 ⟨rfl, hb2⟩
  replace pp := pp.below hb2
  replace pq := pq.below hb2
  replace ps := ps.below hb2
  have b2 := below2 b1 hb2
  clear b1
  clear hb2
  clear cpl cpr
  have ⟨cql, cqr⟩ := pq
  go_wp2_with fail
  refine (of_any _ _ _).mono ?_
  rintro e w3 ⟨rfl, hb3⟩
  replace pp := pp.below hb3
  replace pq := pq.below hb3
  replace ps := ps.below hb3
  have b3 := below2 b2 hb3
  clear b2
  clear hb3
  clear cql cqr
  have ⟨csl, csr⟩ := ps
  go_wp2_with fail
  refine (of_any _ _ _).mono ?_
  rintro e w4 ⟨rfl, hb4⟩
  replace pp := pp.below hb4
  replace pq := pq.below hb4
  replace ps := ps.below hb4
  have b4 := below2 b3 hb4
  clear b3
  clear hb4
  clear csl csr
  clear pp pq ps
  generalize cl l = a at *
  generalize cl r = b at *
  generalize cl l2 = c at *
  generalize cl r2 = d at *
  generalize cl l3 = e' at *
  generalize cl r3 = f at *
  go_wp2_with fail
  refine (join_any ka kb kc kd _).mono ?_
  rintro e w5 ⟨rfl, hb5⟩
  have b5 := below2 b4 hb5
  clear b4
  clear hb5
  have kj := Nat.max_le.2 ⟨ka, kc⟩
  have kk := Nat.max_le.2 ⟨kb, kd⟩
  go_wp2_with fail
  refine (order_any (a := a) (b := b) (c := a) (d := b) ka kb ka kb _).mono ?_
  rintro e w6 ⟨rfl, hb6⟩
  have b6 := below2 b5 hb6
  clear b5
  clear hb6
  go_wp2_with fail
  refine (under_any _ _).mono ?_
  rintro e wu ⟨rfl, rfl⟩
  rw [und_ord, decide_eq_true (show a ≤ a ∧ b ≤ b by omega)]
  go_wp2_with fail
  refine (order_any (a := a) (b := b) (c := max a c) (d := max b d) ka kb kj kk _).mono ?_
  rintro e w7 ⟨rfl, hb7⟩
  have b7 := below2 b6 hb7
  clear b6
  clear hb7
  go_wp2_with fail
  refine (under_any _ _).mono ?_
  rintro e wu ⟨rfl, rfl⟩
  rw [und_ord, decide_eq_true (show a ≤ max a c ∧ b ≤ max b d by omega)]
  go_wp2_with fail
  refine (order_any (a := c) (b := d) (c := max a c) (d := max b d) kc kd kj kk _).mono ?_
  rintro e w8 ⟨rfl, hb8⟩
  have b8 := below2 b7 hb8
  clear b7
  clear hb8
  go_wp2_with fail
  refine (under_any _ _).mono ?_
  rintro e wu ⟨rfl, rfl⟩
  rw [und_ord, decide_eq_true (show c ≤ max a c ∧ d ≤ max b d by omega)]
  go_upto_region 8 with (fail)
  go_cut [59] (fun v wx => v = .bool false ∧ Below w.heap.size w wx)
  case first =>
    go_wp2_with fail
    refine (order_any (a := a) (b := b) (c := c) (d := d) ka kb kc kd _).mono ?_
    rintro e w9 ⟨rfl, hb9⟩
    have b9 := below2 b8 hb9
    clear b8
    clear hb9
    go_wp2_with fail
    refine (under_any _ _).mono ?_
    rintro e wu ⟨rfl, rfl⟩
    rw [und_ord]
    by_cases h1 : a ≤ c ∧ b ≤ d
    · rw [decide_eq_true h1]
      have H1 := hid h1
      clear h1
      go_wp2_with fail
      refine (order_any (a := c) (b := d) (c := e') (d := f) kc kd ke kf _).mono ?_
      rintro e w10 ⟨rfl, hb10⟩
      have b10 := below2 b9 hb10
      clear b9
      clear hb10
      go_wp2_with fail
      refine (under_any _ _).mono ?_
      rintro e wu ⟨rfl, rfl⟩
      rw [und_ord]
      by_cases h2 : c ≤ e' ∧ d ≤ f
      · rw [decide_eq_true h2]
        have H2 := hid h2
        clear h2
        go_wp2_with fail
        refine (order_any (a := a) (b := b) (c := e') (d := f) ka kb ke kf _).mono ?_
        rintro e w11 ⟨rfl, hb11⟩
        have b11 := below2 b10 hb11
        clear b10
        clear hb11
        go_wp2_with fail
        refine (under_any _ _).mono ?_
        rintro e wu ⟨rfl, rfl⟩
        rw [und_ord, decide_eq_true (show a ≤ e' ∧ b ≤ f by have h1 := H1.out; have h2 := H2.out; omega)]
        go_wp2_with fail
        go_meet
        case rel => exact ⟨rfl, b11⟩
      · rw [decide_eq_false h2]
        clear h2
        go_wp2_with fail
        go_meet
        case rel => exact ⟨rfl, b10⟩
    · rw [decide_eq_false h1]
      clear h1
      go_wp2_with fail
      go_meet
      case rel => exact ⟨rfl, b9⟩
  case rest =>
  rename_i wx
  obtain ⟨rfl, bx⟩ := hcut
  clear b8
  go_upto_region 10 with (fail)
  go_cut [74] (fun v wy => v = .bool false ∧ Below w.heap.size w wy)
  case first =>
    go_wp2_with fail
    refine (order_any (a := a) (b := b) (c := e') (d := f) ka kb ke kf _).mono ?_
    rintro e w9 ⟨rfl, hb9⟩
    have b9 := below2 bx hb9
    clear bx
    clear hb9
    go_wp2_with fail
    refine (under_any _ _).mono ?_
    rintro e wu ⟨rfl, rfl⟩
    rw [und_ord]
    by_cases h1 : a ≤ e' ∧ b ≤ f
    · rw [decide_eq_true h1]
      have H1 := hid h1
      clear h1
      go_wp2_with fail
      refine (order_any (a := c) (b := d) (c := e') (d := f) kc kd ke kf _).mono ?_
      rintro e w10 ⟨rfl, hb10⟩
      have b10 := below2 b9 hb10
      clear b9
      clear hb10
      go_wp2_with fail
      refine (under_any _ _).mono ?_
      rintro e wu ⟨rfl, rfl⟩
      rw [und_ord]
      generalize ht : decide (c ≤ e' ∧ d ≤ f) = t
      have HT := hid ht
      clear ht
      go_wp2_with fail
      refine (order_any (a := max a c) (b := max b d) (c := e') (d := f) kj kk ke kf _).mono ?_
      rintro e w11 ⟨rfl, hb11⟩
      have b11 := below2 b10 hb11
      clear b10
      clear hb11
      go_wp2_with fail
      refine (under_any _ _).mono ?_
      rintro e wu ⟨rfl, rfl⟩
      rw [und_ord, show decide (max a c ≤ e' ∧ max b d ≤ f) = t by rw [← HT.out, decide_eq_decide]; have h1 := H1.out; omega]
      cases t
      all_goals
        go_wp2_with fail
        go_meet
        case rel => exact ⟨rfl, b11⟩
    · rw [decide_eq_false h1]
      clear h1
      go_wp2_with fail
      go_meet
      case rel => exact ⟨rfl, b9⟩
  case rest =>
  rename_i wy
  obtain ⟨rfl, by1⟩ := hcut
  clear bx
  go_wp2_with fail
  refine (order_any (a := c) (b := d) (c := a) (d := b) kc kd ka kb _).mono ?_
  rintro e w9 ⟨rfl, hb9⟩
  have b9 := below2 by1 hb9
  clear by1
  clear hb9
  go_wp2_with fail
  refine (order_any (a := a) (b := b) (c := c) (d := d) ka kb kc kd _).mono ?_
  rintro e w10 ⟨rfl, hb10⟩
  have b10 := below2 b9 hb10
  clear b9
  clear hb10
  go_upto_region 14 with (fail)
  go_cut [100] (fun v wx => v = .bool false ∧ w10 = wx)
  case first =>
    have hE := fl_both ka kb kc kd
    rcases (by omega : (a = c ∧ b = d) ∨ (¬ (a = c ∧ b = d) ∧ a ≤ c ∧ b ≤ d) ∨ (¬ (a = c ∧ b = d) ∧ c ≤ a ∧ d ≤ b) ∨ (¬ (a ≤ c ∧ b ≤ d) ∧ ¬ (c ≤ a ∧ d ≤ b))) with h | h | h | h
    · have E1 : ordI a b c d = 0 := by unfold ordI; omega
      have E2 : ordI c d a b = 0 := by unfold ordI; omega
      have g0 : (ordI a b c d == 1) = false := by rw [E1]; rfl
      have g1 : (ordI c d a b == 2) = false := by rw [E2]; rfl
      have g2 : (ordI a b c d == 3) = false := by rw [E1]; rfl
      have g3 : (ordI c d a b == 3) = false := by rw [E2]; rfl
      have g4 : (ordI a b c d == 0) = true := by rw [E1]; rfl
      clear E1 E2
      rw [decide_eq_true h] at hE
      clear h
      go_wp2_with fail
      go_meet
      case rel => exact ⟨rfl, rfl⟩
    · have E1 : ordI a b c d = 1 := by unfold ordI; omega
      have E2 : ordI c d a b = 2 := by unfold ordI; omega
      have g0 : (ordI a b c d == 1) = true := by rw [E1]; rfl
      have g1 : (ordI c d a b == 2) = true := by rw [E2]; rfl
      have g2 : (ordI a b c d == 3) = false := by rw [E1]; rfl
      have g3 : (ordI c d a b == 3) = false := by rw [E2]; rfl
      have g4 : (ordI a b c d == 0) = false := by rw [E1]; rfl
      clear E1 E2
      rw [decide_eq_false h.1] at hE
      clear h
      go_wp2_with fail
      go_meet
      case rel => exact ⟨rfl, rfl⟩
    · have E1 : ordI a b c d = 2 := by unfold ordI; omega
      have E2 : ordI c d a b = 1 := by unfold ordI; omega
      have g0 : (ordI a b c d == 1) = false := by rw [E1]; rfl
      have g1 : (ordI c d a b == 2) = false := by rw [E2]; rfl
      have g2 : (ordI a b c d == 3) = false := by rw [E1]; rfl
      have g3 : (ordI c d a b == 3) = false := by rw [E2]; rfl
      have g4 : (ordI a b c d == 0) = false := by rw [E1]; rfl
      clear E1 E2
      rw [decide_eq_false h.1] at hE
      clear h
      go_wp2_with fail
      go_meet
      case rel => exact ⟨rfl, rfl⟩
    · have E1 : ordI a b c d = 3 := by unfold ordI; omega
      have E2 : ordI c d a b = 3 := by unfold ordI; omega
      have g0 : (ordI a b c d == 1) = false := by rw [E1]; rfl
      have g1 : (ordI c d a b == 2) = false := by rw [E2]; rfl
      have g2 : (ordI a b c d == 3) = true := by rw [E1]; rfl
      have g3 : (ordI c d a b == 3) = true := by rw [E2]; rfl
      have g4 : (ordI a b c d == 0) = false := by rw [E1]; rfl
      clear E1 E2
      rw [decide_eq_false (show ¬ (a = c ∧ b = d) by omega)] at hE
      clear h
      go_wp2_with fail
      go_meet
      case rel => exact ⟨rfl, rfl⟩
  case rest =>
  obtain ⟨rfl, rfl⟩ := hcut
  have s1 := fl_same kj
  have s2 := fl_same kk
  go_wp2_with fail
  refine (join_any kc kd ka kb _).mono ?_
  rintro e w11 ⟨rfl, hb11⟩
  have b11 := below2 b10 hb11
  clear b10
  clear hb11
  rw [Nat.max_comm c a, Nat.max_comm d b]
  go_wp2_with fail
  refine (join_any kj kk ke kf _).mono ?_
  rintro e w12 ⟨rfl, hb12⟩
  have b12 := below2 b11 hb12
  clear b11
  clear hb12
  rw [Nat.max_assoc a c e', Nat.max_assoc b d f]
  go_wp2_with fail
  refine (join_any kc kd ke kf _).mono ?_
  rintro e w13 ⟨rfl, hb13⟩
  have b13 := below2 b12 hb13
  clear b12
  clear hb13
  have km := Nat.max_le.2 ⟨kc, ke⟩
  have kn := Nat.max_le.2 ⟨kd, kf⟩
  have s3 := fl_same (Nat.max_le.2 ⟨ka, km⟩)
  have s4 := fl_same (Nat.max_le.2 ⟨kb, kn⟩)
  go_wp2_with fail
  refine (join_any ka kb km kn _).mono ?_
  rintro e w14 ⟨rfl, hb14⟩
  have b14 := below2 b13 hb14
  clear b13
  clear hb14
  have s5 := fl_same ka
  have s6 := fl_same kb
  go_wp2_with fail
  refine (join_any ka kb ka kb _).mono ?_
  rintro e w15 ⟨rfl, hb15⟩
  have b15 := below2 b14 hb15
  clear b14
  clear hb15
  rw [Nat.max_self a, Nat.max_self b]
  go_wp2
  go_ret
  exact ⟨rfl, b15⟩
end Go.Proofs.Ytggaaigeaogghaa
