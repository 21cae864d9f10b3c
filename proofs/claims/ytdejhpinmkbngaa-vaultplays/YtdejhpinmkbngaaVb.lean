/- Numbers that rise, in memory: slices.BinarySearch, freeFrom. -/
import Derived.Test.YtdejhpinmkbngaaVa
import Derived.Test.YtdejhpinmkbngaaTb
namespace Go.Proofs.Ytdejhpinmkbngaa
open Go.RowKit

def intV (h : List Int) : List Value := h.map (Value.int .i64)
theorem intV_length (h : List Int) : (intV h).length = h.length := by simp [intV]
theorem intV_one (h : List Int) : ∀ u ∈ intV h, u.oneCell' = true := by
  intro u hu
  obtain ⟨_, _, rfl⟩ := List.mem_map.1 hu
  rfl
theorem intV_at (h : List Int) (j : Nat) (hj : j < h.length) : (intV h)[j]'(by rw [intV_length]; exact hj) = .int .i64 h[j] := by simp [intV]
theorem intV_append (a b : List Int) : intV (a ++ b) = intV a ++ intV b := by simp [intV]
theorem intV_cons (a : Int) (b : List Int) : intV (a :: b) = .int .i64 a :: intV b := rfl
theorem intV_take (h : List Int) (i : Nat) : intV (h.take i) = (intV h).take i := by simp [intV]
theorem intV_drop (h : List Int) (i : Nat) : intV (h.drop i) = (intV h).drop i := by simp [intV]

set_option maxHeartbeats 400000 in
theorem nan1_any (x : Int) (w : World) : Calls Try.prog 43 #[.int .i64 x] w fun e w' => e = .returned (.bool false) ∧ w' = w := by
  go_enter Try.func43, Try.ntmps43
  go_wp2
  go_ret
  exact ⟨by simp, rfl⟩
set_option maxHeartbeats 400000 in
theorem nan2_any (x : Int) (w : World) : Calls Try.prog 40 #[.int .i64 x] w fun e w' => e = .returned (.bool false) ∧ w' = w := by
  go_enter Try.func40, Try.ntmps40
  go_wp2
  go_ret
  exact ⟨by simp, rfl⟩
set_option maxHeartbeats 400000 in
theorem less_any (x y : Int) (w : World) : Calls Try.prog 39 #[.int .i64 x, .int .i64 y] w fun e w' => e = .returned (.bool (decide (x < y))) ∧ w' = w := by
  go_enter Try.func39, Try.ntmps39
  go_wp2_with fail
  refine (nan1_any _ _).mono ?_
  rintro e w' ⟨rfl, rfl⟩
  go_wp2
  go_ret
  exact ⟨rfl, rfl⟩

def BsPost (h : List Int) (x : Int) (e : Ending) : Prop := ∃ (i : Nat) (b : Bool), e = .returned (.tuple #[.int .i64 i, .bool b]) ∧ Cut h x i
theorem rises_le {h : List Int} (hr : Rises h) {i j : Nat} (hj : j < h.length) (hij : i ≤ j) : h[i] ≤ h[j] := by
  rcases Nat.eq_or_lt_of_le hij with e | e
  · subst e; exact Int.le_refl _
  · have := List.pairwise_iff_getElem.1 hr i j (by omega) hj e
    omega
set_option maxHeartbeats 4000000 in
set_option maxRecDepth 20000 in
theorem bsearch_any (A : Option Addr) (n c : Nat) (h : List Int) (x : Int) (w : World) (hl : h.length = n) (hA : Rd w A (intV h)) (hs : Rises h) (hn : n ≤ 100000) :
    Calls Try.prog 34 #[.slice A n c, .int .i64 x] w fun e w' => BsPost h x e ∧ w' = w := by
  have HL := hid hl
  have HS := hid hs
  have HA := hid hA
  clear hl hs hA
  go_enter Try.func34, Try.ntmps34
  go_wp2
  go_loop [7, 8] (fun s7 s8 => ∃ lo hi : Nat, s7 = .int .i64 lo ∧ s8 = .int .i64 hi ∧ lo ≤ hi ∧ hi ≤ n ∧ Hid ((∀ j (hj : j < h.length), j < lo → h[j] < x) ∧ ∀ j (hj : j < h.length), hi ≤ j → x ≤ h[j])) (fun s7 s8 => (intOf s8).toNat - (intOf s7).toNat)
  case atStart => exact ⟨0, n, rfl, rfl, by omega, by omega, hid ⟨fun j _ h => absurd h (by omega), fun j hj h => absurd hj (by rw [HL.out]; omega)⟩⟩
  case round =>
    obtain ⟨lo, hi, rfl, rfl, h1, h2, HO⟩ := hrel
    by_cases hlt : lo < hi
    · have hm : (lo + hi) / 2 < h.length := by rw [HL.out]; omega
      obtain ⟨b, off, rfl, hc, -⟩ := HA.out.at_ (k := (lo + hi) / 2) (by rw [intV_length]; exact hm)
      rw [intV_at h _ hm] at hc
      obtain ⟨y, hy⟩ : ∃ y, h[(lo + hi) / 2] = y := ⟨_, rfl⟩
      have HY := hid hy
      rw [hy] at hc
      clear hy
      have HM := hid hm
      have em : (((lo + hi) / 2 : Nat) : Int) = ((lo : Int) + (hi : Int)) / 2 := by omega
      have HE := hid em
      clear em
      have hlz : (lo : Int) < hi := by omega
      by_cases hyx : y < x
      · go_wp2_with fail
        refine (less_any _ _ _).mono ?_
        rintro e w' ⟨rfl, rfl⟩
        rw [decide_eq_true hyx]
        have HYX := hid hyx
        clear hyx
        go_wp2
        go_round
        case rel =>
          refine ⟨(lo + hi) / 2 + 1, hi, by rw [← HE.out]; rfl, rfl, by omega, h2, hid ⟨fun j hj hjl => ?_, HO.out.2⟩⟩
          have := rises_le HS.out HM.out (show j ≤ (lo + hi) / 2 by omega)
          rw [HY.out] at this
          have := HYX.out
          omega
        case measure => simp [intOf]; omega
      · have HYX := hid hyx
        clear hyx
        go_wp2_with fail
        refine (less_any _ _ _).mono ?_
        rintro e w' ⟨rfl, rfl⟩
        rw [decide_eq_false (Int.not_lt.2 HYX.out)]
        go_wp2
        go_round
        case rel =>
          refine ⟨lo, (lo + hi) / 2, rfl, by rw [HE.out], by omega, by omega, hid ⟨HO.out.1, fun j hj hjl => ?_⟩⟩
          have := rises_le HS.out hj hjl
          rw [HY.out] at this
          have := HYX.out
          omega
        case measure => simp [intOf]; omega
    · have e : lo = hi := by omega
      subst e
      have HC : Hid (Cut h x lo) := ⟨by rw [HL.out]; exact h2, HO.out⟩
      have hlz : ¬ (lo : Int) < lo := by omega
      by_cases hn2 : lo < n
      · have hm : lo < h.length := by rw [HL.out]; omega
        obtain ⟨b, off, rfl, hc, -⟩ := HA.out.at_ (k := lo) (by rw [intV_length]; exact hm)
        rw [intV_at h _ hm] at hc
        generalize h[lo] = y at hc
        clear hm
        have hln : (lo : Int) < n := by omega
        cases hyx : y == x
        · go_wp2_with fail
          refine (nan2_any _ _).mono ?_
          rintro e w' ⟨rfl, rfl⟩
          go_wp2
          go_ret2
          exact ⟨⟨lo, _, rfl, HC.out⟩, rfl⟩
        · go_wp2
          go_ret2
          exact ⟨⟨lo, _, rfl, HC.out⟩, rfl⟩
      · have hln : ¬ (lo : Int) < n := by omega
        go_wp2
        go_ret2
        exact ⟨⟨lo, _, rfl, HC.out⟩, rfl⟩

/-! ### freeFrom -/
set_option maxHeartbeats 400000 in
theorem free1_any (i : Nat) (p q : Nat) (A : Option Addr) (n c : Nat) (r : List Int) (s : Int) (w : World) (hl : r.length = n) (hp : Blk w p [.slice A n c] 51) (hq : Blk w q [.int .i64 s] 3) (hr : Rd w A (intV r)) (hi : i < r.length) (hs : 0 ≤ s ∧ s < 4294967296) (hn : n ≤ 100000) :
    Calls Try.prog 38 #[.int .i64 i, .pointer (some ⟨p, 0, none⟩), .pointer (some ⟨q, 0, none⟩)] w fun e w' => e = .returned (.bool (decide (s + i < r[i]))) ∧ Below w.heap.size w w' := by
  have c0 := hp.cell 0
  have c1 := hq.cell 0
  simp only [List.getElem?_cons_zero] at c0 c1
  obtain ⟨b, off, rfl, hc, -⟩ := hr.at_ (k := i) (by rw [intV_length]; exact hi)
  rw [intV_at r _ hi] at hc
  have hin : (i : Int) < n := by omega
  generalize r[i] = y at *
  clear hp hq hr hl hi
  have hz : (0 : Int) ≤ i := by omega
  have hwr : IntKind.i64.wrap (s + (i : Int)) = s + (i : Int) := by rw [IntKind.wrap_i64]; omega
  clear hs hn
  go_enter Try.func38, Try.ntmps38
  go_wp2
  go_quiet (fail)
  go_wp2
  go_ret
  exact ⟨rfl, ⟨rfl, rfl, rfl, Nat.le_refl _, fun _ _ => rfl⟩⟩
theorem search_free (p q : Nat) (A : Option Addr) (m c : Nat) (r : List Int) (s : Int) (k : Nat) (W : World) (hm : r.length = m) (hp : Blk W p [.slice A m c] 51) (hq : Blk W q [.int .i64 s] 3) (hr : Rd W A (intV r)) (hk : k ≤ m)
    (hrun : ∀ i (hi : i < r.length), (s + i < r[i] ↔ k ≤ i)) (hs : 0 ≤ s ∧ s < 4294967296) (hn : m ≤ 100000) :
    Calls Try.prog 37 #[.int .i64 m, .func (.func 38) #[] #[.pointer (some ⟨p, 0, none⟩), .pointer (some ⟨q, 0, none⟩)]] W fun e w' => e = .returned (.int .i64 k) ∧ Below W.heap.size W w' := by
  refine search_any 38 _ m k W (enters_of Try.func38 (by kernel_rfl) rfl) (by omega) hk ?_
  intro W' i hi hb
  have hil : i < r.length := by omega
  refine (free1_any i p q A m c r s W' hm (hp.below hb) (hq.below hb) (hr.below hb) hil hs hn).mono ?_
  rintro e w' ⟨rfl, hb'⟩
  refine ⟨ret_bool ?_, below2 hb hb'⟩
  have := hrun i hil
  by_cases h : k ≤ i
  · rw [decide_eq_true h, decide_eq_true (this.2 h)]
  · rw [decide_eq_false h, decide_eq_false (fun h' => h (this.1 h'))]

def FreePost (h : List Int) (s : Int) (e : Ending) : Prop := ∃ r, e = .returned (.int .i64 r) ∧ FreeAt h s r
set_option maxHeartbeats 4000000 in
set_option maxRecDepth 20000 in
theorem free_any (A : Option Addr) (n c : Nat) (h : List Int) (s : Int) (w : World) (hl : h.length = n) (hA : Rd w A (intV h)) (hs : Rises h) (hn : n ≤ 100000) (hnc : n ≤ c) (hs0 : 0 ≤ s ∧ s < 4294967296) :
    Calls Try.prog 33 #[.slice A n c, .int .i64 s] w fun e w' => FreePost h s e ∧ Below w.heap.size w w' := by
  have hA1 : Rd (w.alloc (.cells #[.int .i64 s] 3)) A (intV h) := hA.alloc _
  have hq := Blk.new w [.int .i64 s] 3
  have c0 := hq.cell 0
  simp only [List.getElem?_cons_zero] at c0
  have HQ := hid hq
  have HA := hid hA1
  have HR := hid hs
  have HL := hid hl
  have H0 := hid hs0
  clear hA hA1 hq hs hl hs0
  go_enter Try.func33, Try.ntmps33
  go_wp2_with fail
  refine (bsearch_any A n c h s _ HL.out HA.out HR.out hn).mono ?_
  rintro e w1 ⟨⟨i, b, rfl, hcut⟩, rfl⟩
  have hin : i ≤ n := by have := hcut.1; have := HL.out; omega
  have HC := hid hcut
  clear hcut
  have hiz : (0 : Int) ≤ i := by omega
  have hiz2 : (i : Int) ≤ n := by omega
  have hdl : (h.drop i).length = n - i := by rw [List.length_drop, HL.out]
  obtain ⟨k, k1, k2, k3, k4⟩ := run_spec (h.drop i) s (HR.out.sublist (List.drop_sublist _ _)) (cut_drop HC.out)
  have HF := hid (free_of HC.out k1 k3 k4)
  have HK := hid k2
  have hk63 : k ≤ n - i := by omega
  have HD := hid hdl
  clear k1 k2 k3 k4 hdl
  have HRD : Hid (Rd (w.alloc (.cells #[.int .i64 s] 3)) (if c = i then A else A.map (·.add i)) (intV (h.drop i))) := by
    have := HA.out.cut (k := i) (m := n - i) (cap := c) (by rw [intV_length, HL.out]; omega) (by rw [intV_length, HL.out]; omega)
    rw [← intV_drop, List.take_of_length_le (by rw [intV_length, HD.out]; omega)] at this
    exact this
  have hwr : IntKind.i64.wrap (s + (k : Int)) = s + (k : Int) := by have := H0.out; rw [IntKind.wrap_i64]; omega
  by_cases hci : c = i
  · have HRD2 := HRD.out
    rw [if_pos hci] at HRD2
    have HRD3 := hid HRD2
    clear HRD HRD2
    go_wp2_with fail
    refine (search_free (w.heap.size + 1) w.heap.size A (n - i) 0 (h.drop i) s k _ HD.out (by have := Blk.new (w.alloc (.cells #[.int .i64 s] 3)) [.slice A (n - i) 0] 51; simpa using this) (HQ.out.below ((Below.refl _ _).alloc (Nat.le_refl _) _)) (HRD3.out.alloc _) hk63 HK.out H0.out (by omega)).mono ?_
    rintro e w2 ⟨rfl, hb2⟩
    have hq2 := HQ.out.below (((Below.refl _ _).alloc (Nat.le_refl _) _).trans (hb2.mono (by simp)))
    have cq := hq2.cell 0
    simp only [List.getElem?_cons_zero] at cq
    clear hq2
    have HB := hid hb2
    clear hb2
    go_wp2
    go_ret
    exact ⟨⟨_, rfl, HF.out⟩, below_new _ (below_new _ HB.out)⟩
  · have HRD2 := HRD.out
    rw [if_neg hci] at HRD2
    have HRD3 := hid HRD2
    clear HRD HRD2
    go_wp2_with fail
    refine (search_free (w.heap.size + 1) w.heap.size (A.map (·.add i)) (n - i) (c - i) (h.drop i) s k _ HD.out (by have := Blk.new (w.alloc (.cells #[.int .i64 s] 3)) [.slice (A.map (·.add i)) (n - i) (c - i)] 51; simpa using this) (HQ.out.below ((Below.refl _ _).alloc (Nat.le_refl _) _)) (HRD3.out.alloc _) hk63 HK.out H0.out (by omega)).mono ?_
    rintro e w2 ⟨rfl, hb2⟩
    have hq2 := HQ.out.below (((Below.refl _ _).alloc (Nat.le_refl _) _).trans (hb2.mono (by simp)))
    have cq := hq2.cell 0
    simp only [List.getElem?_cons_zero] at cq
    clear hq2
    have HB := hid hb2
    clear hb2
    go_wp2
    go_ret
    exact ⟨⟨_, rfl, HF.out⟩, below_new _ (below_new _ HB.out)⟩
end Go.Proofs.Ytdejhpinmkbngaa
