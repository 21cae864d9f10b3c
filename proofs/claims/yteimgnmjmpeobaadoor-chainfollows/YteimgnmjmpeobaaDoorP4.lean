/- The texts Ic, Id, Ie, Ig, Ih, Ik, Il, Ip, in one. -/
import Derived.Test.YteimgnmjmpeobaaDoorP3
import Derived.Deep.RegionHeld3
import Derived.Deep.DeepCutAuto
import Derived.Handy
import Derived.Laws.EntriesVeiled
namespace Go.Proofs.YteimgnmjmpeobaaDoor
open Go.RowKit

theorem bdrN {w w' : World} {n : Nat} (h : Below n w w') (k : Nat) : Below n w (w'.drewN k) := ⟨h.1, h.2, h.3, h.4, h.5⟩
set_option maxHeartbeats 1000000 in
theorem ownDigest_any (A : Option Addr) (n c : Nat) (own : List Int) (v : Int) (w : World) (hl : own.length = n) (hr : Rd w A (intV own)) (hn : n ≤ 9223372036854775807) :
    Calls Tryd.prog 35 #[.slice A n c, .int .i64 v] w fun e w' => e = .returned (.int .i64 (ownD own v)) ∧ w' = w := by
  by_cases h0 : v = 0
  · subst h0
    go_enter Tryd.func35, Tryd.ntmps35
    go_wp2
    go_ret
    exact ⟨rfl, rfl⟩
  by_cases h1 : v < 0
  · have HV := hid (ownD_none (own := own) h0 (.inl h1))
    have hb : (v == 0) = false := by simp [h0]
    go_enter Tryd.func35, Tryd.ntmps35
    go_wp2
    go_ret
    exact ⟨ret_int HV.out.symm, rfl⟩
  by_cases h2 : (n : Int) < v
  · have HV := hid (ownD_none (own := own) h0 (.inr (by rw [hl]; exact h2)))
    have hb : (v == 0) = false := by simp [h0]
    go_enter Tryd.func35, Tryd.ntmps35
    go_wp2
    go_ret
    exact ⟨ret_int HV.out.symm, rfl⟩
  obtain ⟨k, hk⟩ : ∃ k : Nat, k = (v - 1).toNat := ⟨_, rfl⟩
  have hkl : k < own.length := by omega
  have hv : v = (k : Int) + 1 := by omega
  have HV := hid (ownD_some hkl)
  rw [← hv] at HV
  obtain ⟨b, off, rfl, x, -⟩ := int_at hr hkl
  have hb : (v == 0) = false := by simp [h0]
  have hz : 0 ≤ v - 1 := by omega
  have hlt : v - 1 < n := by omega
  generalize own[k] = y at *
  rw [show k = v.toNat - 1 by omega] at x
  clear hk hkl hv hl hr
  go_enter Tryd.func35, Tryd.ntmps35
  go_wp2
  go_ret
  exact ⟨ret_int HV.out.symm, rfl⟩

/-! ### The rules -/
/-- A cursor's cells in a block. -/
abbrev curL (c : Cur) : List Value := [.int .i64 c.v, .int .i64 c.h, .int .i64 c.e, .int .i64 c.a]
abbrev ruleL (ga gc go : Nat) : List Value := [.func (.func 29) #[] #[.pointer (some ⟨ga, 0, none⟩)], .int .i64 4, .func (.func 30) #[] #[.pointer (some ⟨gc, 0, none⟩)], .int .i64 9, .func (.func 31) #[] #[.pointer (some ⟨gc, 0, none⟩)], .int .i64 10,
  .func (.func 32) #[] #[.pointer (some ⟨gc, 0, none⟩)], .int .i64 11, .func (.func 33) #[] #[.pointer (some ⟨gc, 0, none⟩)], .int .i64 12, .func (.func 34) #[] #[.pointer (some ⟨gc, 0, none⟩), .pointer (some ⟨go, 0, none⟩)], .int .i64 11]
/-- What the rules stand on. -/
structure Rul (w : World) (g ga gc go : Nat) (c : Cur) (au : Int) (O : Option Addr) (n k : Nat) : Prop where
  row : Blk w g (ruleL ga gc go) 51
  au : Blk w ga [.int .i64 au] 3
  cur : Blk w gc (curL c) 23
  own : Blk w go [.slice O n k] 27
theorem Rul.below {w w' : World} {g ga gc go : Nat} {c : Cur} {au : Int} {O : Option Addr} {n k : Nat} (h : Rul w g ga gc go c au O n k) (hb : Below w.heap.size w w') : Rul w' g ga gc go c au O n k := ⟨h.row.below hb, h.au.below hb, h.cur.below hb, h.own.below hb⟩
def RulesPost (w : World) (c : Cur) (au : Int) (O : Option Addr) (n k : Nat) (e : Ending) (w' : World) : Prop :=
  ∃ g ga gc go, e = .returned (.slice (some ⟨g, 0, none⟩) 6 6) ∧ Rul w' g ga gc go c au O n k ∧ Below w.heap.size w w'
set_option maxHeartbeats 1000000 in
set_option maxRecDepth 20000 in
theorem rules_any (c : Cur) (au : Int) (O : Option Addr) (n k : Nat) (w : World) : Calls Tryd.prog 21 #[curV c, .int .i64 au, .slice O n k] w (RulesPost w c au O n k) := by
  obtain ⟨v, h, e, a⟩ := c
  have hal : ∀ (W : World) (o : Obj), Below W.heap.size W (W.alloc o) := fun W o => (Below.refl _ _).alloc (Nat.le_refl _) o
  have b1 := hal w (.cells #[.int .i64 v, .int .i64 h, .int .i64 e, .int .i64 a] 23)
  have p1 := Blk.new w [.int .i64 v, .int .i64 h, .int .i64 e, .int .i64 a] 23
  have b2 := hal (w.alloc (.cells #[.int .i64 v, .int .i64 h, .int .i64 e, .int .i64 a] 23)) (.cells #[.int .i64 au] 3)
  have p2 := Blk.new (w.alloc (.cells #[.int .i64 v, .int .i64 h, .int .i64 e, .int .i64 a] 23)) [.int .i64 au] 3
  have b3 := hal ((w.alloc (.cells #[.int .i64 v, .int .i64 h, .int .i64 e, .int .i64 a] 23)).alloc (.cells #[.int .i64 au] 3)) (.cells #[.slice O n k] 27)
  have p3 := Blk.new ((w.alloc (.cells #[.int .i64 v, .int .i64 h, .int .i64 e, .int .i64 a] 23)).alloc (.cells #[.int .i64 au] 3)) [.slice O n k] 27
  have b4 := hal (((w.alloc (.cells #[.int .i64 v, .int .i64 h, .int .i64 e, .int .i64 a] 23)).alloc (.cells #[.int .i64 au] 3)).alloc (.cells #[.slice O n k] 27)) (.cells (ruleL (w.heap.size + 1) w.heap.size (w.heap.size + 1 + 1)).toArray 51)
  have p4 := Blk.new (((w.alloc (.cells #[.int .i64 v, .int .i64 h, .int .i64 e, .int .i64 a] 23)).alloc (.cells #[.int .i64 au] 3)).alloc (.cells #[.slice O n k] 27)) (ruleL (w.heap.size + 1) w.heap.size (w.heap.size + 1 + 1)) 51
  have q1 := ((p1.below b2).below b3).below b4
  have q2 := (p2.below b3).below b4
  have q3 := p3.below b4
  simp only [World.size_alloc] at q1 q2 q3 p4
  have R : Rul _ (w.heap.size + 1 + 1 + 1) (w.heap.size + 1) w.heap.size (w.heap.size + 1 + 1) ⟨v, h, e, a⟩ au O n k := ⟨p4, q2, q1, q3⟩
  have bb := below2 (below2 (below2 b1 b2) b3) b4
  clear b1 b2 b3 b4 p1 p2 p3 p4 q1 q2 q3
  go_enter Tryd.func21, Tryd.ntmps21
  go_wp2
  go_ret
  exact ⟨_, _, _, _, rfl, R, bb⟩

/-! ### One by one -/
section
variable {w : World} {A : Option Addr} {c : Nat} {m : Man}
set_option maxHeartbeats 1000000 in
theorem rule1_any (h : Mt w A c m) (hs : ∀ p ∈ m.pieces, p.path.size < 4294967281) (ga : Nat) (au : Int) (hx : w.cell? ⟨ga, 0, none⟩ = some (.int .i64 au)) :
    Calls Tryd.prog 29 (#[manV m A c] ++ #[.pointer (some ⟨ga, 0, none⟩)]) w fun e w' => e = .returned (.bool (manR m && decide (m.author = au))) ∧ Below w.heap.size w w' := by
  obtain ⟨a1, a2, a3, a4, a5, a6, a7, ps⟩ := m
  unfold manV
  dsimp only
  have hal : ∀ (W : World) (o : Obj), Below W.heap.size W (W.alloc o) := fun W o => (Below.refl _ _).alloc (Nat.le_refl _) o
  have hg := World.block_lt_of_cell? _ _ hx
  have b1 := hal w (.cells #[.int .i64 a1, .int .i64 a2, .int .i64 a3, .int .i64 a4, .int .i64 a5, .int .i64 a6, .int .i64 a7, .slice A ps.length c] 26)
  have pm := Blk.new w [.int .i64 a1, .int .i64 a2, .int .i64 a3, .int .i64 a4, .int .i64 a5, .int .i64 a6, .int .i64 a7, .slice A ps.length c] 26
  have cc := right12_any (h.below b1) hs
  go_enter Tryd.func29, Tryd.ntmps29
  go_wp2_with fail
  refine cc.mono ?_
  rintro e w1 ⟨rfl, b2⟩
  simp only
  have bb := below2 b1 b2
  have pm1 := pm.below b2
  have q0 := pm1.cell 0
  have hx1 := (bb.cell (p := ⟨ga, 0, none⟩) hg).trans hx
  simp only [List.getElem?_cons_zero] at q0
  clear cc pm pm1 b1 b2 h hs hx
  cases hR : manR (⟨a1, a2, a3, a4, a5, a6, a7, ps⟩ : Man)
  · have HR := hid hR
    clear hR
    go_wp2
    go_ret
    exact ⟨ret_bool (by rw [HR.out, Bool.false_and]), bb⟩
  · have HR := hid hR
    clear hR
    by_cases he : a1 = au
    · subst he
      go_wp2
      go_ret
      exact ⟨ret_bool (by simp [HR.out]), bb⟩
    · have hb : (a1 == au) = false := by simp [he]
      go_wp2
      go_ret
      exact ⟨ret_bool (by rw [HR.out]; simp [he]), bb⟩
variable {gc : Nat} {u : Cur}
set_option maxHeartbeats 1000000 in
theorem rule2_any (m : Man) (A : Option Addr) (c : Nat) (hc : Blk w gc (curL u) 23) :
    Calls Tryd.prog 30 (#[manV m A c] ++ #[.pointer (some ⟨gc, 0, none⟩)]) w fun e w' => e = .returned (.bool (decide (u.v < m.version))) ∧ Below w.heap.size w w' := by
  obtain ⟨a1, a2, a3, a4, a5, a6, a7, ps⟩ := m
  obtain ⟨v, h, e, a⟩ := u
  unfold manV
  dsimp only
  have hal : ∀ (W : World) (o : Obj), Below W.heap.size W (W.alloc o) := fun W o => (Below.refl _ _).alloc (Nat.le_refl _) o
  have b1 := hal w (.cells #[.int .i64 a1, .int .i64 a2, .int .i64 a3, .int .i64 a4, .int .i64 a5, .int .i64 a6, .int .i64 a7, .slice A ps.length c] 26)
  have x := hc.cell 0
  have hg := hc.lt
  simp only [List.getElem?_cons_zero] at x
  clear hc
  by_cases hq : v < a2
  · go_enter Tryd.func30, Tryd.ntmps30
    go_wp2
    go_ret
    exact ⟨ret_bool (decide_eq_true hq).symm, b1⟩
  · go_enter Tryd.func30, Tryd.ntmps30
    go_wp2
    go_ret
    exact ⟨ret_bool (decide_eq_false (by omega)).symm, b1⟩
set_option maxHeartbeats 1000000 in
theorem rule3_any (m : Man) (A : Option Addr) (c : Nat) (hc : Blk w gc (curL u) 23) (hv : -9223372036854775808 ≤ u.v) (hv2 : u.v < 9223372036854775807) :
    Calls Tryd.prog 31 (#[manV m A c] ++ #[.pointer (some ⟨gc, 0, none⟩)]) w fun e w' => e = .returned (.bool (decide (m.version ≤ u.v + 1))) ∧ Below w.heap.size w w' := by
  obtain ⟨a1, a2, a3, a4, a5, a6, a7, ps⟩ := m
  obtain ⟨v, h, e, a⟩ := u
  unfold manV
  dsimp only at hv hv2 ⊢
  have hal : ∀ (W : World) (o : Obj), Below W.heap.size W (W.alloc o) := fun W o => (Below.refl _ _).alloc (Nat.le_refl _) o
  have b1 := hal w (.cells #[.int .i64 a1, .int .i64 a2, .int .i64 a3, .int .i64 a4, .int .i64 a5, .int .i64 a6, .int .i64 a7, .slice A ps.length c] 26)
  have x := hc.cell 0
  have hg := hc.lt
  simp only [List.getElem?_cons_zero] at x
  clear hc
  by_cases hq : a2 ≤ v + 1
  · go_enter Tryd.func31, Tryd.ntmps31
    go_wp2
    go_ret
    exact ⟨ret_bool (decide_eq_true hq).symm, b1⟩
  · go_enter Tryd.func31, Tryd.ntmps31
    go_wp2
    go_ret
    exact ⟨ret_bool (decide_eq_false (by omega)).symm, b1⟩
set_option maxHeartbeats 1000000 in
theorem rule4_any (m : Man) (A : Option Addr) (c : Nat) (hc : Blk w gc (curL u) 23) :
    Calls Tryd.prog 32 (#[manV m A c] ++ #[.pointer (some ⟨gc, 0, none⟩)]) w fun e w' => e = .returned (.bool (decide (m.prev = u.h))) ∧ Below w.heap.size w w' := by
  obtain ⟨a1, a2, a3, a4, a5, a6, a7, ps⟩ := m
  obtain ⟨v, h, e, a⟩ := u
  unfold manV
  dsimp only
  have hal : ∀ (W : World) (o : Obj), Below W.heap.size W (W.alloc o) := fun W o => (Below.refl _ _).alloc (Nat.le_refl _) o
  have b1 := hal w (.cells #[.int .i64 a1, .int .i64 a2, .int .i64 a3, .int .i64 a4, .int .i64 a5, .int .i64 a6, .int .i64 a7, .slice A ps.length c] 26)
  have x := hc.cell 1
  have hg := hc.lt
  simp only [List.getElem?_cons_zero, List.getElem?_cons_succ] at x
  clear hc
  by_cases hq : a3 = h
  · subst hq
    go_enter Tryd.func32, Tryd.ntmps32
    go_wp2
    go_ret
    exact ⟨ret_bool (by simp), b1⟩
  · have hb : (a3 == h) = false := by simp [hq]
    go_enter Tryd.func32, Tryd.ntmps32
    go_wp2
    go_ret
    exact ⟨ret_bool (by simp [hq]), b1⟩
set_option maxHeartbeats 1000000 in
theorem rule5_any (m : Man) (A : Option Addr) (c : Nat) (hc : Blk w gc (curL u) 23) :
    Calls Tryd.prog 33 (#[manV m A c] ++ #[.pointer (some ⟨gc, 0, none⟩)]) w fun e w' => e = .returned (.bool (decide (m.epoch = u.e))) ∧ Below w.heap.size w w' := by
  obtain ⟨a1, a2, a3, a4, a5, a6, a7, ps⟩ := m
  obtain ⟨v, h, e, a⟩ := u
  unfold manV
  dsimp only
  have hal : ∀ (W : World) (o : Obj), Below W.heap.size W (W.alloc o) := fun W o => (Below.refl _ _).alloc (Nat.le_refl _) o
  have b1 := hal w (.cells #[.int .i64 a1, .int .i64 a2, .int .i64 a3, .int .i64 a4, .int .i64 a5, .int .i64 a6, .int .i64 a7, .slice A ps.length c] 26)
  have x := hc.cell 2
  have hg := hc.lt
  simp only [List.getElem?_cons_zero, List.getElem?_cons_succ] at x
  clear hc
  by_cases hq : a4 = e
  · subst hq
    go_enter Tryd.func33, Tryd.ntmps33
    go_wp2
    go_ret
    exact ⟨ret_bool (by simp), b1⟩
  · have hb : (a4 == e) = false := by simp [hq]
    go_enter Tryd.func33, Tryd.ntmps33
    go_wp2
    go_ret
    exact ⟨ret_bool (by simp [hq]), b1⟩
set_option maxHeartbeats 4000000 in
theorem rule6_any (m : Man) (A : Option Addr) (c : Nat) (hc : Blk w gc (curL u) 23) {go n k : Nat} {O : Option Addr} {own : List Int} (ho : Blk w go [.slice O n k] 27) (hl : own.length = n) (hr : Rd w O (intV own)) (hn : n ≤ 9223372036854775807) :
    Calls Tryd.prog 34 (#[manV m A c] ++ #[.pointer (some ⟨gc, 0, none⟩), .pointer (some ⟨go, 0, none⟩)]) w fun e w' => e = .returned (.bool (decide (u.a ≤ m.seen) && decide (m.head = ownD own m.seen))) ∧ Below w.heap.size w w' := by
  obtain ⟨a1, a2, a3, a4, a5, a6, a7, ps⟩ := m
  obtain ⟨v, h, e, a⟩ := u
  unfold manV
  dsimp only
  have hal : ∀ (W : World) (o : Obj), Below W.heap.size W (W.alloc o) := fun W o => (Below.refl _ _).alloc (Nat.le_refl _) o
  have b1 := hal w (.cells #[.int .i64 a1, .int .i64 a2, .int .i64 a3, .int .i64 a4, .int .i64 a5, .int .i64 a6, .int .i64 a7, .slice A ps.length c] 26)
  have x := hc.cell 3
  have y := ho.cell 0
  have hg := hc.lt
  have hg2 := ho.lt
  simp only [List.getElem?_cons_zero, List.getElem?_cons_succ] at x y
  have hrb := hr.below b1
  have cO := fun i => ownDigest_any O n k own a6 ((w.alloc (.cells #[.int .i64 a1, .int .i64 a2, .int .i64 a3, .int .i64 a4, .int .i64 a5, .int .i64 a6, .int .i64 a7, .slice A ps.length c] 26)).drewN i) hl hrb hn
  clear hc ho hl hr hrb
  generalize ownD own a6 = od at *
  by_cases hq : a ≤ a6
  · have hd : decide (a ≤ a6) = true := decide_eq_true hq
    by_cases hp : a7 = od
    · subst hp
      have hb : (a7 == a7) = true := by simp
      go_enter Tryd.func34, Tryd.ntmps34
      go_wp2_with fail
      go_quiet (first | (go_at_call 35; exact Calls.quiet_of_same (cO _)))
      go_wp2
      go_ret
      exact ⟨ret_bool (by simp [hq]), bdrN b1 _⟩
    · have hb : (a7 == od) = false := by simp [hp]
      go_enter Tryd.func34, Tryd.ntmps34
      go_wp2_with fail
      go_quiet (first | (go_at_call 35; exact Calls.quiet_of_same (cO _)))
      go_wp2
      go_ret
      exact ⟨ret_bool (by simp [hq, hp]), bdrN b1 _⟩
  · have hd : decide (a ≤ a6) = false := decide_eq_false hq
    go_enter Tryd.func34, Tryd.ntmps34
    go_wp2_with fail
    go_quiet (first | (go_at_call 35; exact Calls.quiet_of_same (cO _)))
    go_wp2
    go_ret
    exact ⟨ret_bool (by rw [hd, Bool.false_and]), bdrN b1 _⟩
end
end Go.Proofs.YteimgnmjmpeobaaDoor
namespace Go.Proofs.YteimgnmjmpeobaaDoor
open Go.RowKit

/-- What the rules ask, one by one. -/
def ruleB (c : Cur) (au : Int) (m : Man) (own : List Int) : Nat → Bool
  | 0 => manR m && decide (m.author = au)
  | 1 => decide (c.v < m.version)
  | 2 => decide (m.version ≤ c.v + 1)
  | 3 => decide (m.prev = c.h)
  | 4 => decide (m.epoch = c.e)
  | _ => decide (c.a ≤ m.seen) && decide (m.head = ownD own m.seen)
/-- The first j hold. -/
def RulesTo (c : Cur) (au : Int) (m : Man) (own : List Int) (j : Nat) : Prop := ∀ i < j, ruleB c au m own i = true
theorem rules_next {c : Cur} {au : Int} {m : Man} {own : List Int} {j : Nat} (h : RulesTo c au m own j) (hj : ruleB c au m own j = true) : RulesTo c au m own (j + 1) := fun i hi => by
  by_cases e : i = j
  · subst e; exact hj
  · exact h i (by omega)
theorem rules_right {c : Cur} {au : Int} {m : Man} {own : List Int} {j : Nat} (h : RulesTo c au m own j) (h0 : 0 < j) : manR m = true ∧ m.author = au := by
  have := h 0 h0
  simp only [ruleB, Bool.and_eq_true, decide_eq_true_eq] at this
  exact this
theorem rules_lt {c : Cur} {au : Int} {m : Man} {own : List Int} {j : Nat} (h : RulesTo c au m own j) (h0 : 1 < j) : c.v < m.version ∧ m.version ≤ 200 := by
  have := h 1 h0
  simp only [ruleB, decide_eq_true_eq] at this
  exact ⟨this, ((manR_iff m).1 (rules_right h (by omega)).1).v1⟩
theorem rules_err {c : Cur} {au : Int} {m : Man} {own : List Int} {j : Nat} (h : RulesTo c au m own j) (hj : ruleB c au m own j = false) (h6 : j < 6) :
    accN c au m own = (match j with | 0 => 4 | 1 => 9 | 2 => 10 | 3 => 11 | 4 => 12 | _ => 11) := by
  by_cases h0 : j = 0
  · subst h0
    refine acc_four ?_
    simp only [ruleB, Bool.and_eq_false_iff, decide_eq_false_iff_not] at hj
    exact hj
  obtain ⟨hr, ha⟩ := rules_right h (by omega)
  by_cases h1 : j = 1
  · subst h1
    refine acc_nine hr ha ?_
    simp only [ruleB, decide_eq_false_iff_not] at hj
    omega
  have hv := (rules_lt h (by omega)).1
  by_cases h2 : j = 2
  · subst h2
    refine acc_ten hr ha ?_
    simp only [ruleB, decide_eq_false_iff_not] at hj
    omega
  have hv2 := h 2 (by omega)
  simp only [ruleB, decide_eq_true_eq] at hv2
  have hv3 : m.version = c.v + 1 := by omega
  by_cases h3 : j = 3
  · subst h3
    refine acc_prev hr ha hv3 ?_
    simp only [ruleB, decide_eq_false_iff_not] at hj
    exact hj
  have hp := h 3 (by omega)
  simp only [ruleB, decide_eq_true_eq] at hp
  by_cases h4 : j = 4
  · subst h4
    refine acc_epoch hr ha hv3 hp ?_
    simp only [ruleB, decide_eq_false_iff_not] at hj
    exact hj
  have he := h 4 (by omega)
  simp only [ruleB, decide_eq_true_eq] at he
  obtain rfl : j = 5 := by omega
  refine acc_seen hr ha hv3 hp he ?_
  simp only [ruleB, Bool.and_eq_false_iff, decide_eq_false_iff_not] at hj
  rcases hj with hj | hj
  · exact .inl (by omega)
  · exact .inr hj
theorem rules_all {c : Cur} {au : Int} {m : Man} {own : List Int} (h : RulesTo c au m own 6) : accN c au m own = 0 := by
  obtain ⟨hr, ha⟩ := rules_right h (by omega)
  have hv := (rules_lt h (by omega)).1
  have hv2 := h 2 (by omega)
  have hp := h 3 (by omega)
  have he := h 4 (by omega)
  have hs := h 5 (by omega)
  simp only [ruleB, decide_eq_true_eq, Bool.and_eq_true] at hv2 hp he hs
  exact acc_iff.2 ⟨(manR_iff m).1 hr, ha, by omega, hp, he, hs.1, hs.2⟩
/-- Accept answered. -/
def AccPost (w : World) (c : Cur) (n : Int) (e : Ending) (w' : World) : Prop := e = .returned (.tuple #[curV c, .int .i64 n]) ∧ Below w.heap.size w w'
theorem fatal_any (n : Int) (w : World) : Calls Tryd.prog 13 #[.int .i64 n] w fun e w' => e = .returned (.bool (decide (n = 11))) ∧ w' = w := by
  by_cases h : n = 11
  · subst h
    go_enter Tryd.func13, Tryd.ntmps13
    go_wp2
    go_ret
    exact ⟨rfl, rfl⟩
  · have hb : (n == 11) = false := by simp [h]
    go_enter Tryd.func13, Tryd.ntmps13
    go_wp2
    go_ret
    exact ⟨ret_bool (by simp [h]), rfl⟩
end Go.Proofs.YteimgnmjmpeobaaDoor
namespace Go.Proofs.YteimgnmjmpeobaaDoor
open Go.RowKit

theorem far13 {n b : Nat} (h : n ≤ b) : ∀ k, some b = some k → n ≤ k := fun k e => by injection e with e; omega
theorem sets4 (w : World) (b : Nat) (u0 u1 u2 u3 : Value) : w.grownBy ((((w.setCell ⟨b, 0, none⟩ u0).setCell ⟨b, 1, none⟩ u1).setCell ⟨b, 2, none⟩ u2).setCell ⟨b, 3, none⟩ u3) (some b) :=
  grown_trans (grown_trans (grown_trans (grown_set 0 u0) (grown_set 1 u1)) (grown_set 2 u2)) (grown_set 3 u3)
set_option maxHeartbeats 8000000 in
set_option maxRecDepth 20000 in
theorem accept_any {w : World} {A O : Option Addr} {c n k : Nat} {u : Cur} {m : Man} {own : List Int} (au head : Int) (hm : Mt w A c m) (hs : ∀ p ∈ m.pieces, p.path.size < 4294967281) (hcv : -9223372036854775808 ≤ u.v) (hol : own.length = n) (hor : Rd w O (intV own)) (hon : n ≤ 9223372036854775807) :
    Calls Tryd.prog 11 #[curV u, .int .i64 au, manV m A c, .int .i64 head, .slice O n k] w (AccPost w (accC u au m head own) (accN u au m own)) := by
  have e1 := enters_of Tryd.func29 (by kernel_rfl) rfl
  have e2 := enters_of Tryd.func30 (by kernel_rfl) rfl
  have e3 := enters_of Tryd.func31 (by kernel_rfl) rfl
  have e4 := enters_of Tryd.func32 (by kernel_rfl) rfl
  have e5 := enters_of Tryd.func33 (by kernel_rfl) rfl
  have e6 := enters_of Tryd.func34 (by kernel_rfl) rfl
  have hal : ∀ (W : World) (o : Obj), Below W.heap.size W (W.alloc o) := fun W o => (Below.refl _ _).alloc (Nat.le_refl _) o
  obtain ⟨v, h, e, a⟩ := u
  obtain ⟨a1, a2, a3, a4, a5, a6, a7, ps⟩ := m
  unfold manV
  dsimp only at hcv hs ⊢
  have b1 := hal w (.cells #[.int .i64 v, .int .i64 h, .int .i64 e, .int .i64 a] 23)
  have b2 := hal (w.alloc (.cells #[.int .i64 v, .int .i64 h, .int .i64 e, .int .i64 a] 23)) (.cells #[.int .i64 a1, .int .i64 a2, .int .i64 a3, .int .i64 a4, .int .i64 a5, .int .i64 a6, .int .i64 a7, .slice A ps.length c] 26)
  have b3 := hal ((w.alloc (.cells #[.int .i64 v, .int .i64 h, .int .i64 e, .int .i64 a] 23)).alloc (.cells #[.int .i64 a1, .int .i64 a2, .int .i64 a3, .int .i64 a4, .int .i64 a5, .int .i64 a6, .int .i64 a7, .slice A ps.length c] 26)) (.cells #[.int .i64 0, .int .i64 0, .int .i64 0, .int .i64 0] 23)
  have pc := ((Blk.new w [.int .i64 v, .int .i64 h, .int .i64 e, .int .i64 a] 23).below b2).below b3
  have pm := (Blk.new (w.alloc (.cells #[.int .i64 v, .int .i64 h, .int .i64 e, .int .i64 a] 23)) [.int .i64 a1, .int .i64 a2, .int .i64 a3, .int .i64 a4, .int .i64 a5, .int .i64 a6, .int .i64 a7, .slice A ps.length c] 26).below b3
  have pz := Blk.new ((w.alloc (.cells #[.int .i64 v, .int .i64 h, .int .i64 e, .int .i64 a] 23)).alloc (.cells #[.int .i64 a1, .int .i64 a2, .int .i64 a3, .int .i64 a4, .int .i64 a5, .int .i64 a6, .int .i64 a7, .slice A ps.length c] 26)) [.int .i64 0, .int .i64 0, .int .i64 0, .int .i64 0] 23
  simp only [World.size_alloc] at pc pm pz
  have bw := below2 (below2 b1 b2) b3
  have cc := rules_any (⟨v, h, e, a⟩ : Cur) au O n k (((w.alloc (.cells #[.int .i64 v, .int .i64 h, .int .i64 e, .int .i64 a] 23)).alloc (.cells #[.int .i64 a1, .int .i64 a2, .int .i64 a3, .int .i64 a4, .int .i64 a5, .int .i64 a6, .int .i64 a7, .slice A ps.length c] 26)).alloc (.cells #[.int .i64 0, .int .i64 0, .int .i64 0, .int .i64 0] 23))
  have HACC : Hid (∀ n, accN (⟨v, h, e, a⟩ : Cur) au (⟨a1, a2, a3, a4, a5, a6, a7, ps⟩ : Man) own = n → n ≠ 0 → accC (⟨v, h, e, a⟩ : Cur) au (⟨a1, a2, a3, a4, a5, a6, a7, ps⟩ : Man) head own = (⟨v, h, e, a⟩ : Cur)) := hid fun n h1 h2 => accC_no (by rw [h1]; exact h2)
  have HACY : Hid (accN (⟨v, h, e, a⟩ : Cur) au (⟨a1, a2, a3, a4, a5, a6, a7, ps⟩ : Man) own = 0 → accC (⟨v, h, e, a⟩ : Cur) au (⟨a1, a2, a3, a4, a5, a6, a7, ps⟩ : Man) head own = ⟨a2, head, a5, a6⟩) := hid fun h1 => accC_yes h1
  generalize hAN : accN (⟨v, h, e, a⟩ : Cur) au (⟨a1, a2, a3, a4, a5, a6, a7, ps⟩ : Man) own = AN at HACC HACY ⊢
  have HAN := hid hAN
  clear hAN
  generalize accC (⟨v, h, e, a⟩ : Cur) au (⟨a1, a2, a3, a4, a5, a6, a7, ps⟩ : Man) head own = AC at HACC HACY ⊢
  go_enter Tryd.func11, Tryd.ntmps11
  go_wp2_with fail
  refine cc.mono ?_
  clear cc b1 b2 b3
  replace hm := fun {W : World} (hb : Below w.heap.size w W) => hm.below hb
  replace hor := fun {W : World} (hb : Below w.heap.size w W) => hor.below hb
  generalize (((w.alloc (.cells #[.int .i64 v, .int .i64 h, .int .i64 e, .int .i64 a] 23)).alloc (.cells #[.int .i64 a1, .int .i64 a2, .int .i64 a3, .int .i64 a4, .int .i64 a5, .int .i64 a6, .int .i64 a7, .slice A ps.length c] 26)).alloc (.cells #[.int .i64 0, .int .i64 0, .int .i64 0, .int .i64 0] 23)) = w1 at *
  rintro _ w2 ⟨g, ga, gc, go, rfl, R, bx⟩
  simp only
  replace pc := pc.below bx
  replace pm := pm.below bx
  replace pz := pz.below bx
  replace bw := below2 bw bx
  clear bx
  go_wp2_with fail
  go_loopw [19] (fun i wr => ∃ j : Nat, j ≤ 6 ∧ i = .int .i64 j ∧ Hid (RulesTo (⟨v, h, e, a⟩ : Cur) au (⟨a1, a2, a3, a4, a5, a6, a7, ps⟩ : Man) own j) ∧ Rul wr g ga gc go (⟨v, h, e, a⟩ : Cur) au O n k ∧ Blk wr w.heap.size [.int .i64 v, .int .i64 h, .int .i64 e, .int .i64 a] 23 ∧ Blk wr (w.heap.size + 1) [.int .i64 a1, .int .i64 a2, .int .i64 a3, .int .i64 a4, .int .i64 a5, .int .i64 a6, .int .i64 a7, .slice A ps.length c] 26 ∧ Blk wr (w.heap.size + 1 + 1) [.int .i64 0, .int .i64 0, .int .i64 0, .int .i64 0] 23 ∧ Below w.heap.size w wr) (fun i _ => 6 - (intOf i).toNat)
  case atStart => exact ⟨0, by omega, rfl, hid (fun i hi => absurd hi (by omega)), R, pc, pm, pz, bw⟩
  case round =>
    clear R pc pm pz bw
    obtain ⟨j, hj, rfl, HJ, R, pc, pm, pz, bw⟩ := hrel
    replace hm := hm bw
    replace hor := hor bw
    have lc := pc.lt
    have lm := pm.lt
    have lz := pz.lt
    have lg := R.row.lt
    have q0 := pc.cell 0
    have q1 := pc.cell 1
    have q2 := pc.cell 2
    have q3 := pc.cell 3
    have m0 := pm.cell 0
    have m1 := pm.cell 1
    have m2 := pm.cell 2
    have m3 := pm.cell 3
    have m4 := pm.cell 4
    have m5 := pm.cell 5
    have m6 := pm.cell 6
    have m7 := pm.cell 7
    simp only [List.getElem?_cons_zero, List.getElem?_cons_succ] at q0 q1 q2 q3 m0 m1 m2 m3 m4 m5 m6 m7
    by_cases h6 : j = 6
    · have HN : Hid (AN = 0) := hid (by rw [← HAN.out]; exact rules_all (by rw [← h6]; exact HJ.out))
      have HC : Hid (AC = ⟨a2, head, a5, a6⟩) := hid (HACY.out HN.out)
      subst h6
      have z0 := pz.cell 0
      have z1 := pz.cell 1
      have z2 := pz.cell 2
      have z3 := pz.cell 3
      have f0 := pz.frozen 0
      have f1 := pz.frozen 1
      have f2 := pz.frozen 2
      have f3 := pz.frozen 3
      have ks := (((pz.set_ 0 (.int .i64 a2)).set_ 1 (.int .i64 head)).set_ 2 (.int .i64 a5)).set_ 3 (.int .i64 a6)
      simp only [List.getElem?_cons_zero, List.getElem?_cons_succ, List.set_cons_zero, List.set_cons_succ] at z0 z1 z2 z3 ks
      have r0 := ks.cell 0
      have r1 := ks.cell 1
      have r2 := ks.cell 2
      have r3 := ks.cell 3
      simp only [List.getElem?_cons_zero, List.getElem?_cons_succ] at r0 r1 r2 r3
      have gs := sets4 wr (w.heap.size + 1 + 1) (.int .i64 a2) (.int .i64 head) (.int .i64 a5) (.int .i64 a6)
      have bwS := bw.trans (below_grown bw.size (far13 (by omega)) gs)
      clear ks gs bw pz pm pc R HJ hm hor
      go_wp2
      refine bodyPost_ret (v := .tuple #[.agg #[.int .i64 a2, .int .i64 head, .int .i64 a5, .int .i64 a6], .int .i64 0]) (by simp [results, Tryd.results11, go_sem, r0, r1, r2, r3]) rfl ?_
      exact ⟨by rw [HC.out, HN.out], bwS⟩
    by_cases h0 : j = 0
    · subst h0
      have x0 := R.row.cell 0
      have x1 := R.row.cell 1
      simp only [List.getElem?_cons_zero, List.getElem?_cons_succ] at x0 x1
      have b2 := hal wr (.cells #[.func (.func 29) #[] #[.pointer (some ⟨ga, 0, none⟩)], .int .i64 4] 51)
      have pr := Blk.new wr [.func (.func 29) #[] #[.pointer (some ⟨ga, 0, none⟩)], .int .i64 4] 51
      have cc := rule1_any (hm.below b2) hs ga au ((R.below b2).au.cell 0)
      go_wp2_with fail
      refine cc.mono ?_
      rintro _ w3 ⟨rfl, b3⟩
      simp only
      replace pr := pr.below b3
      have bb := below2 b2 b3
      replace R := R.below bb
      replace pc := pc.below bb
      replace pm := pm.below bb
      replace pz := pz.below bb
      replace bw := bw.trans (bb.mono bw.size)
      have hgr : w.heap.size + 1 + 1 < wr.heap.size := lz
      clear cc b2 b3 bb x0 x1 q0 q1 q2 q3 m0 m1 m2 m3 m4 m5 m6 m7 lc lm lz lg hm hor
      generalize wr.heap.size = gr at *
      cases hq : (manR (⟨a1, a2, a3, a4, a5, a6, a7, ps⟩ : Man) && decide (a1 = au))
      · have HN : Hid (AN = 4) := hid (by rw [← HAN.out]; exact rules_err (j := 0) HJ.out hq (by omega))
        have HC : Hid (AC = (⟨v, h, e, a⟩ : Cur)) := hid (HACC.out _ HN.out (by decide))
        clear hq R pm HJ
        have q0 := pc.cell 0
        have q1 := pc.cell 1
        have q2 := pc.cell 2
        have q3 := pc.cell 3
        have p1 := pr.cell 1
        simp only [List.getElem?_cons_zero, List.getElem?_cons_succ] at q0 q1 q2 q3 p1
        go_wp2_with fail
        refine wp_region_held_drew (S := fun w' => w'.cell? ⟨w.heap.size, 0, none⟩ = some (.int .i64 v) ∧ w'.cell? ⟨w.heap.size, 1, none⟩ = some (.int .i64 h) ∧ w'.cell? ⟨w.heap.size, 2, none⟩ = some (.int .i64 e) ∧ w'.cell? ⟨w.heap.size, 3, none⟩ = some (.int .i64 a) ∧ w'.cell? ⟨gr, 1, none⟩ = some (.int .i64 4)) (by kernel_rfl) ⟨q0, q1, q2, q3, p1⟩ (fun hHeld => ?_)
        refine wpAnyH_take (i := 0) (oi := ⟨_, _, _, _, _, _⟩) (v := ?_) rfl (by kernel_rfl) (by kernel_rfl) (by kernel_rfl) (fun _ _ _ h => h) (Or.inl ⟨by rfl, ?_⟩) (by assumption) ?_
        rotate_left
        · intro w hSw; (try dsimp only at hSw); go_simp; (try (with_reducible rfl))
        try simp only [Act.put, List.setIfInBounds_toArray, List.set_cons_zero, List.set_cons_succ]
        refine wpAnyH_take (i := 1) (oi := ⟨_, _, _, _, _, _⟩) (v := ?_) rfl (by kernel_rfl) (by kernel_rfl) (by kernel_rfl) (fun _ _ _ h => h) (Or.inl ⟨by rfl, ?_⟩) (by assumption) ?_
        rotate_left
        · intro w hSw; (try dsimp only at hSw); go_simp; (try (with_reducible rfl))
        try simp only [Act.put, List.setIfInBounds_toArray, List.set_cons_zero, List.set_cons_succ]
        refine wpAnyH_take (i := 2) (oi := ⟨_, _, _, _, _, _⟩) (v := ?_) rfl (by kernel_rfl) (by kernel_rfl) (by kernel_rfl) (fun _ _ _ h => h) (Or.inl ⟨by rfl, ?_⟩) (by assumption) ?_
        rotate_left
        · intro w hSw; (try dsimp only at hSw); go_simp; (try (with_reducible rfl))
        try simp only [Act.put, List.setIfInBounds_toArray, List.set_cons_zero, List.set_cons_succ]
        have d3 := (Below.refl w3.heap.size w3).drew
        replace pc := pc.below d3
        replace pr := pr.below d3
        replace pz := pz.below d3
        replace bw := below2 bw d3
        clear q0 q1 q2 q3 p1 d3
        generalize w3.drew = w4 at *
        have z0 := pz.cell 0
        have z1 := pz.cell 1
        have z2 := pz.cell 2
        have z3 := pz.cell 3
        have f0 := pz.frozen 0
        have f1 := pz.frozen 1
        have f2 := pz.frozen 2
        have f3 := pz.frozen 3
        have ks := (((pz.set_ 0 (.int .i64 v)).set_ 1 (.int .i64 h)).set_ 2 (.int .i64 e)).set_ 3 (.int .i64 a)
        simp only [List.getElem?_cons_zero, List.getElem?_cons_succ, List.set_cons_zero, List.set_cons_succ] at z0 z1 z2 z3 ks
        have gs := sets4 w4 (w.heap.size + 1 + 1) (.int .i64 v) (.int .i64 h) (.int .i64 e) (.int .i64 a)
        have bwS := bw.trans (below_grown bw.size (far13 (by omega)) gs)
        have pcS := pc.grown gs (by intro e; injection e with e; omega)
        have prS := pr.grown gs (by intro e; injection e with e; omega)
        have r0 := ks.cell 0
        have r1 := ks.cell 1
        have r2 := ks.cell 2
        have r3 := ks.cell 3
        simp only [List.getElem?_cons_zero, List.getElem?_cons_succ] at r0 r1 r2 r3
        clear ks gs bw pc pz pr
        refine wpAnyH_ready (rs := [3]) (by kernel_rfl) (by simp) ?_
        refine AllReadyH.cons (o := ⟨_, _, _, _, _, _⟩) rfl (fun K hK => ?_) AllReadyH.nil
        go_simp
        refine hK.out _ _ ⟨pcS.cell 0, pcS.cell 1, pcS.cell 2, pcS.cell 3, prS.cell 1⟩ (fun hHeld => ?_)
        clear hK K
        try simp only [Act.put, List.setIfInBounds_toArray, List.set_cons_zero, List.set_cons_succ]
        refine wpAnyH_ready (rs := [4]) (by kernel_rfl) (by simp) ?_
        refine AllReadyH.cons (o := ⟨_, _, _, _, _, _⟩) rfl (fun K hK => ?_) AllReadyH.nil
        go_simp
        refine hK.out _ _ hHeld (fun hHeld => ?_)
        clear hK K
        try simp only [Act.put, List.setIfInBounds_toArray, List.set_cons_zero, List.set_cons_succ]
        refine wpAnyH_done (by kernel_rfl) ?_ _
        clear pcS prS hHeld
        go_wp2
        refine bodyPost_ret (v := .tuple #[.agg #[.int .i64 v, .int .i64 h, .int .i64 e, .int .i64 a], .int .i64 4]) (by simp [results, Tryd.results11, go_sem, r0, r1, r2, r3]) rfl ?_
        exact ⟨by rw [HC.out, HN.out], bwS⟩
      · have HJ2 := hid (rules_next HJ.out hq)
        clear hq
        go_wp2
        go_roundw
        case rel => exact ⟨1, by omega, by go_num, HJ2, R, pc, pm, pz, bw⟩
        case measure => simp [intOf]
    by_cases h1 : j = 1
    · subst h1
      have x0 := R.row.cell 2
      have x1 := R.row.cell 3
      simp only [List.getElem?_cons_zero, List.getElem?_cons_succ] at x0 x1
      have b2 := hal wr (.cells #[.func (.func 30) #[] #[.pointer (some ⟨gc, 0, none⟩)], .int .i64 9] 51)
      have pr := Blk.new wr [.func (.func 30) #[] #[.pointer (some ⟨gc, 0, none⟩)], .int .i64 9] 51
      have cc := rule2_any (⟨a1, a2, a3, a4, a5, a6, a7, ps⟩ : Man) A c (R.below b2).cur
      go_wp2_with fail
      refine cc.mono ?_
      rintro _ w3 ⟨rfl, b3⟩
      simp only
      replace pr := pr.below b3
      have bb := below2 b2 b3
      replace R := R.below bb
      replace pc := pc.below bb
      replace pm := pm.below bb
      replace pz := pz.below bb
      replace bw := bw.trans (bb.mono bw.size)
      have hgr : w.heap.size + 1 + 1 < wr.heap.size := lz
      clear cc b2 b3 bb x0 x1 q0 q1 q2 q3 m0 m1 m2 m3 m4 m5 m6 m7 lc lm lz lg hm hor
      generalize wr.heap.size = gr at *
      cases hq : (decide (v < a2))
      · have HN : Hid (AN = 9) := hid (by rw [← HAN.out]; exact rules_err (j := 1) HJ.out hq (by omega))
        have HC : Hid (AC = (⟨v, h, e, a⟩ : Cur)) := hid (HACC.out _ HN.out (by decide))
        clear hq R pm HJ
        have q0 := pc.cell 0
        have q1 := pc.cell 1
        have q2 := pc.cell 2
        have q3 := pc.cell 3
        have p1 := pr.cell 1
        simp only [List.getElem?_cons_zero, List.getElem?_cons_succ] at q0 q1 q2 q3 p1
        go_wp2_with fail
        refine wp_region_held_drew (S := fun w' => w'.cell? ⟨w.heap.size, 0, none⟩ = some (.int .i64 v) ∧ w'.cell? ⟨w.heap.size, 1, none⟩ = some (.int .i64 h) ∧ w'.cell? ⟨w.heap.size, 2, none⟩ = some (.int .i64 e) ∧ w'.cell? ⟨w.heap.size, 3, none⟩ = some (.int .i64 a) ∧ w'.cell? ⟨gr, 1, none⟩ = some (.int .i64 9)) (by kernel_rfl) ⟨q0, q1, q2, q3, p1⟩ (fun hHeld => ?_)
        refine wpAnyH_take (i := 0) (oi := ⟨_, _, _, _, _, _⟩) (v := ?_) rfl (by kernel_rfl) (by kernel_rfl) (by kernel_rfl) (fun _ _ _ h => h) (Or.inl ⟨by rfl, ?_⟩) (by assumption) ?_
        rotate_left
        · intro w hSw; (try dsimp only at hSw); go_simp; (try (with_reducible rfl))
        try simp only [Act.put, List.setIfInBounds_toArray, List.set_cons_zero, List.set_cons_succ]
        refine wpAnyH_take (i := 1) (oi := ⟨_, _, _, _, _, _⟩) (v := ?_) rfl (by kernel_rfl) (by kernel_rfl) (by kernel_rfl) (fun _ _ _ h => h) (Or.inl ⟨by rfl, ?_⟩) (by assumption) ?_
        rotate_left
        · intro w hSw; (try dsimp only at hSw); go_simp; (try (with_reducible rfl))
        try simp only [Act.put, List.setIfInBounds_toArray, List.set_cons_zero, List.set_cons_succ]
        refine wpAnyH_take (i := 2) (oi := ⟨_, _, _, _, _, _⟩) (v := ?_) rfl (by kernel_rfl) (by kernel_rfl) (by kernel_rfl) (fun _ _ _ h => h) (Or.inl ⟨by rfl, ?_⟩) (by assumption) ?_
        rotate_left
        · intro w hSw; (try dsimp only at hSw); go_simp; (try (with_reducible rfl))
        try simp only [Act.put, List.setIfInBounds_toArray, List.set_cons_zero, List.set_cons_succ]
        have d3 := (Below.refl w3.heap.size w3).drew
        replace pc := pc.below d3
        replace pr := pr.below d3
        replace pz := pz.below d3
        replace bw := below2 bw d3
        clear q0 q1 q2 q3 p1 d3
        generalize w3.drew = w4 at *
        have z0 := pz.cell 0
        have z1 := pz.cell 1
        have z2 := pz.cell 2
        have z3 := pz.cell 3
        have f0 := pz.frozen 0
        have f1 := pz.frozen 1
        have f2 := pz.frozen 2
        have f3 := pz.frozen 3
        have ks := (((pz.set_ 0 (.int .i64 v)).set_ 1 (.int .i64 h)).set_ 2 (.int .i64 e)).set_ 3 (.int .i64 a)
        simp only [List.getElem?_cons_zero, List.getElem?_cons_succ, List.set_cons_zero, List.set_cons_succ] at z0 z1 z2 z3 ks
        have gs := sets4 w4 (w.heap.size + 1 + 1) (.int .i64 v) (.int .i64 h) (.int .i64 e) (.int .i64 a)
        have bwS := bw.trans (below_grown bw.size (far13 (by omega)) gs)
        have pcS := pc.grown gs (by intro e; injection e with e; omega)
        have prS := pr.grown gs (by intro e; injection e with e; omega)
        have r0 := ks.cell 0
        have r1 := ks.cell 1
        have r2 := ks.cell 2
        have r3 := ks.cell 3
        simp only [List.getElem?_cons_zero, List.getElem?_cons_succ] at r0 r1 r2 r3
        clear ks gs bw pc pz pr
        refine wpAnyH_ready (rs := [3]) (by kernel_rfl) (by simp) ?_
        refine AllReadyH.cons (o := ⟨_, _, _, _, _, _⟩) rfl (fun K hK => ?_) AllReadyH.nil
        go_simp
        refine hK.out _ _ ⟨pcS.cell 0, pcS.cell 1, pcS.cell 2, pcS.cell 3, prS.cell 1⟩ (fun hHeld => ?_)
        clear hK K
        try simp only [Act.put, List.setIfInBounds_toArray, List.set_cons_zero, List.set_cons_succ]
        refine wpAnyH_ready (rs := [4]) (by kernel_rfl) (by simp) ?_
        refine AllReadyH.cons (o := ⟨_, _, _, _, _, _⟩) rfl (fun K hK => ?_) AllReadyH.nil
        go_simp
        refine hK.out _ _ hHeld (fun hHeld => ?_)
        clear hK K
        try simp only [Act.put, List.setIfInBounds_toArray, List.set_cons_zero, List.set_cons_succ]
        refine wpAnyH_done (by kernel_rfl) ?_ _
        clear pcS prS hHeld
        go_wp2
        refine bodyPost_ret (v := .tuple #[.agg #[.int .i64 v, .int .i64 h, .int .i64 e, .int .i64 a], .int .i64 9]) (by simp [results, Tryd.results11, go_sem, r0, r1, r2, r3]) rfl ?_
        exact ⟨by rw [HC.out, HN.out], bwS⟩
      · have HJ2 := hid (rules_next HJ.out hq)
        clear hq
        go_wp2
        go_roundw
        case rel => exact ⟨2, by omega, by go_num, HJ2, R, pc, pm, pz, bw⟩
        case measure => simp [intOf]
    by_cases h2 : j = 2
    · subst h2
      have hlt2 : v < 9223372036854775807 := by have := rules_lt HJ.out (by omega); simp only at this; omega
      have x0 := R.row.cell 4
      have x1 := R.row.cell 5
      simp only [List.getElem?_cons_zero, List.getElem?_cons_succ] at x0 x1
      have b2 := hal wr (.cells #[.func (.func 31) #[] #[.pointer (some ⟨gc, 0, none⟩)], .int .i64 10] 51)
      have pr := Blk.new wr [.func (.func 31) #[] #[.pointer (some ⟨gc, 0, none⟩)], .int .i64 10] 51
      have cc := rule3_any (⟨a1, a2, a3, a4, a5, a6, a7, ps⟩ : Man) A c (R.below b2).cur hcv hlt2
      go_wp2_with fail
      refine cc.mono ?_
      rintro _ w3 ⟨rfl, b3⟩
      simp only
      replace pr := pr.below b3
      have bb := below2 b2 b3
      replace R := R.below bb
      replace pc := pc.below bb
      replace pm := pm.below bb
      replace pz := pz.below bb
      replace bw := bw.trans (bb.mono bw.size)
      have hgr : w.heap.size + 1 + 1 < wr.heap.size := lz
      clear cc b2 b3 bb x0 x1 q0 q1 q2 q3 m0 m1 m2 m3 m4 m5 m6 m7 lc lm lz lg hm hor
      generalize wr.heap.size = gr at *
      cases hq : (decide (a2 ≤ v + 1))
      · have HN : Hid (AN = 10) := hid (by rw [← HAN.out]; exact rules_err (j := 2) HJ.out hq (by omega))
        have HC : Hid (AC = (⟨v, h, e, a⟩ : Cur)) := hid (HACC.out _ HN.out (by decide))
        clear hq R pm HJ
        have q0 := pc.cell 0
        have q1 := pc.cell 1
        have q2 := pc.cell 2
        have q3 := pc.cell 3
        have p1 := pr.cell 1
        simp only [List.getElem?_cons_zero, List.getElem?_cons_succ] at q0 q1 q2 q3 p1
        go_wp2_with fail
        refine wp_region_held_drew (S := fun w' => w'.cell? ⟨w.heap.size, 0, none⟩ = some (.int .i64 v) ∧ w'.cell? ⟨w.heap.size, 1, none⟩ = some (.int .i64 h) ∧ w'.cell? ⟨w.heap.size, 2, none⟩ = some (.int .i64 e) ∧ w'.cell? ⟨w.heap.size, 3, none⟩ = some (.int .i64 a) ∧ w'.cell? ⟨gr, 1, none⟩ = some (.int .i64 10)) (by kernel_rfl) ⟨q0, q1, q2, q3, p1⟩ (fun hHeld => ?_)
        refine wpAnyH_take (i := 0) (oi := ⟨_, _, _, _, _, _⟩) (v := ?_) rfl (by kernel_rfl) (by kernel_rfl) (by kernel_rfl) (fun _ _ _ h => h) (Or.inl ⟨by rfl, ?_⟩) (by assumption) ?_
        rotate_left
        · intro w hSw; (try dsimp only at hSw); go_simp; (try (with_reducible rfl))
        try simp only [Act.put, List.setIfInBounds_toArray, List.set_cons_zero, List.set_cons_succ]
        refine wpAnyH_take (i := 1) (oi := ⟨_, _, _, _, _, _⟩) (v := ?_) rfl (by kernel_rfl) (by kernel_rfl) (by kernel_rfl) (fun _ _ _ h => h) (Or.inl ⟨by rfl, ?_⟩) (by assumption) ?_
        rotate_left
        · intro w hSw; (try dsimp only at hSw); go_simp; (try (with_reducible rfl))
        try simp only [Act.put, List.setIfInBounds_toArray, List.set_cons_zero, List.set_cons_succ]
        refine wpAnyH_take (i := 2) (oi := ⟨_, _, _, _, _, _⟩) (v := ?_) rfl (by kernel_rfl) (by kernel_rfl) (by kernel_rfl) (fun _ _ _ h => h) (Or.inl ⟨by rfl, ?_⟩) (by assumption) ?_
        rotate_left
        · intro w hSw; (try dsimp only at hSw); go_simp; (try (with_reducible rfl))
        try simp only [Act.put, List.setIfInBounds_toArray, List.set_cons_zero, List.set_cons_succ]
        have d3 := (Below.refl w3.heap.size w3).drew
        replace pc := pc.below d3
        replace pr := pr.below d3
        replace pz := pz.below d3
        replace bw := below2 bw d3
        clear q0 q1 q2 q3 p1 d3
        generalize w3.drew = w4 at *
        have z0 := pz.cell 0
        have z1 := pz.cell 1
        have z2 := pz.cell 2
        have z3 := pz.cell 3
        have f0 := pz.frozen 0
        have f1 := pz.frozen 1
        have f2 := pz.frozen 2
        have f3 := pz.frozen 3
        have ks := (((pz.set_ 0 (.int .i64 v)).set_ 1 (.int .i64 h)).set_ 2 (.int .i64 e)).set_ 3 (.int .i64 a)
        simp only [List.getElem?_cons_zero, List.getElem?_cons_succ, List.set_cons_zero, List.set_cons_succ] at z0 z1 z2 z3 ks
        have gs := sets4 w4 (w.heap.size + 1 + 1) (.int .i64 v) (.int .i64 h) (.int .i64 e) (.int .i64 a)
        have bwS := bw.trans (below_grown bw.size (far13 (by omega)) gs)
        have pcS := pc.grown gs (by intro e; injection e with e; omega)
        have prS := pr.grown gs (by intro e; injection e with e; omega)
        have r0 := ks.cell 0
        have r1 := ks.cell 1
        have r2 := ks.cell 2
        have r3 := ks.cell 3
        simp only [List.getElem?_cons_zero, List.getElem?_cons_succ] at r0 r1 r2 r3
        clear ks gs bw pc pz pr
        refine wpAnyH_ready (rs := [3]) (by kernel_rfl) (by simp) ?_
        refine AllReadyH.cons (o := ⟨_, _, _, _, _, _⟩) rfl (fun K hK => ?_) AllReadyH.nil
        go_simp
        refine hK.out _ _ ⟨pcS.cell 0, pcS.cell 1, pcS.cell 2, pcS.cell 3, prS.cell 1⟩ (fun hHeld => ?_)
        clear hK K
        try simp only [Act.put, List.setIfInBounds_toArray, List.set_cons_zero, List.set_cons_succ]
        refine wpAnyH_ready (rs := [4]) (by kernel_rfl) (by simp) ?_
        refine AllReadyH.cons (o := ⟨_, _, _, _, _, _⟩) rfl (fun K hK => ?_) AllReadyH.nil
        go_simp
        refine hK.out _ _ hHeld (fun hHeld => ?_)
        clear hK K
        try simp only [Act.put, List.setIfInBounds_toArray, List.set_cons_zero, List.set_cons_succ]
        refine wpAnyH_done (by kernel_rfl) ?_ _
        clear pcS prS hHeld
        go_wp2
        refine bodyPost_ret (v := .tuple #[.agg #[.int .i64 v, .int .i64 h, .int .i64 e, .int .i64 a], .int .i64 10]) (by simp [results, Tryd.results11, go_sem, r0, r1, r2, r3]) rfl ?_
        exact ⟨by rw [HC.out, HN.out], bwS⟩
      · have HJ2 := hid (rules_next HJ.out hq)
        clear hq
        go_wp2
        go_roundw
        case rel => exact ⟨3, by omega, by go_num, HJ2, R, pc, pm, pz, bw⟩
        case measure => simp [intOf]
    by_cases h3 : j = 3
    · subst h3
      have x0 := R.row.cell 6
      have x1 := R.row.cell 7
      simp only [List.getElem?_cons_zero, List.getElem?_cons_succ] at x0 x1
      have b2 := hal wr (.cells #[.func (.func 32) #[] #[.pointer (some ⟨gc, 0, none⟩)], .int .i64 11] 51)
      have pr := Blk.new wr [.func (.func 32) #[] #[.pointer (some ⟨gc, 0, none⟩)], .int .i64 11] 51
      have cc := rule4_any (⟨a1, a2, a3, a4, a5, a6, a7, ps⟩ : Man) A c (R.below b2).cur
      go_wp2_with fail
      refine cc.mono ?_
      rintro _ w3 ⟨rfl, b3⟩
      simp only
      replace pr := pr.below b3
      have bb := below2 b2 b3
      replace R := R.below bb
      replace pc := pc.below bb
      replace pm := pm.below bb
      replace pz := pz.below bb
      replace bw := bw.trans (bb.mono bw.size)
      have hgr : w.heap.size + 1 + 1 < wr.heap.size := lz
      clear cc b2 b3 bb x0 x1 q0 q1 q2 q3 m0 m1 m2 m3 m4 m5 m6 m7 lc lm lz lg hm hor
      generalize wr.heap.size = gr at *
      cases hq : (decide (a3 = h))
      · have HN : Hid (AN = 11) := hid (by rw [← HAN.out]; exact rules_err (j := 3) HJ.out hq (by omega))
        have HC : Hid (AC = (⟨v, h, e, a⟩ : Cur)) := hid (HACC.out _ HN.out (by decide))
        clear hq R pm HJ
        have q0 := pc.cell 0
        have q1 := pc.cell 1
        have q2 := pc.cell 2
        have q3 := pc.cell 3
        have p1 := pr.cell 1
        simp only [List.getElem?_cons_zero, List.getElem?_cons_succ] at q0 q1 q2 q3 p1
        go_wp2_with fail
        refine wp_region_held_drew (S := fun w' => w'.cell? ⟨w.heap.size, 0, none⟩ = some (.int .i64 v) ∧ w'.cell? ⟨w.heap.size, 1, none⟩ = some (.int .i64 h) ∧ w'.cell? ⟨w.heap.size, 2, none⟩ = some (.int .i64 e) ∧ w'.cell? ⟨w.heap.size, 3, none⟩ = some (.int .i64 a) ∧ w'.cell? ⟨gr, 1, none⟩ = some (.int .i64 11)) (by kernel_rfl) ⟨q0, q1, q2, q3, p1⟩ (fun hHeld => ?_)
        refine wpAnyH_take (i := 0) (oi := ⟨_, _, _, _, _, _⟩) (v := ?_) rfl (by kernel_rfl) (by kernel_rfl) (by kernel_rfl) (fun _ _ _ h => h) (Or.inl ⟨by rfl, ?_⟩) (by assumption) ?_
        rotate_left
        · intro w hSw; (try dsimp only at hSw); go_simp; (try (with_reducible rfl))
        try simp only [Act.put, List.setIfInBounds_toArray, List.set_cons_zero, List.set_cons_succ]
        refine wpAnyH_take (i := 1) (oi := ⟨_, _, _, _, _, _⟩) (v := ?_) rfl (by kernel_rfl) (by kernel_rfl) (by kernel_rfl) (fun _ _ _ h => h) (Or.inl ⟨by rfl, ?_⟩) (by assumption) ?_
        rotate_left
        · intro w hSw; (try dsimp only at hSw); go_simp; (try (with_reducible rfl))
        try simp only [Act.put, List.setIfInBounds_toArray, List.set_cons_zero, List.set_cons_succ]
        refine wpAnyH_take (i := 2) (oi := ⟨_, _, _, _, _, _⟩) (v := ?_) rfl (by kernel_rfl) (by kernel_rfl) (by kernel_rfl) (fun _ _ _ h => h) (Or.inl ⟨by rfl, ?_⟩) (by assumption) ?_
        rotate_left
        · intro w hSw; (try dsimp only at hSw); go_simp; (try (with_reducible rfl))
        try simp only [Act.put, List.setIfInBounds_toArray, List.set_cons_zero, List.set_cons_succ]
        have d3 := (Below.refl w3.heap.size w3).drew
        replace pc := pc.below d3
        replace pr := pr.below d3
        replace pz := pz.below d3
        replace bw := below2 bw d3
        clear q0 q1 q2 q3 p1 d3
        generalize w3.drew = w4 at *
        have z0 := pz.cell 0
        have z1 := pz.cell 1
        have z2 := pz.cell 2
        have z3 := pz.cell 3
        have f0 := pz.frozen 0
        have f1 := pz.frozen 1
        have f2 := pz.frozen 2
        have f3 := pz.frozen 3
        have ks := (((pz.set_ 0 (.int .i64 v)).set_ 1 (.int .i64 h)).set_ 2 (.int .i64 e)).set_ 3 (.int .i64 a)
        simp only [List.getElem?_cons_zero, List.getElem?_cons_succ, List.set_cons_zero, List.set_cons_succ] at z0 z1 z2 z3 ks
        have gs := sets4 w4 (w.heap.size + 1 + 1) (.int .i64 v) (.int .i64 h) (.int .i64 e) (.int .i64 a)
        have bwS := bw.trans (below_grown bw.size (far13 (by omega)) gs)
        have pcS := pc.grown gs (by intro e; injection e with e; omega)
        have prS := pr.grown gs (by intro e; injection e with e; omega)
        have r0 := ks.cell 0
        have r1 := ks.cell 1
        have r2 := ks.cell 2
        have r3 := ks.cell 3
        simp only [List.getElem?_cons_zero, List.getElem?_cons_succ] at r0 r1 r2 r3
        clear ks gs bw pc pz pr
        refine wpAnyH_ready (rs := [3]) (by kernel_rfl) (by simp) ?_
        refine AllReadyH.cons (o := ⟨_, _, _, _, _, _⟩) rfl (fun K hK => ?_) AllReadyH.nil
        go_simp
        refine hK.out _ _ ⟨pcS.cell 0, pcS.cell 1, pcS.cell 2, pcS.cell 3, prS.cell 1⟩ (fun hHeld => ?_)
        clear hK K
        try simp only [Act.put, List.setIfInBounds_toArray, List.set_cons_zero, List.set_cons_succ]
        refine wpAnyH_ready (rs := [4]) (by kernel_rfl) (by simp) ?_
        refine AllReadyH.cons (o := ⟨_, _, _, _, _, _⟩) rfl (fun K hK => ?_) AllReadyH.nil
        go_simp
        refine hK.out _ _ hHeld (fun hHeld => ?_)
        clear hK K
        try simp only [Act.put, List.setIfInBounds_toArray, List.set_cons_zero, List.set_cons_succ]
        refine wpAnyH_done (by kernel_rfl) ?_ _
        clear pcS prS hHeld
        go_wp2
        refine bodyPost_ret (v := .tuple #[.agg #[.int .i64 v, .int .i64 h, .int .i64 e, .int .i64 a], .int .i64 11]) (by simp [results, Tryd.results11, go_sem, r0, r1, r2, r3]) rfl ?_
        exact ⟨by rw [HC.out, HN.out], bwS⟩
      · have HJ2 := hid (rules_next HJ.out hq)
        clear hq
        go_wp2
        go_roundw
        case rel => exact ⟨4, by omega, by go_num, HJ2, R, pc, pm, pz, bw⟩
        case measure => simp [intOf]
    by_cases h4 : j = 4
    · subst h4
      have x0 := R.row.cell 8
      have x1 := R.row.cell 9
      simp only [List.getElem?_cons_zero, List.getElem?_cons_succ] at x0 x1
      have b2 := hal wr (.cells #[.func (.func 33) #[] #[.pointer (some ⟨gc, 0, none⟩)], .int .i64 12] 51)
      have pr := Blk.new wr [.func (.func 33) #[] #[.pointer (some ⟨gc, 0, none⟩)], .int .i64 12] 51
      have cc := rule5_any (⟨a1, a2, a3, a4, a5, a6, a7, ps⟩ : Man) A c (R.below b2).cur
      go_wp2_with fail
      refine cc.mono ?_
      rintro _ w3 ⟨rfl, b3⟩
      simp only
      replace pr := pr.below b3
      have bb := below2 b2 b3
      replace R := R.below bb
      replace pc := pc.below bb
      replace pm := pm.below bb
      replace pz := pz.below bb
      replace bw := bw.trans (bb.mono bw.size)
      have hgr : w.heap.size + 1 + 1 < wr.heap.size := lz
      clear cc b2 b3 bb x0 x1 q0 q1 q2 q3 m0 m1 m2 m3 m4 m5 m6 m7 lc lm lz lg hm hor
      generalize wr.heap.size = gr at *
      cases hq : (decide (a4 = e))
      · have HN : Hid (AN = 12) := hid (by rw [← HAN.out]; exact rules_err (j := 4) HJ.out hq (by omega))
        have HC : Hid (AC = (⟨v, h, e, a⟩ : Cur)) := hid (HACC.out _ HN.out (by decide))
        clear hq R pm HJ
        have q0 := pc.cell 0
        have q1 := pc.cell 1
        have q2 := pc.cell 2
        have q3 := pc.cell 3
        have p1 := pr.cell 1
        simp only [List.getElem?_cons_zero, List.getElem?_cons_succ] at q0 q1 q2 q3 p1
        go_wp2_with fail
        refine wp_region_held_drew (S := fun w' => w'.cell? ⟨w.heap.size, 0, none⟩ = some (.int .i64 v) ∧ w'.cell? ⟨w.heap.size, 1, none⟩ = some (.int .i64 h) ∧ w'.cell? ⟨w.heap.size, 2, none⟩ = some (.int .i64 e) ∧ w'.cell? ⟨w.heap.size, 3, none⟩ = some (.int .i64 a) ∧ w'.cell? ⟨gr, 1, none⟩ = some (.int .i64 12)) (by kernel_rfl) ⟨q0, q1, q2, q3, p1⟩ (fun hHeld => ?_)
        refine wpAnyH_take (i := 0) (oi := ⟨_, _, _, _, _, _⟩) (v := ?_) rfl (by kernel_rfl) (by kernel_rfl) (by kernel_rfl) (fun _ _ _ h => h) (Or.inl ⟨by rfl, ?_⟩) (by assumption) ?_
        rotate_left
        · intro w hSw; (try dsimp only at hSw); go_simp; (try (with_reducible rfl))
        try simp only [Act.put, List.setIfInBounds_toArray, List.set_cons_zero, List.set_cons_succ]
        refine wpAnyH_take (i := 1) (oi := ⟨_, _, _, _, _, _⟩) (v := ?_) rfl (by kernel_rfl) (by kernel_rfl) (by kernel_rfl) (fun _ _ _ h => h) (Or.inl ⟨by rfl, ?_⟩) (by assumption) ?_
        rotate_left
        · intro w hSw; (try dsimp only at hSw); go_simp; (try (with_reducible rfl))
        try simp only [Act.put, List.setIfInBounds_toArray, List.set_cons_zero, List.set_cons_succ]
        refine wpAnyH_take (i := 2) (oi := ⟨_, _, _, _, _, _⟩) (v := ?_) rfl (by kernel_rfl) (by kernel_rfl) (by kernel_rfl) (fun _ _ _ h => h) (Or.inl ⟨by rfl, ?_⟩) (by assumption) ?_
        rotate_left
        · intro w hSw; (try dsimp only at hSw); go_simp; (try (with_reducible rfl))
        try simp only [Act.put, List.setIfInBounds_toArray, List.set_cons_zero, List.set_cons_succ]
        have d3 := (Below.refl w3.heap.size w3).drew
        replace pc := pc.below d3
        replace pr := pr.below d3
        replace pz := pz.below d3
        replace bw := below2 bw d3
        clear q0 q1 q2 q3 p1 d3
        generalize w3.drew = w4 at *
        have z0 := pz.cell 0
        have z1 := pz.cell 1
        have z2 := pz.cell 2
        have z3 := pz.cell 3
        have f0 := pz.frozen 0
        have f1 := pz.frozen 1
        have f2 := pz.frozen 2
        have f3 := pz.frozen 3
        have ks := (((pz.set_ 0 (.int .i64 v)).set_ 1 (.int .i64 h)).set_ 2 (.int .i64 e)).set_ 3 (.int .i64 a)
        simp only [List.getElem?_cons_zero, List.getElem?_cons_succ, List.set_cons_zero, List.set_cons_succ] at z0 z1 z2 z3 ks
        have gs := sets4 w4 (w.heap.size + 1 + 1) (.int .i64 v) (.int .i64 h) (.int .i64 e) (.int .i64 a)
        have bwS := bw.trans (below_grown bw.size (far13 (by omega)) gs)
        have pcS := pc.grown gs (by intro e; injection e with e; omega)
        have prS := pr.grown gs (by intro e; injection e with e; omega)
        have r0 := ks.cell 0
        have r1 := ks.cell 1
        have r2 := ks.cell 2
        have r3 := ks.cell 3
        simp only [List.getElem?_cons_zero, List.getElem?_cons_succ] at r0 r1 r2 r3
        clear ks gs bw pc pz pr
        refine wpAnyH_ready (rs := [3]) (by kernel_rfl) (by simp) ?_
        refine AllReadyH.cons (o := ⟨_, _, _, _, _, _⟩) rfl (fun K hK => ?_) AllReadyH.nil
        go_simp
        refine hK.out _ _ ⟨pcS.cell 0, pcS.cell 1, pcS.cell 2, pcS.cell 3, prS.cell 1⟩ (fun hHeld => ?_)
        clear hK K
        try simp only [Act.put, List.setIfInBounds_toArray, List.set_cons_zero, List.set_cons_succ]
        refine wpAnyH_ready (rs := [4]) (by kernel_rfl) (by simp) ?_
        refine AllReadyH.cons (o := ⟨_, _, _, _, _, _⟩) rfl (fun K hK => ?_) AllReadyH.nil
        go_simp
        refine hK.out _ _ hHeld (fun hHeld => ?_)
        clear hK K
        try simp only [Act.put, List.setIfInBounds_toArray, List.set_cons_zero, List.set_cons_succ]
        refine wpAnyH_done (by kernel_rfl) ?_ _
        clear pcS prS hHeld
        go_wp2
        refine bodyPost_ret (v := .tuple #[.agg #[.int .i64 v, .int .i64 h, .int .i64 e, .int .i64 a], .int .i64 12]) (by simp [results, Tryd.results11, go_sem, r0, r1, r2, r3]) rfl ?_
        exact ⟨by rw [HC.out, HN.out], bwS⟩
      · have HJ2 := hid (rules_next HJ.out hq)
        clear hq
        go_wp2
        go_roundw
        case rel => exact ⟨5, by omega, by go_num, HJ2, R, pc, pm, pz, bw⟩
        case measure => simp [intOf]
    obtain rfl : j = 5 := by omega
    have x0 := R.row.cell 10
    have x1 := R.row.cell 11
    simp only [List.getElem?_cons_zero, List.getElem?_cons_succ] at x0 x1
    have b2 := hal wr (.cells #[.func (.func 34) #[] #[.pointer (some ⟨gc, 0, none⟩), .pointer (some ⟨go, 0, none⟩)], .int .i64 11] 51)
    have pr := Blk.new wr [.func (.func 34) #[] #[.pointer (some ⟨gc, 0, none⟩), .pointer (some ⟨go, 0, none⟩)], .int .i64 11] 51
    have cc := rule6_any (⟨a1, a2, a3, a4, a5, a6, a7, ps⟩ : Man) A c (R.below b2).cur (R.below b2).own hol (hor.below b2) hon
    go_wp2_with fail
    refine cc.mono ?_
    rintro _ w3 ⟨rfl, b3⟩
    simp only
    replace pr := pr.below b3
    have bb := below2 b2 b3
    replace R := R.below bb
    replace pc := pc.below bb
    replace pm := pm.below bb
    replace pz := pz.below bb
    replace bw := bw.trans (bb.mono bw.size)
    have hgr : w.heap.size + 1 + 1 < wr.heap.size := lz
    clear cc b2 b3 bb x0 x1 q0 q1 q2 q3 m0 m1 m2 m3 m4 m5 m6 m7 lc lm lz lg hm hor
    generalize wr.heap.size = gr at *
    cases hq : (decide (a ≤ a6) && decide (a7 = ownD own a6))
    · have HN : Hid (AN = 11) := hid (by rw [← HAN.out]; exact rules_err (j := 5) HJ.out hq (by omega))
      have HC : Hid (AC = (⟨v, h, e, a⟩ : Cur)) := hid (HACC.out _ HN.out (by decide))
      clear hq R pm HJ
      have q0 := pc.cell 0
      have q1 := pc.cell 1
      have q2 := pc.cell 2
      have q3 := pc.cell 3
      have p1 := pr.cell 1
      simp only [List.getElem?_cons_zero, List.getElem?_cons_succ] at q0 q1 q2 q3 p1
      go_wp2_with fail
      refine wp_region_held_drew (S := fun w' => w'.cell? ⟨w.heap.size, 0, none⟩ = some (.int .i64 v) ∧ w'.cell? ⟨w.heap.size, 1, none⟩ = some (.int .i64 h) ∧ w'.cell? ⟨w.heap.size, 2, none⟩ = some (.int .i64 e) ∧ w'.cell? ⟨w.heap.size, 3, none⟩ = some (.int .i64 a) ∧ w'.cell? ⟨gr, 1, none⟩ = some (.int .i64 11)) (by kernel_rfl) ⟨q0, q1, q2, q3, p1⟩ (fun hHeld => ?_)
      refine wpAnyH_take (i := 0) (oi := ⟨_, _, _, _, _, _⟩) (v := ?_) rfl (by kernel_rfl) (by kernel_rfl) (by kernel_rfl) (fun _ _ _ h => h) (Or.inl ⟨by rfl, ?_⟩) (by assumption) ?_
      rotate_left
      · intro w hSw; (try dsimp only at hSw); go_simp; (try (with_reducible rfl))
      try simp only [Act.put, List.setIfInBounds_toArray, List.set_cons_zero, List.set_cons_succ]
      refine wpAnyH_take (i := 1) (oi := ⟨_, _, _, _, _, _⟩) (v := ?_) rfl (by kernel_rfl) (by kernel_rfl) (by kernel_rfl) (fun _ _ _ h => h) (Or.inl ⟨by rfl, ?_⟩) (by assumption) ?_
      rotate_left
      · intro w hSw; (try dsimp only at hSw); go_simp; (try (with_reducible rfl))
      try simp only [Act.put, List.setIfInBounds_toArray, List.set_cons_zero, List.set_cons_succ]
      refine wpAnyH_take (i := 2) (oi := ⟨_, _, _, _, _, _⟩) (v := ?_) rfl (by kernel_rfl) (by kernel_rfl) (by kernel_rfl) (fun _ _ _ h => h) (Or.inl ⟨by rfl, ?_⟩) (by assumption) ?_
      rotate_left
      · intro w hSw; (try dsimp only at hSw); go_simp; (try (with_reducible rfl))
      try simp only [Act.put, List.setIfInBounds_toArray, List.set_cons_zero, List.set_cons_succ]
      have d3 := (Below.refl w3.heap.size w3).drew
      replace pc := pc.below d3
      replace pr := pr.below d3
      replace pz := pz.below d3
      replace bw := below2 bw d3
      clear q0 q1 q2 q3 p1 d3
      generalize w3.drew = w4 at *
      have z0 := pz.cell 0
      have z1 := pz.cell 1
      have z2 := pz.cell 2
      have z3 := pz.cell 3
      have f0 := pz.frozen 0
      have f1 := pz.frozen 1
      have f2 := pz.frozen 2
      have f3 := pz.frozen 3
      have ks := (((pz.set_ 0 (.int .i64 v)).set_ 1 (.int .i64 h)).set_ 2 (.int .i64 e)).set_ 3 (.int .i64 a)
      simp only [List.getElem?_cons_zero, List.getElem?_cons_succ, List.set_cons_zero, List.set_cons_succ] at z0 z1 z2 z3 ks
      have gs := sets4 w4 (w.heap.size + 1 + 1) (.int .i64 v) (.int .i64 h) (.int .i64 e) (.int .i64 a)
      have bwS := bw.trans (below_grown bw.size (far13 (by omega)) gs)
      have pcS := pc.grown gs (by intro e; injection e with e; omega)
      have prS := pr.grown gs (by intro e; injection e with e; omega)
      have r0 := ks.cell 0
      have r1 := ks.cell 1
      have r2 := ks.cell 2
      have r3 := ks.cell 3
      simp only [List.getElem?_cons_zero, List.getElem?_cons_succ] at r0 r1 r2 r3
      clear ks gs bw pc pz pr
      refine wpAnyH_ready (rs := [3]) (by kernel_rfl) (by simp) ?_
      refine AllReadyH.cons (o := ⟨_, _, _, _, _, _⟩) rfl (fun K hK => ?_) AllReadyH.nil
      go_simp
      refine hK.out _ _ ⟨pcS.cell 0, pcS.cell 1, pcS.cell 2, pcS.cell 3, prS.cell 1⟩ (fun hHeld => ?_)
      clear hK K
      try simp only [Act.put, List.setIfInBounds_toArray, List.set_cons_zero, List.set_cons_succ]
      refine wpAnyH_ready (rs := [4]) (by kernel_rfl) (by simp) ?_
      refine AllReadyH.cons (o := ⟨_, _, _, _, _, _⟩) rfl (fun K hK => ?_) AllReadyH.nil
      go_simp
      refine hK.out _ _ hHeld (fun hHeld => ?_)
      clear hK K
      try simp only [Act.put, List.setIfInBounds_toArray, List.set_cons_zero, List.set_cons_succ]
      refine wpAnyH_done (by kernel_rfl) ?_ _
      clear pcS prS hHeld
      go_wp2
      refine bodyPost_ret (v := .tuple #[.agg #[.int .i64 v, .int .i64 h, .int .i64 e, .int .i64 a], .int .i64 11]) (by simp [results, Tryd.results11, go_sem, r0, r1, r2, r3]) rfl ?_
      exact ⟨by rw [HC.out, HN.out], bwS⟩
    · have HJ2 := hid (rules_next HJ.out hq)
      clear hq
      go_wp2
      go_roundw
      case rel => exact ⟨6, by omega, by go_num, HJ2, R, pc, pm, pz, bw⟩
      case measure => simp [intOf]
end Go.Proofs.YteimgnmjmpeobaaDoor
namespace Go.Proofs.YteimgnmjmpeobaaDoor
open Go.RowKit

/-- What Next answers. -/
def NextPost (w : World) (u : Cur) (au : Int) (t : Bool) (p : Cur) (ps : List Pce) (e : Ending) (w' : World) : Prop :=
  ∃ A c, e = .returned (.tuple #[manV (nextA u au t p ps) A c, .int .i64 (nextN u au t p ps)]) ∧ Mt w' A c (nextA u au t p ps) ∧ Below w.heap.size w w' ∧
    Hid (nextN u au t p ps = 0 → ∃ g xs, A = some ⟨g, 0, none⟩ ∧ c = ps.length ∧ pcesOf xs = ps ∧ Blk w' g (pwV xs) 57 ∧ (∀ x ∈ xs, OwnC w.heap.size w' x) ∧ Apart xs ∧ w.heap.size ≤ g)
theorem next_zero {w w' : World} {u p : Cur} {au n : Int} {t : Bool} {ps : List Pce} (hn : nextN u au t p ps = n) (h0 : n ≠ 0) (hb : Below w.heap.size w w') : NextPost w u au t p ps (.returned (.tuple #[.agg #[.int .i64 0, .int .i64 0, .int .i64 0, .int .i64 0, .int .i64 0, .int .i64 0, .int .i64 0, .slice none 0 0], .int .i64 n])) w' := by
  obtain ⟨-, e⟩ := next_no (c := u) (p := p) (au := au) (t := t) (ps := ps) (by rw [hn]; exact h0)
  unfold NextPost
  rw [e, hn]
  exact ⟨none, 0, rfl, ⟨.inl rfl, Nat.le_refl _, by unfold maxLen; omega⟩, hb, hid fun h => absurd h h0⟩
theorem sets8' (w : World) (b : Nat) (u0 u1 u2 u3 u4 u5 u6 u7 : Value) :
    w.grownBy ((((((((w.setCell ⟨b, 0, none⟩ u0).setCell ⟨b, 1, none⟩ u1).setCell ⟨b, 2, none⟩ u2).setCell ⟨b, 3, none⟩ u3).setCell ⟨b, 4, none⟩ u4).setCell ⟨b, 5, none⟩ u5).setCell ⟨b, 6, none⟩ u6).setCell ⟨b, 7, none⟩ u7) (some b) :=
  grown_trans (grown_trans (grown_trans (grown_trans (grown_trans (grown_trans (grown_trans (grown_set 0 u0) (grown_set 1 u1)) (grown_set 2 u2)) (grown_set 3 u3)) (grown_set 4 u4)) (grown_set 5 u5)) (grown_set 6 u6)) (grown_set 7 u7)
theorem right_sizes {m : Man} (h : RightM m) : m.pieces.length ≤ 1000 ∧ ∀ p ∈ m.pieces, p.path.size ≤ 100000 ∧ p.chunks.length ≤ 1000 := by
  refine ⟨by have := h.few; omega, fun p hp => ?_⟩
  have hr := h.all p hp
  have h1 := right_len hr.path
  have h2 := hr.cl
  have h3 := hr.s1
  have h4 := hr.s0
  unfold cnt at h2
  exact ⟨by have e : (ppth p).length = p.path.size := size_list p.path; omega, by omega⟩
set_option maxHeartbeats 8000000 in
set_option maxRecDepth 20000 in
theorem next_any {w : World} {A : Option Addr} {n c : Nat} {ps : List Pce} (u : Cur) (au : Int) (t : Bool) (p : Cur) (hp : PcsAt w A ps) (hn : ps.length = n) (hnc : n ≤ c) (hc : c ≤ maxLen) (hs : ∀ x ∈ ps, x.path.size < 4294967281) (hcv : -9223372036854775808 ≤ u.v) (hce : -9223372036854775808 ≤ u.e) :
    Calls Tryd.prog 16 #[curV u, .int .i64 au, .bool t, curV p, .slice A n c] w (NextPost w u au t p ps) := by
  have hal : ∀ (W : World) (o : Obj), Below W.heap.size W (W.alloc o) := fun W o => (Below.refl _ _).alloc (Nat.le_refl _) o
  subst hn
  obtain ⟨v, h, e, a⟩ := u
  obtain ⟨v2, h2, e2, a2⟩ := p
  dsimp only at hcv hce
  have b1 := hal w (.cells #[.int .i64 v, .int .i64 h, .int .i64 e, .int .i64 a] 23)
  have b2 := hal (w.alloc (.cells #[.int .i64 v, .int .i64 h, .int .i64 e, .int .i64 a] 23)) (.cells #[.int .i64 v2, .int .i64 h2, .int .i64 e2, .int .i64 a2] 23)
  have b3 := hal ((w.alloc (.cells #[.int .i64 v, .int .i64 h, .int .i64 e, .int .i64 a] 23)).alloc (.cells #[.int .i64 v2, .int .i64 h2, .int .i64 e2, .int .i64 a2] 23)) (.cells #[.int .i64 0, .int .i64 0, .int .i64 0, .int .i64 0, .int .i64 0, .int .i64 0, .int .i64 0, .slice none 0 0] 26)
  have pz := Blk.new ((w.alloc (.cells #[.int .i64 v, .int .i64 h, .int .i64 e, .int .i64 a] 23)).alloc (.cells #[.int .i64 v2, .int .i64 h2, .int .i64 e2, .int .i64 a2] 23)) [.int .i64 0, .int .i64 0, .int .i64 0, .int .i64 0, .int .i64 0, .int .i64 0, .int .i64 0, .slice none 0 0] 26
  simp only [World.size_alloc] at pz
  have bw := below2 (below2 b1 b2) b3
  cases t
  · by_cases hfull : 200 ≤ v ∨ 100 < e
    · have HN : Hid (nextN (⟨v, h, e, a⟩ : Cur) au false (⟨v2, h2, e2, a2⟩ : Cur) ps = 2) := hid (next_two (by simpa [bitI] using hfull)).1
      by_cases h200 : 200 ≤ v
      · go_enter Tryd.func16, Tryd.ntmps16
        go_wp2
        go_returns
        exact next_zero HN.out (by decide) bw
      · have hlim : 100 < e := by omega
        go_enter Tryd.func16, Tryd.ntmps16
        go_wp2
        go_returns
        exact next_zero HN.out (by decide) bw
    · have h200 : v < 200 := by omega
      have hlim : e ≤ 100 := by omega
      have HFU := hid (show ¬ (200 ≤ ((⟨v, h, e, a⟩ : Cur)).v ∨ 100 - bitI false < ((⟨v, h, e, a⟩ : Cur)).e) by simpa [bitI] using hfull)
      have b4 := hal (((w.alloc (.cells #[.int .i64 v, .int .i64 h, .int .i64 e, .int .i64 a] 23)).alloc (.cells #[.int .i64 v2, .int .i64 h2, .int .i64 e2, .int .i64 a2] 23)).alloc (.cells #[.int .i64 0, .int .i64 0, .int .i64 0, .int .i64 0, .int .i64 0, .int .i64 0, .int .i64 0, .slice none 0 0] 26)) (.cells #[.int .i64 au, .int .i64 (v + 1), .int .i64 h, .int .i64 e, .int .i64 e, .int .i64 v2, .int .i64 h2, .slice A ps.length c] 26)
      have pm := Blk.new (((w.alloc (.cells #[.int .i64 v, .int .i64 h, .int .i64 e, .int .i64 a] 23)).alloc (.cells #[.int .i64 v2, .int .i64 h2, .int .i64 e2, .int .i64 a2] 23)).alloc (.cells #[.int .i64 0, .int .i64 0, .int .i64 0, .int .i64 0, .int .i64 0, .int .i64 0, .int .i64 0, .slice none 0 0] 26)) [.int .i64 au, .int .i64 (v + 1), .int .i64 h, .int .i64 e, .int .i64 e, .int .i64 v2, .int .i64 h2, .slice A ps.length c] 26
      simp only [World.size_alloc] at pm
      have hw4 : Below w.heap.size w ((((w.alloc (.cells #[.int .i64 v, .int .i64 h, .int .i64 e, .int .i64 a] 23)).alloc (.cells #[.int .i64 v2, .int .i64 h2, .int .i64 e2, .int .i64 a2] 23)).alloc (.cells #[.int .i64 0, .int .i64 0, .int .i64 0, .int .i64 0, .int .i64 0, .int .i64 0, .int .i64 0, .slice none 0 0] 26)).alloc (.cells #[.int .i64 au, .int .i64 (v + 1), .int .i64 h, .int .i64 e, .int .i64 e, .int .i64 v2, .int .i64 h2, .slice A ps.length c] 26)) := below2 bw (hal (((w.alloc (.cells #[.int .i64 v, .int .i64 h, .int .i64 e, .int .i64 a] 23)).alloc (.cells #[.int .i64 v2, .int .i64 h2, .int .i64 e2, .int .i64 a2] 23)).alloc (.cells #[.int .i64 0, .int .i64 0, .int .i64 0, .int .i64 0, .int .i64 0, .int .i64 0, .int .i64 0, .slice none 0 0] 26)) (.cells #[.int .i64 au, .int .i64 (v + 1), .int .i64 h, .int .i64 e, .int .i64 e, .int .i64 v2, .int .i64 h2, .slice A ps.length c] 26))
      have pz4 := pz.below (hal (((w.alloc (.cells #[.int .i64 v, .int .i64 h, .int .i64 e, .int .i64 a] 23)).alloc (.cells #[.int .i64 v2, .int .i64 h2, .int .i64 e2, .int .i64 a2] 23)).alloc (.cells #[.int .i64 0, .int .i64 0, .int .i64 0, .int .i64 0, .int .i64 0, .int .i64 0, .int .i64 0, .slice none 0 0] 26)) (.cells #[.int .i64 au, .int .i64 (v + 1), .int .i64 h, .int .i64 e, .int .i64 e, .int .i64 v2, .int .i64 h2, .slice A ps.length c] 26))
      have hm4 : Mt ((((w.alloc (.cells #[.int .i64 v, .int .i64 h, .int .i64 e, .int .i64 a] 23)).alloc (.cells #[.int .i64 v2, .int .i64 h2, .int .i64 e2, .int .i64 a2] 23)).alloc (.cells #[.int .i64 0, .int .i64 0, .int .i64 0, .int .i64 0, .int .i64 0, .int .i64 0, .int .i64 0, .slice none 0 0] 26)).alloc (.cells #[.int .i64 au, .int .i64 (v + 1), .int .i64 h, .int .i64 e, .int .i64 e, .int .i64 v2, .int .i64 h2, .slice A ps.length c] 26)) A c ((⟨au, v + 1, h, e, e, v2, h2, ps⟩ : Man)) := ⟨hp.below hw4, hnc, hc⟩
      have HQX : Hid (nextM (⟨v, h, e, a⟩ : Cur) au false (⟨v2, h2, e2, a2⟩ : Cur) ps = (⟨au, v + 1, h, e, e, v2, h2, ps⟩ : Man)) := hid (by simp [nextM, bitI])
      have cc := right12_any hm4 hs
      go_enter Tryd.func16, Tryd.ntmps16
      go_wp2_with fail
      refine cc.mono ?_
      clear cc
      generalize (((w.alloc (.cells #[.int .i64 v, .int .i64 h, .int .i64 e, .int .i64 a] 23)).alloc (.cells #[.int .i64 v2, .int .i64 h2, .int .i64 e2, .int .i64 a2] 23)).alloc (.cells #[.int .i64 0, .int .i64 0, .int .i64 0, .int .i64 0, .int .i64 0, .int .i64 0, .int .i64 0, .slice none 0 0] 26)).alloc (.cells #[.int .i64 au, .int .i64 (v + 1), .int .i64 h, .int .i64 e, .int .i64 e, .int .i64 v2, .int .i64 h2, .slice A ps.length c] 26) = w4 at *
      rintro _ w5 ⟨rfl, b5⟩
      simp only
      have hm5 := hm4.below b5
      replace pm := pm.below b5
      have pz5 := pz4.below b5
      have bw5 := below2 hw4 b5
      clear hm4 pz4 hw4 b5 bw pz hp
      have hgz : w.heap.size + 1 + 1 ≠ w.heap.size + 1 + 1 + 1 := by omega
      cases hR : manR ((⟨au, v + 1, h, e, e, v2, h2, ps⟩ : Man))
      · have HN : Hid (nextN (⟨v, h, e, a⟩ : Cur) au false (⟨v2, h2, e2, a2⟩ : Cur) ps = 4) := hid (next_four HFU.out (by rw [HQX.out]; exact hR)).1
        clear hR hm5
        have z0 := pz5.cell 0
        have z1 := pz5.cell 1
        have z2 := pz5.cell 2
        have z3 := pz5.cell 3
        have z4 := pz5.cell 4
        have z5 := pz5.cell 5
        have z6 := pz5.cell 6
        have z7 := pz5.cell 7
        have f0 := pz5.frozen 0
        have f1 := pz5.frozen 1
        have f2 := pz5.frozen 2
        have f3 := pz5.frozen 3
        have f4 := pz5.frozen 4
        have f5 := pz5.frozen 5
        have f6 := pz5.frozen 6
        have f7 := pz5.frozen 7
        have ks := ((((((((pz5.set_ 0 (.int .i64 0)).set_ 1 (.int .i64 0)).set_ 2 (.int .i64 0)).set_ 3 (.int .i64 0)).set_ 4 (.int .i64 0)).set_ 5 (.int .i64 0)).set_ 6 (.int .i64 0)).set_ 7 (.slice none 0 0))
        simp only [List.getElem?_cons_zero, List.getElem?_cons_succ, List.set_cons_zero, List.set_cons_succ] at z0 z1 z2 z3 z4 z5 z6 z7 ks
        have r0 := ks.cell 0
        have r1 := ks.cell 1
        have r2 := ks.cell 2
        have r3 := ks.cell 3
        have r4 := ks.cell 4
        have r5 := ks.cell 5
        have r6 := ks.cell 6
        have r7 := ks.cell 7
        simp only [List.getElem?_cons_zero, List.getElem?_cons_succ] at r0 r1 r2 r3 r4 r5 r6 r7
        have gs := sets8' w5 (w.heap.size + 1 + 1) (.int .i64 0) (.int .i64 0) (.int .i64 0) (.int .i64 0) (.int .i64 0) (.int .i64 0) (.int .i64 0) (.slice none 0 0)
        have bwS := bw5.trans (below_grown bw5.size (far13 (by omega)) gs)
        clear ks gs pz5 bw5 pm b4 b1 b2 b3
        go_wp2
        refine bodyPost_ret (v := .tuple #[.agg #[.int .i64 0, .int .i64 0, .int .i64 0, .int .i64 0, .int .i64 0, .int .i64 0, .int .i64 0, .slice none 0 0], .int .i64 4]) (by simp [results, Tryd.results16, go_sem, r0, r1, r2, r3, r4, r5, r6, r7]) rfl ?_
        exact next_zero HN.out (by decide) bwS
      · have HN := hid (next_yes HFU.out (by rw [HQX.out]; exact hR))
        have hsz := right_sizes ((manR_iff _).1 hR)
        clear hR b4 b1 b2 b3
        have q0 := pm.cell 0
        have q1 := pm.cell 1
        have q2 := pm.cell 2
        have q3 := pm.cell 3
        have q4 := pm.cell 4
        have q5 := pm.cell 5
        have q6 := pm.cell 6
        have q7 := pm.cell 7
        simp only [List.getElem?_cons_zero, List.getElem?_cons_succ] at q0 q1 q2 q3 q4 q5 q6 q7
        have cc := copy12_any hm5 hsz.1 hsz.2
        go_wp2_with fail
        refine cc.mono ?_
        clear cc q0 q1 q2 q3 q4 q5 q6 q7
        rintro _ w6 ⟨g, xs, rfl, hxp, pb, oc, ap, hgw, b6⟩
        rw [show manV ((⟨au, v + 1, h, e, e, v2, h2, ps⟩ : Man)) (some ⟨g, 0, none⟩) ((⟨au, v + 1, h, e, e, v2, h2, ps⟩ : Man)).pieces.length = .agg #[.int .i64 au, .int .i64 (v + 1), .int .i64 h, .int .i64 e, .int .i64 e, .int .i64 v2, .int .i64 h2, .slice (some ⟨g, 0, none⟩) ps.length ps.length] from rfl]
        have pz6 := pz5.below b6
        have bw6 := below2 bw5 b6
        have hgs := bw5.size
        have hzl := pz5.lt
        have hgg : w.heap.size + 1 + 1 ≠ g := by omega
        have hgw2 : w.heap.size ≤ g := by omega
        have z0 := pz6.cell 0
        have z1 := pz6.cell 1
        have z2 := pz6.cell 2
        have z3 := pz6.cell 3
        have z4 := pz6.cell 4
        have z5 := pz6.cell 5
        have z6 := pz6.cell 6
        have z7 := pz6.cell 7
        have f0 := pz6.frozen 0
        have f1 := pz6.frozen 1
        have f2 := pz6.frozen 2
        have f3 := pz6.frozen 3
        have f4 := pz6.frozen 4
        have f5 := pz6.frozen 5
        have f6 := pz6.frozen 6
        have f7 := pz6.frozen 7
        have ks := ((((((((pz6.set_ 0 (.int .i64 au)).set_ 1 (.int .i64 (v + 1))).set_ 2 (.int .i64 h)).set_ 3 (.int .i64 e)).set_ 4 (.int .i64 e)).set_ 5 (.int .i64 v2)).set_ 6 (.int .i64 h2)).set_ 7 (.slice (some ⟨g, 0, none⟩) ps.length ps.length))
        simp only [List.getElem?_cons_zero, List.getElem?_cons_succ, List.set_cons_zero, List.set_cons_succ] at z0 z1 z2 z3 z4 z5 z6 z7 ks
        have r0 := ks.cell 0
        have r1 := ks.cell 1
        have r2 := ks.cell 2
        have r3 := ks.cell 3
        have r4 := ks.cell 4
        have r5 := ks.cell 5
        have r6 := ks.cell 6
        have r7 := ks.cell 7
        simp only [List.getElem?_cons_zero, List.getElem?_cons_succ] at r0 r1 r2 r3 r4 r5 r6 r7
        have gs := sets8' w6 (w.heap.size + 1 + 1) (.int .i64 au) (.int .i64 (v + 1)) (.int .i64 h) (.int .i64 e) (.int .i64 e) (.int .i64 v2) (.int .i64 h2) (.slice (some ⟨g, 0, none⟩) ps.length ps.length)
        have bwS := bw6.trans (below_grown bw6.size (far13 (by omega)) gs)
        have pbS := pb.grown gs (by intro e; injection e with e; omega)
        have ocS0 := fun x hx => row_turn (oc.out x hx) gs pz6 (by decide)
        have ocS : Hid _ := hid (fun x hx => own_low1 (ocS0 x hx) hgs)
        have HXP : Hid (pcesOf xs = ps) := hid hxp
        clear hxp
        clear ocS0 ks gs pz5 pz6 bw5 bw6 pm pb oc b6 hm5 hsz
        go_wp2
        refine bodyPost_ret (v := .tuple #[.agg #[.int .i64 au, .int .i64 (v + 1), .int .i64 h, .int .i64 e, .int .i64 e, .int .i64 v2, .int .i64 h2, .slice (some ⟨g, 0, none⟩) ps.length ps.length], .int .i64 0]) (by simp [results, Tryd.results16, go_sem, r0, r1, r2, r3, r4, r5, r6, r7]) rfl ?_
        have hpl : pcesOf xs = ps := HXP.out
        refine ⟨some ⟨g, 0, none⟩, ps.length, ?_, ?_, bwS, hid fun _ => ⟨g, xs, rfl, rfl, hpl, pbS, ocS.out, ap.out, hgw2⟩⟩
        · rw [HN.out.1, HN.out.2, HQX.out]
        · rw [HN.out.2, HQX.out]
          refine ⟨?_, Nat.le_refl _, by show ps.length ≤ maxLen; omega⟩
          have hpp := pcs_of (Blk.rd pbS) fun x hx => OwnC.ck (ocS.out x hx)
          rw [hpl] at hpp
          exact hpp
  · by_cases hfull : 200 ≤ v ∨ 99 < e
    · have HN : Hid (nextN (⟨v, h, e, a⟩ : Cur) au true (⟨v2, h2, e2, a2⟩ : Cur) ps = 2) := hid (next_two (by simpa [bitI] using hfull)).1
      by_cases h200 : 200 ≤ v
      · go_enter Tryd.func16, Tryd.ntmps16
        go_wp2
        go_returns
        exact next_zero HN.out (by decide) bw
      · have hlim : 99 < e := by omega
        go_enter Tryd.func16, Tryd.ntmps16
        go_wp2
        go_returns
        exact next_zero HN.out (by decide) bw
    · have h200 : v < 200 := by omega
      have hlim : e ≤ 99 := by omega
      have HFU := hid (show ¬ (200 ≤ ((⟨v, h, e, a⟩ : Cur)).v ∨ 100 - bitI true < ((⟨v, h, e, a⟩ : Cur)).e) by simpa [bitI] using hfull)
      have b4 := hal (((w.alloc (.cells #[.int .i64 v, .int .i64 h, .int .i64 e, .int .i64 a] 23)).alloc (.cells #[.int .i64 v2, .int .i64 h2, .int .i64 e2, .int .i64 a2] 23)).alloc (.cells #[.int .i64 0, .int .i64 0, .int .i64 0, .int .i64 0, .int .i64 0, .int .i64 0, .int .i64 0, .slice none 0 0] 26)) (.cells #[.int .i64 au, .int .i64 (v + 1), .int .i64 h, .int .i64 e, .int .i64 e, .int .i64 v2, .int .i64 h2, .slice A ps.length c] 26)
      have pm := Blk.new (((w.alloc (.cells #[.int .i64 v, .int .i64 h, .int .i64 e, .int .i64 a] 23)).alloc (.cells #[.int .i64 v2, .int .i64 h2, .int .i64 e2, .int .i64 a2] 23)).alloc (.cells #[.int .i64 0, .int .i64 0, .int .i64 0, .int .i64 0, .int .i64 0, .int .i64 0, .int .i64 0, .slice none 0 0] 26)) [.int .i64 au, .int .i64 (v + 1), .int .i64 h, .int .i64 e, .int .i64 (e + 1), .int .i64 v2, .int .i64 h2, .slice A ps.length c] 26
      simp only [World.size_alloc] at pm
      have hw4 : Below w.heap.size w ((((w.alloc (.cells #[.int .i64 v, .int .i64 h, .int .i64 e, .int .i64 a] 23)).alloc (.cells #[.int .i64 v2, .int .i64 h2, .int .i64 e2, .int .i64 a2] 23)).alloc (.cells #[.int .i64 0, .int .i64 0, .int .i64 0, .int .i64 0, .int .i64 0, .int .i64 0, .int .i64 0, .slice none 0 0] 26)).alloc (.cells #[.int .i64 au, .int .i64 (v + 1), .int .i64 h, .int .i64 e, .int .i64 (e + 1), .int .i64 v2, .int .i64 h2, .slice A ps.length c] 26)) := below2 bw (hal (((w.alloc (.cells #[.int .i64 v, .int .i64 h, .int .i64 e, .int .i64 a] 23)).alloc (.cells #[.int .i64 v2, .int .i64 h2, .int .i64 e2, .int .i64 a2] 23)).alloc (.cells #[.int .i64 0, .int .i64 0, .int .i64 0, .int .i64 0, .int .i64 0, .int .i64 0, .int .i64 0, .slice none 0 0] 26)) (.cells #[.int .i64 au, .int .i64 (v + 1), .int .i64 h, .int .i64 e, .int .i64 (e + 1), .int .i64 v2, .int .i64 h2, .slice A ps.length c] 26))
      have pz4 := pz.below (hal (((w.alloc (.cells #[.int .i64 v, .int .i64 h, .int .i64 e, .int .i64 a] 23)).alloc (.cells #[.int .i64 v2, .int .i64 h2, .int .i64 e2, .int .i64 a2] 23)).alloc (.cells #[.int .i64 0, .int .i64 0, .int .i64 0, .int .i64 0, .int .i64 0, .int .i64 0, .int .i64 0, .slice none 0 0] 26)) (.cells #[.int .i64 au, .int .i64 (v + 1), .int .i64 h, .int .i64 e, .int .i64 (e + 1), .int .i64 v2, .int .i64 h2, .slice A ps.length c] 26))
      have hm4 : Mt ((((w.alloc (.cells #[.int .i64 v, .int .i64 h, .int .i64 e, .int .i64 a] 23)).alloc (.cells #[.int .i64 v2, .int .i64 h2, .int .i64 e2, .int .i64 a2] 23)).alloc (.cells #[.int .i64 0, .int .i64 0, .int .i64 0, .int .i64 0, .int .i64 0, .int .i64 0, .int .i64 0, .slice none 0 0] 26)).alloc (.cells #[.int .i64 au, .int .i64 (v + 1), .int .i64 h, .int .i64 e, .int .i64 (e + 1), .int .i64 v2, .int .i64 h2, .slice A ps.length c] 26)) A c ((⟨au, v + 1, h, e, (e + 1), v2, h2, ps⟩ : Man)) := ⟨hp.below hw4, hnc, hc⟩
      have HQX : Hid (nextM (⟨v, h, e, a⟩ : Cur) au true (⟨v2, h2, e2, a2⟩ : Cur) ps = (⟨au, v + 1, h, e, (e + 1), v2, h2, ps⟩ : Man)) := hid (by simp [nextM, bitI])
      have cc := right12_any hm4 hs
      go_enter Tryd.func16, Tryd.ntmps16
      go_wp2_with fail
      refine cc.mono ?_
      clear cc
      generalize (((w.alloc (.cells #[.int .i64 v, .int .i64 h, .int .i64 e, .int .i64 a] 23)).alloc (.cells #[.int .i64 v2, .int .i64 h2, .int .i64 e2, .int .i64 a2] 23)).alloc (.cells #[.int .i64 0, .int .i64 0, .int .i64 0, .int .i64 0, .int .i64 0, .int .i64 0, .int .i64 0, .slice none 0 0] 26)).alloc (.cells #[.int .i64 au, .int .i64 (v + 1), .int .i64 h, .int .i64 e, .int .i64 (e + 1), .int .i64 v2, .int .i64 h2, .slice A ps.length c] 26) = w4 at *
      rintro _ w5 ⟨rfl, b5⟩
      simp only
      have hm5 := hm4.below b5
      replace pm := pm.below b5
      have pz5 := pz4.below b5
      have bw5 := below2 hw4 b5
      clear hm4 pz4 hw4 b5 bw pz hp
      have hgz : w.heap.size + 1 + 1 ≠ w.heap.size + 1 + 1 + 1 := by omega
      cases hR : manR ((⟨au, v + 1, h, e, (e + 1), v2, h2, ps⟩ : Man))
      · have HN : Hid (nextN (⟨v, h, e, a⟩ : Cur) au true (⟨v2, h2, e2, a2⟩ : Cur) ps = 4) := hid (next_four HFU.out (by rw [HQX.out]; exact hR)).1
        clear hR hm5
        have z0 := pz5.cell 0
        have z1 := pz5.cell 1
        have z2 := pz5.cell 2
        have z3 := pz5.cell 3
        have z4 := pz5.cell 4
        have z5 := pz5.cell 5
        have z6 := pz5.cell 6
        have z7 := pz5.cell 7
        have f0 := pz5.frozen 0
        have f1 := pz5.frozen 1
        have f2 := pz5.frozen 2
        have f3 := pz5.frozen 3
        have f4 := pz5.frozen 4
        have f5 := pz5.frozen 5
        have f6 := pz5.frozen 6
        have f7 := pz5.frozen 7
        have ks := ((((((((pz5.set_ 0 (.int .i64 0)).set_ 1 (.int .i64 0)).set_ 2 (.int .i64 0)).set_ 3 (.int .i64 0)).set_ 4 (.int .i64 0)).set_ 5 (.int .i64 0)).set_ 6 (.int .i64 0)).set_ 7 (.slice none 0 0))
        simp only [List.getElem?_cons_zero, List.getElem?_cons_succ, List.set_cons_zero, List.set_cons_succ] at z0 z1 z2 z3 z4 z5 z6 z7 ks
        have r0 := ks.cell 0
        have r1 := ks.cell 1
        have r2 := ks.cell 2
        have r3 := ks.cell 3
        have r4 := ks.cell 4
        have r5 := ks.cell 5
        have r6 := ks.cell 6
        have r7 := ks.cell 7
        simp only [List.getElem?_cons_zero, List.getElem?_cons_succ] at r0 r1 r2 r3 r4 r5 r6 r7
        have gs := sets8' w5 (w.heap.size + 1 + 1) (.int .i64 0) (.int .i64 0) (.int .i64 0) (.int .i64 0) (.int .i64 0) (.int .i64 0) (.int .i64 0) (.slice none 0 0)
        have bwS := bw5.trans (below_grown bw5.size (far13 (by omega)) gs)
        clear ks gs pz5 bw5 pm b4 b1 b2 b3
        go_wp2
        refine bodyPost_ret (v := .tuple #[.agg #[.int .i64 0, .int .i64 0, .int .i64 0, .int .i64 0, .int .i64 0, .int .i64 0, .int .i64 0, .slice none 0 0], .int .i64 4]) (by simp [results, Tryd.results16, go_sem, r0, r1, r2, r3, r4, r5, r6, r7]) rfl ?_
        exact next_zero HN.out (by decide) bwS
      · have HN := hid (next_yes HFU.out (by rw [HQX.out]; exact hR))
        have hsz := right_sizes ((manR_iff _).1 hR)
        clear hR b4 b1 b2 b3
        have q0 := pm.cell 0
        have q1 := pm.cell 1
        have q2 := pm.cell 2
        have q3 := pm.cell 3
        have q4 := pm.cell 4
        have q5 := pm.cell 5
        have q6 := pm.cell 6
        have q7 := pm.cell 7
        simp only [List.getElem?_cons_zero, List.getElem?_cons_succ] at q0 q1 q2 q3 q4 q5 q6 q7
        have cc := copy12_any hm5 hsz.1 hsz.2
        go_wp2_with fail
        refine cc.mono ?_
        clear cc q0 q1 q2 q3 q4 q5 q6 q7
        rintro _ w6 ⟨g, xs, rfl, hxp, pb, oc, ap, hgw, b6⟩
        rw [show manV ((⟨au, v + 1, h, e, (e + 1), v2, h2, ps⟩ : Man)) (some ⟨g, 0, none⟩) ((⟨au, v + 1, h, e, (e + 1), v2, h2, ps⟩ : Man)).pieces.length = .agg #[.int .i64 au, .int .i64 (v + 1), .int .i64 h, .int .i64 e, .int .i64 (e + 1), .int .i64 v2, .int .i64 h2, .slice (some ⟨g, 0, none⟩) ps.length ps.length] from rfl]
        have pz6 := pz5.below b6
        have bw6 := below2 bw5 b6
        have hgs := bw5.size
        have hzl := pz5.lt
        have hgg : w.heap.size + 1 + 1 ≠ g := by omega
        have hgw2 : w.heap.size ≤ g := by omega
        have z0 := pz6.cell 0
        have z1 := pz6.cell 1
        have z2 := pz6.cell 2
        have z3 := pz6.cell 3
        have z4 := pz6.cell 4
        have z5 := pz6.cell 5
        have z6 := pz6.cell 6
        have z7 := pz6.cell 7
        have f0 := pz6.frozen 0
        have f1 := pz6.frozen 1
        have f2 := pz6.frozen 2
        have f3 := pz6.frozen 3
        have f4 := pz6.frozen 4
        have f5 := pz6.frozen 5
        have f6 := pz6.frozen 6
        have f7 := pz6.frozen 7
        have ks := ((((((((pz6.set_ 0 (.int .i64 au)).set_ 1 (.int .i64 (v + 1))).set_ 2 (.int .i64 h)).set_ 3 (.int .i64 e)).set_ 4 (.int .i64 (e + 1))).set_ 5 (.int .i64 v2)).set_ 6 (.int .i64 h2)).set_ 7 (.slice (some ⟨g, 0, none⟩) ps.length ps.length))
        simp only [List.getElem?_cons_zero, List.getElem?_cons_succ, List.set_cons_zero, List.set_cons_succ] at z0 z1 z2 z3 z4 z5 z6 z7 ks
        have r0 := ks.cell 0
        have r1 := ks.cell 1
        have r2 := ks.cell 2
        have r3 := ks.cell 3
        have r4 := ks.cell 4
        have r5 := ks.cell 5
        have r6 := ks.cell 6
        have r7 := ks.cell 7
        simp only [List.getElem?_cons_zero, List.getElem?_cons_succ] at r0 r1 r2 r3 r4 r5 r6 r7
        have gs := sets8' w6 (w.heap.size + 1 + 1) (.int .i64 au) (.int .i64 (v + 1)) (.int .i64 h) (.int .i64 e) (.int .i64 (e + 1)) (.int .i64 v2) (.int .i64 h2) (.slice (some ⟨g, 0, none⟩) ps.length ps.length)
        have bwS := bw6.trans (below_grown bw6.size (far13 (by omega)) gs)
        have pbS := pb.grown gs (by intro e; injection e with e; omega)
        have ocS0 := fun x hx => row_turn (oc.out x hx) gs pz6 (by decide)
        have ocS : Hid _ := hid (fun x hx => own_low1 (ocS0 x hx) hgs)
        have HXP : Hid (pcesOf xs = ps) := hid hxp
        clear hxp
        clear ocS0 ks gs pz5 pz6 bw5 bw6 pm pb oc b6 hm5 hsz
        go_wp2
        refine bodyPost_ret (v := .tuple #[.agg #[.int .i64 au, .int .i64 (v + 1), .int .i64 h, .int .i64 e, .int .i64 (e + 1), .int .i64 v2, .int .i64 h2, .slice (some ⟨g, 0, none⟩) ps.length ps.length], .int .i64 0]) (by simp [results, Tryd.results16, go_sem, r0, r1, r2, r3, r4, r5, r6, r7]) rfl ?_
        have hpl : pcesOf xs = ps := HXP.out
        refine ⟨some ⟨g, 0, none⟩, ps.length, ?_, ?_, bwS, hid fun _ => ⟨g, xs, rfl, rfl, hpl, pbS, ocS.out, ap.out, hgw2⟩⟩
        · rw [HN.out.1, HN.out.2, HQX.out]
        · rw [HN.out.2, HQX.out]
          refine ⟨?_, Nat.le_refl _, by show ps.length ≤ maxLen; omega⟩
          have hpp := pcs_of (Blk.rd pbS) fun x hx => OwnC.ck (ocS.out x hx)
          rw [hpl] at hpp
          exact hpp
end Go.Proofs.YteimgnmjmpeobaaDoor
namespace Go.Proofs.YteimgnmjmpeobaaDoor
open Go.RowKit

def FolPost (w : World) (u : Cur) (au : Int) (l : List Man) (hd own : List Int) (e : Ending) (w' : World) : Prop :=
  ∃ (x : Cur) (k : Nat) (n : Int), e = .returned (.tuple #[curV x, .int .i64 k, .int .i64 n]) ∧ FolP u au l hd own x k n ∧ Below w.heap.size w w'
theorem accC_low {u : Cur} {au head : Int} {m : Man} {own : List Int} (h : -9223372036854775808 ≤ u.v) : -9223372036854775808 ≤ (accC u au m head own).v := by
  by_cases hn : accN u au m own = 0
  · rw [accC_yes hn]
    have := (acc_iff.1 hn).right.v0
    show _ ≤ m.version
    omega
  · rw [accC_no hn]; exact h
theorem curAt_low {u : Cur} {au : Int} {l : List Man} {hd own : List Int} (h : -9223372036854775808 ≤ u.v) : ∀ j, -9223372036854775808 ≤ (curAt u au l hd own j).v
  | 0 => h
  | j + 1 => by
    by_cases hj : j < l.length
    · rw [curAt_succ hj]
      exact accC_low (curAt_low h j)
    · have : curAt u au l hd own (j + 1) = curAt u au l hd own j := by
        show (match l[j]? with | some m => _ | none => _) = _
        rw [List.getElem?_eq_none (by omega)]
      rw [this]
      exact curAt_low h j
/-- The first j were accepted. -/
def AccTo (u : Cur) (au : Int) (l : List Man) (hd own : List Int) (j : Nat) : Prop := ∀ i (hi : i < l.length), i < j → accN (curAt u au l hd own i) au l[i] own = 0
theorem acc_to {u : Cur} {au : Int} {l : List Man} {hd own : List Int} {j : Nat} (h : AccTo u au l hd own j) (hj : j < l.length) (ha : accN (curAt u au l hd own j) au l[j] own = 0) : AccTo u au l hd own (j + 1) := fun i hi hij => by
  by_cases e : i = j
  · subst e; exact ha
  · exact h i hi (by omega)
theorem fol_stop {u : Cur} {au : Int} {l : List Man} {hd own : List Int} {j : Nat} (h : AccTo u au l hd own j) (hj : j < l.length) (ha : accN (curAt u au l hd own j) au l[j] own ≠ 0) : FolP u au l hd own (curAt u au l hd own j) j (accN (curAt u au l hd own j) au l[j] own) :=
  ⟨fun i hi hij => h i hi hij, by omega, rfl, fun e => absurd e (by omega), fun _ => ⟨rfl, ha⟩⟩
theorem fol_end {u : Cur} {au : Int} {l : List Man} {hd own : List Int} (h : AccTo u au l hd own l.length) : FolP u au l hd own (curAt u au l hd own l.length) l.length 0 :=
  ⟨fun i hi hij => h i hi hij, Nat.le_refl _, rfl, fun _ => rfl, fun hk => absurd hk (by omega)⟩
set_option maxHeartbeats 8000000 in
set_option maxRecDepth 20000 in
theorem follow_any {w : World} {A H O : Option Addr} {c n k n2 k2 : Nat} {u : Cur} {ms : List Man} {hd own : List Int} (au : Int) (hm : MsAt w A ms) (hc : ms.length ≤ c) (hc2 : c ≤ maxLen) (hs : ∀ m ∈ ms, ∀ p ∈ m.pieces, p.path.size < 4294967281)
    (hcv : -9223372036854775808 ≤ u.v) (hhl : hd.length = n2) (hhr : Rd w H (intV hd)) (hhn : n2 ≤ 9223372036854775807) (hol : own.length = n) (hor : Rd w O (intV own)) (hon : n ≤ 9223372036854775807) :
    Calls Tryd.prog 14 #[curV u, .int .i64 au, .slice A ms.length c, .slice H n2 k2, .slice O n k] w (FolPost w u au ms hd own) := by
  have hal : ∀ (W : World) (o : Obj), Below W.heap.size W (W.alloc o) := fun W o => (Below.refl _ _).alloc (Nat.le_refl _) o
  obtain ⟨v0, h0, e0, a0⟩ := u
  dsimp only at hcv
  have HCL := hid (curAt_low (u := (⟨v0, h0, e0, a0⟩ : Cur)) (au := au) (l := ms) (hd := hd) (own := own) hcv)
  have b1 := hal w (.cells #[.int .i64 v0, .int .i64 h0, .int .i64 e0, .int .i64 a0] 23)
  have b2 := hal (w.alloc (.cells #[.int .i64 v0, .int .i64 h0, .int .i64 e0, .int .i64 a0] 23)) (.cells #[.int .i64 0, .int .i64 0, .int .i64 0, .int .i64 0] 23)
  have pc := (Blk.new w [.int .i64 v0, .int .i64 h0, .int .i64 e0, .int .i64 a0] 23).below b2
  have pz := Blk.new (w.alloc (.cells #[.int .i64 v0, .int .i64 h0, .int .i64 e0, .int .i64 a0] 23)) [.int .i64 0, .int .i64 0, .int .i64 0, .int .i64 0] 23
  simp only [World.size_alloc] at pc pz
  have bw := below2 b1 b2
  obtain ⟨N, hN⟩ : ∃ N, N = ms.length := ⟨_, rfl⟩
  have hNb : N ≤ 9223372036854775807 := by unfold maxLen at hc2; omega
  rw [← hN]
  have HN := hid hN
  have HHL := hid hhl
  have HS := hid hs
  clear hN hs hhl b1 b2 hc
  go_enter Tryd.func14, Tryd.ntmps14
  go_wp2_with fail
  generalize ((w.alloc (.cells #[.int .i64 v0, .int .i64 h0, .int .i64 e0, .int .i64 a0] 23)).alloc (.cells #[.int .i64 0, .int .i64 0, .int .i64 0, .int .i64 0] 23)) = w1 at *
  go_loopw [19] (fun i wr => ∃ j : Nat, j ≤ N ∧ i = .int .i64 j ∧ Hid (AccTo (⟨v0, h0, e0, a0⟩ : Cur) au ms hd own j) ∧ Blk wr w.heap.size (curL (curAt (⟨v0, h0, e0, a0⟩ : Cur) au ms hd own j)) 23 ∧ Blk wr (w.heap.size + 1) [.int .i64 0, .int .i64 0, .int .i64 0, .int .i64 0] 23 ∧ Below w.heap.size w wr) (fun i _ => N - (intOf i).toNat)
  case atStart => exact ⟨0, by omega, rfl, hid (fun i hi h => absurd h (by omega)), pc, pz, bw⟩
  case round =>
    clear pc pz bw
    obtain ⟨j, hj, rfl, HA, pc, pz, bw⟩ := hrel
    replace hor := hor.below bw
    replace hhr := hhr.below bw
    replace hm := hm.below bw
    have lc := pc.lt
    have lz := pz.lt
    have HLO := hid (HCL.out j)
    have q0 := pc.cell 0
    have q1 := pc.cell 1
    have q2 := pc.cell 2
    have q3 := pc.cell 3
    simp only [List.getElem?_cons_zero, List.getElem?_cons_succ] at q0 q1 q2 q3
    have hz : (0 : Int) ≤ j := by omega
    by_cases hjn : j < N
    · have hjl : j < ms.length := by rw [← HN.out]; exact hjn
      have hlt : (j : Int) < N := by omega
      have HST := hid (fol_stop HA.out hjl)
      have HTO := hid (acc_to HA.out hjl)
      have HSU := hid (curAt_succ (c := (⟨v0, h0, e0, a0⟩ : Cur)) (au := au) (hd := hd) (own := own) hjl)
      have HJ := hid hjn
      obtain ⟨b, og, B, mc, rfl, m0, m1, m2, m3, m4, m5, m6, m7, hmj, -⟩ := hm.man hjl
      have hsj := HS.out ms[j] (List.getElem_mem hjl)
      generalize hX1 : curAt (⟨v0, h0, e0, a0⟩ : Cur) au ms hd own (j + 1) = X1 at *
      have HX1 := hid hX1
      clear hX1
      generalize curAt (⟨v0, h0, e0, a0⟩ : Cur) au ms hd own j = X at *
      generalize ms[j] = M at *
      obtain ⟨a1, a2, a3, a4, a5, a6, a7, ps⟩ := M
      dsimp only at m0 m1 m2 m3 m4 m5 m6 m7 hsj
      have bx := hal wr (.cells #[.int .i64 a1, .int .i64 a2, .int .i64 a3, .int .i64 a4, .int .i64 a5, .int .i64 a6, .int .i64 a7, .slice B ps.length mc] 26)
      have pm := Blk.new wr [.int .i64 a1, .int .i64 a2, .int .i64 a3, .int .i64 a4, .int .i64 a5, .int .i64 a6, .int .i64 a7, .slice B ps.length mc] 26
      by_cases hjh2 : (j : Int) < n2
      · have hjh : j < hd.length := by rw [HHL.out]; omega
        obtain ⟨bh, oh, rfl, y0, lh⟩ := int_at hhr hjh
        have HG : Hid (hd.getD j 0 = hd[j]) := hid (by rw [List.getD_eq_getElem?_getD, List.getElem?_eq_getElem hjh]; rfl)
        rw [HG.out] at HSU
        generalize hd[j] = hv at *
        have cc := accept_any (k := k) (u := X) au hv (hmj.below bx) hsj HLO.out hol (hor.below bx) hon
        rw [← HSU.out] at cc
        have HAC := hid (accC_no (c := X) (au := au) (m := ⟨a1, a2, a3, a4, a5, a6, a7, ps⟩) (head := hv) (own := own))
        rw [← HSU.out] at HAC
        clear HSU HG
        generalize accN X au ⟨a1, a2, a3, a4, a5, a6, a7, ps⟩ own = E at *
        go_wp2_with fail
        refine cc.mono ?_
        clear cc
        rintro _ w3 ⟨rfl, b3⟩
        have bb := below2 bx b3
        replace pc := pc.below bb
        replace pz := pz.below bb
        replace bw := bw.trans (bb.mono bw.size)
        clear pm bx b3 bb q0 q1 q2 q3 m0 m1 m2 m3 m4 m5 m6 m7 y0 hmj hm hor hhr
        obtain ⟨v1, h1, e1, a1'⟩ := X1
        dsimp only at *
        have z0 := pc.cell 0
        have z1 := pc.cell 1
        have z2 := pc.cell 2
        have z3 := pc.cell 3
        have f0 := pc.frozen 0
        have f1 := pc.frozen 1
        have f2 := pc.frozen 2
        have f3 := pc.frozen 3
        have pcS := ((((pc.set_ 0 (.int .i64 v1)).set_ 1 (.int .i64 h1)).set_ 2 (.int .i64 e1)).set_ 3 (.int .i64 a1'))
        simp only [List.getElem?_cons_zero, List.getElem?_cons_succ, List.set_cons_zero, List.set_cons_succ] at z0 z1 z2 z3 pcS
        have gs := sets4 w3 w.heap.size (.int .i64 v1) (.int .i64 h1) (.int .i64 e1) (.int .i64 a1')
        have bwS := bw.trans (below_grown bw.size (far13 (by omega)) gs)
        have pzS := pz.grown gs (by intro e; injection e with e; omega)
        clear gs bw
        have zz0 := z0
        have zz1 := z1
        have zz2 := z2
        have zz3 := z3
        have ff0 := f0
        have ff1 := f1
        have ff2 := f2
        have ff3 := f3
        clear pc pz z0 z1 z2 z3 f0 f1 f2 f3
        by_cases hE : E = 0
        · subst hE
          have HT2 := hid (HTO.out rfl)
          clear HST HTO HAC
          go_wp2
          go_roundw
          case rel => exact ⟨j + 1, HJ.out, by go_num, HT2, by rw [HX1.out]; exact pcS, pzS, bwS⟩
          case measure => have := HJ.out; simp [intOf]; omega
        · have HF := hid (HST.out hE)
          have hX := HAC.out hE
          have hEb : (E != 0) = true := by simp [hE]
          clear HST HTO HAC
          rw [← hX] at HF
          clear hX
          have q0 := pcS.cell 0
          have q1 := pcS.cell 1
          have q2 := pcS.cell 2
          have q3 := pcS.cell 3
          simp only [List.getElem?_cons_zero, List.getElem?_cons_succ] at q0 q1 q2 q3
          have bw := bwS
          clear bwS
          have z0 := pzS.cell 0
          have z1 := pzS.cell 1
          have z2 := pzS.cell 2
          have z3 := pzS.cell 3
          have f0 := pzS.frozen 0
          have f1 := pzS.frozen 1
          have f2 := pzS.frozen 2
          have f3 := pzS.frozen 3
          have ks := ((((pzS.set_ 0 (.int .i64 v1)).set_ 1 (.int .i64 h1)).set_ 2 (.int .i64 e1)).set_ 3 (.int .i64 a1'))
          simp only [List.getElem?_cons_zero, List.getElem?_cons_succ, List.set_cons_zero, List.set_cons_succ] at z0 z1 z2 z3 ks
          have gs := sets4 ((((w3.setCell ⟨w.heap.size, 0, none⟩ (.int .i64 v1)).setCell ⟨w.heap.size, 1, none⟩ (.int .i64 h1)).setCell ⟨w.heap.size, 2, none⟩ (.int .i64 e1)).setCell ⟨w.heap.size, 3, none⟩ (.int .i64 a1')) (w.heap.size + 1) (.int .i64 v1) (.int .i64 h1) (.int .i64 e1) (.int .i64 a1')
          have bwS := bw.trans (below_grown bw.size (far13 (by omega)) gs)
          have r0 := ks.cell 0
          have r1 := ks.cell 1
          have r2 := ks.cell 2
          have r3 := ks.cell 3
          simp only [List.getElem?_cons_zero, List.getElem?_cons_succ] at r0 r1 r2 r3
          clear ks gs pcS pzS bw
          go_wp2
          refine bodyPost_ret (v := .tuple #[.agg #[.int .i64 v1, .int .i64 h1, .int .i64 e1, .int .i64 a1'], .int .i64 j, .int .i64 E]) (by simp [results, Tryd.results14, go_sem, r0, r1, r2, r3]) rfl ?_
          exact ⟨⟨v1, h1, e1, a1'⟩, j, E, rfl, HF.out, bwS⟩
      · have HG : Hid (hd.getD j 0 = 0) := hid (by rw [List.getD_eq_getElem?_getD, List.getElem?_eq_none (by rw [HHL.out]; omega)]; rfl)
        rw [HG.out] at HSU
        have cc := accept_any (k := k) (u := X) au (0 : Int) (hmj.below bx) hsj HLO.out hol (hor.below bx) hon
        rw [← HSU.out] at cc
        have HAC := hid (accC_no (c := X) (au := au) (m := ⟨a1, a2, a3, a4, a5, a6, a7, ps⟩) (head := 0) (own := own))
        rw [← HSU.out] at HAC
        clear HSU HG
        generalize accN X au ⟨a1, a2, a3, a4, a5, a6, a7, ps⟩ own = E at *
        go_wp2_with fail
        refine cc.mono ?_
        clear cc
        rintro _ w3 ⟨rfl, b3⟩
        have bb := below2 bx b3
        replace pc := pc.below bb
        replace pz := pz.below bb
        replace bw := bw.trans (bb.mono bw.size)
        clear pm bx b3 bb q0 q1 q2 q3 m0 m1 m2 m3 m4 m5 m6 m7 hmj hm hor hhr
        obtain ⟨v1, h1, e1, a1'⟩ := X1
        dsimp only at *
        have z0 := pc.cell 0
        have z1 := pc.cell 1
        have z2 := pc.cell 2
        have z3 := pc.cell 3
        have f0 := pc.frozen 0
        have f1 := pc.frozen 1
        have f2 := pc.frozen 2
        have f3 := pc.frozen 3
        have pcS := ((((pc.set_ 0 (.int .i64 v1)).set_ 1 (.int .i64 h1)).set_ 2 (.int .i64 e1)).set_ 3 (.int .i64 a1'))
        simp only [List.getElem?_cons_zero, List.getElem?_cons_succ, List.set_cons_zero, List.set_cons_succ] at z0 z1 z2 z3 pcS
        have gs := sets4 w3 w.heap.size (.int .i64 v1) (.int .i64 h1) (.int .i64 e1) (.int .i64 a1')
        have bwS := bw.trans (below_grown bw.size (far13 (by omega)) gs)
        have pzS := pz.grown gs (by intro e; injection e with e; omega)
        clear gs bw
        have zz0 := z0
        have zz1 := z1
        have zz2 := z2
        have zz3 := z3
        have ff0 := f0
        have ff1 := f1
        have ff2 := f2
        have ff3 := f3
        clear pc pz z0 z1 z2 z3 f0 f1 f2 f3
        by_cases hE : E = 0
        · subst hE
          have HT2 := hid (HTO.out rfl)
          clear HST HTO HAC
          go_wp2
          go_roundw
          case rel => exact ⟨j + 1, HJ.out, by go_num, HT2, by rw [HX1.out]; exact pcS, pzS, bwS⟩
          case measure => have := HJ.out; simp [intOf]; omega
        · have HF := hid (HST.out hE)
          have hX := HAC.out hE
          have hEb : (E != 0) = true := by simp [hE]
          clear HST HTO HAC
          rw [← hX] at HF
          clear hX
          have q0 := pcS.cell 0
          have q1 := pcS.cell 1
          have q2 := pcS.cell 2
          have q3 := pcS.cell 3
          simp only [List.getElem?_cons_zero, List.getElem?_cons_succ] at q0 q1 q2 q3
          have bw := bwS
          clear bwS
          have z0 := pzS.cell 0
          have z1 := pzS.cell 1
          have z2 := pzS.cell 2
          have z3 := pzS.cell 3
          have f0 := pzS.frozen 0
          have f1 := pzS.frozen 1
          have f2 := pzS.frozen 2
          have f3 := pzS.frozen 3
          have ks := ((((pzS.set_ 0 (.int .i64 v1)).set_ 1 (.int .i64 h1)).set_ 2 (.int .i64 e1)).set_ 3 (.int .i64 a1'))
          simp only [List.getElem?_cons_zero, List.getElem?_cons_succ, List.set_cons_zero, List.set_cons_succ] at z0 z1 z2 z3 ks
          have gs := sets4 ((((w3.setCell ⟨w.heap.size, 0, none⟩ (.int .i64 v1)).setCell ⟨w.heap.size, 1, none⟩ (.int .i64 h1)).setCell ⟨w.heap.size, 2, none⟩ (.int .i64 e1)).setCell ⟨w.heap.size, 3, none⟩ (.int .i64 a1')) (w.heap.size + 1) (.int .i64 v1) (.int .i64 h1) (.int .i64 e1) (.int .i64 a1')
          have bwS := bw.trans (below_grown bw.size (far13 (by omega)) gs)
          have r0 := ks.cell 0
          have r1 := ks.cell 1
          have r2 := ks.cell 2
          have r3 := ks.cell 3
          simp only [List.getElem?_cons_zero, List.getElem?_cons_succ] at r0 r1 r2 r3
          clear ks gs pcS pzS bw
          go_wp2
          refine bodyPost_ret (v := .tuple #[.agg #[.int .i64 v1, .int .i64 h1, .int .i64 e1, .int .i64 a1'], .int .i64 j, .int .i64 E]) (by simp [results, Tryd.results14, go_sem, r0, r1, r2, r3]) rfl ?_
          exact ⟨⟨v1, h1, e1, a1'⟩, j, E, rfl, HF.out, bwS⟩
    · have hjn2 : j = N := by omega
      have hnl : ¬ (j : Int) < N := by omega
      have HF := hid (fol_end (u := (⟨v0, h0, e0, a0⟩ : Cur)) (au := au) (l := ms) (hd := hd) (own := own) (by rw [← HN.out, ← hjn2]; exact HA.out))
      rw [← HN.out, ← hjn2] at HF
      generalize curAt (⟨v0, h0, e0, a0⟩ : Cur) au ms hd own j = X at *
      subst hjn2
      obtain ⟨v1, h1, e1, a1'⟩ := X
      dsimp only at *
      have z0 := pz.cell 0
      have z1 := pz.cell 1
      have z2 := pz.cell 2
      have z3 := pz.cell 3
      have f0 := pz.frozen 0
      have f1 := pz.frozen 1
      have f2 := pz.frozen 2
      have f3 := pz.frozen 3
      have ks := ((((pz.set_ 0 (.int .i64 v1)).set_ 1 (.int .i64 h1)).set_ 2 (.int .i64 e1)).set_ 3 (.int .i64 a1'))
      simp only [List.getElem?_cons_zero, List.getElem?_cons_succ, List.set_cons_zero, List.set_cons_succ] at z0 z1 z2 z3 ks
      have gs := sets4 wr (w.heap.size + 1) (.int .i64 v1) (.int .i64 h1) (.int .i64 e1) (.int .i64 a1')
      have bwS := bw.trans (below_grown bw.size (far13 (by omega)) gs)
      have r0 := ks.cell 0
      have r1 := ks.cell 1
      have r2 := ks.cell 2
      have r3 := ks.cell 3
      simp only [List.getElem?_cons_zero, List.getElem?_cons_succ] at r0 r1 r2 r3
      clear ks gs pc pz bw hm hor hhr
      go_wp2
      refine bodyPost_ret (v := .tuple #[.agg #[.int .i64 v1, .int .i64 h1, .int .i64 e1, .int .i64 a1'], .int .i64 j, .int .i64 0]) (by simp [results, Tryd.results14, go_sem, r0, r1, r2, r3]) rfl ?_
      exact ⟨⟨v1, h1, e1, a1'⟩, j, 0, rfl, HF.out, bwS⟩
end Go.Proofs.YteimgnmjmpeobaaDoor
namespace Go.Proofs.YteimgnmjmpeobaaDoor
open Go.RowKit

def fewMs (ms : List Man) : Bool := ms.all fewM && decide (ms.length ≤ 20)
theorem fewMs_sz {ms : List Man} (h : fewMs ms = true) : ms.length ≤ 20 ∧ ∀ m ∈ ms, fewM m = true := by
  simp only [fewMs, Bool.and_eq_true, decide_eq_true_eq, List.all_eq_true] at h
  exact ⟨h.2, h.1⟩
theorem few_paths13 {m : Man} (h : fewM m = true) : ∀ p ∈ m.pieces, p.path.size < 4294967281 := fun p hp => by have := ((fewM_sz h).2 p hp).1; omega
set_option maxHeartbeats 4000000 in
theorem few13_any {w : World} {A : Option Addr} {c : Nat} {ms : List Man} (h : MsAt w A ms) (hc : ms.length ≤ c) (hc2 : c ≤ maxLen) :
    Calls Tryd.prog 10 #[.slice A ms.length c] w fun e w' => e = .returned (.bool (fewMs ms)) ∧ Below w.heap.size w w' := by
  obtain ⟨N, hN⟩ : ∃ N, N = ms.length := ⟨_, rfl⟩
  have hNb : N ≤ 9223372036854775807 := by unfold maxLen at hc2; omega
  have HF : Hid (fewMs ms = (ms.all fewM && decide (N ≤ 20))) := hid (by rw [hN]; rfl)
  rw [← hN]
  have HN := hid hN
  clear hN hc hc2
  generalize fewMs ms = Z at *
  go_enter Tryd.func10, Tryd.ntmps10
  go_wp2_with fail
  go_loopw [3] (fun i wr => ∃ j : Nat, j ≤ N ∧ i = .int .i64 j ∧ Hid ((ms.take j).all fewM = true) ∧ Below w.heap.size w wr) (fun i _ => N - (intOf i).toNat)
  case atStart => exact ⟨0, by omega, rfl, by simp [Hid], Below.refl _ _⟩
  case round =>
    obtain ⟨j, hj, rfl, HT, bw⟩ := hrel
    have hz : (0 : Int) ≤ j := by omega
    by_cases hjn : j < N
    · have hjl : j < ms.length := by rw [← HN.out]; exact hjn
      have hlt : (j : Int) < N := by omega
      have HJ := hid hjn
      have HM := hid (all_more fewM ms j hjl)
      have HNO : Hid (fewM ms[j] = false → Z = false) := hid fun k => by
        rw [HF.out]
        refine not_true fun e => ?_
        rw [Bool.and_eq_true, List.all_eq_true] at e
        rw [e.1 _ (List.getElem_mem hjl)] at k
        cases k
      obtain ⟨b, og, B, mc, rfl, m0, m1, m2, m3, m4, m5, m6, m7, hmj, -⟩ := (h.below bw).man hjl
      generalize ms[j] = M at *
      obtain ⟨a1, a2, a3, a4, a5, a6, a7, ps⟩ := M
      dsimp only at m0 m1 m2 m3 m4 m5 m6 m7
      have cc := fewM_any hmj
      go_wp2_with fail
      refine cc.mono ?_
      clear cc
      rintro _ w3 ⟨rfl, b3⟩
      simp only
      have bw3 := bw.trans (b3.mono bw.size)
      clear bw b3 m0 m1 m2 m3 m4 m5 m6 m7 hmj
      cases hq : fewM (⟨a1, a2, a3, a4, a5, a6, a7, ps⟩ : Man)
      · have HB := hid (HNO.out hq)
        clear hq
        go_wp2
        go_ret
        exact ⟨ret_bool HB.out.symm, bw3⟩
      · have HT2 : Hid ((ms.take (j + 1)).all fewM = true) := hid (by rw [HM.out, HT.out, hq]; rfl)
        clear hq
        go_wp2
        go_roundw
        case rel => exact ⟨j + 1, HJ.out, by go_num, HT2, bw3⟩
        case measure => have := HJ.out; simp [intOf]; omega
    · have hjn2 : j = N := by omega
      have hnl : ¬ (j : Int) < N := by omega
      subst hjn2
      have HZ : Hid (Z = decide (j ≤ 20)) := hid (by rw [HF.out]; have := HT.out; rw [HN.out, List.take_length] at this; rw [this]; rfl)
      go_wp2
      go_ret
      exact ⟨ret_bool (by rw [HZ.out]; simp; omega), bw⟩

/-! ### Cursors held together -/
theorem eqC (a b c d a' b' c' d' : Int) (w : World) : (binOp .eql 23 (.agg #[.int .i64 a, .int .i64 b, .int .i64 c, .int .i64 d]) (.agg #[.int .i64 a', .int .i64 b', .int .i64 c', .int .i64 d'])).run Tryd.prog w = .ok (.bool (decide ((⟨a, b, c, d⟩ : Cur) = ⟨a', b', c', d'⟩))) w := by
  have u3 := Tryd.underlying3
  have a3 := Tryd.isAgg3
  have z3 := Tryd.sizeOf3
  have hS : Tryd.prog.underlying 23 = some (.struct (Tryd.prog.fieldsOf 23)) := by kernel_rfl
  have hp : Tryd.prog.stoodInHeld 23 = false := by kernel_rfl
  rw [run_eql_struct, show (10000 : Nat) = 9999 + 1 from rfl, run_equalIn_agg w 9999 23 _ _ hS hp]
  simp only [Program.fieldsOf, Tryd.underlying23]
  go_simp
  by_cases h1 : a = a' <;> by_cases h2 : b = b' <;> by_cases h3 : c = c' <;> by_cases h4 : d = d' <;> simp [h1, h2, h3, h4]
theorem neqC (a b c d a' b' c' d' : Int) (w : World) : (binOp .neq 23 (.agg #[.int .i64 a, .int .i64 b, .int .i64 c, .int .i64 d]) (.agg #[.int .i64 a', .int .i64 b', .int .i64 c', .int .i64 d'])).run Tryd.prog w = .ok (.bool (!decide ((⟨a, b, c, d⟩ : Cur) = ⟨a', b', c', d'⟩))) w := by
  have u3 := Tryd.underlying3
  have a3 := Tryd.isAgg3
  have z3 := Tryd.sizeOf3
  have hS : Tryd.prog.underlying 23 = some (.struct (Tryd.prog.fieldsOf 23)) := by kernel_rfl
  have hp : Tryd.prog.stoodInHeld 23 = false := by kernel_rfl
  rw [run_neq_struct, show (10000 : Nat) = 9999 + 1 from rfl, run_equalIn_agg w 9999 23 _ _ hS hp]
  simp only [Program.fieldsOf, Tryd.underlying23]
  go_simp
  by_cases h1 : a = a' <;> by_cases h2 : b = b' <;> by_cases h3 : c = c' <;> by_cases h4 : d = d' <;> simp [h1, h2, h3, h4]

/-! ### A row of manifests -/
abbrev Mw := Man × Option Addr × Nat
def mwV (xs : List Mw) : List Value := xs.flatMap fun x => mcV x.1 x.2.1 x.2.2
theorem mwV_length (xs : List Mw) : (mwV xs).length = xs.length * 8 := by
  induction xs with
  | nil => rfl
  | cons x xs ih => rw [mwV, List.flatMap_cons, List.length_append, ← mwV, ih, List.length_cons]; simp [mcV]; omega
theorem mwV_cons (x : Mw) (xs : List Mw) : mwV (x :: xs) = mcV x.1 x.2.1 x.2.2 ++ mwV xs := rfl
theorem mwV_at : ∀ (xs : List Mw) (j : Nat) (h : j < xs.length) (k : Nat), k < 8 → (mwV xs)[j * 8 + k]? = (mcV xs[j].1 xs[j].2.1 xs[j].2.2)[k]?
  | x :: xs, 0, _, k, hk => by
    rw [mwV_cons, List.getElem?_append_left (by simp [mcV]; omega)]
    simp
  | x :: xs, j + 1, h, k, hk => by
    have := mwV_at xs j (by simpa using h) k hk
    rw [mwV_cons, List.getElem?_append_right (by simp [mcV]; omega)]
    simp only [List.getElem_cons_succ]
    rw [← this]
    congr 1
    simp [mcV]
    omega
theorem ms_of {w : World} {A : Option Addr} {xs : List Mw} (hr : Rd w A (mwV xs)) (hk : ∀ x ∈ xs, Mt w x.2.1 x.2.2 x.1) : MsAt w A (xs.map (·.1)) := by
  rcases hr with hr | ⟨ad, rfl, hc⟩
  · have h0 := congrArg List.length hr
    rw [mwV_length] at h0
    exact .inl (by
      have : xs = [] := List.eq_nil_of_length_eq_zero (by simp at h0; omega)
      rw [this]; rfl)
  · refine .inr ⟨ad, rfl, fun j hj => ?_⟩
    have hj' : j < xs.length := by simpa using hj
    have hm := hk xs[j] (List.getElem_mem hj')
    have e : (xs.map (·.1))[j] = xs[j].1 := by simp
    rw [e]
    refine ⟨xs[j].2.1, xs[j].2.2, fun k hk => ?_, hm⟩
    have hs : ∃ u, (mcV xs[j].1 xs[j].2.1 xs[j].2.2)[k]? = some u := ⟨_, List.getElem?_eq_getElem (by simpa [mcV] using hk)⟩
    obtain ⟨u, hu⟩ := hs
    rw [add_assoc', hu]
    exact hc (j * 8 + k) u (by rw [mwV_at xs j hj' k hk, hu])

/-! ### Answers by value -/
theorem next_val {w : World} {A : Option Addr} {n c : Nat} {ps : List Pce} (u : Cur) (au : Int) (t : Bool) (p : Cur) (hp : PcsAt w A ps) (hn : ps.length = n) (hnc : n ≤ c) (hc : c ≤ maxLen) (hs : ∀ x ∈ ps, x.path.size < 4294967281) (hcv : -9223372036854775808 ≤ u.v) (hce : -9223372036854775808 ≤ u.e)
    {N : Int} {M : Man} (h1 : nextN u au t p ps = N) (h2 : nextA u au t p ps = M) :
    Calls Tryd.prog 16 #[curV u, .int .i64 au, .bool t, curV p, .slice A n c] w fun e w' => ∃ B d, e = .returned (.tuple #[manV M B d, .int .i64 N]) ∧ Mt w' B d M ∧ Below w.heap.size w w' := by
  refine (next_any u au t p hp hn hnc hc hs hcv hce).mono ?_
  rintro e w' ⟨B, d, h, hm, hb, -⟩
  rw [h1, h2] at h
  rw [h2] at hm
  exact ⟨B, d, h, hm, hb⟩
theorem accept_val {w : World} {A O : Option Addr} {c n k : Nat} {u : Cur} {m : Man} {own : List Int} (au head : Int) (hm : Mt w A c m) (hs : ∀ p ∈ m.pieces, p.path.size < 4294967281) (hcv : -9223372036854775808 ≤ u.v) (hol : own.length = n) (hor : Rd w O (intV own)) (hon : n ≤ 9223372036854775807)
    {N : Int} {X : Cur} (h1 : accN u au m own = N) (h2 : accC u au m head own = X) :
    Calls Tryd.prog 11 #[curV u, .int .i64 au, manV m A c, .int .i64 head, .slice O n k] w fun e w' => e = .returned (.tuple #[curV X, .int .i64 N]) ∧ Below w.heap.size w w' := by
  have := accept_any (k := k) au head hm hs hcv hol hor hon
  rw [h1, h2] at this
  exact this

end Go.Proofs.YteimgnmjmpeobaaDoor
namespace Go.Proofs.YteimgnmjmpeobaaDoor
open Go.RowKit

/-! ### The small case -/
def smC : Cur := ⟨3, 7, 1, 1⟩
def smP : Cur := ⟨2, 6, 0, 0⟩
def smM : Man := ⟨1, 4, 7, 1, 2, 2, 6, []⟩
def smD : Cur := ⟨4, 9, 2, 2⟩
theorem sm_next : nextN smC 1 true smP [] = 0 := by decide +kernel
theorem sm_nextA : nextA smC 1 true smP [] = smM := (next_ok sm_next).2.2.2
theorem sm_acc : accN smC 1 smM [5, 6] = 0 := by decide +kernel
theorem sm_accC : accC smC 1 smM 9 [5, 6] = smD := accC_yes sm_acc
theorem sm_old : accN smD 1 smM [5, 6] = 9 := by decide +kernel
theorem sm_gap : accN ⟨2, 0, 0, 0⟩ 1 smM [] = 10 := by decide +kernel
theorem sm_fork : accN smC 1 smM [5, 4] = 11 := by decide +kernel
theorem sm_full : nextN ⟨200, 0, 0, 0⟩ 1 false zeroC [] = 2 := by decide +kernel
theorem sm_fol : FolP smC 1 [smM, smM] [9] [5, 6] smD 1 9 := by
  have e1 : curAt smC 1 [smM, smM] [9] [5, 6] 1 = smD := (curAt_succ (by decide)).trans sm_accC
  refine ⟨fun i hi h1 => ?_, by decide, e1.symm, fun h => absurd h (by decide), fun _ => ⟨?_, by decide⟩⟩
  · obtain rfl : i = 0 := by omega
    exact sm_acc
  · rw [e1]; exact sm_old.symm
set_option maxHeartbeats 8000000 in
set_option maxRecDepth 20000 in
theorem small13_any (w : World) : Calls Tryd.prog 9 #[] w fun e w' => e = .returned (.bool true) ∧ Below w.heap.size w w' := by
  have hal : ∀ (W : World) (o : Obj), Below W.heap.size W (W.alloc o) := fun W o => (Below.refl _ _).alloc (Nat.le_refl _) o
  have hp0 : ∀ W : World, PcsAt W none [] := fun W => .inl rfl
  have hpp : ∀ p ∈ smM.pieces, p.path.size < 4294967281 := by simp [smM]
  go_enter Tryd.func9, Tryd.ntmps9
  have bx := hal w (.cells #[.int .i64 3, .int .i64 7, .int .i64 1, .int .i64 1] 23)
  have pc := Blk.new w [.int .i64 3, .int .i64 7, .int .i64 1, .int .i64 1] 23
  have bw := bx
  clear bx
  have cc := next_val (n := 0) (c := 0) smC 1 true smP (hp0 (w.alloc (.cells #[.int .i64 3, .int .i64 7, .int .i64 1, .int .i64 1] 23))) rfl (Nat.le_refl 0) (by unfold maxLen; omega) (by simp) (by decide) (by decide) sm_next sm_nextA
  go_wp2_with fail
  refine cc.mono ?_
  clear  cc
  generalize (w.alloc (.cells #[.int .i64 3, .int .i64 7, .int .i64 1, .int .i64 1] 23)) = wg1 at *
  rintro _ w1 ⟨A1, c1, rfl, hm, bx⟩
  simp only
  replace pc := pc.below bx
  replace bw := below2 bw bx
  clear bx
  rw [show manV smM A1 c1 = .agg #[.int .i64 1, .int .i64 4, .int .i64 7, .int .i64 1, .int .i64 2, .int .i64 2, .int .i64 6, .slice A1 0 c1] from rfl]
  have lpc := pc.lt
  have pc_0 := pc.cell 0
  have pc_1 := pc.cell 1
  have pc_2 := pc.cell 2
  have pc_3 := pc.cell 3
  simp only [List.getElem?_cons_zero, List.getElem?_cons_succ] at pc_0 pc_1 pc_2 pc_3
  have bx := hal w1 (.cells #[.int .i64 1, .int .i64 4, .int .i64 7, .int .i64 1, .int .i64 2, .int .i64 2, .int .i64 6, .slice A1 0 c1] 26)
  have pm := Blk.new w1 [.int .i64 1, .int .i64 4, .int .i64 7, .int .i64 1, .int .i64 2, .int .i64 2, .int .i64 6, .slice A1 0 c1] 26
  replace pc := pc.below bx
  replace hm := hm.below bx
  replace bw := below2 bw bx
  clear bx
  have bx := hal (w1.alloc (.cells #[.int .i64 1, .int .i64 4, .int .i64 7, .int .i64 1, .int .i64 2, .int .i64 2, .int .i64 6, .slice A1 0 c1] 26)) (.cells #[.int .i64 5, .int .i64 6] 3)
  have pr := Blk.new (w1.alloc (.cells #[.int .i64 1, .int .i64 4, .int .i64 7, .int .i64 1, .int .i64 2, .int .i64 2, .int .i64 6, .slice A1 0 c1] 26)) [.int .i64 5, .int .i64 6] 3
  simp only [World.size_alloc] at pr
  replace pc := pc.below bx
  replace pm := pm.below bx
  replace hm := hm.below bx
  replace bw := below2 bw bx
  clear bx
  have cc := accept_val (k := 2) 1 9 hm hpp (by decide) (own := [5, 6]) (n := 2) rfl (Blk.rd pr) (by decide) sm_acc sm_accC
  go_wp2_with fail
  refine cc.mono ?_
  clear lpc pc_0 pc_1 pc_2 pc_3 cc
  generalize ((w1.alloc (.cells #[.int .i64 1, .int .i64 4, .int .i64 7, .int .i64 1, .int .i64 2, .int .i64 2, .int .i64 6, .slice A1 0 c1] 26)).alloc (.cells #[.int .i64 5, .int .i64 6] 3)) = wg2 at *
  rintro _ w2 ⟨rfl, bx⟩
  simp only
  replace pc := pc.below bx
  replace pm := pm.below bx
  replace pr := pr.below bx
  replace hm := hm.below bx
  replace bw := below2 bw bx
  clear bx
  clear pr
  have lpc := pc.lt
  have pc_0 := pc.cell 0
  have pc_1 := pc.cell 1
  have pc_2 := pc.cell 2
  have pc_3 := pc.cell 3
  have lpm := pm.lt
  have pm_0 := pm.cell 0
  have pm_1 := pm.cell 1
  have pm_2 := pm.cell 2
  have pm_3 := pm.cell 3
  have pm_4 := pm.cell 4
  have pm_5 := pm.cell 5
  have pm_6 := pm.cell 6
  have pm_7 := pm.cell 7
  simp only [List.getElem?_cons_zero, List.getElem?_cons_succ] at pc_0 pc_1 pc_2 pc_3 pm_0 pm_1 pm_2 pm_3 pm_4 pm_5 pm_6 pm_7
  have bx := hal w2 (.cells #[.int .i64 4, .int .i64 9, .int .i64 2, .int .i64 2] 23)
  have pd := Blk.new w2 [.int .i64 4, .int .i64 9, .int .i64 2, .int .i64 2] 23
  replace pc := pc.below bx
  replace pm := pm.below bx
  replace hm := hm.below bx
  replace bw := below2 bw bx
  clear bx
  have bx := hal (w2.alloc (.cells #[.int .i64 4, .int .i64 9, .int .i64 2, .int .i64 2] 23)) (.cells #[.int .i64 5, .int .i64 6] 3)
  have pr := Blk.new (w2.alloc (.cells #[.int .i64 4, .int .i64 9, .int .i64 2, .int .i64 2] 23)) [.int .i64 5, .int .i64 6] 3
  simp only [World.size_alloc] at pr
  replace pc := pc.below bx
  replace pm := pm.below bx
  replace pd := pd.below bx
  replace hm := hm.below bx
  replace bw := below2 bw bx
  clear bx
  have cc := accept_val (k := 2) 1 9 hm hpp (by decide) (own := [5, 6]) (n := 2) rfl (Blk.rd pr) (by decide) (u := smD) sm_old (accC_no (by rw [sm_old]; decide))
  go_wp2_with fail
  refine cc.mono ?_
  clear lpc lpm pc_0 pc_1 pc_2 pc_3 pm_0 pm_1 pm_2 pm_3 pm_4 pm_5 pm_6 pm_7 cc
  generalize ((w2.alloc (.cells #[.int .i64 4, .int .i64 9, .int .i64 2, .int .i64 2] 23)).alloc (.cells #[.int .i64 5, .int .i64 6] 3)) = wg3 at *
  rintro _ w3 ⟨rfl, bx⟩
  simp only
  replace pc := pc.below bx
  replace pm := pm.below bx
  replace pd := pd.below bx
  replace pr := pr.below bx
  replace hm := hm.below bx
  replace bw := below2 bw bx
  clear bx
  clear pr
  have lpc := pc.lt
  have pc_0 := pc.cell 0
  have pc_1 := pc.cell 1
  have pc_2 := pc.cell 2
  have pc_3 := pc.cell 3
  have lpm := pm.lt
  have pm_0 := pm.cell 0
  have pm_1 := pm.cell 1
  have pm_2 := pm.cell 2
  have pm_3 := pm.cell 3
  have pm_4 := pm.cell 4
  have pm_5 := pm.cell 5
  have pm_6 := pm.cell 6
  have pm_7 := pm.cell 7
  have lpd := pd.lt
  have pd_0 := pd.cell 0
  have pd_1 := pd.cell 1
  have pd_2 := pd.cell 2
  have pd_3 := pd.cell 3
  simp only [List.getElem?_cons_zero, List.getElem?_cons_succ] at pc_0 pc_1 pc_2 pc_3 pm_0 pm_1 pm_2 pm_3 pm_4 pm_5 pm_6 pm_7 pd_0 pd_1 pd_2 pd_3
  have bx := hal w3 (.cells #[.int .i64 4, .int .i64 9, .int .i64 2, .int .i64 2] 23)
  replace pc := pc.below bx
  replace pm := pm.below bx
  replace pd := pd.below bx
  replace hm := hm.below bx
  replace bw := below2 bw bx
  clear bx
  have cc := accept_val (k := 0) 1 9 hm hpp (by decide) (own := []) (n := 0) rfl (O := none) (.inl rfl) (by decide) (u := ⟨2, 0, 0, 0⟩) sm_gap (accC_no (by rw [sm_gap]; decide))
  go_wp2_with fail
  refine cc.mono ?_
  clear lpc lpm lpd pc_0 pc_1 pc_2 pc_3 pm_0 pm_1 pm_2 pm_3 pm_4 pm_5 pm_6 pm_7 pd_0 pd_1 pd_2 pd_3 cc
  generalize (w3.alloc (.cells #[.int .i64 4, .int .i64 9, .int .i64 2, .int .i64 2] 23)) = wg4 at *
  rintro _ w4 ⟨rfl, bx⟩
  simp only
  replace pc := pc.below bx
  replace pm := pm.below bx
  replace pd := pd.below bx
  replace hm := hm.below bx
  replace bw := below2 bw bx
  clear bx
  have lpc := pc.lt
  have pc_0 := pc.cell 0
  have pc_1 := pc.cell 1
  have pc_2 := pc.cell 2
  have pc_3 := pc.cell 3
  have lpm := pm.lt
  have pm_0 := pm.cell 0
  have pm_1 := pm.cell 1
  have pm_2 := pm.cell 2
  have pm_3 := pm.cell 3
  have pm_4 := pm.cell 4
  have pm_5 := pm.cell 5
  have pm_6 := pm.cell 6
  have pm_7 := pm.cell 7
  have lpd := pd.lt
  have pd_0 := pd.cell 0
  have pd_1 := pd.cell 1
  have pd_2 := pd.cell 2
  have pd_3 := pd.cell 3
  simp only [List.getElem?_cons_zero, List.getElem?_cons_succ] at pc_0 pc_1 pc_2 pc_3 pm_0 pm_1 pm_2 pm_3 pm_4 pm_5 pm_6 pm_7 pd_0 pd_1 pd_2 pd_3
  have bx := hal w4 (.cells #[.int .i64 2, .int .i64 0, .int .i64 0, .int .i64 0] 23)
  replace pc := pc.below bx
  replace pm := pm.below bx
  replace pd := pd.below bx
  replace hm := hm.below bx
  replace bw := below2 bw bx
  clear bx
  have bx := hal (w4.alloc (.cells #[.int .i64 2, .int .i64 0, .int .i64 0, .int .i64 0] 23)) (.cells #[.int .i64 5, .int .i64 4] 3)
  have pr := Blk.new (w4.alloc (.cells #[.int .i64 2, .int .i64 0, .int .i64 0, .int .i64 0] 23)) [.int .i64 5, .int .i64 4] 3
  simp only [World.size_alloc] at pr
  replace pc := pc.below bx
  replace pm := pm.below bx
  replace pd := pd.below bx
  replace hm := hm.below bx
  replace bw := below2 bw bx
  clear bx
  have cc := accept_val (k := 2) 1 9 hm hpp (by decide) (own := [5, 4]) (n := 2) rfl (Blk.rd pr) (by decide) (u := smC) sm_fork (accC_no (by rw [sm_fork]; decide))
  go_wp2_with fail
  refine cc.mono ?_
  clear lpc lpm lpd pc_0 pc_1 pc_2 pc_3 pm_0 pm_1 pm_2 pm_3 pm_4 pm_5 pm_6 pm_7 pd_0 pd_1 pd_2 pd_3 cc
  generalize ((w4.alloc (.cells #[.int .i64 2, .int .i64 0, .int .i64 0, .int .i64 0] 23)).alloc (.cells #[.int .i64 5, .int .i64 4] 3)) = wg5 at *
  rintro _ w5 ⟨rfl, bx⟩
  simp only
  replace pc := pc.below bx
  replace pm := pm.below bx
  replace pd := pd.below bx
  replace pr := pr.below bx
  replace hm := hm.below bx
  replace bw := below2 bw bx
  clear bx
  clear pr
  have lpc := pc.lt
  have pc_0 := pc.cell 0
  have pc_1 := pc.cell 1
  have pc_2 := pc.cell 2
  have pc_3 := pc.cell 3
  have lpm := pm.lt
  have pm_0 := pm.cell 0
  have pm_1 := pm.cell 1
  have pm_2 := pm.cell 2
  have pm_3 := pm.cell 3
  have pm_4 := pm.cell 4
  have pm_5 := pm.cell 5
  have pm_6 := pm.cell 6
  have pm_7 := pm.cell 7
  have lpd := pd.lt
  have pd_0 := pd.cell 0
  have pd_1 := pd.cell 1
  have pd_2 := pd.cell 2
  have pd_3 := pd.cell 3
  simp only [List.getElem?_cons_zero, List.getElem?_cons_succ] at pc_0 pc_1 pc_2 pc_3 pm_0 pm_1 pm_2 pm_3 pm_4 pm_5 pm_6 pm_7 pd_0 pd_1 pd_2 pd_3
  have bx := hal w5 (.cells #[.int .i64 3, .int .i64 7, .int .i64 1, .int .i64 1] 23)
  replace pc := pc.below bx
  replace pm := pm.below bx
  replace pd := pd.below bx
  replace hm := hm.below bx
  replace bw := below2 bw bx
  clear bx
  have cc := next_val (n := 0) (c := 0) ⟨200, 0, 0, 0⟩ 1 false zeroC (hp0 (w5.alloc (.cells #[.int .i64 3, .int .i64 7, .int .i64 1, .int .i64 1] 23))) rfl (Nat.le_refl 0) (by unfold maxLen; omega) (by simp) (by decide) (by decide) sm_full (next_no (by rw [sm_full]; decide)).2
  go_wp2_with fail
  refine cc.mono ?_
  clear lpc lpm lpd pc_0 pc_1 pc_2 pc_3 pm_0 pm_1 pm_2 pm_3 pm_4 pm_5 pm_6 pm_7 pd_0 pd_1 pd_2 pd_3 cc
  generalize (w5.alloc (.cells #[.int .i64 3, .int .i64 7, .int .i64 1, .int .i64 1] 23)) = wg6 at *
  rintro _ w6 ⟨A2, c2, rfl, -, bx⟩
  simp only
  replace pc := pc.below bx
  replace pm := pm.below bx
  replace pd := pd.below bx
  replace hm := hm.below bx
  replace bw := below2 bw bx
  clear bx
  rw [show manV zeroM A2 c2 = .agg #[.int .i64 0, .int .i64 0, .int .i64 0, .int .i64 0, .int .i64 0, .int .i64 0, .int .i64 0, .slice A2 0 c2] from rfl]
  have lpc := pc.lt
  have pc_0 := pc.cell 0
  have pc_1 := pc.cell 1
  have pc_2 := pc.cell 2
  have pc_3 := pc.cell 3
  have lpm := pm.lt
  have pm_0 := pm.cell 0
  have pm_1 := pm.cell 1
  have pm_2 := pm.cell 2
  have pm_3 := pm.cell 3
  have pm_4 := pm.cell 4
  have pm_5 := pm.cell 5
  have pm_6 := pm.cell 6
  have pm_7 := pm.cell 7
  have lpd := pd.lt
  have pd_0 := pd.cell 0
  have pd_1 := pd.cell 1
  have pd_2 := pd.cell 2
  have pd_3 := pd.cell 3
  simp only [List.getElem?_cons_zero, List.getElem?_cons_succ] at pc_0 pc_1 pc_2 pc_3 pm_0 pm_1 pm_2 pm_3 pm_4 pm_5 pm_6 pm_7 pd_0 pd_1 pd_2 pd_3
  have bx := hal w6 (.cells #[.int .i64 0, .int .i64 0, .int .i64 0, .int .i64 0, .int .i64 0, .int .i64 0, .int .i64 0, .slice A2 0 c2] 26)
  replace pc := pc.below bx
  replace pm := pm.below bx
  replace pd := pd.below bx
  replace hm := hm.below bx
  replace bw := below2 bw bx
  clear bx
  have bx := hal (w6.alloc (.cells #[.int .i64 0, .int .i64 0, .int .i64 0, .int .i64 0, .int .i64 0, .int .i64 0, .int .i64 0, .slice A2 0 c2] 26)) (.cells #[.int .i64 1, .int .i64 4, .int .i64 7, .int .i64 1, .int .i64 2, .int .i64 2, .int .i64 6, .slice A1 0 c1, .int .i64 1, .int .i64 4, .int .i64 7, .int .i64 1, .int .i64 2, .int .i64 2, .int .i64 6, .slice A1 0 c1] 26)
  have pl := Blk.new (w6.alloc (.cells #[.int .i64 0, .int .i64 0, .int .i64 0, .int .i64 0, .int .i64 0, .int .i64 0, .int .i64 0, .slice A2 0 c2] 26)) [.int .i64 1, .int .i64 4, .int .i64 7, .int .i64 1, .int .i64 2, .int .i64 2, .int .i64 6, .slice A1 0 c1, .int .i64 1, .int .i64 4, .int .i64 7, .int .i64 1, .int .i64 2, .int .i64 2, .int .i64 6, .slice A1 0 c1] 26
  simp only [World.size_alloc] at pl
  replace pc := pc.below bx
  replace pm := pm.below bx
  replace pd := pd.below bx
  replace hm := hm.below bx
  replace bw := below2 bw bx
  clear bx
  have bx := hal ((w6.alloc (.cells #[.int .i64 0, .int .i64 0, .int .i64 0, .int .i64 0, .int .i64 0, .int .i64 0, .int .i64 0, .slice A2 0 c2] 26)).alloc (.cells #[.int .i64 1, .int .i64 4, .int .i64 7, .int .i64 1, .int .i64 2, .int .i64 2, .int .i64 6, .slice A1 0 c1, .int .i64 1, .int .i64 4, .int .i64 7, .int .i64 1, .int .i64 2, .int .i64 2, .int .i64 6, .slice A1 0 c1] 26)) (.cells #[.int .i64 9] 3)
  have ph := Blk.new ((w6.alloc (.cells #[.int .i64 0, .int .i64 0, .int .i64 0, .int .i64 0, .int .i64 0, .int .i64 0, .int .i64 0, .slice A2 0 c2] 26)).alloc (.cells #[.int .i64 1, .int .i64 4, .int .i64 7, .int .i64 1, .int .i64 2, .int .i64 2, .int .i64 6, .slice A1 0 c1, .int .i64 1, .int .i64 4, .int .i64 7, .int .i64 1, .int .i64 2, .int .i64 2, .int .i64 6, .slice A1 0 c1] 26)) [.int .i64 9] 3
  simp only [World.size_alloc] at ph
  replace pc := pc.below bx
  replace pm := pm.below bx
  replace pd := pd.below bx
  replace pl := pl.below bx
  replace hm := hm.below bx
  replace bw := below2 bw bx
  clear bx
  have bx := hal (((w6.alloc (.cells #[.int .i64 0, .int .i64 0, .int .i64 0, .int .i64 0, .int .i64 0, .int .i64 0, .int .i64 0, .slice A2 0 c2] 26)).alloc (.cells #[.int .i64 1, .int .i64 4, .int .i64 7, .int .i64 1, .int .i64 2, .int .i64 2, .int .i64 6, .slice A1 0 c1, .int .i64 1, .int .i64 4, .int .i64 7, .int .i64 1, .int .i64 2, .int .i64 2, .int .i64 6, .slice A1 0 c1] 26)).alloc (.cells #[.int .i64 9] 3)) (.cells #[.int .i64 5, .int .i64 6] 3)
  have pr := Blk.new (((w6.alloc (.cells #[.int .i64 0, .int .i64 0, .int .i64 0, .int .i64 0, .int .i64 0, .int .i64 0, .int .i64 0, .slice A2 0 c2] 26)).alloc (.cells #[.int .i64 1, .int .i64 4, .int .i64 7, .int .i64 1, .int .i64 2, .int .i64 2, .int .i64 6, .slice A1 0 c1, .int .i64 1, .int .i64 4, .int .i64 7, .int .i64 1, .int .i64 2, .int .i64 2, .int .i64 6, .slice A1 0 c1] 26)).alloc (.cells #[.int .i64 9] 3)) [.int .i64 5, .int .i64 6] 3
  simp only [World.size_alloc] at pr
  replace pc := pc.below bx
  replace pm := pm.below bx
  replace pd := pd.below bx
  replace pl := pl.below bx
  replace ph := ph.below bx
  replace hm := hm.below bx
  replace bw := below2 bw bx
  clear bx
  have hml := ms_of (xs := [(smM, A1, c1), (smM, A1, c1)]) (Blk.rd pl) (by simpa using hm)
  have cc := follow_any (c := 2) (k := 2) (k2 := 1) (u := smC) (ms := [smM, smM]) (hd := [9]) (own := [5, 6]) (n := 2) (n2 := 1) 1 hml (Nat.le_refl 2) (by unfold maxLen; omega) (by simp [smM]) (by decide) rfl (Blk.rd ph) (by decide) rfl (Blk.rd pr) (by decide)
  go_wp2_with fail
  refine cc.mono ?_
  clear lpc lpm lpd pc_0 pc_1 pc_2 pc_3 pm_0 pm_1 pm_2 pm_3 pm_4 pm_5 pm_6 pm_7 pd_0 pd_1 pd_2 pd_3 cc
  generalize ((((w6.alloc (.cells #[.int .i64 0, .int .i64 0, .int .i64 0, .int .i64 0, .int .i64 0, .int .i64 0, .int .i64 0, .slice A2 0 c2] 26)).alloc (.cells #[.int .i64 1, .int .i64 4, .int .i64 7, .int .i64 1, .int .i64 2, .int .i64 2, .int .i64 6, .slice A1 0 c1, .int .i64 1, .int .i64 4, .int .i64 7, .int .i64 1, .int .i64 2, .int .i64 2, .int .i64 6, .slice A1 0 c1] 26)).alloc (.cells #[.int .i64 9] 3)).alloc (.cells #[.int .i64 5, .int .i64 6] 3)) = wg7 at *
  rintro _ w7 ⟨xf, kf, nf, rfl, hf, bx⟩
  simp only
  replace pc := pc.below bx
  replace pm := pm.below bx
  replace pd := pd.below bx
  replace pl := pl.below bx
  replace ph := ph.below bx
  replace pr := pr.below bx
  replace hm := hm.below bx
  replace bw := below2 bw bx
  clear bx
  clear pl
  clear ph
  clear pr
  obtain ⟨rfl, rfl, rfl⟩ := FolP.one hf sm_fol
  clear hf hml
  have lpc := pc.lt
  have pc_0 := pc.cell 0
  have pc_1 := pc.cell 1
  have pc_2 := pc.cell 2
  have pc_3 := pc.cell 3
  have lpm := pm.lt
  have pm_0 := pm.cell 0
  have pm_1 := pm.cell 1
  have pm_2 := pm.cell 2
  have pm_3 := pm.cell 3
  have pm_4 := pm.cell 4
  have pm_5 := pm.cell 5
  have pm_6 := pm.cell 6
  have pm_7 := pm.cell 7
  have lpd := pd.lt
  have pd_0 := pd.cell 0
  have pd_1 := pd.cell 1
  have pd_2 := pd.cell 2
  have pd_3 := pd.cell 3
  simp only [List.getElem?_cons_zero, List.getElem?_cons_succ] at pc_0 pc_1 pc_2 pc_3 pm_0 pm_1 pm_2 pm_3 pm_4 pm_5 pm_6 pm_7 pd_0 pd_1 pd_2 pd_3
  have bx := hal w7 (.cells #[.int .i64 4, .int .i64 9, .int .i64 2, .int .i64 2] 23)
  have px := Blk.new w7 [.int .i64 4, .int .i64 9, .int .i64 2, .int .i64 2] 23
  replace pc := pc.below bx
  replace pm := pm.below bx
  replace pd := pd.below bx
  replace hm := hm.below bx
  replace bw := below2 bw bx
  clear bx
  have f1 := fatal_any 11 (w7.alloc (.cells #[.int .i64 4, .int .i64 9, .int .i64 2, .int .i64 2] 23))
  have f2 := fatal_any 9 (w7.alloc (.cells #[.int .i64 4, .int .i64 9, .int .i64 2, .int .i64 2] 23))
  have hcc := eqC 4 9 2 2 4 9 2 2
  go_wp2_with fail
  refine f1.mono ?_
  rintro _ _ ⟨rfl, rfl⟩
  simp only
  go_wp2_with fail
  refine f2.mono ?_
  rintro _ _ ⟨rfl, rfl⟩
  simp only
  go_wp2
  go_ret
  exact ⟨rfl, bw⟩
end Go.Proofs.YteimgnmjmpeobaaDoor
namespace Go.Proofs.YteimgnmjmpeobaaDoor
open Go.RowKit

theorem own_le1 {own : List Int} {k b : Nat} (h1 : own.length ≤ k) (h2 : k * b ≤ reachBytes) (hb : b = 8) : own.length ≤ 9223372036854775807 := by
  subst hb
  simp only [reachBytes] at h2
  omega
theorem nextA_nil (u : Cur) (au : Int) (t : Bool) (p : Cur) : (nextA u au t p []).pieces = [] := by
  by_cases h : nextN u au t p [] = 0
  · rw [(next_ok h).2.2.2]; rfl
  · rw [(next_no h).2]; rfl
section
variable {v h e a au b d : Int} {own : List Int}
theorem forks_acc (h1 : nextN ⟨v, h, e, a⟩ au false zeroC [] = 0) : accN ⟨v, h, e, 0⟩ au (nextA ⟨v, h, e, a⟩ au false zeroC []) own = 0 :=
  next_acc (c := ⟨v, h, e, 0⟩) (t := false) (p := zeroC) (ps := []) h1 (Int.le_refl 0) (ownD_zero own).symm
theorem forks_cur (h1 : nextN ⟨v, h, e, a⟩ au false zeroC [] = 0) : accC ⟨v, h, e, 0⟩ au (nextA ⟨v, h, e, a⟩ au false zeroC []) b own = ⟨v + 1, b, e, 0⟩ := by
  rw [accC_yes (forks_acc h1), (next_ok h1).2.2.2]
  simp [nextM, bitI, zeroC]
theorem forks_old (h2 : nextN ⟨v, h, e, a⟩ au true zeroC [] = 0) : accN ⟨v + 1, b, e, 0⟩ au (nextA ⟨v, h, e, a⟩ au true zeroC []) own = 9 := by
  obtain ⟨-, -, hr, he⟩ := next_ok h2
  rw [he]
  exact acc_nine ((manR_iff _).2 hr) rfl (Int.le_refl _)
theorem forks_last (h3 : nextN ⟨v + 1, d, e, 0⟩ au false zeroC [] = 0) : accN ⟨v + 1, b, e, 0⟩ au (nextA ⟨v + 1, d, e, 0⟩ au false zeroC []) own = if b = d then 0 else 11 := by
  by_cases hbd : b = d
  · subst hbd
    rw [if_pos rfl]
    exact next_acc h3 (Int.le_refl 0) (ownD_zero own).symm
  · rw [if_neg hbd]
    obtain ⟨-, -, hr, he⟩ := next_ok h3
    rw [he]
    exact acc_prev ((manR_iff _).2 hr) rfl rfl (fun k => hbd k.symm)
end
set_option maxHeartbeats 8000000 in
set_option maxRecDepth 20000 in
theorem chainForks_walk (u : Cur) (au : Int) (a' : Int) (b : Int) (O : Option Addr) (k : Nat) (own : List Int) (w : World) (hu : CurI u) (_ : (Lit.int .i64 au).wf = true) (_ : (Lit.int .i64 a').wf = true) (_ : (Lit.int .i64 b).wf = true) (hor : Rd w O (own.map (Value.int .i64))) (hok : own.length ≤ k) (hkb : k * Tryd.prog.bytesOf 3 ≤ reachBytes) (_ : ∀ n ∈ own, (Lit.int .i64 n).wf = true) :
    Calls Tryd.prog 7 #[curV u, .int .i64 au, .int .i64 a', .int .i64 b, .slice O own.length k] w fun e w' => e = .returned (.bool true) ∧ Below w.heap.size w w' := by
  have hal : ∀ (W : World) (o : Obj), Below W.heap.size W (W.alloc o) := fun W o => (Below.refl _ _).alloc (Nat.le_refl _) o
  have hp0 : ∀ W : World, PcsAt W none [] := fun W => .inl rfl
  have hon := own_le1 hok hkb (by kernel_rfl)
  replace hor : Rd w O (intV own) := hor
  have hor0 := hor
  obtain ⟨n, hn⟩ : ∃ n, own.length = n := ⟨_, rfl⟩
  rw [hn] at hon ⊢
  have HOL := hid hn
  have HCV := hid hu.v.1
  have HCE := hid hu.e.1
  clear hn hok hkb hu
  obtain ⟨v, h, e, a⟩ := u
  dsimp only at HCV HCE ⊢
  go_enter Tryd.func7, Tryd.ntmps7
  have bx := hal w (.cells #[.int .i64 v, .int .i64 h, .int .i64 e, .int .i64 a] 23)
  have pc := Blk.new w [.int .i64 v, .int .i64 h, .int .i64 e, .int .i64 a] 23
  replace hor := hor.below bx
  have bw := bx
  clear bx
  have cc := small13_any (w.alloc (.cells #[.int .i64 v, .int .i64 h, .int .i64 e, .int .i64 a] 23))
  go_wp2_with fail
  refine cc.mono ?_
  clear  cc
  generalize (w.alloc (.cells #[.int .i64 v, .int .i64 h, .int .i64 e, .int .i64 a] 23)) = wg1 at *
  rintro _ w1 ⟨rfl, bx⟩
  simp only
  replace pc := pc.below bx
  replace hor := hor.below bx
  replace bw := below2 bw bx
  clear bx
  by_cases h100 : (100 : Int) < n
  · go_wp2
    go_ret
    exact ⟨rfl, bw⟩
  have lpc := pc.lt
  have pc_0 := pc.cell 0
  have pc_1 := pc.cell 1
  have pc_2 := pc.cell 2
  have pc_3 := pc.cell 3
  simp only [List.getElem?_cons_zero, List.getElem?_cons_succ] at pc_0 pc_1 pc_2 pc_3
  have cc := next_any (A := none) (n := 0) (c := 0) (⟨v, h, e, a⟩ : Cur) au false zeroC (hp0 w1) rfl (Nat.le_refl 0) (by unfold maxLen; omega) (by simp) HCV.out HCE.out
  go_wp2_with fail
  refine cc.mono ?_
  clear lpc pc_0 pc_1 pc_2 pc_3 cc
  rintro _ w2 ⟨A1, c1, rfl, hm1, bx, -⟩
  simp only
  replace pc := pc.below bx
  replace hor := hor.below bx
  replace bw := below2 bw bx
  clear bx
  have HE1 := hid (rfl : nextN (⟨v, h, e, a⟩ : Cur) au false zeroC [] = nextN (⟨v, h, e, a⟩ : Cur) au false zeroC [])
  have HP1 := nextA_nil (⟨v, h, e, a⟩ : Cur) au false zeroC
  generalize hM : nextA (⟨v, h, e, a⟩ : Cur) au false zeroC [] = M1 at *
  generalize hN : nextN (⟨v, h, e, a⟩ : Cur) au false zeroC [] = N1 at *
  have HM1 := hid hM
  have HN1 := hid hN
  clear hM hN HE1
  obtain ⟨p11, p12, p13, p14, p15, p16, p17, ps1⟩ := M1
  dsimp only at HP1
  subst HP1
  rw [show manV (⟨p11, p12, p13, p14, p15, p16, p17, []⟩ : Man) A1 c1 = .agg #[.int .i64 p11, .int .i64 p12, .int .i64 p13, .int .i64 p14, .int .i64 p15, .int .i64 p16, .int .i64 p17, .slice A1 0 c1] from rfl]
  have hlp : w.heap.size < w2.heap.size := pc.lt
  have lpc := pc.lt
  have pc_0 := pc.cell 0
  have pc_1 := pc.cell 1
  have pc_2 := pc.cell 2
  have pc_3 := pc.cell 3
  simp only [List.getElem?_cons_zero, List.getElem?_cons_succ] at pc_0 pc_1 pc_2 pc_3
  have bx := hal w2 (.cells #[.int .i64 p11, .int .i64 p12, .int .i64 p13, .int .i64 p14, .int .i64 p15, .int .i64 p16, .int .i64 p17, .slice A1 0 c1] 26)
  have pm := Blk.new w2 [.int .i64 p11, .int .i64 p12, .int .i64 p13, .int .i64 p14, .int .i64 p15, .int .i64 p16, .int .i64 p17, .slice A1 0 c1] 26
  replace pc := pc.below bx
  replace hor := hor.below bx
  replace hm1 := hm1.below bx
  replace bw := below2 bw bx
  clear bx
  have cc := next_any (A := none) (n := 0) (c := 0) (⟨v, h, e, a⟩ : Cur) au true zeroC (hp0 (w2.alloc (.cells #[.int .i64 p11, .int .i64 p12, .int .i64 p13, .int .i64 p14, .int .i64 p15, .int .i64 p16, .int .i64 p17, .slice A1 0 c1] 26))) rfl (Nat.le_refl 0) (by unfold maxLen; omega) (by simp) HCV.out HCE.out
  go_wp2_with fail
  refine cc.mono ?_
  clear lpc pc_0 pc_1 pc_2 pc_3 cc
  generalize (w2.alloc (.cells #[.int .i64 p11, .int .i64 p12, .int .i64 p13, .int .i64 p14, .int .i64 p15, .int .i64 p16, .int .i64 p17, .slice A1 0 c1] 26)) = wg3 at *
  rintro _ w3 ⟨A2, c2, rfl, hm2, bx, -⟩
  simp only
  replace pc := pc.below bx
  replace pm := pm.below bx
  replace hor := hor.below bx
  replace hm1 := hm1.below bx
  replace bw := below2 bw bx
  clear bx
  have HE2 := hid (rfl : nextN (⟨v, h, e, a⟩ : Cur) au true zeroC [] = nextN (⟨v, h, e, a⟩ : Cur) au true zeroC [])
  have HP2 := nextA_nil (⟨v, h, e, a⟩ : Cur) au true zeroC
  generalize hM : nextA (⟨v, h, e, a⟩ : Cur) au true zeroC [] = M2 at *
  generalize hN : nextN (⟨v, h, e, a⟩ : Cur) au true zeroC [] = N2 at *
  have HM2 := hid hM
  have HN2 := hid hN
  clear hM hN HE2
  obtain ⟨p21, p22, p23, p24, p25, p26, p27, ps2⟩ := M2
  dsimp only at HP2
  subst HP2
  rw [show manV (⟨p21, p22, p23, p24, p25, p26, p27, []⟩ : Man) A2 c2 = .agg #[.int .i64 p21, .int .i64 p22, .int .i64 p23, .int .i64 p24, .int .i64 p25, .int .i64 p26, .int .i64 p27, .slice A2 0 c2] from rfl]
  have lpc := pc.lt
  have pc_0 := pc.cell 0
  have pc_1 := pc.cell 1
  have pc_2 := pc.cell 2
  have pc_3 := pc.cell 3
  have lpm := pm.lt
  have pm_0 := pm.cell 0
  have pm_1 := pm.cell 1
  have pm_2 := pm.cell 2
  have pm_3 := pm.cell 3
  have pm_4 := pm.cell 4
  have pm_5 := pm.cell 5
  have pm_6 := pm.cell 6
  have pm_7 := pm.cell 7
  simp only [List.getElem?_cons_zero, List.getElem?_cons_succ] at pc_0 pc_1 pc_2 pc_3 pm_0 pm_1 pm_2 pm_3 pm_4 pm_5 pm_6 pm_7
  have f3 := pc.frozen 3
  have hlo : w.heap.size < w3.heap.size := pc.lt
  have pcS := pc.set_ 3 (.int .i64 0)
  simp only [List.set_cons_zero, List.set_cons_succ] at pcS
  have pmS := pm.other (show w2.heap.size ≠ w.heap.size by omega) 3 (.int .i64 0)
  have bwS : Below w.heap.size w (w3.setCell ⟨w.heap.size, 3, none⟩ (.int .i64 0)) := bw.trans (below_grown bw.size (far13 (Nat.le_refl _)) (grown_set 3 _))
  have horS := hor0.below bwS
  have hm1S : Mt (w3.setCell ⟨w.heap.size, 3, none⟩ (.int .i64 0)) A1 c1 (⟨p11, p12, p13, p14, p15, p16, p17, []⟩ : Man) := ⟨.inl rfl, Nat.zero_le _, hm1.capm⟩
  have hm2S : Mt (w3.setCell ⟨w.heap.size, 3, none⟩ (.int .i64 0)) A2 c2 (⟨p21, p22, p23, p24, p25, p26, p27, []⟩ : Man) := ⟨.inl rfl, Nat.zero_le _, hm2.capm⟩
  have hsz : (w3.setCell ⟨w.heap.size, 3, none⟩ (.int .i64 0)).heap.size = w3.heap.size := by simp
  have pn := Blk.new (w3.setCell ⟨w.heap.size, 3, none⟩ (.int .i64 0)) [.int .i64 p21, .int .i64 p22, .int .i64 p23, .int .i64 p24, .int .i64 p25, .int .i64 p26, .int .i64 p27, .slice A2 0 c2] 26
  rw [hsz] at pn
  have bx := hal (w3.setCell ⟨w.heap.size, 3, none⟩ (.int .i64 0)) (.cells #[.int .i64 p21, .int .i64 p22, .int .i64 p23, .int .i64 p24, .int .i64 p25, .int .i64 p26, .int .i64 p27, .slice A2 0 c2] 26)
  clear pc pm hor hm1 hm2 bw
  have pc := pcS.below bx
  have pm := pmS.below bx
  have hor := horS.below bx
  have hm1 := hm1S.below bx
  have hm2 := hm2S.below bx
  have bw := below2 bwS bx
  clear pcS pmS horS hm1S hm2S bwS bx hsz
  have cc := accept_any (k := k) (u := (⟨v, h, e, 0⟩ : Cur)) (m := (⟨p11, p12, p13, p14, p15, p16, p17, []⟩ : Man)) au a' hm1 (by simp) HCV.out HOL.out hor hon
  go_wp2_with fail
  refine cc.mono ?_
  clear cc f3 lpc lpm pc_0 pc_1 pc_2 pc_3 pm_0 pm_1 pm_2 pm_3 pm_4 pm_5 pm_6 pm_7
  generalize ((w3.setCell ⟨w.heap.size, 3, none⟩ (.int .i64 0)).alloc (.cells #[.int .i64 p21, .int .i64 p22, .int .i64 p23, .int .i64 p24, .int .i64 p25, .int .i64 p26, .int .i64 p27, .slice A2 0 c2] 26)) = wga at *
  rintro _ w4 ⟨rfl, bx⟩
  simp only
  replace pc := pc.below bx
  replace pm := pm.below bx
  replace pn := pn.below bx
  replace hor := hor.below bx
  replace hm1 := hm1.below bx
  replace hm2 := hm2.below bx
  replace bw := below2 bw bx
  clear bx
  generalize hX : accC (⟨v, h, e, 0⟩ : Cur) au (⟨p11, p12, p13, p14, p15, p16, p17, []⟩ : Man) a' own = X1 at *
  generalize hN : accN (⟨v, h, e, 0⟩ : Cur) au (⟨p11, p12, p13, p14, p15, p16, p17, []⟩ : Man) own = G1 at *
  have HX1 := hid hX
  have HG1 := hid hN
  clear hX hN
  obtain ⟨x11, x12, x13, x14⟩ := X1
  have lpc := pc.lt
  have pc_0 := pc.cell 0
  have pc_1 := pc.cell 1
  have pc_2 := pc.cell 2
  have pc_3 := pc.cell 3
  have lpm := pm.lt
  have pm_0 := pm.cell 0
  have pm_1 := pm.cell 1
  have pm_2 := pm.cell 2
  have pm_3 := pm.cell 3
  have pm_4 := pm.cell 4
  have pm_5 := pm.cell 5
  have pm_6 := pm.cell 6
  have pm_7 := pm.cell 7
  have lpn := pn.lt
  have pn_0 := pn.cell 0
  have pn_1 := pn.cell 1
  have pn_2 := pn.cell 2
  have pn_3 := pn.cell 3
  have pn_4 := pn.cell 4
  have pn_5 := pn.cell 5
  have pn_6 := pn.cell 6
  have pn_7 := pn.cell 7
  simp only [List.getElem?_cons_zero, List.getElem?_cons_succ] at pc_0 pc_1 pc_2 pc_3 pm_0 pm_1 pm_2 pm_3 pm_4 pm_5 pm_6 pm_7 pn_0 pn_1 pn_2 pn_3 pn_4 pn_5 pn_6 pn_7
  have bx := hal w4 (.cells #[.int .i64 x11, .int .i64 x12, .int .i64 x13, .int .i64 x14] 23)
  have px := Blk.new w4 [.int .i64 x11, .int .i64 x12, .int .i64 x13, .int .i64 x14] 23
  replace pc := pc.below bx
  replace pm := pm.below bx
  replace pn := pn.below bx
  replace hor := hor.below bx
  replace hm1 := hm1.below bx
  replace hm2 := hm2.below bx
  replace bw := below2 bw bx
  clear bx
  have cc := accept_any (k := k) (u := (⟨v, h, e, 0⟩ : Cur)) (m := (⟨p11, p12, p13, p14, p15, p16, p17, []⟩ : Man)) au b hm1 (by simp) HCV.out HOL.out hor hon
  go_wp2_with fail
  refine cc.mono ?_
  clear lpc lpm lpn pc_0 pc_1 pc_2 pc_3 pm_0 pm_1 pm_2 pm_3 pm_4 pm_5 pm_6 pm_7 pn_0 pn_1 pn_2 pn_3 pn_4 pn_5 pn_6 pn_7 cc
  generalize (w4.alloc (.cells #[.int .i64 x11, .int .i64 x12, .int .i64 x13, .int .i64 x14] 23)) = wg5 at *
  rintro _ w5 ⟨rfl, bx⟩
  simp only
  replace pc := pc.below bx
  replace pm := pm.below bx
  replace pn := pn.below bx
  replace px := px.below bx
  replace hor := hor.below bx
  replace hm1 := hm1.below bx
  replace hm2 := hm2.below bx
  replace bw := below2 bw bx
  clear bx
  rw [HG1.out]
  generalize hX : accC (⟨v, h, e, 0⟩ : Cur) au (⟨p11, p12, p13, p14, p15, p16, p17, []⟩ : Man) b own = X2 at *
  have HX2 := hid hX
  clear hX
  obtain ⟨x21, x22, x23, x24⟩ := X2
  by_cases hN1 : N1 = 0
  rotate_left
  · have hb : (N1 != 0) = true := by simp [hN1]
    have bx := hal w5 (.cells #[.int .i64 x21, .int .i64 x22, .int .i64 x23, .int .i64 x24] 23)
    replace bw := below2 bw bx
    clear bx
    go_wp2
    go_ret
    exact ⟨rfl, bw⟩
  subst hN1
  by_cases hN2 : N2 = 0
  rotate_left
  · have hb : (N2 != 0) = true := by simp [hN2]
    have bx := hal w5 (.cells #[.int .i64 x21, .int .i64 x22, .int .i64 x23, .int .i64 x24] 23)
    replace bw := below2 bw bx
    clear bx
    go_wp2
    go_ret
    exact ⟨rfl, bw⟩
  subst hN2
  have hG1 := forks_acc (own := own) HN1.out
  rw [HM1.out, HG1.out] at hG1
  subst hG1
  have hX1 := forks_cur (own := own) (b := a') HN1.out
  rw [HM1.out, HX1.out] at hX1
  injection hX1 with e1 e2 e3 e4
  subst e1 e2 e3 e4
  have hX2 := forks_cur (own := own) (b := b) HN1.out
  rw [HM1.out, HX2.out] at hX2
  injection hX2 with e1 e2 e3 e4
  subst e1 e2 e3 e4
  have hold := forks_old (own := own) (b := x12) HN2.out
  rw [HM2.out] at hold
  have HCV2 : Hid (-9223372036854775808 ≤ v + 1) := hid (by have := HCV.out; omega)
  have lpc := pc.lt
  have pc_0 := pc.cell 0
  have pc_1 := pc.cell 1
  have pc_2 := pc.cell 2
  have pc_3 := pc.cell 3
  have lpm := pm.lt
  have pm_0 := pm.cell 0
  have pm_1 := pm.cell 1
  have pm_2 := pm.cell 2
  have pm_3 := pm.cell 3
  have pm_4 := pm.cell 4
  have pm_5 := pm.cell 5
  have pm_6 := pm.cell 6
  have pm_7 := pm.cell 7
  have lpn := pn.lt
  have pn_0 := pn.cell 0
  have pn_1 := pn.cell 1
  have pn_2 := pn.cell 2
  have pn_3 := pn.cell 3
  have pn_4 := pn.cell 4
  have pn_5 := pn.cell 5
  have pn_6 := pn.cell 6
  have pn_7 := pn.cell 7
  have lpx := px.lt
  have px_0 := px.cell 0
  have px_1 := px.cell 1
  have px_2 := px.cell 2
  have px_3 := px.cell 3
  simp only [List.getElem?_cons_zero, List.getElem?_cons_succ] at pc_0 pc_1 pc_2 pc_3 pm_0 pm_1 pm_2 pm_3 pm_4 pm_5 pm_6 pm_7 pn_0 pn_1 pn_2 pn_3 pn_4 pn_5 pn_6 pn_7 px_0 px_1 px_2 px_3
  have bx := hal w5 (.cells #[.int .i64 (v + 1), .int .i64 x22, .int .i64 x23, .int .i64 0] 23)
  have py := Blk.new w5 [.int .i64 (v + 1), .int .i64 x22, .int .i64 x23, .int .i64 0] 23
  replace pc := pc.below bx
  replace pm := pm.below bx
  replace pn := pn.below bx
  replace px := px.below bx
  replace hor := hor.below bx
  replace hm1 := hm1.below bx
  replace hm2 := hm2.below bx
  replace bw := below2 bw bx
  clear bx
  have cc := accept_val (k := k) (u := ⟨v + 1, x12, x23, 0⟩) (m := (⟨p21, p22, p23, p24, p25, p26, p27, []⟩ : Man)) au x22 hm2 (by simp) HCV2.out HOL.out hor hon hold (accC_no (by rw [hold]; decide))
  go_wp2_with fail
  refine cc.mono ?_
  clear lpc lpm lpn lpx pc_0 pc_1 pc_2 pc_3 pm_0 pm_1 pm_2 pm_3 pm_4 pm_5 pm_6 pm_7 pn_0 pn_1 pn_2 pn_3 pn_4 pn_5 pn_6 pn_7 px_0 px_1 px_2 px_3 cc
  generalize (w5.alloc (.cells #[.int .i64 (v + 1), .int .i64 x22, .int .i64 x23, .int .i64 0] 23)) = wg6 at *
  rintro _ w6 ⟨rfl, bx⟩
  simp only
  replace pc := pc.below bx
  replace pm := pm.below bx
  replace pn := pn.below bx
  replace px := px.below bx
  replace py := py.below bx
  replace hor := hor.below bx
  replace hm1 := hm1.below bx
  replace hm2 := hm2.below bx
  replace bw := below2 bw bx
  clear bx
  clear hold
  have lpc := pc.lt
  have pc_0 := pc.cell 0
  have pc_1 := pc.cell 1
  have pc_2 := pc.cell 2
  have pc_3 := pc.cell 3
  have lpm := pm.lt
  have pm_0 := pm.cell 0
  have pm_1 := pm.cell 1
  have pm_2 := pm.cell 2
  have pm_3 := pm.cell 3
  have pm_4 := pm.cell 4
  have pm_5 := pm.cell 5
  have pm_6 := pm.cell 6
  have pm_7 := pm.cell 7
  have lpn := pn.lt
  have pn_0 := pn.cell 0
  have pn_1 := pn.cell 1
  have pn_2 := pn.cell 2
  have pn_3 := pn.cell 3
  have pn_4 := pn.cell 4
  have pn_5 := pn.cell 5
  have pn_6 := pn.cell 6
  have pn_7 := pn.cell 7
  have lpx := px.lt
  have px_0 := px.cell 0
  have px_1 := px.cell 1
  have px_2 := px.cell 2
  have px_3 := px.cell 3
  have lpy := py.lt
  have py_0 := py.cell 0
  have py_1 := py.cell 1
  have py_2 := py.cell 2
  have py_3 := py.cell 3
  simp only [List.getElem?_cons_zero, List.getElem?_cons_succ] at pc_0 pc_1 pc_2 pc_3 pm_0 pm_1 pm_2 pm_3 pm_4 pm_5 pm_6 pm_7 pn_0 pn_1 pn_2 pn_3 pn_4 pn_5 pn_6 pn_7 px_0 px_1 px_2 px_3 py_0 py_1 py_2 py_3
  have bx := hal w6 (.cells #[.int .i64 (v + 1), .int .i64 x12, .int .i64 x23, .int .i64 0] 23)
  replace pc := pc.below bx
  replace pm := pm.below bx
  replace pn := pn.below bx
  replace px := px.below bx
  replace py := py.below bx
  replace hor := hor.below bx
  replace hm1 := hm1.below bx
  replace hm2 := hm2.below bx
  replace bw := below2 bw bx
  clear bx
  have cc := next_any (A := none) (n := 0) (c := 0) ⟨v + 1, x22, x23, 0⟩ au false zeroC (hp0 (w6.alloc (.cells #[.int .i64 (v + 1), .int .i64 x12, .int .i64 x23, .int .i64 0] 23))) rfl (Nat.le_refl 0) (by unfold maxLen; omega) (by simp) HCV2.out HCE.out
  go_wp2_with fail
  refine cc.mono ?_
  clear lpc lpm lpn lpx lpy pc_0 pc_1 pc_2 pc_3 pm_0 pm_1 pm_2 pm_3 pm_4 pm_5 pm_6 pm_7 pn_0 pn_1 pn_2 pn_3 pn_4 pn_5 pn_6 pn_7 px_0 px_1 px_2 px_3 py_0 py_1 py_2 py_3 cc
  generalize (w6.alloc (.cells #[.int .i64 (v + 1), .int .i64 x12, .int .i64 x23, .int .i64 0] 23)) = wg7 at *
  rintro _ w7 ⟨A3, c3, rfl, hm3, bx, -⟩
  simp only
  replace pc := pc.below bx
  replace pm := pm.below bx
  replace pn := pn.below bx
  replace px := px.below bx
  replace py := py.below bx
  replace hor := hor.below bx
  replace hm1 := hm1.below bx
  replace hm2 := hm2.below bx
  replace bw := below2 bw bx
  clear bx
  have HE3 := hid (rfl : nextN ⟨v + 1, x22, x23, 0⟩ au false zeroC [] = nextN ⟨v + 1, x22, x23, 0⟩ au false zeroC [])
  have HP3 := nextA_nil ⟨v + 1, x22, x23, 0⟩ au false zeroC
  generalize hM : nextA ⟨v + 1, x22, x23, 0⟩ au false zeroC [] = M3 at *
  generalize hN : nextN ⟨v + 1, x22, x23, 0⟩ au false zeroC [] = N3 at *
  have HM3 := hid hM
  have HN3 := hid hN
  clear hM hN HE3
  obtain ⟨p31, p32, p33, p34, p35, p36, p37, ps3⟩ := M3
  dsimp only at HP3
  subst HP3
  rw [show manV (⟨p31, p32, p33, p34, p35, p36, p37, []⟩ : Man) A3 c3 = .agg #[.int .i64 p31, .int .i64 p32, .int .i64 p33, .int .i64 p34, .int .i64 p35, .int .i64 p36, .int .i64 p37, .slice A3 0 c3] from rfl]
  have lpc := pc.lt
  have pc_0 := pc.cell 0
  have pc_1 := pc.cell 1
  have pc_2 := pc.cell 2
  have pc_3 := pc.cell 3
  have lpm := pm.lt
  have pm_0 := pm.cell 0
  have pm_1 := pm.cell 1
  have pm_2 := pm.cell 2
  have pm_3 := pm.cell 3
  have pm_4 := pm.cell 4
  have pm_5 := pm.cell 5
  have pm_6 := pm.cell 6
  have pm_7 := pm.cell 7
  have lpn := pn.lt
  have pn_0 := pn.cell 0
  have pn_1 := pn.cell 1
  have pn_2 := pn.cell 2
  have pn_3 := pn.cell 3
  have pn_4 := pn.cell 4
  have pn_5 := pn.cell 5
  have pn_6 := pn.cell 6
  have pn_7 := pn.cell 7
  have lpx := px.lt
  have px_0 := px.cell 0
  have px_1 := px.cell 1
  have px_2 := px.cell 2
  have px_3 := px.cell 3
  have lpy := py.lt
  have py_0 := py.cell 0
  have py_1 := py.cell 1
  have py_2 := py.cell 2
  have py_3 := py.cell 3
  simp only [List.getElem?_cons_zero, List.getElem?_cons_succ] at pc_0 pc_1 pc_2 pc_3 pm_0 pm_1 pm_2 pm_3 pm_4 pm_5 pm_6 pm_7 pn_0 pn_1 pn_2 pn_3 pn_4 pn_5 pn_6 pn_7 px_0 px_1 px_2 px_3 py_0 py_1 py_2 py_3
  have bx := hal w7 (.cells #[.int .i64 p31, .int .i64 p32, .int .i64 p33, .int .i64 p34, .int .i64 p35, .int .i64 p36, .int .i64 p37, .slice A3 0 c3] 26)
  have pq := Blk.new w7 [.int .i64 p31, .int .i64 p32, .int .i64 p33, .int .i64 p34, .int .i64 p35, .int .i64 p36, .int .i64 p37, .slice A3 0 c3] 26
  replace pc := pc.below bx
  replace pm := pm.below bx
  replace pn := pn.below bx
  replace px := px.below bx
  replace py := py.below bx
  replace hor := hor.below bx
  replace hm1 := hm1.below bx
  replace hm2 := hm2.below bx
  replace hm3 := hm3.below bx
  replace bw := below2 bw bx
  clear bx
  have cc := accept_any (k := k) (u := ⟨v + 1, x12, x23, 0⟩) (m := (⟨p31, p32, p33, p34, p35, p36, p37, []⟩ : Man)) au 1 hm3 (by simp) HCV2.out HOL.out hor hon
  go_wp2_with fail
  refine cc.mono ?_
  clear lpc lpm lpn lpx lpy pc_0 pc_1 pc_2 pc_3 pm_0 pm_1 pm_2 pm_3 pm_4 pm_5 pm_6 pm_7 pn_0 pn_1 pn_2 pn_3 pn_4 pn_5 pn_6 pn_7 px_0 px_1 px_2 px_3 py_0 py_1 py_2 py_3 cc
  generalize (w7.alloc (.cells #[.int .i64 p31, .int .i64 p32, .int .i64 p33, .int .i64 p34, .int .i64 p35, .int .i64 p36, .int .i64 p37, .slice A3 0 c3] 26)) = wg8 at *
  rintro _ w8 ⟨rfl, bx⟩
  simp only
  replace pc := pc.below bx
  replace pm := pm.below bx
  replace pn := pn.below bx
  replace px := px.below bx
  replace py := py.below bx
  replace pq := pq.below bx
  replace hor := hor.below bx
  replace hm1 := hm1.below bx
  replace hm2 := hm2.below bx
  replace hm3 := hm3.below bx
  replace bw := below2 bw bx
  clear bx
  generalize hX : accC (⟨v + 1, x12, x23, 0⟩ : Cur) au (⟨p31, p32, p33, p34, p35, p36, p37, []⟩ : Man) 1 own = X3 at *
  generalize hN : accN (⟨v + 1, x12, x23, 0⟩ : Cur) au (⟨p31, p32, p33, p34, p35, p36, p37, []⟩ : Man) own = G3 at *
  have HX3 := hid hX
  have HG3 := hid hN
  clear hX hN
  obtain ⟨x31, x32, x33, x34⟩ := X3
  by_cases hN3 : N3 = 0
  rotate_left
  · have hb : (N3 != 0) = true := by simp [hN3]
    have bx := hal w8 (.cells #[.int .i64 x31, .int .i64 x32, .int .i64 x33, .int .i64 x34] 23)
    replace bw := below2 bw bx
    clear bx
    go_wp2
    go_ret
    exact ⟨rfl, bw⟩
  subst hN3
  have hlast := forks_last (own := own) (b := x12) HN3.out
  rw [HM3.out, HG3.out] at hlast
  by_cases hab : x12 = x22
  · subst hab
    rw [if_pos rfl] at hlast
    subst hlast
    have hb : (x12 == x12) = true := by simp
    have bx := hal w8 (.cells #[.int .i64 x31, .int .i64 x32, .int .i64 x33, .int .i64 x34] 23)
    replace bw := below2 bw bx
    clear bx
    go_wp2
    go_ret
    exact ⟨rfl, bw⟩
  · rw [if_neg hab] at hlast
    subst hlast
    have hb : (x12 == x22) = false := by simp [hab]
    have bx := hal w8 (.cells #[.int .i64 x31, .int .i64 x32, .int .i64 x33, .int .i64 x34] 23)
    replace bw := below2 bw bx
    clear bx
    go_wp2
    go_ret
    exact ⟨rfl, bw⟩
end Go.Proofs.YteimgnmjmpeobaaDoor
