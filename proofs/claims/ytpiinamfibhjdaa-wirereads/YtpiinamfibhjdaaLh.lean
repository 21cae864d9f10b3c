/- WireWrites: the walk. -/
import Derived.Test.YtpiinamfibhjdaaRa
import Derived.Test.YtpiinamfibhjdaaLd
import Derived.Deep.RegionHeld3
namespace Go.Proofs.Ytpiinamfibhjdaa
open Go.RowKit

/-- All that the comparison reads. -/
def WritesInv (Ax Ay Az A C : Option Addr) (X Y Z M : List UInt8) (ls : List ByteArray) (w : World) : Prop :=
  Rd w Ax (by8 X) ∧ Rd w Ay (by8 Y) ∧ Rd w Az (by8 Z) ∧ Rd w A (by8 M) ∧ Rd w C (strV ls)
theorem WritesInv.below {Ax Ay Az A C : Option Addr} {X Y Z M : List UInt8} {ls : List ByteArray} {w w' : World} (h : WritesInv Ax Ay Az A C X Y Z M ls w) (hb : Below w.heap.size w w') : WritesInv Ax Ay Az A C X Y Z M ls w' :=
  ⟨h.1.below hb, h.2.1.below hb, h.2.2.1.below hb, h.2.2.2.1.below hb, h.2.2.2.2.below hb⟩
theorem conv8 (w : World) (A : Option Addr) (n c : Nat) (l : List UInt8) (hl : l.length = n) (h : Rd w A (by8 l)) : (convert 22 9 (.slice A n c)).run Try.prog w = .ok (.string ⟨l.toArray⟩) w :=
  conv_rd w 22 9 5 Try.underlying22 Try.underlying5 Try.underlying9 A n c l hl h

/-- What the comparison's calls leave. -/
def WritesCall (Ax Ay Az A C : Option Addr) (X Y Z M : List UInt8) (ls : List ByteArray) (cx cy cz : Nat) (R : List UInt8) (w0 : World) (e : Ending) (w' : World) : Prop :=
  ∃ A' c', e = .returned (.slice A' R.length c') ∧ WritesInv Ax Ay Az A C X Y Z M ls w' ∧ Below w0.heap.size w0 w' ∧
    (convert 22 9 (.slice A' R.length c')).run Try.prog w' = .ok (.string ⟨R.toArray⟩) w' ∧ (convert 22 9 (.slice Ax X.length cx)).run Try.prog w' = .ok (.string ⟨X.toArray⟩) w' ∧
    (convert 22 9 (.slice Ay Y.length cy)).run Try.prog w' = .ok (.string ⟨Y.toArray⟩) w' ∧ (convert 22 9 (.slice Az Z.length cz)).run Try.prog w' = .ok (.string ⟨Z.toArray⟩) w'
theorem writesCall_of {Ax Ay Az A C : Option Addr} {X Y Z M : List UInt8} {ls : List ByteArray} {cx cy cz : Nat} {R : List UInt8} {w0 : World} (hI : WritesInv Ax Ay Az A C X Y Z M ls w0) {e : Ending} {w' : World} {n : Nat} (hn : R.length = n)
    (h : ∃ A' c', e = .returned (.slice A' n c') ∧ w'.ownsRow w0.heap.size 5 1 (.slice A' n c') n (by8 R) ∧ Below w0.heap.size w0 w') : WritesCall Ax Ay Az A C X Y Z M ls cx cy cz R w0 e w' := by
  obtain ⟨A', c', rfl, hown, hb⟩ := h
  subst hn
  have h1 := hI.below hb
  exact ⟨A', c', rfl, h1, hb, conv8 _ _ _ _ _ rfl (Rd.of_own hown), conv8 _ _ _ _ _ rfl h1.1, conv8 _ _ _ _ _ rfl h1.2.1, conv8 _ _ _ _ _ rfl h1.2.2.1⟩

set_option maxHeartbeats 2000000 in
set_option maxRecDepth 100000 in
theorem wireWrites_walk (A : Option Addr) (c : Nat) (M : List UInt8) (n : Int) (s : ByteArray) (C : Option Addr) (cc : Nat) (ls : List ByteArray) (w : World) (hr : Rd w A (by8 M)) (_ : M.length ≤ c) (_ : c ≤ 140737488351232) (_ : (Lit.int .i64 n).wf = true) (hs : s.size ≤ 140737488351232)
    (hls : Rd w C (strV ls)) (hlc2 : ls.length ≤ cc) (hcc : cc * 16 ≤ 140737488351232) (hss : ∀ s ∈ ls, s.size ≤ maxLen) :
    Calls Try.prog 3 #[.slice A M.length c, .int .i64 n, .string s, .slice C ls.length cc] w fun e w' => e = .returned (.bool true) ∧ Below w.heap.size w w' := by
  have HSS := hid hss
  clear hss
  have hsm : s.size ≤ maxLen := by unfold maxLen; omega
  go_enter Try.func3, Try.ntmps3
  go_wp2_with fail
  refine (small_any _).mono ?_
  rintro e w1 ⟨rfl, hb1⟩
  have hr1 := hr.below hb1
  have hl1 := hls.below hb1
  clear hr hls
  go_wp2_with fail
  refine (few_any C ls.length cc ls _ rfl (by omega) hl1).mono ?_
  rintro e wx ⟨bo, rfl, rfl⟩
  go_upto_region 3 with (fail)
  go_cut [31] (fun x wx => w1 = wx ∧ ∃ t, x = .bool t ∧ (t = false → s.size ≤ 20000 ∧ M.length ≤ 1000))
  case first =>
    cases bo
    all_goals
      go_wp2_with fail
      all_goals
        go_meet
        case rel => exact ⟨rfl, _, rfl, fun h => by first | (simp at h; omega) | simp at h⟩
  case rest =>
  obtain ⟨rfl, t, rfl, ht⟩ := hcut
  cases t
  · obtain ⟨hs1, hM1⟩ := ht rfl
    clear ht
    have hsb := strB_le s
    have hrb := rowB_le ls
    have hown0 := own_empty w1 5
    go_wp2_with (at_builtin; refine wpApp _ rfl (.tmp 33) (.tmp 34) 22 rfl w1.heap.size 5 (.int .u8 0) 1 Try.underlying22 Try.info8 rfl _ 0 0 [] rfl hown0 _ M.length _ (by8 M) rfl (by8_length _) (hr1.alloc _) (by8_one _) (by omega) (by simp) (by omega) ?_)
    intro A2 c2 w2 hown2 hg2
    have hb2 : Below w1.heap.size w1 w2 := ((Below.refl _ _).alloc (Nat.le_refl _) _).grown hg2 (by simp) (by intro k hk; simp [Value.ownBlock] at hk; omega)
    obtain ⟨-, B2, d2, hv, hcc1, hcc2⟩ := own_form hown2
    injection hv with hv1 hv2 hv3
    subst hv1 hv3
    have hr2 := hr1.below hb2
    have hl2 := hl1.below hb2
    have hi2 : Rd w2 A2 (by8 M) := by have := Rd.of_own hown2; simpa using this
    have hb2' := hb1.trans (hb2.mono hb1.size)
    clear hr1 hl1 hb2 hg2 hown2 hown0 hv2 hb1
    go_wp2_with fail
    refine (number_any A2 M.length _ M n _ rfl hi2 (by omega)).mono ?_
    rintro e w3 ⟨A3, c3, rfl, hown3, hb3⟩
    have hx3 := Rd.of_own hown3
    have hr3 := hr2.below hb3
    have hl3 := hl2.below hb3
    have hi3 := hi2.below hb3
    have hb3' := hb2'.trans (hb3.mono hb2'.size)
    clear hr2 hl2 hi2 hb3 hown3 hb2'
    go_wp2_with fail
    refine (string_any A2 M.length c2 M s _ rfl hi3 (by omega) hsm).mono ?_
    rintro e w4 ⟨A4, c4, rfl, hown4, hb4⟩
    have hx4 := hx3.below hb4
    have hr4 := hr3.below hb4
    have hl4 := hl3.below hb4
    have hi4 := hi3.below hb4
    have hb4' := hb3'.trans (hb4.mono hb3'.size)
    have hz34 := hb4.size
    clear hx3 hl3 hb4
    go_wp2_with fail
    refine (row_any A2 M.length c2 M C ls.length cc ls _ rfl hi4 rfl hlc2 (by unfold maxLen; omega) hl4 HSS.out (by omega)).mono ?_
    rintro e w5 ⟨A5, c5, rfl, hown5, hb5⟩
    have hown45 := hown4.kept (row := none) (grown_below hb5) (by cases (Value.slice A4 (M.length + (strB s).length) c4).ownBlock <;> simp)
    have hy5 := Rd.of_own hown45
    have hz5 := Rd.of_own hown5
    have hI : WritesInv A3 A4 A5 A C (M ++ numB n) (M ++ strB s) (M ++ rowB ls) M ls w5 := ⟨hx4.below hb5, hy5, hz5, hr4.below hb5, hl4.below hb5⟩
    have hi5 := hi4.below hb5
    have hb5' := hb4'.trans (hb5.mono hb4'.size)
    clear hx4 hr4 hl4 hi4 hb4' hown4 hown5 hy5 hz5 hb5
    have lX : M.length + 4 = (M ++ numB n).length := by rw [List.length_append, numB_length]
    have lY : M.length + (strB s).length = (M ++ strB s).length := List.length_append.symm
    have lZ : M.length + (rowB ls).length = (M ++ rowB ls).length := List.length_append.symm
    have C1 := fun (cx cy cz : Nat) (w0 : World) (h0 : WritesInv A3 A4 A5 A C (M ++ numB n) (M ++ strB s) (M ++ rowB ls) M ls w0) => (refNumber A M.length c M n w0 rfl h0.2.2.2.1 (by omega)).mono fun _ _ h => writesCall_of (cx := cx) (cy := cy) (cz := cz) h0 lX.symm h
    have C2 := fun (cx cy cz : Nat) (w0 : World) (h0 : WritesInv A3 A4 A5 A C (M ++ numB n) (M ++ strB s) (M ++ rowB ls) M ls w0) => (refString A M.length c M s w0 rfl h0.2.2.2.1 (by omega) hsm).mono fun _ _ h => writesCall_of (cx := cx) (cy := cy) (cz := cz) h0 lY.symm h
    have C3 := fun (cx cy cz : Nat) (w0 : World) (h0 : WritesInv A3 A4 A5 A C (M ++ numB n) (M ++ strB s) (M ++ rowB ls) M ls w0) => (refRow A M.length c M C ls.length cc ls w0 rfl h0.2.2.2.1 rfl h0.2.2.2.2 HSS.out (by omega) (by omega)).mono fun _ _ h => writesCall_of (cx := cx) (cy := cy) (cz := cz) h0 lZ.symm h
    rw [lX, lY, lZ]
    clear lX lZ
    have HC1 := hid C1
    have HC2 := hid C2
    have HC3 := hid C3
    have HLY := hid lY
    clear C1 C2 C3 lY
    rw [HLY.out] at hown45
    generalize M ++ numB n = X at *
    generalize M ++ strB s = Y at *
    generalize M ++ rowB ls = Z at *
    go_upto_region 9 with (fail)
    go_cut [15] (fun v wx => v = .bool true ∧ Below w5.heap.size w5 wx)
    case first =>
      have hI0 : WritesInv A3 A4 A5 A C X Y Z M ls w5.drew := hI
      have cx0 := conv8 w5.drew A3 X.length c3 _ rfl hI0.1
      have cy0 := conv8 w5.drew A4 Y.length c4 _ rfl hI0.2.1
      have cz0 := conv8 w5.drew A5 Z.length c5 _ rfl hI0.2.2.1
      clear hI hi5 hown45 hb5' hr3 hi3 hsb hrb hs hlc2 hcc HSS HLY hb3' hz34 hcc1 hcc2 hs1 hM1 hsm
      refine wp_region_held_drew (S := fun w' => (convert 22 9 (.slice A3 X.length c3)).run Try.prog w' = .ok (.string ⟨X.toArray⟩) w' ∧ (convert 22 9 (.slice A4 Y.length c4)).run Try.prog w' = .ok (.string ⟨Y.toArray⟩) w' ∧ (convert 22 9 (.slice A5 Z.length c5)).run Try.prog w' = .ok (.string ⟨Z.toArray⟩) w') (by kernel_rfl) ⟨cx0, cy0, cz0⟩ (fun hHeld => ?_)
      refine wpAnyH_take (i := 0) (oi := ⟨_, _, _, _, _, _⟩) (v := ?_) rfl (by kernel_rfl) (by kernel_rfl) (by kernel_rfl) (fun _ _ _ h => h) (Or.inl ⟨by rfl, ?_⟩) (by assumption) ?_
      rotate_left
      · intro w hSw; (try dsimp only at hSw); go_simp; (try (with_reducible rfl))
      try simp only [Act.put, List.setIfInBounds_toArray, List.set_cons_zero, List.set_cons_succ]
      refine wpAnyH_take (i := 1) (oi := ⟨_, _, _, _, _, _⟩) (v := ?_) rfl (by kernel_rfl) (by kernel_rfl) (by kernel_rfl) (fun _ _ _ h => h) (Or.inl ⟨by rfl, ?_⟩) (by assumption) ?_
      rotate_left
      · intro w hSw; (try dsimp only at hSw); go_simp; (try (with_reducible rfl))
      try simp only [Act.put, List.setIfInBounds_toArray, List.set_cons_zero, List.set_cons_succ]
      refine wpAnyH_take (i := 2) (oi := ⟨_, _, _, _, _, _⟩) (v := ?_) rfl (by kernel_rfl) (by kernel_rfl) (by kernel_rfl) (fun _ _ _ h => h) (Or.inl ⟨by rfl, ?_⟩) (by assumption) ?_
      rotate_left
      · intro w hSw; (try dsimp only at hSw); go_simp; (try (with_reducible rfl))
      try simp only [Act.put, List.setIfInBounds_toArray, List.set_cons_zero, List.set_cons_succ]
      refine wpAnyH_take (i := 3) (oi := ⟨_, _, _, _, _, _⟩) (v := ?_) rfl (by kernel_rfl) (by kernel_rfl) (by kernel_rfl) (fun _ _ _ h => h) (Or.inl ⟨by rfl, ?_⟩) (by assumption) ?_
      rotate_left
      · intro w hSw; (try dsimp only at hSw); go_simp; (try (with_reducible rfl))
      try simp only [Act.put, List.setIfInBounds_toArray, List.set_cons_zero, List.set_cons_succ]
      refine wpAnyH_ready (rs := [4]) (by kernel_rfl) (by simp) ?_
      refine AllReadyH.cons (o := ⟨_, _, _, _, _, _⟩) rfl (fun K hK => ?_) AllReadyH.nil
      go_simp
      refine (HC1.out c3 c4 c5 _ hI0).mono ?_
      rintro e w6 ⟨A6, c6, rfl, hI1, hb6, cr1, cx1, cy1, cz1⟩
      refine hK.out _ _ ⟨cx1, cy1, cz1⟩ (fun hHeld => ?_)
      clear hK K
      try simp only [Act.put, List.setIfInBounds_toArray, List.set_cons_zero, List.set_cons_succ]
      refine wpAnyH_ready (rs := [5]) (by kernel_rfl) (by simp) ?_
      refine AllReadyH.cons (o := ⟨_, _, _, _, _, _⟩) rfl (fun K hK => ?_) AllReadyH.nil
      go_simp
      refine hK.out _ _ ⟨cx1, cy1, cz1⟩ (fun hHeld => ?_)
      clear hK K
      try simp only [Act.put, List.setIfInBounds_toArray, List.set_cons_zero, List.set_cons_succ]
      refine wpAnyH_take (i := 6) (oi := ⟨_, _, _, _, _, _⟩) (v := ?_) rfl (by kernel_rfl) (by kernel_rfl) (by kernel_rfl) (fun _ _ _ h => h) (Or.inl ⟨by rfl, ?_⟩) (by assumption) ?_
      rotate_left
      · intro w hSw; (try dsimp only at hSw); go_simp; (try (with_reducible rfl))
      try simp only [Act.put, List.setIfInBounds_toArray, List.set_cons_zero, List.set_cons_succ]
      refine wpAnyH_take (i := 7) (oi := ⟨_, _, _, _, _, _⟩) (v := ?_) rfl (by kernel_rfl) (by kernel_rfl) (by kernel_rfl) (fun _ _ _ h => h) (Or.inl ⟨by rfl, ?_⟩) (by assumption) ?_
      rotate_left
      · intro w hSw; (try dsimp only at hSw); go_simp; (try (with_reducible rfl))
      try simp only [Act.put, List.setIfInBounds_toArray, List.set_cons_zero, List.set_cons_succ]
      refine wpAnyH_take (i := 8) (oi := ⟨_, _, _, _, _, _⟩) (v := ?_) rfl (by kernel_rfl) (by kernel_rfl) (by kernel_rfl) (fun _ _ _ h => h) (Or.inl ⟨by rfl, ?_⟩) (by assumption) ?_
      rotate_left
      · intro w hSw; (try dsimp only at hSw); go_simp; (try (with_reducible rfl))
      try simp only [Act.put, List.setIfInBounds_toArray, List.set_cons_zero, List.set_cons_succ]
      refine wpAnyH_take (i := 9) (oi := ⟨_, _, _, _, _, _⟩) (v := ?_) rfl (by kernel_rfl) (by kernel_rfl) (by kernel_rfl) (fun _ _ _ h => h) (Or.inl ⟨by rfl, ?_⟩) (by assumption) ?_
      rotate_left
      · intro w hSw; (try dsimp only at hSw); go_simp; (try (with_reducible rfl))
      try simp only [Act.put, List.setIfInBounds_toArray, List.set_cons_zero, List.set_cons_succ]
      refine wpAnyH_take (i := 10) (oi := ⟨_, _, _, _, _, _⟩) (v := ?_) rfl (by kernel_rfl) (by kernel_rfl) (by kernel_rfl) (fun _ _ _ h => h) (Or.inl ⟨by rfl, ?_⟩) (by assumption) ?_
      rotate_left
      · intro w hSw; (try dsimp only at hSw); go_simp; (try (with_reducible rfl))
      try simp only [Act.put, List.setIfInBounds_toArray, List.set_cons_zero, List.set_cons_succ]
      refine wpAnyH_take (i := 11) (oi := ⟨_, _, _, _, _, _⟩) (v := ?_) rfl (by kernel_rfl) (by kernel_rfl) (by kernel_rfl) (fun _ _ _ h => h) (Or.inl ⟨by rfl, ?_⟩) (by assumption) ?_
      rotate_left
      · intro w hSw; (try dsimp only at hSw); go_simp; (try (with_reducible rfl))
      try simp only [Act.put, List.setIfInBounds_toArray, List.set_cons_zero, List.set_cons_succ]
      refine wpAnyH_ready (rs := [12]) (by kernel_rfl) (by simp) ?_
      refine AllReadyH.cons (o := ⟨_, _, _, _, _, _⟩) rfl (fun K hK => ?_) AllReadyH.nil
      go_simp
      refine (HC2.out c3 c4 c5 _ hI1).mono ?_
      rintro e w7 ⟨A7, c7, rfl, hI2, hb7, cr2, cx2, cy2, cz2⟩
      refine hK.out _ _ ⟨cx2, cy2, cz2⟩ (fun hHeld => ?_)
      clear hK K
      try simp only [Act.put, List.setIfInBounds_toArray, List.set_cons_zero, List.set_cons_succ]
      refine wpAnyH_ready (rs := [13]) (by kernel_rfl) (by simp) ?_
      refine AllReadyH.cons (o := ⟨_, _, _, _, _, _⟩) rfl (fun K hK => ?_) AllReadyH.nil
      go_simp
      refine hK.out _ _ ⟨cx2, cy2, cz2⟩ (fun hHeld => ?_)
      clear hK K
      try simp only [Act.put, List.setIfInBounds_toArray, List.set_cons_zero, List.set_cons_succ]
      refine wpAnyH_take (i := 14) (oi := ⟨_, _, _, _, _, _⟩) (v := ?_) rfl (by kernel_rfl) (by kernel_rfl) (by kernel_rfl) (fun _ _ _ h => h) (Or.inl ⟨by rfl, ?_⟩) (by assumption) ?_
      rotate_left
      · intro w hSw; (try dsimp only at hSw); go_simp; (try (with_reducible rfl))
      try simp only [Act.put, List.setIfInBounds_toArray, List.set_cons_zero, List.set_cons_succ]
      refine wpAnyH_take (i := 15) (oi := ⟨_, _, _, _, _, _⟩) (v := ?_) rfl (by kernel_rfl) (by kernel_rfl) (by kernel_rfl) (fun _ _ _ h => h) (Or.inl ⟨by rfl, ?_⟩) (by assumption) ?_
      rotate_left
      · intro w hSw; (try dsimp only at hSw); go_simp; (try (with_reducible rfl))
      try simp only [Act.put, List.setIfInBounds_toArray, List.set_cons_zero, List.set_cons_succ]
      refine wpAnyH_take (i := 16) (oi := ⟨_, _, _, _, _, _⟩) (v := ?_) rfl (by kernel_rfl) (by kernel_rfl) (by kernel_rfl) (fun _ _ _ h => h) (Or.inl ⟨by rfl, ?_⟩) (by assumption) ?_
      rotate_left
      · intro w hSw; (try dsimp only at hSw); go_simp; (try (with_reducible rfl))
      try simp only [Act.put, List.setIfInBounds_toArray, List.set_cons_zero, List.set_cons_succ]
      refine wpAnyH_take (i := 17) (oi := ⟨_, _, _, _, _, _⟩) (v := ?_) rfl (by kernel_rfl) (by kernel_rfl) (by kernel_rfl) (fun _ _ _ h => h) (Or.inl ⟨by rfl, ?_⟩) (by assumption) ?_
      rotate_left
      · intro w hSw; (try dsimp only at hSw); go_simp; (try (with_reducible rfl))
      try simp only [Act.put, List.setIfInBounds_toArray, List.set_cons_zero, List.set_cons_succ]
      refine wpAnyH_take (i := 18) (oi := ⟨_, _, _, _, _, _⟩) (v := ?_) rfl (by kernel_rfl) (by kernel_rfl) (by kernel_rfl) (fun _ _ _ h => h) (Or.inl ⟨by rfl, ?_⟩) (by assumption) ?_
      rotate_left
      · intro w hSw; (try dsimp only at hSw); go_simp; (try (with_reducible rfl))
      try simp only [Act.put, List.setIfInBounds_toArray, List.set_cons_zero, List.set_cons_succ]
      refine wpAnyH_take (i := 19) (oi := ⟨_, _, _, _, _, _⟩) (v := ?_) rfl (by kernel_rfl) (by kernel_rfl) (by kernel_rfl) (fun _ _ _ h => h) (Or.inl ⟨by rfl, ?_⟩) (by assumption) ?_
      rotate_left
      · intro w hSw; (try dsimp only at hSw); go_simp; (try (with_reducible rfl))
      try simp only [Act.put, List.setIfInBounds_toArray, List.set_cons_zero, List.set_cons_succ]
      refine wpAnyH_take (i := 20) (oi := ⟨_, _, _, _, _, _⟩) (v := ?_) rfl (by kernel_rfl) (by kernel_rfl) (by kernel_rfl) (fun _ _ _ h => h) (Or.inl ⟨by rfl, ?_⟩) (by assumption) ?_
      rotate_left
      · intro w hSw; (try dsimp only at hSw); go_simp; (try (with_reducible rfl))
      try simp only [Act.put, List.setIfInBounds_toArray, List.set_cons_zero, List.set_cons_succ]
      refine wpAnyH_ready (rs := [21]) (by kernel_rfl) (by simp) ?_
      refine AllReadyH.cons (o := ⟨_, _, _, _, _, _⟩) rfl (fun K hK => ?_) AllReadyH.nil
      go_simp
      refine (HC3.out c3 c4 c5 _ hI2).mono ?_
      rintro e w8 ⟨A8, c8, rfl, hI3, hb8, cr3, cx3, cy3, cz3⟩
      refine hK.out _ _ ⟨cx3, cy3, cz3⟩ (fun hHeld => ?_)
      clear hK K
      try simp only [Act.put, List.setIfInBounds_toArray, List.set_cons_zero, List.set_cons_succ]
      refine wpAnyH_ready (rs := [22]) (by kernel_rfl) (by simp) ?_
      refine AllReadyH.cons (o := ⟨_, _, _, _, _, _⟩) rfl (fun K hK => ?_) AllReadyH.nil
      go_simp
      refine hK.out _ _ ⟨cx3, cy3, cz3⟩ (fun hHeld => ?_)
      clear hK K
      try simp only [Act.put, List.setIfInBounds_toArray, List.set_cons_zero, List.set_cons_succ]
      refine wpAnyH_take (i := 23) (oi := ⟨_, _, _, _, _, _⟩) (v := ?_) rfl (by kernel_rfl) (by kernel_rfl) (by kernel_rfl) (fun _ _ _ h => h) (Or.inl ⟨by rfl, ?_⟩) (by assumption) ?_
      rotate_left
      · intro w hSw; (try dsimp only at hSw); go_simp; (try (with_reducible rfl))
      try simp only [Act.put, List.setIfInBounds_toArray, List.set_cons_zero, List.set_cons_succ]
      refine wpAnyH_take (i := 24) (oi := ⟨_, _, _, _, _, _⟩) (v := ?_) rfl (by kernel_rfl) (by kernel_rfl) (by kernel_rfl) (fun _ _ _ h => h) (Or.inl ⟨by rfl, ?_⟩) (by assumption) ?_
      rotate_left
      · intro w hSw; (try dsimp only at hSw); go_simp; (try (with_reducible rfl))
      try simp only [Act.put, List.setIfInBounds_toArray, List.set_cons_zero, List.set_cons_succ]
      refine wpAnyH_take (i := 25) (oi := ⟨_, _, _, _, _, _⟩) (v := ?_) rfl (by kernel_rfl) (by kernel_rfl) (by kernel_rfl) (fun _ _ _ h => h) (Or.inl ⟨by rfl, ?_⟩) (by assumption) ?_
      rotate_left
      · intro w hSw; (try dsimp only at hSw); go_simp; (try (with_reducible rfl))
      try simp only [Act.put, List.setIfInBounds_toArray, List.set_cons_zero, List.set_cons_succ]
      refine wpAnyH_done (by kernel_rfl) ?_ _
      go_wp2_with fail
      go_meet
      case rel => exact ⟨rfl, below_of_drew ((hb6.trans (hb7.mono hb6.size)).trans (hb8.mono (Nat.le_trans hb6.size hb7.size)))⟩
    case rest =>
    obtain ⟨rfl, hb6⟩ := hcut
    have hown6 := hown45.kept (row := none) (grown_below hb6) (by cases (Value.slice A4 Y.length c4).ownBlock <;> simp)
    have hr6 := (hI.2.2.2.1).below hb6
    have hi6 := hi5.below hb6
    have hb6' := hb5'.trans (hb6.mono hb5'.size)
    have hYl : Y.length ≤ 200000 := by rw [← HLY.out]; omega
    clear hI hi5 hown45 hb5' hb6 HC1 HC2 HC3
    go_wp2_with fail
    go_loopw [16] (fun i wr => ∃ j : Nat, j ≤ Y.length ∧ i = .int .i64 j ∧ ∃ xs, wr.ownsRow w3.heap.size 5 1 (.slice A4 Y.length c4) Y.length xs ∧ Rd wr A (by8 M) ∧ Rd wr A2 (by8 M) ∧ Below w.heap.size w wr) (fun i _ => Y.length - (intOf i).toNat)
    case atStart => exact ⟨0, by omega, rfl, _, hown6, hr6, hi6, hb6'⟩
    case round =>
      clear hown6 hr6 hi6 hb6'
      obtain ⟨j, hj, rfl, xs, hown7, hr7, hi7, hb7⟩ := hrel
      by_cases hjn : j < Y.length
      · obtain ⟨hxl, -⟩ := own_form hown7
        rcases hown7.2 with ⟨hv, hn0⟩ | ⟨g, cap, cur, hv, hgb, -⟩
        · omega
        · injection hv with hv1 hv2 hv3
          subst hv1
          have hc7 := hown7.cellAt j (by omega)
          rw [List.getElem?_eq_getElem (by omega)] at hc7
          have hf7 := hown7.frozenAt j
          obtain ⟨hst, hgr⟩ := hown7.stored j (.int .u8 9)
          have hr8 := Rd.far hr3 hr7 hgr (by intro k hk; injection hk with hk; omega)
          have hi8 := Rd.far hi3 hi7 hgr (by intro k hk; injection hk with hk; omega)
          have hb8 := hb7.grown hgr hb7.size (by intro k hk; injection hk with hk; have := hb3'.size; omega)
          generalize xs[j] = x0 at *
          clear hown7 hgr hr7 hi7 hb7
          go_wp2
          go_roundw
          case rel => exact ⟨j + 1, by omega, by go_num, _, hst, hr8, hi8, hb8⟩
          case measure => simp [intOf]; omega
      · have cM := conv8 wr A M.length c M rfl hr7
        have cI := conv8 wr A2 M.length c2 M rfl hi7
        clear hown7 hr7 hi7
        go_wp2_with fail
        refine (fits_any _ _ _).mono ?_
        rintro e wx ⟨rfl, rfl⟩
        go_wp2_with fail
        refine (refFits _ _ _).mono ?_
        rintro e wx ⟨rfl, rfl⟩
        go_wp2
        go_ret
        exact ⟨rfl, hb7⟩
  · go_wp2
    go_ret
    exact ⟨rfl, hb1⟩
end Go.Proofs.Ytpiinamfibhjdaa
