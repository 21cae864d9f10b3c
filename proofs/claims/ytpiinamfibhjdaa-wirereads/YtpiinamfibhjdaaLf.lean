/- WireStops: calls behind an error change nothing; the walk. -/
import Derived.Test.YtpiinamfibhjdaaPc
namespace Go.Proofs.Ytpiinamfibhjdaa
open Go.RowKit

/-- A store of what is there already. -/
theorem set_same {w : World} {g : Nat} {cs : List Value} {t : TypeId} (h : Blk w g cs t) (i : Nat) (u : Value) (hu : cs[i]? = some u) : w.setCell ⟨g, i, none⟩ u = w := by
  have hh : (w.setCell ⟨g, i, none⟩ u).heap = w.heap := by
    apply Array.ext_getElem?
    intro k
    by_cases hk : k = g
    · subst hk
      have h1 := h.set_ i u
      unfold Blk at h1 h
      rw [h1, h]
      congr 2
      have : cs.set i u = cs := by
        obtain ⟨hi, rfl⟩ := List.getElem?_eq_some_iff.1 hu
        exact List.set_getElem_self hi
      rw [this]
    · exact Below.heap_setCell w _ u k hk
  show { w with heap := (w.setCell ⟨g, i, none⟩ u).heap } = w
  rw [hh]

set_option maxHeartbeats 400000 in
theorem rdNumber_bad (g : Nat) (A : Option Addr) (c : Nat) (l : List UInt8) (p : Nat) (e : Int) (most : Int) (w : World) (hq : RdrAt w g A c l p e) (he : (e != 0) = true) :
    Calls Try.prog 22 #[.pointer (some ⟨g, 0, none⟩), .int .i64 most] w fun r w' => r = .returned (.int .i64 0) ∧ w' = w := by
  obtain ⟨hb, _⟩ := hq
  have c2 := hb.cell 2
  simp only [List.getElem?_cons_zero, List.getElem?_cons_succ] at c2
  go_enter Try.func22, Try.ntmps22
  go_wp2
  go_ret
  exact ⟨rfl, rfl⟩

set_option maxHeartbeats 400000 in
theorem rdString_bad (g : Nat) (A : Option Addr) (c : Nat) (l : List UInt8) (p : Nat) (e : Int) (most : Int) (w : World) (hq : RdrAt w g A c l p e) (he : (e != 0) = true) :
    Calls Try.prog 24 #[.pointer (some ⟨g, 0, none⟩), .int .i64 most] w fun r w' => r = .returned (.string ⟨#[]⟩) ∧ w' = w := by
  have h' := hq
  obtain ⟨hb, _⟩ := h'
  have c1 := hb.cell 1
  have c2 := hb.cell 2
  simp only [List.getElem?_cons_zero, List.getElem?_cons_succ] at c1 c2
  go_enter Try.func24, Try.ntmps24
  go_wp2_with fail
  all_goals
    refine (rdNumber_bad g A c l p e _ _ hq he).mono ?_
    rintro r w' ⟨rfl, rfl⟩
    go_wp2
    go_ret
    exact ⟨rfl, rfl⟩

set_option maxHeartbeats 400000 in
theorem rdRow_bad (g : Nat) (A : Option Addr) (c : Nat) (l : List UInt8) (p : Nat) (e : Int) (most each : Int) (w : World) (hq : RdrAt w g A c l p e) (he : (e != 0) = true) :
    Calls Try.prog 27 #[.pointer (some ⟨g, 0, none⟩), .int .i64 most, .int .i64 each] w fun r w' => r = .returned (.slice none 0 0) ∧ w' = w := by
  have h' := hq
  obtain ⟨hb, -, -, -, h3⟩ := h'
  have c1 := hb.cell 1
  have c2 := hb.cell 2
  have f1 := hb.frozen 1
  simp only [List.getElem?_cons_zero, List.getElem?_cons_succ] at c1 c2
  have HS := hid (set_same hb 1 (.int .i64 p) rfl)
  go_enter Try.func27, Try.ntmps27
  go_wp2_with fail
  refine wp_scope_jumps 0 (fun a' w' => w' = w ∧ RowJump w g A c l p most each ([], p, e) a' w') (fun _ _ => 0) (by rfl) ?_ ?_
  · go_wp2_with fail
    all_goals
      refine (rdNumber_bad g A c l p e _ _ hq he).mono ?_
      rintro r w' ⟨rfl, rfl⟩
      go_wp2
      go_step3
      exact ⟨rfl, rfl, _, _, _, _, _, _, _, _, _, _, _, _, _, _, _, _, _, _, _, _, _, _, _, _, _, _, _, _, _, _, _, _, _, _, _, _, _, e, p, rfl, rfl, hq, World.grownBy.refl _ _⟩
  · rintro a' w' ⟨rfl, u8, u9, u10, u11, u12, u13, u14, u15, u16, u17, u18, u19, u20, u21, u22, u23, u24, u25, u26, u27, u28, u29, u30, u31, u32, u33, u34, u35, u36, u37, u38, u39, u40, u41, u42, u43, u44, e1, p1, rfl, -, hq1, hg1⟩
    clear hq1 hg1
    go_wp2
    simp only [Exit.jump]
    go_ret
    exact ⟨rfl, HS.out⟩

set_option maxHeartbeats 400000 in
theorem rdEnd_bad (g : Nat) (A : Option Addr) (c : Nat) (l : List UInt8) (p : Nat) (e : Int) (w : World) (hq : RdrAt w g A c l p e) (he : (e == 0) = false) :
    Calls Try.prog 29 #[.pointer (some ⟨g, 0, none⟩)] w fun r w' => r = .returned (.int .i64 e) ∧ w' = w := by
  obtain ⟨hb, _⟩ := hq
  have c2 := hb.cell 2
  simp only [List.getElem?_cons_zero, List.getElem?_cons_succ] at c2
  go_enter Try.func29, Try.ntmps29
  go_wp2
  go_ret
  exact ⟨rfl, rfl⟩
end Go.Proofs.Ytpiinamfibhjdaa
