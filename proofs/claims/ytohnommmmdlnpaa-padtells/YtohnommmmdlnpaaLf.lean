/- WireStops: calls behind an error change nothing; the walk. -/
import Derived.Test.YtohnommmmdlnpaaPc
namespace Go.Proofs.Ytohnommmmdlnpaa
open Go.RowKit

/-- A store of what is there already. -/
theorem set_same {w : World} {g : Nat} {cs : List Value} {t : TypeId} (h : Blk w g cs t) (i : Nat) (u : Value) (hu : cs[i]? = some u) : w.setCell ⟨g, i, none⟩ u = w := by
  have hh : (w.setCell ⟨g, i, none⟩ u).heap = w.heap := by
    apply Array.ext_getElem?
    intro k
    by_cases hk : k = g
    · subst hk
      have h1 := h.set_ i u
      unfold Blk at h1 h
      rw [h1, h]
      congr 2
      have : cs.set i u = cs := by
        obtain ⟨hi, rfl⟩ := List.getElem?_eq_some_iff.1 hu
        exact List.set_getElem_self hi
      rw [this]
    · exact Below.heap_setCell w _ u k hk
  show { w with heap := (w.setCell ⟨g, i, none⟩ u).heap } = w
  rw [hh]

set_option maxHeartbeats 400000 in
theorem rdNumber_bad (g : Nat) (A : Option Addr) (c : Nat) (l : List UInt8) (p : Nat) (e : Int) (most : Int) (w : World) (hq : RdrAt w g A c l p e) (he : (e != 0) = true) :
    Calls Try.prog 33 #[.pointer (some ⟨g, 0, none⟩), .int .i64 most] w fun r w' => r = .returned (.int .i64 0) ∧ w' = w := by
  obtain ⟨hb, _⟩ := hq
  have c2 := hb.cell 2
  simp only [List.getElem?_cons_zero, List.getElem?_cons_succ] at c2
  go_enter Try.func33, Try.ntmps33
  go_wp2
  go_ret
  exact ⟨rfl, rfl⟩

set_option maxHeartbeats 400000 in
theorem rdString_bad (g : Nat) (A : Option Addr) (c : Nat) (l : List UInt8) (p : Nat) (e : Int) (most : Int) (w : World) (hq : RdrAt w g A c l p e) (he : (e != 0) = true) :
    Calls Try.prog 24 #[.pointer (some ⟨g, 0, none⟩), .int .i64 most] w fun r w' => r = .returned (.string ⟨#[]⟩) ∧ w' = w := by
  have h' := hq
  obtain ⟨hb, _⟩ := h'
  have c1 := hb.cell 1
  have c2 := hb.cell 2
  simp only [List.getElem?_cons_zero, List.getElem?_cons_succ] at c1 c2
  go_enter Try.func24, Try.ntmps24
  go_wp2_with fail
  all_goals
    refine (rdNumber_bad g A c l p e _ _ hq he).mono ?_
    rintro r w' ⟨rfl, rfl⟩
    go_wp2
    go_ret
    exact ⟨rfl, rfl⟩

end Go.Proofs.Ytohnommmmdlnpaa
