/- WireRows: the walk. -/
import Derived.Test.YtohnommmmdlnpaaPb
namespace Go.Proofs.Ytohnommmmdlnpaa
open Go.RowKit

theorem Rd.far {w0 w w' : World} {A : Option Addr} {xs : List Value} {row : Option Nat} (h0 : Rd w0 A xs) (h : Rd w A xs) (hg : w.grownBy w' row) (hrow : ∀ k, row = some k → w0.heap.size ≤ k) : Rd w' A xs := by
  rcases h with rfl | ⟨ad, rfl, hc⟩
  · exact .inl rfl
  · refine .inr ⟨ad, rfl, fun j u hu => ?_⟩
    have hin := hc j u hu
    have hbl : ad.block < w0.heap.size := by
      rcases h0 with rfl | ⟨ad', he, hc'⟩
      · simp at hu
      · injection he with he
        subst he
        have := World.block_lt_of_cell? w0 _ (hc' j u hu)
        rwa [add_block] at this
    refine (World.cell?_of_block (hg.block _ (World.block_lt_of_cell? w _ hin) ?_)).trans hin
    rw [add_block]
    exact fun e => by have := hrow _ e.symm; omega

theorem rStr_err_place (l : List UInt8) (p : Nat) (each : Int) (h : (rStr l p 0 each).2.2 ≠ 0) : (rStr l p 0 each).2.1 = p := by
  unfold rStr strOf at *
  split at h <;> rename_i h1
  · rw [if_pos h1]
  · rw [if_neg h1]
    split at h <;> rename_i h2
    · rw [if_pos h2]
    · simp at h
theorem rStr_err_str (l : List UInt8) (p : Nat) (e each : Int) (h : (rStr l p e each).2.2 ≠ 0) : (rStr l p e each).1 = [] := by
  unfold rStr strOf at *
  split at h <;> rename_i h1
  · rw [if_pos h1]
  · rw [if_neg h1]
    split at h <;> rename_i h2
    · rw [if_pos h2]
    · simp at h

/-- What holds at the head of the loop. -/
def RowsInv (w w5 : World) (gx : Nat) (Bx : Option Addr) (dx px : Nat) (ex : Int) (gy : Nat) (By : Option Addr) (dy : Nat) (M : List UInt8) (each : Int) (Al : Option Addr) (xs : List Value) (j : Nat) (A1 : Option Addr) (c1 : Nat) (wr : World) : Prop :=
  ∃ outs : List ByteArray, outs.length = j ∧ ((steps M each 4 j).2.2 = 0 → outs = (steps M each 4 j).1.map toS) ∧ wr.ownsRow w5.heap.size 9 1 (.slice A1 j c1) j (strV outs) ∧
    RdrAt wr gx Bx dx M px ex ∧ RdrAt wr gy By dy M (steps M each 4 j).2.1 (steps M each 4 j).2.2 ∧ Rd wr Al xs ∧ Below w.heap.size w wr ∧ w5.heap.size ≤ wr.heap.size

end Go.Proofs.Ytohnommmmdlnpaa
