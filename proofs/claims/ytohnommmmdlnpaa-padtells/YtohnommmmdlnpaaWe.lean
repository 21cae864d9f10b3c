/- Package wire: the reader's Row. -/
import Derived.Test.YtohnommmmdlnpaaWd
import Derived.WalkMore
import Derived.ScopeJumps
namespace Go.Proofs.Ytohnommmmdlnpaa
open Go.RowKit

/-- What j calls of String tell, one behind the other, up to the first error. -/
def steps (l : List UInt8) (each : Int) (p : Nat) : Nat → List (List UInt8) × Nat × Int
  | 0 => ([], p, 0)
  | j + 1 => if (steps l each p j).2.2 ≠ 0 then steps l each p j else
      if (rStr l (steps l each p j).2.1 0 each).2.2 ≠ 0 then ([], (steps l each p j).2.1, (rStr l (steps l each p j).2.1 0 each).2.2)
      else ((steps l each p j).1 ++ [(rStr l (steps l each p j).2.1 0 each).1], (rStr l (steps l each p j).2.1 0 each).2.1, 0)
/-- What Row makes of what Number told. -/
def rowOf (l : List UInt8) (p : Nat) (each : Int) (a : Int × Nat × Int) : List (List UInt8) × Nat × Int :=
  if a.2.2 ≠ 0 then ([], p, a.2.2) else if (steps l each a.2.1 a.1.toNat).2.2 ≠ 0 then ([], p, (steps l each a.2.1 a.1.toNat).2.2) else steps l each a.2.1 a.1.toNat
def rRow (l : List UInt8) (p : Nat) (e : Int) (most each : Int) : List (List UInt8) × Nat × Int := rowOf l p each (rNum l p e (min most 256))

/-- Lists of bytes as strings. -/
def toS (x : List UInt8) : ByteArray := ⟨x.toArray⟩
theorem toS_size (x : List UInt8) : (toS x).size = x.length := by simp [toS, ByteArray.size]

def RowPost (w : World) (g : Nat) (A : Option Addr) (c : Nat) (l : List UInt8) (q : List (List UInt8) × Nat × Int) (r : Ending) (w' : World) : Prop :=
  ∃ A' c', r = .returned (.slice A' q.1.length c') ∧ w'.ownsRow w.heap.size 9 1 (.slice A' q.1.length c') q.1.length (strV (q.1.map toS)) ∧ RdrAt w' g A c l q.2.1 q.2.2 ∧ w.grownBy w' (some g)

theorem steps_err (l : List UInt8) (each : Int) (p j : Nat) (h : (steps l each p j).2.2 ≠ 0) : ∀ k, j ≤ k → steps l each p k = steps l each p j := by
  intro k hk
  induction k with
  | zero => obtain rfl : j = 0 := by omega
            rfl
  | succ k ih =>
    by_cases hj : j = k + 1
    · rw [hj]
    · have := ih (by omega)
      rw [steps, if_pos (by rw [this]; exact h), this]

theorem RdrAt.far {w0 w w' : World} {g : Nat} {A : Option Addr} {c : Nat} {l : List UInt8} {p p0 : Nat} {e e0 : Int} {row : Option Nat} (h0 : RdrAt w0 g A c l p0 e0) (h : RdrAt w g A c l p e) (hg : w.grownBy w' row) (hsz : w0.heap.size ≤ w.heap.size)
    (hrow : ∀ k, row = some k → w0.heap.size ≤ k) : RdrAt w' g A c l p e := by
  obtain ⟨hb, hr, h1, h2, h3⟩ := h
  have hlt := h0.1.lt
  refine ⟨?_, ?_, h1, h2, h3⟩
  · unfold Blk
    rw [hg.block g (by omega) (fun e => by have := hrow g e.symm; omega)]
    exact hb
  · rcases hr with hr | ⟨ad, rfl, hc⟩
    · exact .inl hr
    · refine .inr ⟨ad, rfl, fun j u hu => ?_⟩
      have hin := hc j u hu
      have hbl : ad.block < w0.heap.size := by
        rcases h0.2.1 with h0r | ⟨ad', he, hc'⟩
        · rw [h0r] at hu; simp at hu
        · injection he with he
          subst he
          have := World.block_lt_of_cell? w0 _ (hc' j u hu)
          rwa [add_block] at this
      refine (World.cell?_of_block (hg.block _ (World.block_lt_of_cell? w _ hin) ?_)).trans hin
      rw [add_block]
      exact fun e => by have := hrow _ e.symm; omega
theorem grown_far {w0 w w' : World} {g row : Option Nat} (h : w0.grownBy w g) (hg : w.grownBy w' row) (hrow : ∀ k, row = some k → w0.heap.size ≤ k) : w0.grownBy w' g :=
  ⟨hg.os.trans h.os, hg.tape.trans h.tape, hg.output.trans h.output, Nat.le_trans h.size hg.size, fun i hi hne => (hg.block i (Nat.lt_of_lt_of_le hi h.size) (fun e => by have := hrow i e.symm; omega)).trans (h.block i hi hne)⟩

/-- What holds where the row is left by its label. -/
def RowJump (w : World) (g : Nat) (A : Option Addr) (c : Nat) (l : List UInt8) (p : Nat) (most each : Int) (q : List (List UInt8) × Nat × Int) (a' : Act) (w' : World) : Prop :=
  ∃ (u8 u9 u10 u11 u12 u13 u14 u15 u16 u17 u18 u19 u20 u21 u22 u23 u24 u25 u26 u27 u28 u29 u30 u31 u32 u33 u34 u35 u36 u37 u38 u39 u40 u41 u42 u43 u44 : Value) (e1 : Int) (p1 : Nat), a' = { tmps := #[.pointer (some ⟨g, 0, none⟩), .int .i64 most, .int .i64 each, undef, undef, undef, .slice none 0 0, .int .i64 p, u8, u9, u10, u11, u12, u13, u14, u15, u16, u17, u18, u19, u20, u21, u22, u23, u24, u25, u26, u27, u28, u29, u30, u31, u32, u33, u34, u35, u36, u37, u38, u39, u40, u41, u42, u43, u44], defers := [] } ∧ q = ([], p, e1) ∧ RdrAt w' g A c l p1 e1 ∧ w.grownBy w' (some g)

end Go.Proofs.Ytohnommmmdlnpaa
