/- WireOne: the walk. -/
import Derived.Test.YtohnommmmdlnpaaPc
namespace Go.Proofs.Ytohnommmmdlnpaa
open Go.RowKit

theorem int_at {w : World} {A : Option Addr} {zs : List Int} {k : IntKind} (h : Rd w A (zs.map (Value.int k))) {j : Nat} (hj : j < zs.length) : ∃ b off, A = some ⟨b, off, none⟩ ∧ w.cell? ⟨b, off + j, none⟩ = some (.int k zs[j]) := by
  obtain ⟨b, off, rfl, hc, _⟩ := h.at_ (k := j) (by simpa using hj)
  exact ⟨b, off, rfl, by rw [hc]; simp⟩

/-- What holds at the head of the loop. -/
def OneInv (w : World) (g : Nat) (B : Option Addr) (d : Nat) (M : List UInt8) (j : Nat) (v : Value) (wr : World) : Prop :=
  ∃ p e A1 c1 out, v = .slice A1 out.length c1 ∧ RdrAt wr g B d M p e ∧ Rd wr A1 (by8 out) ∧ out.length ≤ j * 4200000 ∧ (e = 0 → out = M.take p) ∧ Below w.heap.size w wr

theorem one_step {w w2 w3 : World} {g : Nat} {B : Option Addr} {d : Nat} {M : List UInt8} {j p p' : Nat} {e e' : Int} {A2 : Option Addr} {c2 : Nat} {out more : List UInt8} (hb : Below w.heap.size w w2) (hq : RdrAt w2 g B d M p' e') (hb3 : Below w2.heap.size w2 w3)
    (hown : w3.ownsRow w2.heap.size 5 1 (.slice A2 (out.length + more.length) c2) (out.length + more.length) (by8 (out ++ more))) (hlen : out.length ≤ j * 4200000) (hm : more.length ≤ 4200000) (ho : e = 0 → out = M.take p)
    (hone : e' = 0 → e = 0 ∧ M.take p ++ more = M.take p') : OneInv w g B d M (j + 1) (.slice A2 (out.length + more.length) c2) w3 := by
  refine ⟨p', e', A2, c2, out ++ more, by simp, hq.below hb3, Rd.of_own hown, by simp; omega, ?_, hb.trans (hb3.mono hb.size)⟩
  intro h
  obtain ⟨h1, h2⟩ := hone h
  rw [ho h1, h2]

end Go.Proofs.Ytohnommmmdlnpaa
