/- Reading files; where a path stands: tree.place. -/
import Derived.Test.YtnkkjedckehoaaaDoorTa
import Derived.Test.YtnkkjedckehoaaaDoorTb
namespace Go.Proofs.YtnkkjedckehoaaaDoor
open Go.RowKit

theorem Rd.fil {w : World} {A : Option Addr} {fs : List Fil} (h : Rd w A (filV fs)) {j : Nat} (hj : j < fs.length) :
    ∃ b off, A = some ⟨b, off, none⟩ ∧ w.cell? ⟨b, off + j * 2, none⟩ = some (.string fs[j].1) ∧ w.cell? ⟨b, off + j * 2 + 1, none⟩ = some (.string fs[j].2) ∧ b < w.heap.size := by
  have hl := filV_length fs
  obtain ⟨b, off, rfl, h1, hb⟩ := h.at_ (k := j * 2) (by omega)
  have e1 := filV_at0 fs j hj
  have e2 := filV_at1 fs j hj
  rw [List.getElem?_eq_getElem (by omega)] at e1
  refine ⟨b, off, rfl, by rw [h1]; exact e1, ?_, hb⟩
  rw [Nat.add_assoc]
  rcases h with h | ⟨ad, he, hc⟩
  · rw [h] at hl
    simp at hl
    omega
  · injection he with he
    subst he
    have := hc _ _ e2
    rwa [Addr.add_lit] at this
theorem below_drewN {B : Nat} {a b : World} (h : Below B a b) (n : Nat) : Below B a (b.drewN n) := ⟨h.os, h.tape, h.output, h.size, h.block⟩

theorem box2 (w : World) (v u : Value) (s t : TypeId) : ((w.alloc (.cells #[v] s)).alloc (.cells #[u] t)).cell? ⟨w.heap.size, 0, none⟩ = some v ∧ ((w.alloc (.cells #[v] s)).alloc (.cells #[u] t)).cell? ⟨w.heap.size + 1, 0, none⟩ = some u := by
  constructor
  · rw [World.cell?_alloc_past _ _ _ (by simp), World.cell?_alloc_at _ _ _ _ (by simp)]; rfl
  · rw [World.cell?_alloc_at _ _ _ _ (by simp)]; rfl

end Go.Proofs.YtnkkjedckehoaaaDoor
