/- The small case. -/
import Derived.Test.YtohnommmmdlnpaaWf
namespace Go.Proofs.Ytohnommmmdlnpaa
open Go.RowKit

theorem RdrAt.below {w w' : World} {g : Nat} {A : Option Addr} {c : Nat} {l : List UInt8} {p : Nat} {e : Int} (h : RdrAt w g A c l p e) (hb : Below w.heap.size w w') : RdrAt w' g A c l p e :=
  RdrAt.far (row := none) h h (grown_below hb) (Nat.le_refl _) (by simp)
theorem RdrAt.apart {w w' : World} {g g' : Nat} {A : Option Addr} {c : Nat} {l : List UInt8} {p : Nat} {e : Int} {n' c' : Nat} {A' : Option Addr} {p' e' : Int} {t : TypeId} (h : RdrAt w g A c l p e) (hb : Blk w g' [.slice A' n' c', .int .i64 p', .int .i64 e'] t) (hg : w.grownBy w' (some g')) (hne : g ≠ g') : RdrAt w' g A c l p e := by
  obtain ⟨h0, hr, h1, h2, h3⟩ := h
  refine ⟨?_, hr.grown hg (blk_not_by8 hb), h1, h2, h3⟩
  unfold Blk
  rw [hg.block g (Blk.lt h0) (by simpa using hne)]
  exact h0

theorem rn1 : rNum [0, 0, 0, 9, 0, 0, 0, 1] 0 0 9 = (9, 4, 0) := by decide
theorem rn2 : rNum [0, 0, 0, 9, 0, 0, 0, 1] 4 0 0 = (0, 4, 5) := by decide
def L6 : List UInt8 := [0, 0, 0, 7, 0, 0, 0, 2, 97, 98, 0, 0, 0, 2, 0, 0, 0, 1, 99, 0, 0, 0, 0]
theorem L6eq : numB 7 ++ strB ⟨#[97, 98]⟩ ++ rowB [⟨#[99]⟩, ⟨#[]⟩] = L6 := by decide
theorem sl2 : (numB 7 ++ strB ⟨#[97, 98]⟩).length = 10 := by decide
theorem sl3 : 10 + (rowB [⟨#[99]⟩, ⟨#[]⟩]).length = 23 := by decide
theorem rn3 : rNum L6 0 0 9 = (7, 4, 0) := by decide
theorem rs3 : rStr L6 4 0 2 = ([97, 98], 10, 0) := by decide
theorem rr3 : rRow L6 10 0 2 1 = ([[99], []], 23, 0) := by decide
theorem re1 : rEnd [0, 0, 0, 9, 0, 0, 0, 1] 4 5 = 5 := by decide
theorem re2 : rEnd L6 23 0 = 0 := by decide
theorem sb1 : strB ⟨#[97, 98]⟩ = [0, 0, 0, 2, 97, 98] := by decide
theorem ft1 : fitsB (ByteArray.size ⟨#[97, 98]⟩) 2 = true := by decide
theorem ft2 : fitsB (ByteArray.size ⟨#[97, 98]⟩) 1 = false := by decide
theorem blk_not_str {w : World} {g : Nat} {A : Option Addr} {n c : Nat} {p e : Int} {t : TypeId} {l : List ByteArray} (h : Blk w g [.slice A n c, .int .i64 p, .int .i64 e] t) : ∀ o u, w.cell? ⟨g, o, none⟩ = some u → u ∉ strV l := by
  intro o u hu hm
  obtain ⟨b, _, rfl⟩ := List.mem_map.1 hm
  rw [h.cell o] at hu
  match o, hu with
  | 0, hu => simp at hu
  | 1, hu => simp at hu
  | 2, hu => simp at hu
theorem sl1 : (strB ⟨#[97, 98]⟩).length = 6 := by decide

end Go.Proofs.Ytohnommmmdlnpaa
