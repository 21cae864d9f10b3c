/- Bytes of a string in a new row; zeroes in a new row. -/
import Derived.Test.YtodgcajehadaaaaBlk
import Derived.OpenShut
namespace Go.Proofs.Ytodgcajehadaaaa
open Go.RowKit

/-- A new row begins with these bytes. -/
def Bytes8 (w : World) (g : Nat) (l : List UInt8) : Prop :=
  ∃ C fr t, w.heap[g]? = some (.cells C t fr) ∧ (∀ (i : Nat) (b : UInt8), l[i]? = some b → C[i]? = some (Value.int .u8 (b.toNat : Int))) ∧ ∀ i, i < l.length → i < fr.1
section
variable {w : World} {g : Nat} {l : List UInt8}
theorem Bytes8.cell (h : Bytes8 w g l) (i : Nat) (hi : i < l.length) : w.cell? ⟨g, i, none⟩ = some (.int .u8 (l[i].toNat : Int)) := by
  obtain ⟨C, fr, t, h1, h2, _⟩ := h
  rw [cell_of_row w g i C t fr h1]
  exact h2 i _ (List.getElem?_eq_getElem hi)
theorem Bytes8.rd (h : Bytes8 w g l) : Rd w (some ⟨g, 0, none⟩) (by8 l) := by
  refine .inr ⟨_, rfl, fun j u hu => ?_⟩
  have hj : j < l.length := by have := (List.getElem?_eq_some_iff.1 hu).1; rwa [by8_length] at this
  rw [by8_at l j hj] at hu
  injection hu with hu
  rw [Addr.add_lit, Nat.zero_add, h.cell j hj, hu]
theorem Bytes8.frozen (h : Bytes8 w g l) (i : Nat) (hi : i < l.length) : w.frozen? ⟨g, i, none⟩ = false := by
  obtain ⟨C, fr, t, h1, _, h3⟩ := h
  have := h3 i hi
  simp [World.frozen?, h1]
  omega
theorem Bytes8.set_ (h : Bytes8 w g l) (k : Nat) (b : UInt8) : Bytes8 (w.setCell ⟨g, k, none⟩ (.int .u8 (b.toNat : Int))) g (l.set k b) := by
  obtain ⟨C, fr, t, h1, h2, h3⟩ := h
  refine ⟨C.setIfInBounds k (.int .u8 (b.toNat : Int)), fr, t, by simp [World.setCell, Array.getElem?_modify, h1], ?_, by simpa using h3⟩
  intro i x hx
  rw [List.getElem?_set] at hx
  rw [Array.getElem?_setIfInBounds]
  split at hx
  · rename_i e
    subst e
    split at hx
    · rename_i hk
      injection hx with hx
      have := h2 k _ (List.getElem?_eq_getElem hk)
      rw [if_pos rfl, if_pos (Array.getElem?_eq_some_iff.1 this).1, hx]
    · cases hx
  · rename_i e
    rw [if_neg e]
    exact h2 i x hx
end
theorem conv_bytesC (s : ByteArray) (w : World) (hs : s.size ≤ 140737488355328) : ∃ c w', s.size ≤ c ∧ c ≤ maxLen ∧ (convert 9 38 (.string s)).run Try.prog w = .ok (.slice (some ⟨w.heap.size, 0, none⟩) s.size c) w' ∧ Bytes8 w' w.heap.size s.data.toList ∧ Below w.heap.size w w' := by
  refine ⟨_, _, grownCap_ge w _ _ _, grownCap_le_maxLen w _ _ _ (by unfold maxLen; omega), run_bytes_of_string w 9 38 5 s Try.underlying9 Try.underlying38 Try.underlying5, ?_, ?_⟩
  · refine ⟨_, _, _, heap_alloc_new w.drew _, ?_, ?_⟩
    · intro i b hb
      have hi : i < s.data.size := by have := (List.getElem?_eq_some_iff.1 hb).1; simpa using this
      have e : s.data[i] = b := by
        rw [Array.getElem?_toList, Array.getElem?_eq_getElem hi] at hb
        injection hb
      unfold bytesRow
      rw [Array.getElem?_append_left (by simpa using hi), Array.getElem?_map, Array.getElem?_eq_getElem hi, e]
      rfl
    · intro i hi
      have hi' : i < s.data.size := by simpa using hi
      simp only [bytesRow, Array.size_append, Array.size_map]
      omega
  · exact ((Below.refl w.heap.size w).drew).alloc (Nat.le_refl _) _
theorem conv_bytes (s : ByteArray) (w : World) : ∃ c w', (convert 9 38 (.string s)).run Try.prog w = .ok (.slice (some ⟨w.heap.size, 0, none⟩) s.size c) w' ∧ Bytes8 w' w.heap.size s.data.toList ∧ Below w.heap.size w w' := by
  refine ⟨_, _, run_bytes_of_string w 9 38 5 s Try.underlying9 Try.underlying38 Try.underlying5, ?_, ?_⟩
  · refine ⟨_, _, _, heap_alloc_new w.drew _, ?_, ?_⟩
    · intro i b hb
      have hi : i < s.data.size := by have := (List.getElem?_eq_some_iff.1 hb).1; simpa using this
      have e : s.data[i] = b := by
        rw [Array.getElem?_toList, Array.getElem?_eq_getElem hi] at hb
        injection hb
      unfold bytesRow
      rw [Array.getElem?_append_left (by simpa using hi), Array.getElem?_map, Array.getElem?_eq_getElem hi, e]
      rfl
    · intro i hi
      have hi' : i < s.data.size := by simpa using hi
      simp only [bytesRow, Array.size_append, Array.size_map]
      omega
  · exact ((Below.refl w.heap.size w).drew).alloc (Nat.le_refl _) _
theorem Bytes8.below {w w' : World} {g : Nat} {l : List UInt8} (h : Bytes8 w g l) (hb : Below w.heap.size w w') : Bytes8 w' g l := by
  obtain ⟨C, fr, t, h1, h2, h3⟩ := h
  exact ⟨C, fr, t, by rw [hb.block g (Array.getElem?_eq_some_iff.1 h1).1]; exact h1, h2, h3⟩
theorem Bytes8.lt {w : World} {g : Nat} {l : List UInt8} (h : Bytes8 w g l) : g < w.heap.size := by
  obtain ⟨C, fr, t, h1, _⟩ := h
  exact (Array.getElem?_eq_some_iff.1 h1).1
theorem Blk.rd {w : World} {g : Nat} {cs : List Value} {t : TypeId} (h : Blk w g cs t) : Rd w (some ⟨g, 0, none⟩) cs :=
  .inr ⟨_, rfl, fun j u hu => by rw [Addr.add_lit, Nat.zero_add, h.cell j, hu]⟩

/-- n zeroes. -/
def zer (n : Nat) : List UInt8 := List.replicate n 0
theorem zer_length (n : Nat) : (zer n).length = n := List.length_replicate
theorem made_zer (n : Nat) : madeCells (Value.int .u8 0).cells n = (by8 (zer n)).toArray := by
  apply Array.ext'
  rw [show (Value.int .u8 0).cells = #[.int .u8 0] from rfl, toList_madeCells_one]
  simp [by8, zer]
/-- make([]byte, n). -/
theorem make_zer (n : Nat) (hn : n ≤ 140737488355328) (w : World) : (Instr.makeSlice 38 (.int .i64 (n : Int)) (.int .i64 (n : Int))).run Try.prog w = .ok (.slice (some ⟨w.heap.size, 0, none⟩) n n) (w.alloc (.cells (by8 (zer n)).toArray 5)) := by
  obtain ⟨i, hi, hz0, hz1, hz2⟩ := info_parts Try.info8
  rw [run_make w 38 5 i (.int .u8 0) Try.underlying38 hi hz0 .i64 .i64 n n (by omega) (by omega) (by rw [hz2]; omega) (by omega), Int.toNat_natCast, hz1, Nat.mul_one, made_zer]
end Go.Proofs.Ytodgcajehadaaaa
