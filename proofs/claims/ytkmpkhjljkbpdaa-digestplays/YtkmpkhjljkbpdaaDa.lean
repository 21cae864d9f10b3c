/- Tables of digests: what lies in memory, and what is kept of it. -/
import Derived.Test.YtkmpkhjljkbpdaaBlk
import Derived.Test.YtkmpkhjljkbpdaaShelf
import Derived.Maps.OwnSet
import Derived.Maps.AppendAt
namespace Go.Proofs.Ytkmpkhjljkbpdaa
open Go.RowKit Go.Maps

/-! ### A world that has turned in some blocks alone -/
/-- Of what was there, only the blocks F may have turned. -/
structure Fr (F : Nat → Prop) (w w' : World) : Prop where
  os : w'.os = w.os
  tape : w'.tape = w.tape
  output : w'.output = w.output
  size : w.heap.size ≤ w'.heap.size
  block : ∀ k, k < w.heap.size → ¬ F k → w'.heap[k]? = w.heap[k]?
section
variable {F G : Nat → Prop} {a b c : World}
theorem Fr.refl (F : Nat → Prop) (w : World) : Fr F w w := ⟨rfl, rfl, rfl, Nat.le_refl _, fun _ _ _ => rfl⟩
theorem Fr.of_below (F : Nat → Prop) (h : Below a.heap.size a b) : Fr F a b := ⟨h.os, h.tape, h.output, h.size, fun k hk _ => h.block k hk⟩
theorem Fr.of_grown {row : Option Nat} (h : a.grownBy b row) (hr : ∀ k, row = some k → F k) : Fr F a b :=
  ⟨h.os, h.tape, h.output, h.size, fun k hk hn => h.block k hk (fun e => hn (hr k e.symm))⟩
theorem Fr.trans (h : Fr F a b) (k : Fr G b c) (hG : ∀ i, G i → F i ∨ a.heap.size ≤ i) : Fr F a c :=
  ⟨k.os.trans h.os, k.tape.trans h.tape, k.output.trans h.output, Nat.le_trans h.size k.size, fun i hi hn =>
    (k.block i (Nat.lt_of_lt_of_le hi h.size) (fun g => (hG i g).elim hn (by omega))).trans (h.block i hi hn)⟩
theorem Fr.to_below {B : Nat} (h : Fr F a b) (hF : ∀ i, F i → B ≤ i) (hB : B ≤ a.heap.size) : Below B a b :=
  ⟨h.os, h.tape, h.output, h.size, fun k hk => h.block k (by omega) (fun f => by have := hF k f; omega)⟩
end

/-! ### Lists of strings without a repeat -/
instance lawfulS : LawfulBEq ByteArray where
  eq_of_beq := by intro a b h; cases a; cases b; exact congrArg ByteArray.mk (eq_of_beq (α := Array UInt8) h)
  rfl := by intro a; cases a; exact BEq.rfl (α := Array UInt8)
theorem key_lit (l : List UInt8) : WideAt.IsKeyLit (.string l) := trivial
def addS (k : List ByteArray) (s : ByteArray) : List ByteArray := if s ∈ k then k else k ++ [s]
theorem addS_in {k : List ByteArray} {s : ByteArray} (h : s ∈ k) : addS k s = k := if_pos h
theorem addS_out {k : List ByteArray} {s : ByteArray} (h : s ∉ k) : addS k s = k ++ [s] := if_neg h
theorem idx_out {k : List ByteArray} {s : ByteArray} (h : s ∉ k) : k.idxOf s = k.length := List.idxOf_eq_length h
theorem idx_in {k : List ByteArray} {s : ByteArray} (h : s ∈ k) : k.idxOf s < k.length := List.idxOf_lt_length_of_mem h

/-- The map tells, of each string, whether it is there, and its place. -/
def Knows (D : DataW Unit) (k : List ByteArray) : Prop := ∀ s : ByteArray, s.size ≤ maxLen → Maps.has D (.string s.data.toList) = decide (s ∈ k) ∧
  (s ∈ k → D.atKey (.string s.data.toList) (.lit (.int .i64 0)) = .lit (.int .i64 ((k.idxOf s + 1 : Nat) : Int)))
theorem knows_nil : Knows (.map []) [] := fun s _ => ⟨by simp [Maps.has], by simp⟩
theorem str_ne {s t : ByteArray} (h : t ≠ s) : Lit.string t.data.toList ≠ .string s.data.toList := by
  intro e
  injection e with e
  apply h
  cases s; cases t
  simpa using e
theorem knows_put {D : DataW Unit} {k : List ByteArray} {s : ByteArray} (h : Knows D k) (hm : Maps.IsMap D) (hs : s ∉ k) :
    Knows (D.put (.string s.data.toList) (.lit (.int .i64 ((k.length + 1 : Nat) : Int)))) (k ++ [s]) := by
  intro t ht
  by_cases e : t = s
  · subst e
    refine ⟨by rw [Maps.has_put_same hm (key_lit _)]; simp, fun _ => ?_⟩
    rw [Maps.atKey_put_same hm (key_lit _), List.idxOf_append, if_neg hs]
    simp
  · rw [Maps.has_put_other (str_ne e), Maps.atKey_put_other (str_ne e)]
    obtain ⟨h1, h2⟩ := h t ht
    refine ⟨by rw [h1]; simp [e], fun hmem => ?_⟩
    have hk : t ∈ k := by simpa [e] using hmem
    rw [h2 hk, List.idxOf_append, if_pos hk]

theorem Try.zeroI (w : World) : (zeroValue 3).run Try.prog w = .ok (.int .i64 0) w := by kernel_rfl
theorem Try.keyS : Keyed Try.prog 9 := string_keyed Try.underlying9

/-! ### A table -/
def Tab (w : World) (g : Nat) (k : List ByteArray) (F : Nat → Prop) : Prop :=
  ∃ bm A c D, Blk w g [.map (some bm), .slice A k.length c] 43 ∧ w.ownsMap Try.prog 9 (plainElem (H := Unit) Try.prog 3) bm k.length D ∧ Knows D k ∧
    w.ownsRow 0 9 1 (.slice A k.length c) k.length (strV k) ∧ (∀ i, F i ↔ i = g ∨ i = bm ∨ (Value.slice A k.length c).ownBlock = some i) ∧ k.length ≤ 65536 ∧ ∀ s ∈ k, s.size ≤ 140737488355328
section
variable {w w' : World} {g : Nat} {k : List ByteArray} {F G : Nat → Prop}
theorem Tab.lt (h : Tab w g k F) : ∀ i, F i → i < w.heap.size := by
  obtain ⟨bm, A, c, D, hB, hm, -, hr, hF, -⟩ := h
  intro i hi
  rcases (hF i).1 hi with rfl | rfl | hi
  · exact hB.lt
  · exact hm.lt
  · exact (hr.lt i hi).2
theorem Tab.keep (h : Tab w g k F) (hf : Fr G w w') (hd : ∀ i, F i → ¬ G i) : Tab w' g k F := by
  have hl := h.lt
  obtain ⟨bm, A, c, D, hB, hm, hk, hr, hF, h5⟩ := h
  have same : ∀ i, F i → w'.heap[i]? = w.heap[i]? := fun i hi => hf.block i (hl i hi) (hd i hi)
  refine ⟨bm, A, c, D, ?_, ?_, hk, ?_, hF, h5⟩
  · unfold Blk
    rw [same g ((hF g).2 (.inl rfl))]
    exact hB
  · obtain ⟨es, clock, hb, rest⟩ := hm
    exact ⟨es, clock, by rw [same bm ((hF bm).2 (.inr (.inl rfl)))]; exact hb, rest⟩
  · refine ⟨hr.1, ?_⟩
    rcases hr.2 with h1 | ⟨g', cap, cur, h1, h2, h3, h4⟩
    · exact .inl h1
    · exact .inr ⟨g', cap, cur, h1, h2, by rw [same g' ((hF g').2 (.inr (.inr (by rw [h1]; rfl))))]; exact h3, h4⟩
theorem Tab.below (h : Tab w g k F) (hb : Below w.heap.size w w') : Tab w' g k F := h.keep (Fr.of_below (fun _ => False) hb) (fun _ _ h => h)
end
end Go.Proofs.Ytkmpkhjljkbpdaa
