/- A vault: what lies in memory, and what is kept of it. -/
import Derived.Test.YtdejhpinmkbngaaVe
import Derived.DeepKeys4
namespace Go.Proofs.Ytdejhpinmkbngaa
open Go.RowKit Go.Maps

/-- What was sealed. -/
structure Sec where
  h : Int
  key : Int
  ad : ByteArray
  plain : ByteArray
/-- A name, and whose it is. -/
structure Nam where
  h : Int
  key : Int
  label : ByteArray
abbrev I64 (x : Int) : Prop := -9223372036854775808 ≤ x ∧ x ≤ 9223372036854775807
theorem wf_i64 {x : Int} (h : I64 x) : (Lit.int .i64 x).wf = true := by
  have e : IntKind.i64.min = -9223372036854775808 := rfl
  simp [Lit.wf, e]
  exact h

def findS (S : List Sec) (h : Int) : Option Sec := S.find? (fun s => decide (s.h = h))
def findN (N : List Nam) (k : Int) (l : ByteArray) : Option Nam := N.find? (fun s => decide (s.key = k ∧ s.label = l))
theorem findS_h {S : List Sec} {h : Int} {s : Sec} (e : findS S h = some s) : s.h = h := by
  have := List.find?_some e
  simpa using this
theorem findS_mem {S : List Sec} {h : Int} {s : Sec} (e : findS S h = some s) : s ∈ S := List.mem_of_find?_eq_some e
theorem findS_none {S : List Sec} {h : Int} : findS S h = none ↔ h ∉ S.map Sec.h := by
  unfold findS
  rw [List.find?_eq_none]
  simp only [decide_eq_true_eq, List.mem_map]
  exact ⟨fun H ⟨s, hs, e⟩ => H s hs e, fun H s hs e => H ⟨s, hs, e⟩⟩
theorem findN_none {N : List Nam} {k : Int} {l : ByteArray} : findN N k l = none ↔ ∀ m ∈ N, ¬ (m.key = k ∧ m.label = l) := by
  unfold findN
  rw [List.find?_eq_none]
  simp only [decide_eq_true_eq]
theorem findN_some {N : List Nam} {k : Int} {l : ByteArray} {m : Nam} (e : findN N k l = some m) : m.key = k ∧ m.label = l := by
  have := List.find?_some e
  simpa using this
theorem findN_mem {N : List Nam} {k : Int} {l : ByteArray} {m : Nam} (e : findN N k l = some m) : m ∈ N := List.mem_of_find?_eq_some e
theorem findS_app {S : List Sec} {s : Sec} (hs : s.h ∉ S.map Sec.h) (h : Int) : findS (S ++ [s]) h = if h = s.h then some s else findS S h := by
  unfold findS
  rw [List.find?_append]
  by_cases e : h = s.h
  · subst e
    have h0 : S.find? (fun t => decide (t.h = s.h)) = none := findS_none.2 hs
    rw [if_pos rfl, h0]
    simp
  · have e' : ¬ s.h = h := fun h => e h.symm
    rw [if_neg e]
    simp [e']
theorem findN_app {N : List Nam} {s : Nam} (hs : findN N s.key s.label = none) (k : Int) (l : ByteArray) : findN (N ++ [s]) k l = if k = s.key ∧ l = s.label then some s else findN N k l := by
  unfold findN at *
  rw [List.find?_append]
  by_cases e : k = s.key ∧ l = s.label
  · obtain ⟨rfl, rfl⟩ := e
    rw [if_pos ⟨rfl, rfl⟩, hs]
    simp
  · have e' : ¬ (s.key = k ∧ s.label = l) := fun h => e ⟨h.1.symm, h.2.symm⟩
    rw [if_neg e]
    simp [e']

/-! ### The maps -/
/-- How a secret reads. -/
def secD (k : Int) (a p : ByteArray) : DataW Unit := .agg [.lit (.int .i64 k), .lit (.string a.data.toList), .lit (.string p.data.toList)]
def secR : Value → Option (DataW Unit × List MemPlace)
  | .agg cs => match cs.toList with
    | [.int .i64 k, .string a, .string p] => some (secD k a p, [])
    | _ => none
  | _ => none
theorem secR_mk (k : Int) (a p : ByteArray) : secR (.agg #[.int .i64 k, .string a, .string p]) = some (secD k a p, []) := rfl
theorem secD_inj {k k' : Int} {a a' p p' : ByteArray} (h : secD k a p = secD k' a' p') : k = k' ∧ a = a' ∧ p = p' := by
  unfold secD at h
  injection h with h
  injection h with h1 h
  injection h with h2 h
  injection h with h3 _
  injection h1 with h1
  injection h1 with _ h1
  injection h2 with h2
  injection h2 with h2
  injection h3 with h3
  injection h3 with h3
  refine ⟨h1, ?_, ?_⟩
  · cases a; cases a'; simpa using h2
  · cases p; cases p'; simpa using h3
theorem secR_inv {v : Value} {d : DataW Unit} {ps : List MemPlace} (h : secR v = some (d, ps)) : ∃ k a p, v = .agg #[.int .i64 k, .string a, .string p] ∧ d = secD k a p := by
  unfold secR at h
  split at h
  · rename_i cs
    split at h
    · rename_i k a p e
      injection h with h
      injection h with h _
      refine ⟨k, a, p, ?_, h.symm⟩
      rw [← Array.toArray_toList (xs := cs), e]
    · cases h
  · cases h
theorem Try.zeroSec (w : World) : (zeroValue 59).run Try.prog w = .ok (.agg #[.int .i64 0, .string ⟨#[]⟩, .string ⟨#[]⟩]) w := by kernel_rfl
theorem Try.zeroI (w : World) : (zeroValue 3).run Try.prog w = .ok (.int .i64 0) w := by kernel_rfl
theorem Try.keyI : Keyed Try.prog 3 := int_keyed Try.underlying3
theorem Try.keyL : Keyed Try.prog 55 := Keyed.of_law (deep_law_laid (by kernel_rfl) (m := 3) (by decide) (by decide) (by kernel_rfl) (by kernel_rfl))
/-- How a lock reads as a key. -/
def lockL (k : Int) (s : ByteArray) : Lit := .string (keyBytes [.int .i64 k, .string s.data.toList])
theorem lock_key {k : Int} {s : ByteArray} (hk : I64 k) (hs : s.size ≤ maxLen) : keyOf Try.prog 55 (.agg #[.int .i64 k, .string s]) = some (lockL k s) := by
  have hk := wf_i64 hk
  have h1 : Try.prog.keyType 55 = true := by kernel_rfl
  obtain ⟨m, hm⟩ : ∃ m, Try.prog.types.size = m + 1 := ⟨Try.prog.types.size - 1, by kernel_rfl⟩
  have c1 : Try.prog.cellsOf 55 = 2 := by kernel_rfl
  have c2 : Try.prog.cellsOf 3 = 1 := by kernel_rfl
  have c3 : Try.prog.cellsOf 9 = 1 := by kernel_rfl
  have hf : (Value.agg #[.int .i64 k, .string s]).formed Try.prog 55 = true := by simp [Value.formed, Try.underlying55, c1]
  have hl : Try.prog.keyLits (m + 1 + 1) 55 [.int .i64 k, .string s] = some [.int .i64 k, .string s.data.toList] := by
    simp [Program.keyLits, Try.underlying55, Try.underlying3, Try.underlying9, c1, c2, c3, hk, hs]
  have hc : (Value.agg #[.int .i64 k, .string s]).cells.toList = [.int .i64 k, .string s] := rfl
  simp [keyOf, Try.underlying55, h1, hf, hm, hc, hl, lockL]
theorem lock_inj {k k' : Int} {s s' : ByteArray} (hk : I64 k) (hs : s.size ≤ maxLen) (hk' : I64 k') (hs' : s'.size ≤ maxLen) (h : lockL k s = lockL k' s') : k = k' ∧ s = s' := by
  have h1 := lock_key hk hs
  have h2 := lock_key hk' hs'
  rw [h] at h1
  have := Try.keyL.inj h1 h2
  simpa using this

def KnowsS (D : DataW Unit) (S : List Sec) : Prop := ∀ h, I64 h → Maps.has D (.int .i64 h) = (findS S h).isSome ∧
  ∀ s, findS S h = some s → D.atKey (.int .i64 h) (secD 0 ⟨#[]⟩ ⟨#[]⟩) = secD s.key s.ad s.plain
def KnowsN (D : DataW Unit) (N : List Nam) : Prop := ∀ k l, I64 k → l.size ≤ maxLen → Maps.has D (lockL k l) = (findN N k l).isSome ∧
  ∀ m, findN N k l = some m → D.atKey (lockL k l) (.lit (.int .i64 0)) = .lit (.int .i64 m.h)
theorem knowsS_nil : KnowsS (.map []) [] := fun h _ => ⟨by simp [Maps.has, findS], by simp [findS]⟩
theorem knowsN_nil : KnowsN (.map []) [] := fun k l _ _ => ⟨by simp [Maps.has, findN], by simp [findN]⟩
theorem knowsS_put {D : DataW Unit} {S : List Sec} {s : Sec} (h : KnowsS D S) (hm : Maps.IsMap D) (hs : s.h ∉ S.map Sec.h) : KnowsS (D.put (.int .i64 s.h) (secD s.key s.ad s.plain)) (S ++ [s]) := by
  have key : WideAt.IsKeyLit (.int .i64 s.h) := trivial
  intro x hx
  rw [findS_app hs]
  by_cases e : x = s.h
  · subst e
    rw [if_pos rfl, Maps.has_put_same hm key]
    refine ⟨rfl, fun t ht => ?_⟩
    injection ht with ht
    subst ht
    rw [Maps.atKey_put_same hm key]
  · have ne : Lit.int .i64 x ≠ .int .i64 s.h := fun h => e (by injection h)
    rw [if_neg e, Maps.has_put_other ne]
    refine ⟨(h x hx).1, fun t ht => ?_⟩
    rw [Maps.atKey_put_other ne]
    exact (h x hx).2 t ht
theorem knowsN_put {D : DataW Unit} {N : List Nam} {s : Nam} (h : KnowsN D N) (hm : Maps.IsMap D) (hs : findN N s.key s.label = none) (hk : I64 s.key) (hl : s.label.size ≤ maxLen) : KnowsN (D.put (lockL s.key s.label) (.lit (.int .i64 s.h))) (N ++ [s]) := by
  have key := Try.keyL.key (lock_key hk hl)
  intro k l hk' hl'
  rw [findN_app hs]
  by_cases e : k = s.key ∧ l = s.label
  · obtain ⟨rfl, rfl⟩ := e
    rw [if_pos ⟨rfl, rfl⟩, Maps.has_put_same hm key]
    refine ⟨rfl, fun t ht => ?_⟩
    injection ht with ht
    subst ht
    rw [Maps.atKey_put_same hm key]
  · have ne : lockL k l ≠ lockL s.key s.label := fun h => e (lock_inj hk' hl' hk hl h)
    rw [if_neg e, Maps.has_put_other ne]
    refine ⟨(h k l hk' hl').1, fun t ht => ?_⟩
    rw [Maps.atKey_put_other ne]
    exact (h k l hk' hl').2 t ht

/-! ### A vault's halves -/
def PartS (w : World) (b : Nat) (v : Value) (S : List Sec) : Prop := ∃ D H, w.ownsMap Try.prog 3 secR b S.length D ∧ Maps.size D = S.length ∧ KnowsS D S ∧ w.ownsRow 0 3 1 v H.length (intV H) ∧ Rises H ∧ H.length = S.length ∧ (∀ y, y ∈ H ↔ y ∈ S.map Sec.h) ∧ ∀ s ∈ S, s.plain.size ≤ 5116
def PartN (w : World) (b : Nat) (v : Value) (N : List Nam) : Prop := ∃ D H, w.ownsMap Try.prog 55 (plainElem (H := Unit) Try.prog 3) b N.length D ∧ Maps.size D = N.length ∧ KnowsN D N ∧ w.ownsRow 0 3 1 v H.length (intV H) ∧ Rises H ∧ H.length = N.length ∧ ∀ y, y ∈ H ↔ y ∈ N.map Nam.h
section
variable {w w' : World} {b : Nat} {v : Value}
theorem map_keep {k : TypeId} {R : Value → Option (DataW Unit × List MemPlace)} {n : Nat} {D : DataW Unit} (h : w.ownsMap Try.prog k R b n D) (same : w'.heap[b]? = w.heap[b]?) : w'.ownsMap Try.prog k R b n D := by
  obtain ⟨es, clock, hb, rest⟩ := h
  exact ⟨es, clock, by rw [same]; exact hb, rest⟩
theorem row_keep {e : TypeId} {n : Nat} {xs : List Value} (h : w.ownsRow 0 e 1 v n xs) (same : ∀ i, v.ownBlock = some i → w'.heap[i]? = w.heap[i]?) : w'.ownsRow 0 e 1 v n xs := by
  refine ⟨h.1, ?_⟩
  rcases h.2 with h1 | ⟨g', cap, cur, h1, h2, h3, h4⟩
  · exact .inl h1
  · exact .inr ⟨g', cap, cur, h1, h2, by rw [same g' (by rw [h1]; rfl)]; exact h3, h4⟩
theorem PartS.keep {S : List Sec} (h : PartS w b v S) (s1 : w'.heap[b]? = w.heap[b]?) (s2 : ∀ i, v.ownBlock = some i → w'.heap[i]? = w.heap[i]?) : PartS w' b v S := by
  obtain ⟨D, H, h1, h2, h3, h4, h5⟩ := h
  exact ⟨D, H, map_keep h1 s1, h2, h3, row_keep h4 s2, h5⟩
theorem PartN.keep {N : List Nam} (h : PartN w b v N) (s1 : w'.heap[b]? = w.heap[b]?) (s2 : ∀ i, v.ownBlock = some i → w'.heap[i]? = w.heap[i]?) : PartN w' b v N := by
  obtain ⟨D, H, h1, h2, h3, h4, h5⟩ := h
  exact ⟨D, H, map_keep h1 s1, h2, h3, row_keep h4 s2, h5⟩
theorem PartS.lt {S : List Sec} (h : PartS w b v S) : b < w.heap.size ∧ ∀ i, v.ownBlock = some i → i < w.heap.size := by
  obtain ⟨D, H, h1, h2, h3, h4, h5⟩ := h
  exact ⟨h1.lt, fun i hi => (h4.lt i hi).2⟩
theorem PartN.lt {N : List Nam} (h : PartN w b v N) : b < w.heap.size ∧ ∀ i, v.ownBlock = some i → i < w.heap.size := by
  obtain ⟨D, H, h1, h2, h3, h4, h5⟩ := h
  exact ⟨h1.lt, fun i hi => (h4.lt i hi).2⟩
end

/-! ### A vault -/
def Vlt (w : World) (g : Nat) (S : List Sec) (N : List Nam) (F : Nat → Prop) : Prop :=
  ∃ bm v1 bn v2, Blk w g [.map (some bm), v1, .map (some bn), v2] 53 ∧ PartS w bm v1 S ∧ PartN w bn v2 N ∧ bm ≠ bn ∧ (∀ i, v1.ownBlock = some i → v2.ownBlock ≠ some i) ∧
    ∀ i, F i ↔ i = g ∨ i = bm ∨ i = bn ∨ v1.ownBlock = some i ∨ v2.ownBlock = some i
section
variable {w w' : World} {g : Nat} {S : List Sec} {N : List Nam} {F G : Nat → Prop}
theorem Vlt.lt (h : Vlt w g S N F) : ∀ i, F i → i < w.heap.size := by
  obtain ⟨bm, v1, bn, v2, hB, h1, h2, -, -, hF⟩ := h
  intro i hi
  rcases (hF i).1 hi with rfl | rfl | rfl | hi | hi
  · exact hB.lt
  · exact h1.lt.1
  · exact h2.lt.1
  · exact h1.lt.2 i hi
  · exact h2.lt.2 i hi
theorem Vlt.keep (h : Vlt w g S N F) (hf : Fr G w w') (hd : ∀ i, F i → ¬ G i) : Vlt w' g S N F := by
  have hl := h.lt
  obtain ⟨bm, v1, bn, v2, hB, h1, h2, h3, h4, hF⟩ := h
  have same : ∀ i, F i → w'.heap[i]? = w.heap[i]? := fun i hi => hf.block i (hl i hi) (hd i hi)
  refine ⟨bm, v1, bn, v2, ?_, h1.keep (same bm ((hF _).2 (.inr (.inl rfl)))) (fun i hi => same i ((hF _).2 (.inr (.inr (.inr (.inl hi)))))),
    h2.keep (same bn ((hF _).2 (.inr (.inr (.inl rfl))))) (fun i hi => same i ((hF _).2 (.inr (.inr (.inr (.inr hi)))))), h3, h4, hF⟩
  unfold Blk
  rw [same g ((hF g).2 (.inl rfl))]
  exact hB
theorem Vlt.below (h : Vlt w g S N F) (hb : Below w.heap.size w w') : Vlt w' g S N F := h.keep (Fr.of_below (fun _ => False) hb) (fun _ _ h => h)
end
end Go.Proofs.Ytdejhpinmkbngaa
