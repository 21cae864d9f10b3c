/- The text Pat. -/
import Derived.Test.YtlmccjdpmhancaaGreatDoorKJt
namespace Go.Proofs.YtlmccjdpmhancaaGreatDoor
open Go.RowKit

/-- What the archive, and the tree, have at a path. -/
def wasP (es : List Ent) (p : ByteArray) : Ent := match es.find? (fun e => decide (e.path = p)) with
  | some e => e
  | none => fresh p
theorem getT_some {fs : List Fil} (h : RightT fs) {f : Fil} (hf : f ∈ fs) : getT fs f.1.data.toList = some f.2 := by
  have ht : thereT fs f.1.data.toList = true := there_iff.2 ⟨f, hf, rfl⟩
  obtain ⟨hl, e⟩ := get_of (p := f.1) ((treeR_iff fs).2 h) ht
  rw [e]
  obtain ⟨hl2, e2⟩ := (there_at h.srt).1 ht
  have : fs[(lowT fs f.1.data.toList).length] = f := h.srt.inj (List.getElem_mem _) hf e2
  rw [this]
theorem getT_none {fs : List Fil} {p : ByteArray} (h : ∀ f ∈ fs, f.1 ≠ p) : getT fs p.data.toList = none := by
  have ht : thereT fs p.data.toList = false := there_no.2 fun f hf e => h f hf (data_inj e)
  exact get_none (by rw [ht, Bool.and_false])
/-- The i-th pair, as the document tells it. -/
structure PairAt9 (es : List Ent) (fs : List Fil) (p : Ent × Ent) : Prop where
  get : getT fs p.2.path.data.toList = if p.2.has then some p.2.data else none
  was : (idxE es p.2.path = -1 ∧ p.1 = fresh p.2.path ∧ ¬ p.2 = p.1) ∨ ∃ (j : Nat) (hj : j < es.length), idxE es p.2.path = j ∧ es[j] = p.1
  is : p.2 = ⟨p.2.path, p.2.has, if p.2.has then p.2.data else noS, p.1.l, p.1.r⟩
  path : p.1.path = p.2.path
theorem pair_at9 {es : List Ent} {fs : List Fil} (h : RightA es) (k : RightT fs) {p : Ent × Ent} (hp : p ∈ bothL es fs) : PairAt9 es fs p := by
  have hP := both_pair es fs p hp
  have hsrt := both_srt es fs h.srt k.srt
  have hwas : ∀ (j : Nat) (hj : j < es.length), es[j].path = p.2.path → es[j] = p.1 := by
    intro j hj hpj
    have hm : es[j] ∈ ((bothL es fs).map (·.1)).filter (fun e => !newB e) := by
      rw [both_was es fs fun e he => fine_new (h.fine e he)]; exact List.getElem_mem hj
    obtain ⟨q, hq, e⟩ := List.mem_map.1 (List.mem_filter.1 hm).1
    have hQ := both_pair es fs q hq
    have : q = p := hsrt.one hq hp (by rw [hQ.path, e]; exact hpj)
    rw [← e, this]
  refine ⟨?_, ?_, ?_, hP.path.symm⟩
  · cases hh : p.2.has with
    | true =>
      rw [if_pos rfl]
      exact getT_some k (f := (p.2.path, p.2.data)) (hP.is hh)
    | false =>
      rw [if_neg (by simp)]
      refine getT_none fun f hf e => ?_
      have hf' := hf
      rw [← both_files es fs] at hf'
      obtain ⟨x, hx, hxh, rfl⟩ := mem_files.1 hf'
      obtain ⟨q, hq, rfl⟩ := List.mem_map.1 hx
      have : q = p := hsrt.one hq hp e
      rw [this, hh] at hxh
      cases hxh
  · rcases hP.was with hm | ⟨hf, hh⟩
    · obtain ⟨j, hj, e⟩ := List.mem_iff_getElem.1 hm
      have hk := idxE_srt h.srt hj
      rw [e, ← hP.path] at hk
      exact .inr ⟨j, hj, hk, e⟩
    · rcases idxE_cases es p.2.path with ⟨h1, -⟩ | ⟨j, hj, h1, h2⟩
      · refine .inl ⟨h1, by rw [hP.path]; exact hf, fun e => ?_⟩
        have := congrArg Ent.has e
        rw [hf, hh] at this
        cases this
      · exact .inr ⟨j, hj, h1, hwas j hj h2⟩
  · refine Ent.same rfl rfl ?_ hP.cl hP.cr
    cases hh : p.2.has with
    | true => rfl
    | false => exact hP.none hh
end Go.Proofs.YtlmccjdpmhancaaGreatDoor
