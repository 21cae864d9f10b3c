/- What follows of Scan: plain lists. -/
import Derived.Test.YtnkkjedckehoaaaDoorSk
namespace Go.Proofs.YtnkkjedckehoaaaDoor
open Go.RowKit

theorem gone_same {e : Ent} (h1 : e.has = false) (h2 : e.data = noS) : gone e = e := Ent.same rfl h1.symm h2.symm rfl rfl
theorem kept_same {e : Ent} (h1 : e.has = true) : kept e e.data = e := Ent.same rfl h1.symm rfl rfl rfl
theorem both_same : ∀ {es : List Ent}, SrtE es → (∀ e ∈ es, e.has = true ∨ e.data = noS) → bothL es (filesOf es) = es.map fun e => (e, e)
  | [], _, _ => bothL_nil
  | e :: es, hs, hd => by
    have hs' := List.pairwise_cons.1 hs
    have ih := both_same hs'.2 fun x hx => hd x (List.mem_cons_of_mem _ hx)
    rw [filesOf_cons, List.map_cons]
    cases hh : e.has with
    | true => rw [if_pos rfl, bothL_eq rfl, ih, kept_same hh]
    | false =>
      have hg : gone e = e := gone_same hh ((hd e (by simp)).resolve_left (by simp [hh]))
      rw [if_neg (by simp)]
      cases hf : filesOf es with
      | nil => rw [hf] at ih; rw [bothL_l, ih, hg]
      | cons f t =>
        have hm : f ∈ filesOf es := by rw [hf]; simp
        obtain ⟨x, hx, -, rfl⟩ := mem_files.1 hm
        have hlt := hs'.1 x hx
        rw [hf] at ih
        have h1 : ¬ e.path = ((x.path, x.data) : Fil).1 := fun h => by
          have e1 : epth e = epth x := epth_inj.2 h
          rw [e1] at hlt; exact List.lt_irrefl _ hlt
        have h2 : Op.bytesLess (pth (x.path, x.data)) (epth e) = false := less_no fun h => List.lt_asymm hlt h
        rw [bothL_gt h1 h2, ih, hg]
theorem fine_data {es : List Ent} (h : RightA es) : ∀ e ∈ es, e.has = true ∨ e.data = noS := fun e he => ((fineE_iff e).1 (h.fine e he)).2.2
theorem scan_self {es : List Ent} (h : RightA es) (a : Int) : scanN es (filesOf es) a = 0 ∧ scanA es (filesOf es) a = es ∧ scanC es (filesOf es) a = [] := by
  have hb := both_same h.srt (fine_data h)
  have hn : scanN es (filesOf es) a = 0 := by
    refine scanN_ok.2 ⟨h, (treeR_iff _).1 h.tree, ?_⟩
    rw [hb, okP, List.length_map, decide_eq_true h.few, Bool.true_and, List.all_eq_true]
    intro p hp
    obtain ⟨e, -, rfl⟩ := List.mem_map.1 hp
    simp [stuck]
  refine ⟨hn, ?_, ?_⟩
  · rw [scanA, if_pos hn, hb, outP, List.map_map]
    conv => rhs; rw [← List.map_id es]
    refine List.map_congr_left fun e _ => ?_
    simp [newE]
  · rw [scanC, if_pos hn, hb, chgP, List.map_eq_nil_iff, List.filter_eq_nil_iff]
    intro p hp
    obtain ⟨e, -, rfl⟩ := List.mem_map.1 hp
    simp

/-! ### What was scanned is right -/
theorem newE_files (a : Int) (ps : List (Ent × Ent)) : filesOf (outP a ps) = filesOf (ps.map (·.2)) := by
  induction ps with
  | nil => rfl
  | cons p ps ih =>
    rw [outP, List.map_cons, List.map_cons, filesOf_cons, filesOf_cons, newE_has, newE_path, newE_data]
    rw [outP] at ih
    rw [ih]
theorem tick_rt (l r a : Int) : 0 ≤ (tickL l r a).1 ∧ (tickL l r a).1 ≤ 1073741824 ∧ 0 ≤ (tickL l r a).2 ∧ (tickL l r a).2 ≤ 1073741824 := by
  have := tkc_le l r a
  rw [tickL_eq]
  simp only
  omega
theorem tick_pos (l r a : Int) : ¬ ((tickL l r a).1 = 0 ∧ (tickL l r a).2 = 0) := by
  unfold tickL up
  split <;> simp only <;> omega
/-- What a pair is, of a right archive and a right tree. -/
theorem pair_right {es : List Ent} {fs : List Fil} (h : RightA es) (k : RightT fs) {p : Ent × Ent} (hp : p ∈ bothL es fs) : rightL (epth p.2) = true := by
  have hP := both_pair es fs p hp
  have hpath := (both_path (x := p.2.path)).1 (List.mem_map.2 ⟨p, hp, rfl⟩)
  rcases hpath with h1 | h1
  · obtain ⟨e, he, h2⟩ := List.mem_map.1 h1
    have := h.paths e he
    unfold epth at this ⊢
    rw [← h2]; exact this
  · obtain ⟨f, hf, h2⟩ := List.mem_map.1 h1
    have := k.paths f hf
    unfold pth at this
    unfold epth
    rw [← h2]; exact this
theorem pair_new {es : List Ent} {fs : List Fil} {p : Ent × Ent} (hp : p ∈ bothL es fs) (he : p.2 = p.1) : p.1 ∈ es := by
  have hP := both_pair es fs p hp
  rcases hP.was with h | ⟨h, h2⟩
  · exact h
  · rw [he, h] at h2; cases h2
theorem scan_right {es : List Ent} {fs : List Fil} {a : Int} (hn : scanN es fs a = 0) : RightA (scanA es fs a) := by
  obtain ⟨h, k, ho⟩ := scanN_ok.1 hn
  rw [scanA, if_pos hn]
  have hsrt := both_srt es fs h.srt k.srt
  refine ⟨?_, ?_, ?_, ?_, ?_⟩
  · rw [outP, List.length_map]; exact okP_len ho
  · refine List.pairwise_map.2 (hsrt.imp fun {p q} hpq => ?_)
    unfold epth
    rw [newE_path, newE_path]; exact hpq
  · intro e he
    obtain ⟨p, hp, rfl⟩ := List.mem_map.1 he
    have := pair_right h k hp
    unfold epth at this ⊢
    rw [newE_path]; exact this
  · intro e he
    obtain ⟨p, hp, rfl⟩ := List.mem_map.1 he
    have hP := both_pair es fs p hp
    by_cases heq : p.2 = p.1
    · rw [newE_eq heq, heq]
      exact h.fine _ (pair_new hp heq)
    · rw [fineE_iff]
      have h1 := tick_rt p.1.l p.1.r a
      have h2 := tick_pos p.1.l p.1.r a
      unfold newE
      rw [if_neg heq]
      refine ⟨h1, h2, ?_⟩
      cases hh : p.2.has with
      | true => exact .inl rfl
      | false => exact .inr (hP.none hh)
  · rw [newE_files, both_files]
    exact (treeR_iff _).2 k
theorem scan_files {es : List Ent} {fs : List Fil} {a : Int} (hn : scanN es fs a = 0) : filesOf (scanA es fs a) = fs := by rw [scanA, if_pos hn, newE_files, both_files]
theorem scan_tree {es : List Ent} {fs : List Fil} {a : Int} (hn : scanN es fs a = 0) : treeE (scanA es fs a) = fs := by rw [treeE, (archR_iff _).2 (scan_right hn), if_pos rfl, scan_files hn]
/-- Scanned again nothing changed. -/
theorem scan_again {es : List Ent} {fs : List Fil} {a : Int} (hn : scanN es fs a = 0) (b : Int) : scanN (scanA es fs a) fs b = 0 ∧ scanA (scanA es fs a) fs b = scanA es fs a ∧ scanC (scanA es fs a) fs b = [] := by
  have := scan_self (scan_right hn) b
  rw [scan_files hn] at this
  exact this
theorem scan_none {es : List Ent} {fs : List Fil} {a : Int} (hn : scanN es fs a ≠ 0) : scanA es fs a = [] ∧ scanC es fs a = [] := ⟨by rw [scanA, if_neg hn], by rw [scanC, if_neg hn]⟩
end Go.Proofs.YtnkkjedckehoaaaDoor
