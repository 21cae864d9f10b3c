/- Files that are dropped, and put again: plain lists. -/
import Derived.Test.YtnkkjedckehoaaaDoorSo
namespace Go.Proofs.YtnkkjedckehoaaaDoor
open Go.RowKit

/-- One author's count. -/
def vv (au : Int) (k : Nat) : Int × Int := if odd au then (0, (k : Int)) else ((k : Int), 0)
theorem tick_vv (au : Int) (k : Nat) (hk : k ≤ 100) : tickL (vv au k).1 (vv au k).2 au = vv au (k + 1) := by
  unfold tickL vv
  cases odd au <;> simp only [if_true, if_false, Bool.false_eq_true] <;> unfold up cl <;> refine Prod.ext ?_ ?_ <;> simp only <;> omega
theorem vv_ne (au : Int) (k : Nat) : vv au (k + 1) ≠ vv au k := by
  unfold vv
  cases odd au <;> simp <;> omega
theorem mine_vv {au : Int} {k : Nat} {e : Ent} (hk : k ≤ 100) (h1 : e.l = (vv au k).1) (h2 : e.r = (vv au k).2) : mineE au e = k := by
  unfold mineE mineI
  rw [h1, h2]
  unfold vv
  cases odd au <;> simp only [if_true, if_false, Bool.false_eq_true] <;> unfold cl <;> omega
theorem both_t : ∀ (t : List Fil), bothL [] t = t.map fun f => (fresh f.1, kept (fresh f.1) f.2)
  | [] => bothL_nil
  | f :: t => by rw [bothL_t, both_t t]; rfl
theorem both_l : ∀ (es : List Ent), bothL es [] = es.map fun e => (e, gone e)
  | [] => bothL_nil
  | e :: es => by rw [bothL_l, both_l es]; rfl
theorem both_map (g : Fil → Ent) (hg : ∀ f, (g f).path = f.1) : ∀ (t : List Fil), bothL (t.map g) t = t.map fun f => (g f, kept (g f) f.2)
  | [] => bothL_nil
  | f :: t => by rw [List.map_cons, bothL_eq (hg f), both_map g hg t]; rfl
theorem scan_all {es : List Ent} {fs t : List Fil} {W I : Fil → Ent} {k : Nat} {au : Int} (hb : bothL es fs = t.map fun f => (W f, I f)) (h : RightA es) (kk : RightT fs) (hne : ∀ f, I f ≠ W f) (hcl : ∀ f, (W f).l = (vv au k).1 ∧ (W f).r = (vv au k).2) (hk : k ≤ 100) (hlen : t.length ≤ 32) :
    scanN es fs au = 0 ∧ scanA es fs au = t.map (fun f => ⟨(I f).path, (I f).has, (I f).data, (vv au (k + 1)).1, (vv au (k + 1)).2⟩) ∧ scanC es fs au = t.map fun f => (I f).path := by
  have hst : ∀ f, stuck au (W f, I f) = false := fun f => by
    unfold stuck
    rw [(hcl f).1, (hcl f).2, tick_vv au k hk, decide_eq_false (hne f), decide_eq_false (vv_ne au k)]
    rfl
  have hn : scanN es fs au = 0 := by
    refine scanN_ok.2 ⟨h, kk, ?_⟩
    rw [hb, okP, List.length_map, decide_eq_true hlen, Bool.true_and, List.all_eq_true]
    intro p hp
    obtain ⟨f, -, rfl⟩ := List.mem_map.1 hp
    rw [hst f]; rfl
  refine ⟨hn, ?_, ?_⟩
  · rw [scanA, if_pos hn, hb, outP, List.map_map]
    refine List.map_congr_left fun f _ => ?_
    simp only [Function.comp]
    unfold newE
    rw [if_neg (hne f), (hcl f).1, (hcl f).2, tick_vv au k hk]
  · rw [scanC, if_pos hn, hb, chgP, List.filter_map, List.map_map]
    have hf : List.filter ((fun p : Ent × Ent => !decide (p.2 = p.1)) ∘ fun f => (W f, I f)) t = t := List.filter_eq_self.2 fun f _ => by simp [hne f]
    rw [hf]
    rfl
def entG (au : Int) (k : Nat) (h : Bool) (f : Fil) : Ent := ⟨f.1, h, if h then f.2 else noS, (vv au k).1, (vv au k).2⟩
theorem right_nilT : RightT ([] : List Fil) := (treeR_iff _).1 (by decide +kernel)
theorem right_nilA : RightA ([] : List Ent) := (archR_iff _).1 (by decide +kernel)
theorem gone1 {t : List Fil} (h : RightT t) (au : Int) : scanN [] t au = 0 ∧ scanA [] t au = t.map (entG au 1 true) ∧ scanC [] t au = t.map (·.1) := by
  obtain ⟨h1, h2, h3⟩ := scan_all (k := 0) (au := au) (both_t t) right_nilA h (fun f e => by have := congrArg Ent.has e; simp [kept, fresh] at this) (fun f => by unfold vv; cases odd au <;> simp [fresh]) (by omega) (by have := h.few; omega)
  exact ⟨h1, h2.trans (List.map_congr_left fun f _ => rfl), h3.trans (List.map_congr_left fun f _ => rfl)⟩
theorem gone2 {t : List Fil} (h : RightT t) (au : Int) : scanN (t.map (entG au 1 true)) [] au = 0 ∧ scanA (t.map (entG au 1 true)) [] au = t.map (entG au 2 false) ∧ scanC (t.map (entG au 1 true)) [] au = t.map (·.1) := by
  have hA : RightA (t.map (entG au 1 true)) := by rw [← (gone1 h au).2.1]; exact scan_right (gone1 h au).1
  have hb : bothL (t.map (entG au 1 true)) [] = t.map fun f => (entG au 1 true f, gone (entG au 1 true f)) := by rw [both_l, List.map_map]; rfl
  obtain ⟨h1, h2, h3⟩ := scan_all (k := 1) (au := au) hb hA right_nilT (fun f e => by have := congrArg Ent.has e; simp [gone, entG] at this) (fun f => ⟨rfl, rfl⟩) (by omega) (by have := h.few; omega)
  exact ⟨h1, h2.trans (List.map_congr_left fun f _ => rfl), h3.trans (List.map_congr_left fun f _ => rfl)⟩
theorem gone3 {t : List Fil} (h : RightT t) (au : Int) : scanN (t.map (entG au 2 false)) t au = 0 ∧ scanA (t.map (entG au 2 false)) t au = t.map (entG au 3 true) ∧ scanC (t.map (entG au 2 false)) t au = t.map (·.1) := by
  have hA : RightA (t.map (entG au 2 false)) := by rw [← (gone2 h au).2.1]; exact scan_right (gone2 h au).1
  obtain ⟨h1, h2, h3⟩ := scan_all (k := 2) (au := au) (both_map (entG au 2 false) (fun f => rfl) t) hA h (fun f e => by have := congrArg Ent.has e; simp [kept, entG] at this) (fun f => ⟨rfl, rfl⟩) (by omega) (by have := h.few; omega)
  exact ⟨h1, h2.trans (List.map_congr_left fun f _ => rfl), h3.trans (List.map_congr_left fun f _ => rfl)⟩
theorem gone2_tree {t : List Fil} (h : RightT t) (au : Int) : treeE (t.map (entG au 2 false)) = [] := by
  have h2 := scan_tree (gone2 h au).1
  rw [(gone2 h au).2.1] at h2
  exact h2
theorem gone3_tree {t : List Fil} (h : RightT t) (au : Int) : treeE (t.map (entG au 3 true)) = t := by
  have h2 := scan_tree (gone3 h au).1
  rw [(gone3 h au).2.1] at h2
  exact h2
end Go.Proofs.YtnkkjedckehoaaaDoor
