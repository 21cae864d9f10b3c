/- The text Jo. -/
import Derived.Test.YtlmccjdpmhancaaGreatDoorK11
namespace Go.Proofs.YtlmccjdpmhancaaGreatDoor
open Go.RowKit

theorem ord_self (a : Ent) : ordE a a = 0 := by unfold ordE ordI; rw [if_pos ⟨rfl, rfl⟩]
theorem like_self (a : Ent) : likeE a a = true := by unfold likeE; simp
theorem come_self (a : Ent) : comeE a a = (a, false) := by
  unfold comeE
  rw [ord_self, like_self, if_neg (by decide), if_neg (by decide), if_pos rfl, if_neg (by decide)]
theorem mrg_self : ∀ (a : List Ent), mrgL a a = a.map fun e => (e, false)
  | [] => by rw [mrgL]; rfl
  | x :: a => by rw [mrgL, if_pos rfl, come_self, mrg_self a]; rfl
theorem mrg_l : ∀ (a : List Ent), mrgL a [] = a.map fun e => (e, false)
  | [] => by rw [mrgL]; rfl
  | x :: a => by rw [mrgL, mrg_l a]; rfl
theorem mrg_r : ∀ (a : List Ent), mrgL [] a = a.map fun e => (e, false)
  | [] => by rw [mrgL]; rfl
  | x :: a => by rw [mrgL, mrg_r a]; rfl
theorem own_A {l m a : List Ent} (h : mrgL l m = a.map fun e => (e, false)) : mA l m = a ∧ mC l m = [] := by
  unfold mA mC
  rw [h]
  constructor
  · rw [List.map_map]; exact List.map_id a
  · have : ((a.map fun e => ((e, false) : Ent × Bool)).filter (·.2)) = [] := List.filter_eq_nil_iff.2 (by simp)
    rw [this]; rfl
theorem apt_tree {fs : List Fil} (h : RightT fs) : Apt (fs.map (·.1)) := by
  have key : ∀ (l : List Fil), (∀ f ∈ l, f ∈ fs) → Apt (l.map (·.1)) := by
    intro l
    induction l with
    | nil => intro _; exact List.Pairwise.nil
    | cons a l ih =>
      intro hl
      refine List.pairwise_cons.2 ⟨fun x hx => ?_, ih fun f hf => hl f (List.mem_cons_of_mem _ hf)⟩
      obtain ⟨g, hg, rfl⟩ := List.mem_map.1 hx
      have h1 := h.apart g (hl g (List.mem_cons_of_mem _ hg)) a (hl a List.mem_cons_self)
      have h2 := h.apart a (hl a List.mem_cons_self) g (hl g (List.mem_cons_of_mem _ hg))
      show clashL (pth g) (pth a) = false
      unfold clashL
      rw [h1, h2]; rfl
  exact key fs fun _ h => h
theorem fit_right {es : List Ent} (h : RightA es) : fitN es = 0 := by
  have ht := (treeR_iff _).1 h.tree
  unfold fitN
  rw [if_neg (by have h1 := h.few; have h2 := ht.few; omega), if_pos (show Apt (fpaths es) from apt_tree ht)]
theorem right_none : RightA ([] : List Ent) := (archR_iff _).1 (by decide +kernel)
theorem own_any {l m a : List Ent} (hl : RightA l) (hm : RightA m) (ha : RightA a) (h : mrgL l m = a.map fun e => (e, false)) : mrgN l m = 0 ∧ mrgA l m = a ∧ mrgC l m = [] := by
  have h1 := own_A h
  have h0 : mrgN l m = 0 := by rw [mrgN_fit ((archR_iff _).2 hl) ((archR_iff _).2 hm), h1.1]; exact fit_right ha
  exact ⟨h0, by rw [mrgA, if_pos h0, h1.1], by rw [mrgC, if_pos h0, h1.2]⟩

end Go.Proofs.YtlmccjdpmhancaaGreatDoor
