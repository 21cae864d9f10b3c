/- The texts Ta, ArgF, Fl, Fm, Ca, Cb, Sa, ArgE, Cc, Tb, in one. -/
import Derived.Test.YtlmccjdpmhancaaGreatDoorK0
import Derived.Deep.Slices
import Derived.Laws.FloatArith
import Derived.Laws.Cover3
import Derived.Deep.QuietTactic
import Derived.BigQuiet
import Derived.Handy
import Derived.WalkSmall
import Derived.Lib.SmallJoins
import Derived.Shelf.Abstract
namespace Go.Proofs.YtlmccjdpmhancaaGreatDoor
open Go.RowKit

abbrev Fil := ByteArray × ByteArray
def pth (f : Fil) : List UInt8 := f.1.data.toList
theorem pth_mk (p : ByteArray) (d : ByteArray) : pth (p, d) = p.data.toList := rfl
theorem data_inj {a b : ByteArray} (h : a.data.toList = b.data.toList) : a = b := by rw [← mkS_of a, h, mkS_of]
theorem pth_inj {f g : Fil} (h : pth f = pth g) (h2 : f.2 = g.2) : f = g := Prod.ext (data_inj h) h2

/-- The files as cells. -/
def filV (fs : List Fil) : List Value := fs.flatMap fun f => [.string f.1, .string f.2]
theorem filV_cons (f : Fil) (fs : List Fil) : filV (f :: fs) = .string f.1 :: .string f.2 :: filV fs := rfl
theorem filV_nil : filV [] = [] := rfl
theorem filV_append (a b : List Fil) : filV (a ++ b) = filV a ++ filV b := by simp [filV]
theorem filV_length (fs : List Fil) : (filV fs).length = fs.length * 2 := by
  induction fs with
  | nil => rfl
  | cons f r ih => rw [filV_cons, List.length_cons, List.length_cons, List.length_cons, ih]; omega
theorem filV_one (l : List Fil) : ∀ u ∈ filV l, u.oneCell' = true := by
  intro u hu
  simp only [filV, List.mem_flatMap] at hu
  obtain ⟨f, _, hf⟩ := hu
  simp at hf
  rcases hf with rfl | rfl <;> rfl
theorem filV_at0 : ∀ (fs : List Fil) (j : Nat) (h : j < fs.length), (filV fs)[j * 2]? = some (.string fs[j].1)
  | f :: fs, 0, _ => rfl
  | f :: fs, j + 1, h => by
    have e : (j + 1) * 2 = j * 2 + 1 + 1 := by omega
    rw [filV_cons, e, List.getElem?_cons_succ, List.getElem?_cons_succ, filV_at0 fs j (by simpa using h)]
    rfl
theorem filV_at1 : ∀ (fs : List Fil) (j : Nat) (h : j < fs.length), (filV fs)[j * 2 + 1]? = some (.string fs[j].2)
  | f :: fs, 0, _ => rfl
  | f :: fs, j + 1, h => by
    have e : (j + 1) * 2 + 1 = (j * 2 + 1) + 1 + 1 := by omega
    rw [filV_cons, e, List.getElem?_cons_succ, List.getElem?_cons_succ, filV_at1 fs j (by simpa using h)]
    rfl
theorem filV_take (fs : List Fil) (k : Nat) : filV (fs.take k) = (filV fs).take (k * 2) := by
  by_cases h : k ≤ fs.length
  · have e : filV fs = filV (fs.take k) ++ filV (fs.drop k) := by rw [← filV_append, List.take_append_drop]
    have l : (filV (fs.take k)).length = k * 2 := by rw [filV_length, List.length_take]; omega
    rw [e, ← l, List.take_left]
  · rw [List.take_of_length_le (by omega), List.take_of_length_le (by rw [filV_length]; omega)]
theorem filV_drop (fs : List Fil) (k : Nat) : filV (fs.drop k) = (filV fs).drop (k * 2) := by
  by_cases h : k ≤ fs.length
  · have e : filV fs = filV (fs.take k) ++ filV (fs.drop k) := by rw [← filV_append, List.take_append_drop]
    have l : (filV (fs.take k)).length = k * 2 := by rw [filV_length, List.length_take]; omega
    rw [e, ← l, List.drop_left]
  · rw [List.drop_of_length_le (by omega), List.drop_of_length_le (by rw [filV_length]; omega)]
    rfl

/-! ### Right trees -/
def apartL : List (List UInt8) → Bool
  | [] => true
  | d :: r => r.all (fun s => !underL s d) && apartL r
def treeR (fs : List Fil) : Bool := decide (fs.length ≤ 16) && fs.all (fun f => decide (f.2.size ≤ 600)) && sortedL (fs.map pth) && apartL (fs.map pth)
def Srt (fs : List Fil) : Prop := fs.Pairwise fun f g => pth f < pth g
structure RightT (fs : List Fil) : Prop where
  few : fs.length ≤ 16
  srt : Srt fs
  paths : ∀ f ∈ fs, rightL (pth f) = true
  datas : ∀ f ∈ fs, f.2.size ≤ 600
  apart : ∀ f ∈ fs, ∀ g ∈ fs, underL (pth f) (pth g) = false

theorem apart_iff (L : List (List UInt8)) : apartL L = true ↔ L.Pairwise (fun d s => underL s d = false) := by
  induction L with
  | nil => simp [apartL]
  | cons d r ih =>
    rw [apartL, Bool.and_eq_true, ih, List.pairwise_cons, List.all_eq_true]
    simp
theorem under_lt {a b : List UInt8} (h : underL a b = true) : b < a := by
  have := under_less h
  rw [less_flip b a, Bool.not_not] at this
  exact (less_iff _ _).1 this
theorem treeR_iff (fs : List Fil) : treeR fs = true ↔ RightT fs := by
  unfold treeR
  simp only [Bool.and_eq_true, decide_eq_true_eq, List.all_eq_true]
  constructor
  · rintro ⟨⟨⟨h1, h2⟩, h3⟩, h4⟩
    have hs : Srt fs := List.pairwise_map.1 (srt_pair h3)
    refine ⟨h1, hs, fun f hf => srt_right h3 _ (List.mem_map_of_mem hf), h2, ?_⟩
    have h5 := List.pairwise_map.1 ((apart_iff _).1 h4)
    intro f hf g hg
    refine not_true fun hu => ?_
    obtain ⟨i, hi, rfl⟩ := List.mem_iff_getElem.1 hf
    obtain ⟨k, hk, rfl⟩ := List.mem_iff_getElem.1 hg
    have hlt := under_lt hu
    rcases Nat.lt_trichotomy i k with h | h | h
    · exact List.lt_asymm hlt ((List.pairwise_iff_getElem.1 hs) i k hi hk h)
    · subst h; exact List.lt_irrefl _ hlt
    · rw [(List.pairwise_iff_getElem.1 h5) k i hk hi h] at hu
      cases hu
  · rintro ⟨h1, h2, h3, h4, h5⟩
    refine ⟨⟨⟨h1, h4⟩, srt_mk ?_ (List.pairwise_map.2 h2)⟩, (apart_iff _).2 (List.pairwise_map.2 ?_)⟩
    · intro s hs
      obtain ⟨f, hf, rfl⟩ := List.mem_map.1 hs
      exact h3 f hf
    · rw [List.pairwise_iff_getElem]
      intro i k hi hk _
      exact h5 _ (List.getElem_mem hk) _ (List.getElem_mem hi)
theorem treeR_no {fs : List Fil} (h : ¬ RightT fs) : treeR fs = false := not_true fun e => h ((treeR_iff fs).1 e)

theorem lt_tri (a b : List UInt8) : a < b ∨ a = b ∨ b < a := by
  by_cases h : a < b
  · exact .inl h
  · rcases List.le_iff_lt_or_eq.1 (List.not_lt.1 h) with h | h
    · exact .inr (.inr h)
    · exact .inr (.inl h.symm)
theorem less_no {a b : List UInt8} (h : ¬ a < b) : Op.bytesLess a b = false := not_true fun e => h ((less_iff _ _).1 e)

theorem Srt.unique : ∀ {a b : List Fil}, Srt a → Srt b → (∀ f, f ∈ a ↔ f ∈ b) → a = b
  | [], [], _, _, _ => rfl
  | [], y :: b, _, _, h => absurd ((h y).2 (by simp)) (by simp)
  | x :: a, [], _, _, h => absurd ((h x).1 (by simp)) (by simp)
  | x :: a, y :: b, ha, hb, h => by
    have ha' := List.pairwise_cons.1 ha
    have hb' := List.pairwise_cons.1 hb
    have hxy : x = y := by
      rcases List.mem_cons.1 ((h x).1 (by simp)) with e | e
      · exact e
      · rcases List.mem_cons.1 ((h y).2 (by simp)) with e2 | e2
        · exact e2.symm
        · exact absurd (List.lt_trans (ha'.1 y e2) (hb'.1 x e)) (List.lt_irrefl _)
    subst hxy
    have : a = b := Srt.unique ha'.2 hb'.2 fun f => by
      constructor
      · intro hf
        rcases List.mem_cons.1 ((h f).1 (List.mem_cons_of_mem _ hf)) with e | e
        · subst e; exact absurd (ha'.1 _ hf) (List.lt_irrefl _)
        · exact e
      · intro hf
        rcases List.mem_cons.1 ((h f).2 (List.mem_cons_of_mem _ hf)) with e | e
        · subst e; exact absurd (hb'.1 _ hf) (List.lt_irrefl _)
        · exact e
    rw [this]
theorem Srt.inj {fs : List Fil} (h : Srt fs) {f g : Fil} (hf : f ∈ fs) (hg : g ∈ fs) (e : pth f = pth g) : f = g := by
  obtain ⟨i, hi, rfl⟩ := List.mem_iff_getElem.1 hf
  obtain ⟨k, hk, rfl⟩ := List.mem_iff_getElem.1 hg
  rcases Nat.lt_trichotomy i k with h2 | h2 | h2
  · have := (List.pairwise_iff_getElem.1 h) i k hi hk h2
    rw [e] at this
    exact absurd this (List.lt_irrefl _)
  · subst h2; rfl
  · have := (List.pairwise_iff_getElem.1 h) k i hk hi h2
    rw [e] at this
    exact absurd this (List.lt_irrefl _)

/-! ### Where a path stands -/
def lowT (fs : List Fil) (p : List UInt8) : List Fil := fs.filter fun f => Op.bytesLess (pth f) p
def highT (fs : List Fil) (p : List UInt8) : List Fil := fs.filter fun f => Op.bytesLess p (pth f)
def thereT (fs : List Fil) (p : List UInt8) : Bool := fs.any fun f => pth f == p
theorem mem_low {fs : List Fil} {p : List UInt8} {f : Fil} : f ∈ lowT fs p ↔ f ∈ fs ∧ pth f < p := by rw [lowT, List.mem_filter, less_iff]
theorem mem_high {fs : List Fil} {p : List UInt8} {f : Fil} : f ∈ highT fs p ↔ f ∈ fs ∧ p < pth f := by rw [highT, List.mem_filter, less_iff]
theorem there_iff {fs : List Fil} {p : List UInt8} : thereT fs p = true ↔ ∃ f ∈ fs, pth f = p := by simp [thereT]
theorem there_no {fs : List Fil} {p : List UInt8} : thereT fs p = false ↔ ∀ f ∈ fs, pth f ≠ p := by simp [thereT]
theorem split_tree : ∀ {fs : List Fil} (p : List UInt8), Srt fs → (thereT fs p = false ∧ fs = lowT fs p ++ highT fs p) ∨ (∃ d, thereT fs p = true ∧ fs = lowT fs p ++ (mkS p, d) :: highT fs p)
  | [], p, _ => .inl ⟨rfl, rfl⟩
  | f :: r, p, h => by
    have h' := List.pairwise_cons.1 h
    have tail : p ≤ pth f → lowT r p = [] ∧ highT r p = r ∧ thereT r p = false := by
      intro hp
      have hr : ∀ g ∈ r, p < pth g := fun g hg => by
        rcases List.le_iff_lt_or_eq.1 hp with e | e
        · exact List.lt_trans e (h'.1 g hg)
        · rw [e]; exact h'.1 g hg
      refine ⟨List.filter_eq_nil_iff.2 fun g hg => ?_, List.filter_eq_self.2 fun g hg => (less_iff _ _).2 (hr g hg), there_no.2 fun g hg e => ?_⟩
      · rw [less_iff]; exact List.lt_asymm (hr g hg)
      · have := hr g hg
        rw [e] at this
        exact List.lt_irrefl _ this
    rcases lt_tri (pth f) p with h1 | h1 | h1
    · have e1 : lowT (f :: r) p = f :: lowT r p := List.filter_cons_of_pos ((less_iff _ _).2 h1)
      have e2 : highT (f :: r) p = highT r p := List.filter_cons_of_neg (by rw [less_iff]; exact List.lt_asymm h1)
      have e3 : thereT (f :: r) p = thereT r p := by
        rw [thereT, List.any_cons, show (pth f == p) = false by
          rw [beq_eq_false_iff_ne]
          intro e
          rw [e] at h1
          exact List.lt_irrefl _ h1]
        rfl
      rw [e1, e2, e3]
      rcases split_tree p h'.2 with ⟨a, b⟩ | ⟨d, a, b⟩
      · exact .inl ⟨a, by rw [List.cons_append, ← b]⟩
      · exact .inr ⟨d, a, by rw [List.cons_append, ← b]⟩
    · obtain ⟨t1, t2, t3⟩ := tail (by rw [h1]; exact List.le_refl _)
      have e1 : lowT (f :: r) p = [] := by rw [← t1]; exact List.filter_cons_of_neg (by rw [less_iff, h1]; exact List.lt_irrefl _)
      have e2 : highT (f :: r) p = r := by rw [highT, List.filter_cons_of_neg (by rw [less_iff, h1]; exact List.lt_irrefl _)]; exact t2
      refine .inr ⟨f.2, there_iff.2 ⟨f, by simp, h1⟩, ?_⟩
      rw [e1, e2, ← h1]
      have : (mkS (pth f), f.2) = f := by rw [pth, mkS_of]
      rw [this]; rfl
    · obtain ⟨t1, t2, t3⟩ := tail (List.le_of_lt h1)
      have e1 : lowT (f :: r) p = [] := by rw [← t1]; exact List.filter_cons_of_neg (by rw [less_iff]; exact List.lt_asymm h1)
      have e2 : highT (f :: r) p = f :: r := by
        have e : highT (f :: r) p = f :: highT r p := List.filter_cons_of_pos (p := fun f => Op.bytesLess p (pth f)) ((less_iff _ _).2 h1)
        rw [e, t2]
      refine .inl ⟨there_no.2 fun g hg e => ?_, by rw [e1, e2]; rfl⟩
      rcases List.mem_cons.1 hg with rfl | hg
      · rw [e] at h1; exact List.lt_irrefl _ h1
      · exact there_no.1 t3 g hg e
theorem low_len {fs : List Fil} (p : List UInt8) : (lowT fs p).length ≤ fs.length := List.length_filter_le _ _
/-- Below the place the paths are less, from there on they are not. -/
theorem low_at {fs : List Fil} {p : List UInt8} (h : Srt fs) {i : Nat} (hi : i < fs.length) : Op.bytesLess (pth fs[i]) p = decide (i < (lowT fs p).length) := by
  have key : i < (lowT fs p).length ↔ pth fs[i] < p := by
    rcases split_tree p h with ⟨_, b⟩ | ⟨d, _, b⟩
    · constructor
      · intro hl
        have : fs[i] = (lowT fs p)[i] := by rw [List.getElem_of_eq b, List.getElem_append_left hl]
        rw [this]; exact (mem_low.1 (List.getElem_mem hl)).2
      · intro hl
        refine Nat.not_le.1 fun hn => ?_
        have : fs[i] = (highT fs p)[i - (lowT fs p).length]'(by have := congrArg List.length b; rw [List.length_append] at this; omega) := by rw [List.getElem_of_eq b, List.getElem_append_right hn]
        rw [this] at hl
        exact List.lt_asymm hl (mem_high.1 (List.getElem_mem _)).2
    · constructor
      · intro hl
        have : fs[i] = (lowT fs p)[i] := by rw [List.getElem_of_eq b, List.getElem_append_left hl]
        rw [this]; exact (mem_low.1 (List.getElem_mem hl)).2
      · intro hl
        refine Nat.not_le.1 fun hn => ?_
        have : fs[i] = ((mkS p, d) :: highT fs p)[i - (lowT fs p).length]'(by have := congrArg List.length b; rw [List.length_append] at this; omega) := by rw [List.getElem_of_eq b, List.getElem_append_right hn]
        rw [this] at hl
        have hm := List.getElem_mem (l := (mkS p, d) :: highT fs p) (n := i - (lowT fs p).length) (by have := congrArg List.length b; rw [List.length_append] at this; omega)
        rcases List.mem_cons.1 hm with e | e
        · rw [e, pth_mk, mkS_data] at hl; exact List.lt_irrefl _ hl
        · exact List.lt_asymm hl (mem_high.1 e).2
  rw [Bool.eq_iff_iff, less_iff, decide_eq_true_eq]
  exact key.symm
/-- The path is there just where it stands at its place. -/
theorem there_at {fs : List Fil} {p : List UInt8} (h : Srt fs) : thereT fs p = true ↔ ∃ hl : (lowT fs p).length < fs.length, pth fs[(lowT fs p).length] = p := by
  rcases split_tree p h with ⟨a, b⟩ | ⟨d, a, b⟩
  · rw [a]
    constructor
    · intro h; cases h
    · rintro ⟨hl, e⟩
      exact absurd e (there_no.1 a _ (List.getElem_mem _))
  · have hl : (lowT fs p).length < fs.length := by have := congrArg List.length b; rw [List.length_append, List.length_cons] at this; omega
    have e : fs[(lowT fs p).length] = (mkS p, d) := by
      rw [List.getElem_of_eq b, List.getElem_append_right (Nat.le_refl _)]
      simp
    exact ⟨fun _ => ⟨hl, by rw [e]; rfl⟩, fun _ => a⟩

/-! ### What is put, and dropped -/
def putL (fs : List Fil) (p d : ByteArray) : List Fil := lowT fs p.data.toList ++ (p, d) :: highT fs p.data.toList
def dropL (fs : List Fil) (p : List UInt8) : List Fil := lowT fs p ++ highT fs p
theorem mem_drop {fs : List Fil} {p : List UInt8} {f : Fil} : f ∈ dropL fs p ↔ f ∈ fs ∧ pth f ≠ p := by
  rw [dropL, List.mem_append, mem_low, mem_high]
  constructor
  · rintro (⟨h1, h2⟩ | ⟨h1, h2⟩)
    · exact ⟨h1, fun e => by rw [e] at h2; exact List.lt_irrefl _ h2⟩
    · exact ⟨h1, fun e => by rw [e] at h2; exact List.lt_irrefl _ h2⟩
  · rintro ⟨h1, h2⟩
    rcases lt_tri (pth f) p with h | h | h
    · exact .inl ⟨h1, h⟩
    · exact absurd h h2
    · exact .inr ⟨h1, h⟩
theorem mem_put {fs : List Fil} {p d : ByteArray} {f : Fil} : f ∈ putL fs p d ↔ f = (p, d) ∨ (f ∈ fs ∧ pth f ≠ p.data.toList) := by
  have := mem_drop (fs := fs) (p := p.data.toList) (f := f)
  rw [dropL, List.mem_append] at this
  rw [putL, List.mem_append, List.mem_cons, ← this]
  constructor
  · rintro (h | h | h)
    · exact .inr (.inl h)
    · exact .inl h
    · exact .inr (.inr h)
  · rintro (h | h | h)
    · exact .inr (.inl h)
    · exact .inl h
    · exact .inr (.inr h)
theorem srt_low {fs : List Fil} (h : Srt fs) (p : List UInt8) : Srt (lowT fs p) := h.filter _
theorem srt_high {fs : List Fil} (h : Srt fs) (p : List UInt8) : Srt (highT fs p) := h.filter _
theorem srt_drop {fs : List Fil} (h : Srt fs) (p : List UInt8) : Srt (dropL fs p) :=
  List.pairwise_append.2 ⟨srt_low h p, srt_high h p, fun _ hf _ hg => List.lt_trans (mem_low.1 hf).2 (mem_high.1 hg).2⟩
theorem srt_put {fs : List Fil} (h : Srt fs) (p d : ByteArray) : Srt (putL fs p d) := by
  refine List.pairwise_append.2 ⟨srt_low h _, List.pairwise_cons.2 ⟨fun g hg => (mem_high.1 hg).2, srt_high h _⟩, fun f hf g hg => ?_⟩
  rcases List.mem_cons.1 hg with rfl | hg
  · exact (mem_low.1 hf).2
  · exact List.lt_trans (mem_low.1 hf).2 (mem_high.1 hg).2
theorem drop_len {fs : List Fil} (h : Srt fs) (p : List UInt8) : (dropL fs p).length = fs.length - (if thereT fs p then 1 else 0) := by
  rcases split_tree p h with ⟨a, b⟩ | ⟨d, a, b⟩
  · rw [a, dropL, ← b]; rfl
  · have := congrArg List.length b
    rw [List.length_append, List.length_cons] at this
    rw [a, dropL, List.length_append]
    simp only [if_true]
    omega
theorem put_len {fs : List Fil} (h : Srt fs) (p d : ByteArray) : (putL fs p d).length = fs.length + (if thereT fs p.data.toList then 0 else 1) := by
  rcases split_tree p.data.toList h with ⟨a, b⟩ | ⟨x, a, b⟩
  · have := congrArg List.length b
    rw [List.length_append] at this
    rw [a, putL, List.length_append, List.length_cons]
    simp only [Bool.false_eq_true, if_false]
    omega
  · have := congrArg List.length b
    rw [List.length_append, List.length_cons] at this
    rw [a, putL, List.length_append, List.length_cons]
    simp only [if_true]
    omega
def clashT (fs : List Fil) (p : List UInt8) : Bool := fs.any fun f => clashL (pth f) p
theorem clash_no {fs : List Fil} {p : List UInt8} : clashT fs p = false ↔ ∀ f ∈ fs, underL (pth f) p = false ∧ underL p (pth f) = false := by simp [clashT, clashL]
theorem right_drop {fs : List Fil} (h : RightT fs) (p : List UInt8) : RightT (dropL fs p) where
  few := by have := drop_len h.srt p; have := h.few; omega
  srt := srt_drop h.srt p
  paths := fun f hf => h.paths f (mem_drop.1 hf).1
  datas := fun f hf => h.datas f (mem_drop.1 hf).1
  apart := fun f hf g hg => h.apart f (mem_drop.1 hf).1 g (mem_drop.1 hg).1
theorem right_put {fs : List Fil} (h : RightT fs) {p d : ByteArray} (hp : rightL p.data.toList = true) (hc : clashT fs p.data.toList = false) (hd : d.size ≤ 600) (hl : thereT fs p.data.toList = true ∨ fs.length < 16) : RightT (putL fs p d) where
  few := by
    have h1 := put_len h.srt p d
    have h2 := h.few
    rcases hl with hl | hl
    · rw [hl] at h1
      simp only [if_true] at h1
      omega
    · split at h1 <;> omega
  srt := srt_put h.srt p d
  paths := fun f hf => by
    rcases mem_put.1 hf with rfl | hf
    · exact hp
    · exact h.paths f hf.1
  datas := fun f hf => by
    rcases mem_put.1 hf with rfl | hf
    · exact hd
    · exact h.datas f hf.1
  apart := fun f hf g hg => by
    have hc' := clash_no.1 hc
    rcases mem_put.1 hf with rfl | hf <;> rcases mem_put.1 hg with rfl | hg
    · exact under_self _
    · exact (hc' g hg.1).2
    · exact (hc' f hf.1).1
    · exact h.apart f hf.1 g hg.1

/-! ### The answers -/
def findT (fs : List Fil) (p : List UInt8) : Int := if treeR fs && thereT fs p then ((lowT fs p).length : Int) else -1
def dataAt (fs : List Fil) (p : List UInt8) : Option ByteArray := (fs.find? fun f => pth f == p).map (·.2)
def getT (fs : List Fil) (p : List UInt8) : Option ByteArray := if treeR fs then dataAt fs p else none
def putE (fs : List Fil) (p d : ByteArray) : Nat :=
  if !treeR fs then 1 else if !rightL p.data.toList || clashT fs p.data.toList then 6 else if decide (600 < d.size) || (!thereT fs p.data.toList && decide (fs.length = 16)) then 2 else 0
def putT (fs : List Fil) (p d : ByteArray) : List Fil := if putE fs p d = 0 then putL fs p d else []
def dropE (fs : List Fil) (p : List UInt8) : Nat := if !treeR fs then 1 else if !thereT fs p then 3 else 0
def dropT (fs : List Fil) (p : List UInt8) : List Fil := if dropE fs p = 0 then dropL fs p else []
def inT (fs : List Fil) (d : List UInt8) : List ByteArray := if treeR fs then (fs.filter fun f => underL (pth f) d).map (·.1) else []
def sizeT (fs : List Fil) : Nat := (fs.map fun f => f.2.size).sum
theorem data_iff {fs : List Fil} (h : Srt fs) {p x : ByteArray} : dataAt fs p.data.toList = some x ↔ (p, x) ∈ fs := by
  unfold dataAt
  constructor
  · intro e
    obtain ⟨f, h1, rfl⟩ := Option.map_eq_some_iff.1 e
    have h2 := List.find?_some h1
    have h3 := List.mem_of_find?_eq_some h1
    have : (p, f.2) = f := pth_inj (by rw [pth_mk]; exact (by simpa using h2 : pth f = p.data.toList).symm) rfl
    rw [this]; exact h3
  · intro hm
    cases hf : fs.find? (fun f => pth f == p.data.toList) with
    | none =>
      have := List.find?_eq_none.1 hf (p, x) hm
      simp [pth] at this
    | some f =>
      have h2 := List.find?_some hf
      have h3 := List.mem_of_find?_eq_some hf
      have : f = (p, x) := h.inj h3 hm (show pth f = p.data.toList by simpa using h2)
      rw [this]; rfl
theorem data_some {fs : List Fil} {p : List UInt8} : (dataAt fs p).isSome = thereT fs p := by
  unfold dataAt thereT
  rw [Option.isSome_map, Bool.eq_iff_iff, List.find?_isSome]
  simp
theorem putE_zero {fs : List Fil} {p d : ByteArray} : putE fs p d = 0 ↔ RightT fs ∧ rightL p.data.toList = true ∧ clashT fs p.data.toList = false ∧ d.size ≤ 600 ∧ (thereT fs p.data.toList = true ∨ fs.length < 16) := by
  unfold putE
  constructor
  · intro h
    split at h
    · cases h
    · rename_i h1
      have hR := (treeR_iff fs).1 (by simpa using h1)
      split at h
      · cases h
      · rename_i h2
        split at h
        · cases h
        · rename_i h3
          simp at h2 h3
          refine ⟨hR, h2.1, h2.2, h3.1, ?_⟩
          have := hR.few
          cases ht : thereT fs p.data.toList with
          | true => exact .inl rfl
          | false => have := h3.2 ht; exact .inr (by omega)
  · rintro ⟨h1, h2, h3, h4, h5⟩
    rw [(treeR_iff fs).2 h1, h2, h3]
    have : (!thereT fs p.data.toList && decide (fs.length = 16)) = false := by
      rcases h5 with h5 | h5
      · rw [h5]; rfl
      · rw [decide_eq_false (by omega)]; simp
    rw [this]
    simp; omega
theorem dropE_zero {fs : List Fil} {p : List UInt8} : dropE fs p = 0 ↔ RightT fs ∧ thereT fs p = true := by
  unfold dropE
  rw [← treeR_iff]
  cases treeR fs <;> cases thereT fs p <;> simp
theorem right_putT {fs : List Fil} {p d : ByteArray} (h : putE fs p d = 0) : RightT (putL fs p d) := by
  obtain ⟨h1, h2, h3, h4, h5⟩ := putE_zero.1 h
  exact right_put h1 h2 h3 h4 h5
end Go.Proofs.YtlmccjdpmhancaaGreatDoor
namespace Go.Proofs.YtlmccjdpmhancaaGreatDoor
open Go.ChangeShapes Go.WideShapes Go.ChangeAt Go.RowKit Go.Deep

set_option maxRecDepth 100000 in
theorem arg__api_File {H : Type} {enc : TypeId × Value → H} {W : World} {base : Nat} {v : Value} {d : DataW H} {p : List MemPlace} (hv : Value.okWide Tryz.prog W .any base 36 v)
    (h : DataW.Trod enc Tryz.prog W 0 (fun _ => true) true 36 v d p) (_ : ∀ elems spare, d = .slice elems spare → (elems.length + spare.length) * Tryz.prog.bytesOf 57 ≤ reachBytes) :
    ∃ (A : Option Addr) (c : Nat) (ps : List Fil), v = .slice A ps.length c ∧ Rd W A (filV ps) ∧ ps.length ≤ c ∧ c ≤ maxLen ∧ True := by
  have hct : Tryz.prog.cellsOf 57 = 2 := by kernel_rfl
  have hce : Tryz.prog.cellsOf 9 = 1 := by kernel_rfl
  obtain ⟨a, len, cap, rfl⟩ := okWide_slice Tryz.underlying36 hv
  obtain ⟨fuel, hf⟩ := h
  rcases open_slice Tryz.underlying36 hf with ⟨hcs, _⟩ | ⟨x, l, c, m, n, D, Pl, hcs, _, hl, hm, hmm, hx, hcell⟩
  · simp [Value.cells] at hcs
    obtain ⟨rfl, rfl, rfl⟩ := hcs
    exact ⟨none, 0, [], rfl, .inl rfl, Nat.le_refl _, by unfold maxLen; omega, trivial⟩
  · simp [Value.cells] at hcs
    obtain ⟨rfl, rfl, rfl⟩ := hcs
    have hmm' : m = cap := by simpa using hmm
    have one : ∀ i, ∃ z : Fil, i < len → W.cell? (x.add (i * 2)) = some (.string z.1) ∧ W.cell? (x.add (i * 2 + 1)) = some (.string z.2) := by
      intro i
      by_cases hi : i < len
      · obtain ⟨cs', hc1, hc2⟩ := hcell i (by omega)
        rw [hct] at hc1
        obtain ⟨-, hl2, hg⟩ := World.cells?_some hc1
        obtain ⟨y0, y1, k, -, -, h0, h1⟩ := trod_struct2 Tryz.underlying57 hc2
        obtain ⟨z0, e0, _⟩ := DataW.trod_string Tryz.underlying9 h0
        obtain ⟨z1, e1, _⟩ := DataW.trod_string Tryz.underlying9 h1
        have g0 := hg 0 (by omega)
        have g1 := hg 1 (by omega)
        rw [add_assoc'] at g0 g1
        match cs', hl2 with
        | [u0, u1], _ =>
          simp [hce] at e0 e1
          subst e0 e1
          exact ⟨(z0, z1), fun _ => ⟨by simpa using g0, by simpa using g1⟩⟩
      · exact ⟨(⟨#[]⟩, ⟨#[]⟩), fun h => absurd h hi⟩
    obtain ⟨B, hB⟩ := Classical.axiomOfChoice one
    refine ⟨some x, cap, (List.range len).map B, by simp, ?_, by simpa using hl, hm, trivial⟩
    refine .inr ⟨x, rfl, fun j u hu => ?_⟩
    have hjl := (List.getElem?_eq_some_iff.1 hu).1
    rw [filV_length, List.length_map, List.length_range] at hjl
    have hi' : j / 2 < len := by omega
    obtain ⟨g0, g1⟩ := hB (j / 2) hi'
    have hi2 : j / 2 < ((List.range len).map B).length := by simpa using hi'
    have eB : ((List.range len).map B)[j / 2] = B (j / 2) := by simp
    have a0 := filV_at0 _ _ hi2
    have a1 := filV_at1 _ _ hi2
    rw [eB] at a0 a1
    rcases (show j = j / 2 * 2 ∨ j = j / 2 * 2 + 1 by omega) with e | e
    · rw [e] at hu ⊢
      rw [a0] at hu
      injection hu with hu
      rw [← hu]
      exact g0
    · rw [e] at hu ⊢
      rw [a1] at hu
      injection hu with hu
      rw [← hu]
      exact g1
end Go.Proofs.YtlmccjdpmhancaaGreatDoor
namespace Go.Proofs.YtlmccjdpmhancaaGreatDoor
open Ieee

/-- d is the whole number n. -/
def Whole (d : Datum) (n : Nat) : Prop := ∃ k : Nat, d = .number false (n * 2 ^ k) (-(k : Int))
/-- d, rounded towards 0, and made no less than 0, is n. -/
def FloorIs (d : Datum) (n : Nat) : Prop := (∃ m k : Nat, d = .number false m (-(k : Int)) ∧ n * 2 ^ k ≤ m ∧ m < (n + 1) * 2 ^ k) ∨ (n = 0 ∧ ∃ m e, d = .number true m e)

theorem Whole.floor {d : Datum} {n : Nat} (h : Whole d n) : FloorIs d n := by
  obtain ⟨k, rfl⟩ := h
  exact .inl ⟨_, k, rfl, Nat.le_refl _, Nat.mul_lt_mul_of_pos_right (Nat.lt_succ_self n) (Nat.two_pow_pos k)⟩

theorem order_nat (m k n j : Nat) : (Datum.number false m (-(k : Int))).order (.number false n (-(j : Int))) = some (if m * 2 ^ j < n * 2 ^ k then .lt else if m * 2 ^ j = n * 2 ^ k then .eq else .gt) := by
  have hk : (-(k : Int) - min (-(k : Int)) (-(j : Int))).toNat = j - k := by omega
  have hj : (-(j : Int) - min (-(k : Int)) (-(j : Int))).toNat = k - j := by omega
  have e : ∀ a b : Nat, compare (a : Int) (b : Int) = if a < b then Ordering.lt else if a = b then .eq else .gt := by
    intro a b
    simp only [compare, compareOfLessAndEq, Int.ofNat_lt, Int.ofNat_inj]
  simp only [Datum.order, hk, hj, signed, Nat.shiftLeft_eq, Bool.false_eq_true, if_false, e]
  rcases Nat.le_total k j with h | h
  · obtain ⟨d, rfl⟩ := Nat.exists_eq_add_of_le h
    have p := Nat.two_pow_pos k
    have e1 : m * 2 ^ (k + d) = m * 2 ^ d * 2 ^ k := by rw [Nat.pow_add, Nat.mul_assoc, Nat.mul_comm (2 ^ k)]
    rw [e1, show k + d - k = d by omega, show k - (k + d) = 0 by omega, Nat.pow_zero, Nat.mul_one]
    simp only [Nat.mul_lt_mul_right p, Nat.mul_right_cancel_iff p]
  · obtain ⟨d, rfl⟩ := Nat.exists_eq_add_of_le h
    have p := Nat.two_pow_pos j
    have e1 : n * 2 ^ (j + d) = n * 2 ^ d * 2 ^ j := by rw [Nat.pow_add, Nat.mul_assoc, Nat.mul_comm (2 ^ j)]
    rw [e1, show j + d - j = d by omega, show j - (j + d) = 0 by omega, Nat.pow_zero, Nat.mul_one]
    simp only [Nat.mul_lt_mul_right p, Nat.mul_right_cancel_iff p]

theorem read_zero : double.read 0 = .number false 0 (-(1074 : Nat)) := by decide +kernel
theorem read_max : double.read 4742290407621132288 = .number false (1073741824 * 2 ^ 22) (-(22 : Nat)) := by decide +kernel

/-- Not above 0. -/
theorem not_gt {x : Nat} {m : Nat} {e : Int} (h : double.read x = .number true m e) : (double.order x 0 == some .gt) = false := by
  rw [Format.order, h, read_zero]
  simp only [Datum.order, signed]
  have : ∀ a b : Nat, (compare (-(a : Int)) ((0 <<< b : Nat) : Int)) ≠ .gt := by
    intro a b
    simp only [Nat.zero_shiftLeft, compare, compareOfLessAndEq]
    split
    · simp
    · split
      · simp
      · omega
  rw [beq_eq_false_iff_ne]
  intro h2
  injection h2 with h3
  exact this _ _ h3
theorem gt_zero {x m k : Nat} (h : double.read x = .number false m (-(k : Int))) : (double.order x 0 == some .gt) = decide (0 < m) := by
  rw [Format.order, h, read_zero, order_nat]
  have hz := Nat.two_pow_pos 1074
  generalize 2 ^ 1074 = z at *
  by_cases hm : m = 0
  · subst hm; simp
  · have : 0 < m * z := Nat.mul_pos (by omega) hz
    simp [show 0 < m by omega, show m * z ≠ 0 by omega]
theorem ge_max {x m k n : Nat} (h : double.read x = .number false m (-(k : Int))) (h1 : n * 2 ^ k ≤ m) (h2 : m < (n + 1) * 2 ^ k) :
    (double.order x 4742290407621132288 == some .gt || double.order x 4742290407621132288 == some .eq) = decide (1073741824 ≤ n) := by
  rw [Format.order, h, read_max, order_nat, show 1073741824 * 2 ^ 22 * 2 ^ k = 1073741824 * 2 ^ k * 2 ^ 22 by rw [Nat.mul_assoc, Nat.mul_comm (2 ^ 22), ← Nat.mul_assoc]]
  simp only [Nat.mul_lt_mul_right (Nat.two_pow_pos 22), Nat.mul_right_cancel_iff (Nat.two_pow_pos 22)]
  by_cases hn : 1073741824 ≤ n
  · have : 1073741824 * 2 ^ k ≤ m := Nat.le_trans (Nat.mul_le_mul_right _ hn) h1
    generalize 1073741824 * 2 ^ k = z at *
    simp [hn, show ¬ m < z by omega]
    omega
  · have : m < 1073741824 * 2 ^ k := Nat.lt_of_lt_of_le h2 (Nat.mul_le_mul_right _ (by omega))
    simp [hn, this]
theorem to_int {x m k n : Nat} (h : double.read x = .number false m (-(k : Int))) (h1 : n * 2 ^ k ≤ m) (h2 : m < (n + 1) * 2 ^ k) : (double.read x).toInt .zero = some (n : Int) := by
  rw [h]
  have hz : (-(k : Int)).toNat = 0 := by omega
  have hk : (- -(k : Int)).toNat = k := by omega
  simp only [Datum.toInt, Datum.integral, hz, hk, Nat.shiftLeft_zero, Toward.cut, signed, Nat.one_shiftLeft, Bool.toNat_false, Nat.add_zero, Bool.false_eq_true, if_false]
  congr 2
  by_cases hn : n = 0
  · subst hn
    simp at h2
    refine Nat.div_eq_of_lt ?_
    by_cases hle : k ≤ m.log2 + 2
    · rw [Nat.min_eq_left hle]; exact h2
    · rw [Nat.min_eq_right (by omega)]
      exact Nat.lt_trans Nat.lt_log2_self (Nat.pow_lt_pow_right (by decide) (by omega))
  · have : 2 ^ k ≤ m := Nat.le_trans (Nat.le_mul_of_pos_left _ (by omega)) h1
    have hle : k ≤ m.log2 := (Nat.le_log2 (by have := Nat.two_pow_pos k; omega)).2 this
    rw [Nat.min_eq_left (by omega)]
    exact (Nat.div_eq_iff (Nat.two_pow_pos k)).2 ⟨h1, by have := Nat.two_pow_pos k; rw [Nat.add_mul] at h2; omega⟩

/-- Two whole numbers are the same just if their words are. -/
theorem order_whole {x y a b : Nat} (hx : Whole (double.read x) a) (hy : Whole (double.read y) b) : (double.order x y == some .eq) = decide (a = b) := by
  obtain ⟨k, hk⟩ := hx
  obtain ⟨j, hj⟩ := hy
  rw [Format.order, hk, hj, order_nat, show a * 2 ^ k * 2 ^ j = a * (2 ^ k * 2 ^ j) by rw [Nat.mul_assoc], show b * 2 ^ j * 2 ^ k = b * (2 ^ k * 2 ^ j) by rw [Nat.mul_assoc, Nat.mul_comm (2 ^ j)]]
  have p : 0 < 2 ^ k * 2 ^ j := Nat.mul_pos (Nat.two_pow_pos k) (Nat.two_pow_pos j)
  simp only [Nat.mul_lt_mul_right p, Nat.mul_right_cancel_iff p]
  by_cases h : a = b
  · subst h; simp
  · by_cases h2 : a < b <;> simp [h, h2]
end Go.Proofs.YtlmccjdpmhancaaGreatDoor
namespace Go.Proofs.YtlmccjdpmhancaaGreatDoor
open Ieee

theorem d_sign : double.signWeight = 9223372036854775808 := by decide +kernel
theorem d_bin : double.binade = 4503599627370496 := by decide +kernel
theorem d_inf : double.infRung = 9218868437227405312 := by decide +kernel
theorem d_least : double.leastPlace = -1074 := by decide +kernel

theorem cut_even (neg : Bool) (n drop : Nat) (h : drop ≤ n.log2 + 2) : Toward.even.cut neg n drop = n / 2 ^ drop ∨ (0 < drop ∧ Toward.even.cut neg n drop = n / 2 ^ drop + 1) := by
  simp only [Toward.cut, Nat.min_eq_left h, Nat.one_shiftLeft]
  by_cases h0 : drop = 0
  · subst h0
    left
    simp [Nat.mod_one]
  · cases (decide (2 ^ drop < 2 * (n % 2 ^ drop)) || 2 ^ drop == 2 * (n % 2 ^ drop) && n / 2 ^ drop % 2 == 1)
    · left; rfl
    · right; exact ⟨by omega, rfl⟩

theorem read_word (neg : Bool) (rung : Nat) (h1 : 4503599627370496 ≤ rung) (h2 : rung < 9218868437227405312) :
    double.read (double.word neg rung) = .number neg (4503599627370496 + rung % 4503599627370496) (-1074 + ((rung / 4503599627370496 - 1 : Nat) : Int)) := by
  have hs : (double.word neg rung / 9223372036854775808 % 2 == 1) = neg ∧ double.word neg rung % 9223372036854775808 = rung := by
    unfold Format.word
    rw [d_sign]
    cases neg
    · simp; omega
    · simp; omega
  simp only [Format.read, d_sign, d_bin, d_inf, d_least, hs.1, hs.2]
  rw [if_neg (by omega), if_pos h2]

/-- The digits of a number that are kept. -/
def lowOf (mag : Nat) : Nat := mag * 2 ^ (52 - mag.log2) / 2 ^ (mag.log2 - 52)
theorem low_small {mag : Nat} (h : mag.log2 ≤ 52) : lowOf mag = mag * 2 ^ (52 - mag.log2) := by
  unfold lowOf
  rw [show mag.log2 - 52 = 0 by omega, Nat.pow_zero, Nat.div_one]
theorem low_great {mag : Nat} (h : 52 ≤ mag.log2) : lowOf mag = mag / 2 ^ (mag.log2 - 52) := by
  unfold lowOf
  rw [show 52 - mag.log2 = 0 by omega, Nat.pow_zero, Nat.mul_one]
theorem low_bounds {mag : Nat} (hm : 0 < mag) : 4503599627370496 ≤ lowOf mag ∧ lowOf mag < 9007199254740992 := by
  have h1 : 2 ^ mag.log2 ≤ mag := Nat.log2_self_le (by omega)
  have h2 : mag < 2 ^ (mag.log2 + 1) := Nat.lt_log2_self
  by_cases h : mag.log2 ≤ 52
  · rw [low_small h]
    constructor
    · refine Nat.le_trans ?_ (Nat.mul_le_mul_right _ h1)
      rw [← Nat.pow_add, show mag.log2 + (52 - mag.log2) = 52 by omega]
      decide
    · refine Nat.lt_of_lt_of_le (Nat.mul_lt_mul_of_pos_right h2 (Nat.two_pow_pos _)) ?_
      rw [← Nat.pow_add, show mag.log2 + 1 + (52 - mag.log2) = 53 by omega]
      decide
  · rw [low_great (by omega)]
    constructor
    · rw [Nat.le_div_iff_mul_le (Nat.two_pow_pos _)]
      refine Nat.le_trans ?_ h1
      rw [show (4503599627370496 : Nat) = 2 ^ 52 by decide, ← Nat.pow_add, show 52 + (mag.log2 - 52) = mag.log2 by omega]
      exact Nat.le_refl _
    · rw [Nat.div_lt_iff_lt_mul (Nat.two_pow_pos _)]
      refine Nat.lt_of_lt_of_le h2 ?_
      rw [show (9007199254740992 : Nat) = 2 ^ 53 by decide, ← Nat.pow_add, show 53 + (mag.log2 - 52) = mag.log2 + 1 by omega]
      exact Nat.le_refl _

theorem read_nearest (neg : Bool) (mag : Nat) (place : Int) (hm : 0 < mag) (h1 : -1000 ≤ place + mag.log2) (h2 : place + mag.log2 ≤ 1000) :
    ∃ K e kept, double.read (double.nearest neg mag place) = .number neg K e ∧ (kept = lowOf mag ∨ (52 < mag.log2 ∧ kept = lowOf mag + 1)) ∧
      ((K = kept ∧ e = place + mag.log2 - 52) ∨ (kept = 9007199254740992 ∧ K = 4503599627370496 ∧ e = place + mag.log2 - 51)) := by
  have hb := low_bounds hm
  have hcut : Toward.even.cut neg (mag * 2 ^ (52 - mag.log2)) (mag.log2 - 52) = lowOf mag ∨ (52 < mag.log2 ∧ Toward.even.cut neg (mag * 2 ^ (52 - mag.log2)) (mag.log2 - 52) = lowOf mag + 1) := by
    have hd : mag.log2 - 52 ≤ (mag * 2 ^ (52 - mag.log2)).log2 + 2 := by
      by_cases h : mag.log2 ≤ 52
      · omega
      · rw [show 52 - mag.log2 = 0 by omega, Nat.pow_zero, Nat.mul_one]; omega
    rcases cut_even neg _ _ hd with h | ⟨h, h'⟩
    · exact .inl h
    · exact .inr ⟨by omega, h'⟩
  generalize hke : Toward.even.cut neg (mag * 2 ^ (52 - mag.log2)) (mag.log2 - 52) = kept at hcut
  have hkb : 4503599627370496 ≤ kept ∧ kept ≤ 9007199254740992 := by omega
  have hw : double.nearest neg mag place = double.word neg ((place + mag.log2 + 1022).toNat * 4503599627370496 + kept) := by
    unfold Format.nearest
    rw [if_neg (by omega)]
    simp only [d_least, d_bin, d_inf, show ((double.fractionBits : Nat) : Int) = 52 from rfl]
    rw [show max (place + (mag.log2 : Int) - 52) (-1074) = place + mag.log2 - 52 by omega, show (place - (place + (mag.log2 : Int) - 52)).toNat = 52 - mag.log2 by omega,
      show (place + (mag.log2 : Int) - 52 - place).toNat = mag.log2 - 52 by omega, Nat.shiftLeft_eq, hke, show (place + (mag.log2 : Int) - 52 - -1074).toNat = (place + mag.log2 + 1022).toNat by omega]
    rw [Nat.min_eq_left (by omega)]
  rw [hw, read_word _ _ (by omega) (by omega)]
  by_cases hc : kept = 9007199254740992
  · exact ⟨4503599627370496, place + mag.log2 - 51, kept, by congr 1 <;> omega, hcut, .inr ⟨hc, rfl, rfl⟩⟩
  · exact ⟨kept, place + mag.log2 - 52, kept, by congr 1 <;> omega, hcut, .inl ⟨rfl, rfl⟩⟩

theorem log2_lt {n k : Nat} (h : n < 2 ^ k) (hk : 0 < k) : n.log2 < k := by
  by_cases hn : n = 0
  · subst hn; simpa using hk
  · exact (Nat.log2_lt hn).2 h

theorem floatOf_eq (a : Int) : floatOfInt .f64 a = double.nearest (decide (a < 0)) a.natAbs 0 := rfl

/-- A whole number's word. -/
theorem read_int (a : Int) (h0 : a ≠ 0) (h : a.natAbs < 2 ^ 53) :
    double.read (floatOfInt .f64 a) = .number (decide (a < 0)) (a.natAbs * 2 ^ (52 - a.natAbs.log2)) (-((52 - a.natAbs.log2 : Nat) : Int)) := by
  have hl : a.natAbs.log2 < 53 := log2_lt h (by decide)
  rw [floatOf_eq]
  obtain ⟨K, e, kept, hr, hk, he⟩ := read_nearest (decide (a < 0)) a.natAbs 0 (by omega) (by omega) (by omega)
  have hb := low_bounds (mag := a.natAbs) (by omega)
  rw [hr]
  rw [low_small (by omega)] at hk hb
  rcases hk with hk | hk
  · rcases he with ⟨rfl, rfl⟩ | he
    · rw [hk]; congr 1; omega
    · omega
  · omega
theorem read_int0 : double.read (floatOfInt .f64 0) = .number false 0 (-(1074 : Nat)) := by decide +kernel

theorem whole_nil {d : Datum} {k : Nat} (h : d = .number false 0 (-(k : Int))) : Whole d 0 := ⟨k, by rw [h, Nat.zero_mul]⟩
theorem whole_int (n : Nat) (h : n < 2 ^ 53) : Whole (double.read (floatOfInt .f64 (n : Int))) n := by
  by_cases h0 : n = 0
  · subst h0; exact whole_nil read_int0
  · refine ⟨52 - n.log2, ?_⟩
    rw [read_int (n : Int) (by omega) (by simpa using h)]
    simp

theorem log2_norm {n : Nat} (h0 : 0 < n) (h : n.log2 ≤ 52) : (n * 2 ^ (52 - n.log2)).log2 = 52 := by
  have hb := low_bounds h0
  rw [low_small h] at hb
  rw [Nat.log2_eq_iff (by omega)]
  exact ⟨Nat.le_trans (by decide) hb.1, Nat.lt_of_lt_of_le hb.2 (by decide)⟩

/-- The quotient of whole numbers, as it is rounded: as far as whole numbers go, it is right. -/
theorem div_floor (A B : Nat) (hA : 0 < A) (hA2 : A ≤ 2 ^ 40) (hB : 0 < B) (hB2 : B ≤ 1000) (s : Bool) :
    ∃ K e, double.read (double.nearest s (2 * ((A * 2 ^ (52 - A.log2)) <<< 54 / (B * 2 ^ (52 - B.log2))) + ((A * 2 ^ (52 - A.log2)) <<< 54 % (B * 2 ^ (52 - B.log2)) != 0).toNat)
      (-((52 - A.log2 : Nat) : Int) - -((52 - B.log2 : Nat) : Int) - (54 : Nat) - 1)) = .number s K e ∧ ∃ k : Nat, e = -(k : Int) ∧ A / B * 2 ^ k ≤ K ∧ K < (A / B + 1) * 2 ^ k := by
  have hla : A.log2 < 41 := log2_lt (Nat.lt_of_le_of_lt hA2 (by decide)) (by decide)
  have hlb : B.log2 < 10 := log2_lt (Nat.lt_of_le_of_lt hB2 (by decide)) (by decide)
  have hab := low_bounds hA
  have hbb := low_bounds hB
  rw [low_small (by omega)] at hab hbb
  rw [Nat.shiftLeft_eq]
  generalize hm : A * 2 ^ (52 - A.log2) = m at *
  generalize hn : B * 2 ^ (52 - B.log2) = n at *
  have hq1 : 9007199254740992 ≤ m * 2 ^ 54 / n := (Nat.le_div_iff_mul_le (by omega)).2 (by omega)
  have hq2 : m * 2 ^ 54 / n < 36028797018963968 := (Nat.div_lt_iff_lt_mul (by omega)).2 (by omega)
  generalize hst : (m * 2 ^ 54 % n != 0).toNat = st
  have hst1 : st ≤ 1 := by rw [← hst]; exact Bool.toNat_le _
  generalize hQ : m * 2 ^ 54 / n = Q at *
  obtain ⟨g, hg, hg1, hg2⟩ : ∃ g, (2 * Q + st).log2 = 53 + g ∧ 1 ≤ g ∧ g ≤ 2 := by
    have h1 : 54 ≤ (2 * Q + st).log2 := (Nat.le_log2 (by omega)).2 (by omega)
    have h2 : (2 * Q + st).log2 < 56 := log2_lt (by omega) (by decide)
    exact ⟨(2 * Q + st).log2 - 53, by omega, by omega, by omega⟩
  obtain ⟨K, e, kept, hr, hk, he⟩ := read_nearest s (2 * Q + st) (-((52 - A.log2 : Nat) : Int) - -((52 - B.log2 : Nat) : Int) - (54 : Nat) - 1) (by omega) (by omega) (by omega)
  refine ⟨K, e, hr, ?_⟩
  have hlow : lowOf (2 * Q + st) = A * 2 ^ (54 + B.log2 - A.log2 - g) / B := by
    rw [low_great (by omega), hg, show 53 + g - 52 = 1 + g by omega, Nat.pow_add, Nat.pow_one, ← Nat.div_div_eq_div_mul, show (2 * Q + st) / 2 = Q by omega, ← hQ, Nat.div_div_eq_div_mul, ← hm, ← hn,
      Nat.mul_assoc, ← Nat.pow_add, Nat.mul_assoc, ← Nat.pow_add, show 52 - A.log2 + 54 = (54 + B.log2 - A.log2 - g) + (52 - B.log2 + g) by omega, Nat.pow_add, ← Nat.mul_assoc, Nat.mul_div_mul_right _ _ (Nat.two_pow_pos _)]
  rw [hlow, hg] at hk
  rw [hg] at he
  clear hlow hr hQ hq1 hq2 hst hm hn
  have hk0 : 12 ≤ 54 + B.log2 - A.log2 - g := by omega
  have hke : -((52 - A.log2 : Nat) : Int) - -((52 - B.log2 : Nat) : Int) - (54 : Nat) - 1 + ((53 + g : Nat) : Int) - 52 = -((54 + B.log2 - A.log2 - g : Nat) : Int) := by omega
  have hke' : -((52 - A.log2 : Nat) : Int) - -((52 - B.log2 : Nat) : Int) - (54 : Nat) - 1 + ((53 + g : Nat) : Int) - 51 = -((54 + B.log2 - A.log2 - g - 1 : Nat) : Int) := by omega
  rw [hke, hke'] at he
  generalize 54 + B.log2 - A.log2 - g = k at *
  have hN1 : A / B * 2 ^ k ≤ A * 2 ^ k / B := by
    rw [Nat.le_div_iff_mul_le hB, Nat.mul_right_comm]
    exact Nat.mul_le_mul_right _ (Nat.div_mul_le_self A B)
  have hN2 : A * 2 ^ k / B + 1 < (A / B + 1) * 2 ^ k := by
    have hA3 : A + 1 ≤ (A / B + 1) * B := by
      have := Nat.div_add_mod A B
      have := Nat.mod_lt A hB
      rw [Nat.add_mul, Nat.one_mul, Nat.mul_comm]
      omega
    have h3 := Nat.mul_le_mul_right (2 ^ k) hA3
    rw [Nat.add_mul, Nat.one_mul, Nat.mul_right_comm] at h3
    have h4 := Nat.div_mul_le_self (A * 2 ^ k) B
    have h5 : 4096 ≤ 2 ^ k := Nat.le_trans (by decide) (Nat.pow_le_pow_right (by decide) hk0)
    refine Nat.lt_of_not_le fun h6 => ?_
    have h7 := Nat.mul_le_mul_right B h6
    rw [Nat.add_mul (A * 2 ^ k / B), Nat.one_mul] at h7
    omega
  rcases he with ⟨rfl, rfl⟩ | ⟨hkx, rfl, rfl⟩
  · exact ⟨k, rfl, by omega, by omega⟩
  · refine ⟨k - 1, rfl, ?_⟩
    obtain ⟨j, rfl⟩ : ∃ j, k = j + 1 := ⟨k - 1, by omega⟩
    generalize A * 2 ^ (j + 1) / B = z at *
    rw [Nat.pow_succ, ← Nat.mul_assoc] at hN1 hN2
    rw [show j + 1 - 1 = j by omega]
    omega

/-- A word that is the quotient of a and b, and what it is, rounded towards 0. -/
theorem quo_floor (a b : Int) (ha : -(2 ^ 40) ≤ a) (ha2 : a ≤ 2 ^ 40) (hb : 1 ≤ b) (hb2 : b ≤ 1000) :
    ∃ r, floatBits .quo .f64 (floatOfInt .f64 a) (floatOfInt .f64 b) = some r ∧ FloorIs (double.read r) (a.tdiv b).toNat := by
  show ∃ r, double.div _ _ = some r ∧ _
  unfold Format.div
  have hrb := read_int b (by omega) (by omega)
  rw [hrb, show decide (b < 0) = false by simp; omega]
  have hB : 0 < b.natAbs := by omega
  have hlb : b.natAbs.log2 < 10 := log2_lt (by omega) (by decide)
  have hbb := low_bounds hB
  rw [low_small (by omega)] at hbb
  by_cases h0 : a = 0
  · subst h0
    rw [read_int0]
    refine ⟨0, ?_, ?_⟩
    · simp only [Datum.quotient]
      rw [if_neg (by omega)]
      simp only [Nat.zero_shiftLeft, Nat.zero_div, Nat.zero_mod, Option.map, Format.write, Format.nearest]
      rfl
    · rw [Int.zero_tdiv]; exact (whole_nil read_zero).floor
  · have hA : 0 < a.natAbs := by omega
    have hla : a.natAbs.log2 < 41 := log2_lt (by omega) (by decide)
    obtain ⟨K, e, hr, k, rfl, h1, h2⟩ := div_floor a.natAbs b.natAbs hA (by omega) hB (by omega) (decide (a < 0) ^^ false)
    rw [read_int a h0 (by omega)]
    simp only [Datum.quotient]
    rw [if_neg (by omega), log2_norm hA (by omega), log2_norm hB (by omega), show double.fractionBits + 2 + 52 - 52 = 54 from rfl]
    refine ⟨_, rfl, ?_⟩
    simp only [Format.write]
    rw [hr]
    by_cases hs : a < 0
    · refine .inr ⟨?_, K, -(k : Int), by simp [hs]⟩
      have h3 : 0 ≤ (-a).tdiv b := Int.tdiv_nonneg (by omega) (by omega)
      rw [Int.neg_tdiv] at h3
      omega
    · refine .inl ⟨K, k, by simp [hs], ?_⟩
      have : (a.tdiv b).toNat = a.natAbs / b.natAbs := by
        obtain ⟨x, rfl⟩ := Int.eq_ofNat_of_zero_le (show 0 ≤ a by omega)
        obtain ⟨y, rfl⟩ := Int.eq_ofNat_of_zero_le (show 0 ≤ b by omega)
        rw [← Int.ofNat_tdiv]
        rfl
      rw [this]
      exact ⟨h1, h2⟩
end Go.Proofs.YtlmccjdpmhancaaGreatDoor
namespace Go.Proofs.YtlmccjdpmhancaaGreatDoor
open Go.RowKit


/-- A count, clamped. -/
def cl (n : Int) : Nat := (min (max n 0) 1073741824).toNat

set_option maxHeartbeats 400000 in
theorem clamped_any (n : Int) (w : World) :
    Calls Tryz.prog 89 #[.int .i64 n] w fun e w' => e = .returned (.int .i64 (cl n)) ∧ w' = w := by
  go_enter Tryz.func89, Tryz.ntmps89
  go_wp2
  all_goals
    go_ret
    exact ⟨ret_int (by unfold cl; omega), rfl⟩

def odd (n : Int) : Bool := n % 2 != 0
theorem odd_eq (n : Int) : odd n = (n.tmod 2 != 0) := by
  unfold odd
  rw [bne, bne]
  congr 1
  rw [Bool.eq_iff_iff, beq_iff_eq, beq_iff_eq, ← Int.dvd_iff_emod_eq_zero, ← Int.dvd_iff_tmod_eq_zero]

set_option maxHeartbeats 400000 in
theorem second_any (n : Int) (w : World) :
    Calls Tryz.prog 88 #[.int .i64 n] w fun e w' => e = .returned (.bool (odd n)) ∧ w' = w := by
  go_enter Tryz.func88, Tryz.ntmps88
  go_wp2
  go_ret
  exact ⟨by rw [odd_eq]; rfl, rfl⟩

set_option maxHeartbeats 400000 in
theorem count_any (x N : Nat) (h : FloorIs (Ieee.double.read x) N) (w : World) :
    Calls Tryz.prog 87 #[.float .f64 x] w fun e w' => e = .returned (.int .i64 ((min N 1073741824 : Nat) : Int)) ∧ w' = w := by
  rcases h with ⟨m, k, hr, h1, h2⟩ | ⟨rfl, m, e, hr⟩
  · have h3 := gt_zero hr
    by_cases hm : 0 < m
    · rw [show decide (0 < m) = true by simpa using hm] at h3
      have h4 := ge_max hr h1 h2
      by_cases hn : 1073741824 ≤ N
      · rw [show decide (1073741824 ≤ N) = true by simpa using hn] at h4
        have h3' : (FloatKind.f64.format.order x 0 == some .gt) = true := h3
        have h4' : (FloatKind.f64.format.order x 4742290407621132288 == some .gt || FloatKind.f64.format.order x 4742290407621132288 == some .eq) = true := h4
        clear h1 h2 h3 h4 hr
        go_enter Tryz.func87, Tryz.ntmps87
        go_wp2
        go_ret
        exact ⟨ret_int (by omega), rfl⟩
      · rw [show decide (1073741824 ≤ N) = false by simpa using hn] at h4
        have h3' : (FloatKind.f64.format.order x 0 == some .gt) = true := h3
        have h4' : (FloatKind.f64.format.order x 4742290407621132288 == some .gt || FloatKind.f64.format.order x 4742290407621132288 == some .eq) = false := h4
        have hc : (convert 105 3 (.float .f64 x)).run Tryz.prog w = .ok (.int .i64 N) w :=
          run_convert_float_int w _ _ .f64 .i64 x N (by rw [Tryz.underlying105]; rfl) Tryz.underlying3 (by
            unfold floatToIntVal
            rw [show FloatKind.f64.decode x = Ieee.double.read x from rfl, to_int hr h1 h2]
            exact if_pos ⟨by show (-9223372036854775808 : Int) ≤ N; omega, by show (N : Int) ≤ 9223372036854775807; omega⟩)
        clear h1 h2 h3 h4 hr
        go_enter Tryz.func87, Tryz.ntmps87
        go_wp2
        go_ret
        exact ⟨ret_int (by omega), rfl⟩
    · rw [show decide (0 < m) = false by simpa using hm] at h3
      have h3' : (FloatKind.f64.format.order x 0 == some .gt) = false := h3
      have hN : N = 0 := by
        have := Nat.two_pow_pos k
        rcases Nat.eq_zero_or_pos N with h | h
        · exact h
        · have := Nat.mul_pos h this; omega
      subst hN
      clear h1 h2 h3 hr
      go_enter Tryz.func87, Tryz.ntmps87
      go_wp2
      go_ret
      exact ⟨ret_int (by omega), rfl⟩
  · have h3' : (FloatKind.f64.format.order x 0 == some .gt) = false := not_gt hr
    clear hr
    go_enter Tryz.func87, Tryz.ntmps87
    go_wp2
    go_ret
    exact ⟨ret_int (by omega), rfl⟩

/-- A count as a part of a clock. -/
def fl (a : Nat) : Nat := floatOfInt .f64 (a : Int)
theorem fl_eq (n : Int) : floatOfInt .f64 ((cl n : Nat) : Int) = fl (cl n) := rfl
theorem cl_le (n : Int) : cl n ≤ 1073741824 := by unfold cl; omega
theorem fl_whole {a : Nat} (h : a ≤ 1073741824) : Whole (Ieee.double.read (fl a)) a := whole_int a (by omega)

set_option maxHeartbeats 400000 in
theorem of_any (l r : Int) (w : World) :
    Calls Tryz.prog 53 #[.agg #[.int .i64 l, .int .i64 r]] w fun e w' => e = .returned (.complex .f64 (fl (cl l)) (fl (cl r))) ∧ Below w.heap.size w w' := by
  go_enter Tryz.func53, Tryz.ntmps53
  go_wp2
  go_quiet (first | (go_at_call 89; exact Calls.quiet_of_same (clamped_any _ _)))
  go_wp2
  go_ret
  refine ⟨rfl, ?_⟩
  refine below_drewN ?_ _
  go_grown

set_option maxHeartbeats 400000 in
theorem pair_any (x y N M : Nat) (hx : FloorIs (Ieee.double.read x) N) (hy : FloorIs (Ieee.double.read y) M) (w : World) :
    Calls Tryz.prog 51 #[.complex .f64 x y] w fun e w' => e = .returned (.agg #[.int .i64 ((min N 1073741824 : Nat) : Int), .int .i64 ((min M 1073741824 : Nat) : Int)]) ∧ Below w.heap.size w w' := by
  go_enter Tryz.func51, Tryz.ntmps51
  go_wp2_with fail
  refine (count_any x N hx _).mono ?_
  rintro e w1 ⟨rfl, rfl⟩
  go_wp2_with fail
  refine (count_any y M hy _).mono ?_
  rintro e w1 ⟨rfl, rfl⟩
  go_wp2
  go_returns
  refine ⟨rfl, ?_⟩
  go_grown
end Go.Proofs.YtlmccjdpmhancaaGreatDoor
namespace Go.Proofs.YtlmccjdpmhancaaGreatDoor
open Go.RowKit

theorem pair_clk {a b : Nat} (ha : a ≤ 1073741824) (hb : b ≤ 1073741824) (w : World) :
    Calls Tryz.prog 51 #[.complex .f64 (fl a) (fl b)] w fun e w' => e = .returned (.agg #[.int .i64 (a : Int), .int .i64 (b : Int)]) ∧ Below w.heap.size w w' := by
  have h := pair_any (fl a) (fl b) a b (fl_whole ha).floor (fl_whole hb).floor w
  rw [Nat.min_eq_left ha, Nat.min_eq_left hb] at h
  exact h

/-- Is it a right pair? -/
def rt (l r : Int) : Bool := decide (0 ≤ l ∧ l ≤ 1073741824 ∧ 0 ≤ r ∧ r ≤ 1073741824)

set_option maxHeartbeats 1000000 in
theorem cright_any (l r : Int) (w : World) :
    Calls Tryz.prog 94 #[.agg #[.int .i64 l, .int .i64 r]] w fun e w' => e = .returned (.bool (rt l r)) ∧ Below w.heap.size w w' := by
  by_cases h : ((cl l : Nat) : Int) = l
  · go_enter Tryz.func94, Tryz.ntmps94
    go_wp2
    go_quiet (first | (go_at_call 89; exact Calls.quiet_of_same (clamped_any _ _)))
    go_wp2
    go_ret
    refine ⟨?_, ?_⟩
    · refine congrArg (fun b => Ending.returned (.bool b)) ?_
      unfold cl at h ⊢; unfold rt
      show (_ == _) = _
      rw [Bool.eq_iff_iff]
      simp only [beq_iff_eq, decide_eq_true_eq]
      omega
    · refine below_drewN ?_ _
      go_grown
  · have h' : (((cl l : Nat) : Int) == l) = false := by simpa using h
    go_enter Tryz.func94, Tryz.ntmps94
    go_wp2
    go_quiet (first | (go_at_call 89; exact Calls.quiet_of_same (clamped_any _ _)))
    go_wp2
    go_ret
    refine ⟨?_, ?_⟩
    · refine congrArg (fun b => Ending.returned (.bool b)) ?_
      unfold cl at h; unfold rt
      symm
      rw [decide_eq_false_iff_not]
      omega
    · refine below_drewN ?_ _
      go_grown

/-- One more, as far as may be. -/
def up (a : Nat) : Nat := min (a + 1) 1073741824
theorem up_le (a : Nat) : up a ≤ 1073741824 := by unfold up; omega

theorem cl_nat {a : Nat} (h : a ≤ 1073741824) : cl (a : Int) = a := by unfold cl; omega
theorem cl_up {a : Nat} (h : a ≤ 1073741824) : cl ((a : Int) + 1) = up a := by unfold cl up; omega

set_option maxHeartbeats 1000000 in
theorem tick_even {a b : Nat} (ha : a ≤ 1073741824) (hb : b ≤ 1073741824) (author : Int) (ho : odd author = false) (w : World) :
    Calls Tryz.prog 52 #[.complex .f64 (fl a) (fl b), .int .i64 author] w fun e w' => e = .returned (.complex .f64 (fl (up a)) (fl b)) ∧ Below w.heap.size w w' := by
  have H2 := hid (cl_nat hb)
  have H3 := hid (cl_up ha)
  go_enter Tryz.func52, Tryz.ntmps52
  go_wp2_with fail
  refine (pair_clk ha hb _).mono ?_
  rintro e w1 ⟨rfl, hb1⟩
  go_wp2_with fail
  refine (second_any author _).mono ?_
  rintro e w2 ⟨rfl, rfl⟩
  rw [ho]
  go_wp2_with fail
  refine (of_any _ _ _).mono ?_
  rintro e w2 ⟨rfl, hb2⟩
  rw [H2.out, H3.out]
  have hb2' : Below w.heap.size w w2 := by
    refine Below.trans ?_ (hb2.mono ?_)
    · refine Below.trans hb1 ?_
      have := hb1.size
      go_grown
    · have := hb1.size
      go_size
  clear hb1 hb2
  go_wp2
  go_ret
  exact ⟨rfl, hb2'⟩

set_option maxHeartbeats 1000000 in
theorem tick_odd {a b : Nat} (ha : a ≤ 1073741824) (hb : b ≤ 1073741824) (author : Int) (ho : odd author = true) (w : World) :
    Calls Tryz.prog 52 #[.complex .f64 (fl a) (fl b), .int .i64 author] w fun e w' => e = .returned (.complex .f64 (fl a) (fl (up b))) ∧ Below w.heap.size w w' := by
  have H2 := hid (cl_nat ha)
  have H3 := hid (cl_up hb)
  go_enter Tryz.func52, Tryz.ntmps52
  go_wp2_with fail
  refine (pair_clk ha hb _).mono ?_
  rintro e w1 ⟨rfl, hb1⟩
  go_wp2_with fail
  refine (second_any author _).mono ?_
  rintro e w2 ⟨rfl, rfl⟩
  rw [ho]
  go_wp2_with fail
  refine (of_any _ _ _).mono ?_
  rintro e w2 ⟨rfl, hb2⟩
  rw [H2.out, H3.out]
  have hb2' : Below w.heap.size w w2 := by
    refine Below.trans ?_ (hb2.mono ?_)
    · refine Below.trans hb1 ?_
      have := hb1.size
      go_grown
    · have := hb1.size
      go_size
  clear hb1 hb2
  go_wp2
  go_ret
  exact ⟨rfl, hb2'⟩
end Go.Proofs.YtlmccjdpmhancaaGreatDoor
namespace Go.Proofs.YtlmccjdpmhancaaGreatDoor
open Go.RowKit

structure Ent where
  path : ByteArray
  has : Bool
  data : ByteArray
  l : Int
  r : Int
theorem Ent.same {a b : Ent} (h1 : a.path = b.path) (h2 : a.has = b.has) (h3 : a.data = b.data) (h4 : a.l = b.l) (h5 : a.r = b.r) : a = b := by
  cases a; cases b; simp only at h1 h2 h3 h4 h5; subst h1 h2 h3 h4 h5; rfl
instance : DecidableEq Ent := fun a b =>
  decidable_of_iff (a.path = b.path ∧ a.has = b.has ∧ a.data = b.data ∧ a.l = b.l ∧ a.r = b.r)
    ⟨fun h => Ent.same h.1 h.2.1 h.2.2.1 h.2.2.2.1 h.2.2.2.2, fun h => by subst h; exact ⟨rfl, rfl, rfl, rfl, rfl⟩⟩

/-- The empty string. -/
abbrev noS : ByteArray := ⟨#[]⟩
def epth (e : Ent) : List UInt8 := e.path.data.toList
theorem epth_inj {a b : Ent} : epth a = epth b ↔ a.path = b.path := ⟨fun h => data_inj h, fun h => by unfold epth; rw [h]⟩

/-! ### Entries as cells -/
def eV (e : Ent) : List Value := [.string e.path, .bool e.has, .string e.data, .int .i64 e.l, .int .i64 e.r]
def entV (es : List Ent) : List Value := es.flatMap eV
theorem entV_nil : entV [] = [] := rfl
theorem entV_cons (e : Ent) (es : List Ent) : entV (e :: es) = eV e ++ entV es := rfl
theorem entV_append (a b : List Ent) : entV (a ++ b) = entV a ++ entV b := by simp [entV]
theorem entV_length (es : List Ent) : (entV es).length = es.length * 5 := by
  induction es with
  | nil => rfl
  | cons e r ih => rw [entV_cons, List.length_append, List.length_cons, ih]; simp only [eV, List.length_cons, List.length_nil]; omega
theorem entV_one (l : List Ent) : ∀ u ∈ entV l, u.oneCell' = true := by
  intro u hu
  simp only [entV, List.mem_flatMap] at hu
  obtain ⟨e, _, he⟩ := hu
  simp [eV] at he
  rcases he with rfl | rfl | rfl | rfl | rfl <;> rfl
theorem entV_at : ∀ (es : List Ent) (j : Nat) (h : j < es.length) (q : Nat), q < 5 → (entV es)[j * 5 + q]? = (eV es[j])[q]?
  | e :: es, 0, _, q, hq => by
    rw [entV_cons, List.getElem?_append_left (by simp only [eV, List.length_cons, List.length_nil]; omega), Nat.zero_mul, Nat.zero_add]; rfl
  | e :: es, j + 1, h, q, hq => by
    have e5 : (eV e).length = 5 := rfl
    rw [entV_cons, List.getElem?_append_right (by rw [e5]; omega), e5, show (j + 1) * 5 + q - 5 = j * 5 + q by omega, entV_at es j (by simpa using h) q hq]
    rfl
theorem entV_take (es : List Ent) (k : Nat) : entV (es.take k) = (entV es).take (k * 5) := by
  by_cases h : k ≤ es.length
  · have e : entV es = entV (es.take k) ++ entV (es.drop k) := by rw [← entV_append, List.take_append_drop]
    have l : (entV (es.take k)).length = k * 5 := by rw [entV_length, List.length_take]; omega
    rw [e, ← l, List.take_left]
  · rw [List.take_of_length_le (by omega), List.take_of_length_le (by rw [entV_length]; omega)]
theorem entV_drop (es : List Ent) (k : Nat) : entV (es.drop k) = (entV es).drop (k * 5) := by
  by_cases h : k ≤ es.length
  · have e : entV es = entV (es.take k) ++ entV (es.drop k) := by rw [← entV_append, List.take_append_drop]
    have l : (entV (es.take k)).length = k * 5 := by rw [entV_length, List.length_take]; omega
    rw [e, ← l, List.drop_left]
  · rw [List.drop_of_length_le (by omega), List.drop_of_length_le (by rw [entV_length]; omega)]
    rfl
theorem Rd.ent {w : World} {A : Option Addr} {es : List Ent} (h : Rd w A (entV es)) {j : Nat} (hj : j < es.length) :
    ∃ b off, A = some ⟨b, off, none⟩ ∧ w.cell? ⟨b, off + j * 5, none⟩ = some (.string es[j].path) ∧ w.cell? ⟨b, off + j * 5 + 1, none⟩ = some (.bool es[j].has) ∧ w.cell? ⟨b, off + j * 5 + 2, none⟩ = some (.string es[j].data) ∧
      w.cell? ⟨b, off + j * 5 + 3, none⟩ = some (.int .i64 es[j].l) ∧ w.cell? ⟨b, off + j * 5 + 4, none⟩ = some (.int .i64 es[j].r) ∧ b < w.heap.size := by
  have hl := entV_length es
  obtain ⟨b, off, rfl, -, hb⟩ := h.at_ (k := j * 5) (by omega)
  have g : ∀ q, q < 5 → w.cell? ⟨b, off + j * 5 + q, none⟩ = (eV es[j])[q]? := by
    intro q hq
    rw [Nat.add_assoc]
    obtain ⟨b', off', e, hc, -⟩ := h.at_ (k := j * 5 + q) (by omega)
    injection e with e; injection e with e1 e2; subst e1 e2
    rw [hc, ← List.getElem?_eq_getElem, entV_at es j hj q hq]
  exact ⟨b, off, rfl, g 0 (by omega), g 1 (by omega), g 2 (by omega), g 3 (by omega), g 4 (by omega), hb⟩

/-! ### Right archives -/
def filesOf (es : List Ent) : List Fil := (es.filter (·.has)).map fun e => (e.path, e.data)
theorem filesOf_cons (e : Ent) (es : List Ent) : filesOf (e :: es) = if e.has then (e.path, e.data) :: filesOf es else filesOf es := by
  unfold filesOf
  rw [List.filter_cons]
  split <;> rfl
theorem filesOf_append (a b : List Ent) : filesOf (a ++ b) = filesOf a ++ filesOf b := by simp [filesOf]
theorem filesOf_len (es : List Ent) : (filesOf es).length ≤ es.length := by rw [filesOf, List.length_map]; exact List.length_filter_le _ _
theorem mem_files {es : List Ent} {f : Fil} : f ∈ filesOf es ↔ ∃ e ∈ es, e.has = true ∧ f = (e.path, e.data) := by
  simp only [filesOf, List.mem_map, List.mem_filter]
  constructor
  · rintro ⟨e, ⟨h1, h2⟩, rfl⟩; exact ⟨e, h1, h2, rfl⟩
  · rintro ⟨e, h1, h2, rfl⟩; exact ⟨e, ⟨h1, h2⟩, rfl⟩
def fineE (e : Ent) : Bool := rt e.l e.r && !(decide (e.l = 0) && decide (e.r = 0)) && (e.has || decide (e.data = noS))
def archR (es : List Ent) : Bool := decide (es.length ≤ 32) && es.all fineE && sortedL (es.map epth) && treeR (filesOf es)
def SrtE (es : List Ent) : Prop := es.Pairwise fun a b => epth a < epth b
structure RightA (es : List Ent) : Prop where
  few : es.length ≤ 32
  srt : SrtE es
  paths : ∀ e ∈ es, rightL (epth e) = true
  fine : ∀ e ∈ es, fineE e = true
  tree : treeR (filesOf es) = true
theorem archR_iff (es : List Ent) : archR es = true ↔ RightA es := by
  unfold archR
  simp only [Bool.and_eq_true, decide_eq_true_eq, List.all_eq_true]
  constructor
  · rintro ⟨⟨⟨h1, h2⟩, h3⟩, h4⟩
    exact ⟨h1, List.pairwise_map.1 (srt_pair h3), fun e he => srt_right h3 _ (List.mem_map_of_mem he), h2, h4⟩
  · rintro ⟨h1, h2, h3, h4, h5⟩
    refine ⟨⟨⟨h1, h4⟩, srt_mk ?_ (List.pairwise_map.2 h2)⟩, h5⟩
    intro s hs
    obtain ⟨e, he, rfl⟩ := List.mem_map.1 hs
    exact h3 e he
theorem archR_no {es : List Ent} (h : ¬ RightA es) : archR es = false := not_true fun e => h ((archR_iff es).1 e)
theorem fineE_iff (e : Ent) : fineE e = true ↔ (0 ≤ e.l ∧ e.l ≤ 1073741824 ∧ 0 ≤ e.r ∧ e.r ≤ 1073741824) ∧ ¬ (e.l = 0 ∧ e.r = 0) ∧ (e.has = true ∨ e.data = noS) := by
  unfold fineE rt
  simp only [Bool.and_eq_true, decide_eq_true_eq, Bool.or_eq_true, Bool.not_eq_true', Bool.and_eq_false_iff, decide_eq_false_iff_not, and_assoc]
  constructor
  · rintro ⟨a, b, c, d, e, f⟩; exact ⟨a, b, c, d, by omega, f⟩
  · rintro ⟨a, b, c, d, e, f⟩; exact ⟨a, b, c, d, by omega, f⟩

/-- Where a path stands. -/
def idxE (es : List Ent) (p : ByteArray) : Int := if es.any (fun e => decide (e.path = p)) then (es.findIdx (fun e => decide (e.path = p)) : Int) else -1
theorem idxE_at {es : List Ent} {p : ByteArray} {j : Nat} (hj : j < es.length) (h : es[j].path = p) (hn : ∀ k (hk : k < es.length), k < j → es[k].path ≠ p) : idxE es p = j := by
  unfold idxE
  rw [if_pos (List.any_eq_true.2 ⟨_, List.getElem_mem hj, decide_eq_true h⟩)]
  rw [(List.findIdx_eq hj).2 ⟨decide_eq_true h, fun k hk => by simpa using hn k (by omega) hk⟩]
theorem idxE_no {es : List Ent} {p : ByteArray} (hn : ∀ e ∈ es, e.path ≠ p) : idxE es p = -1 := by
  unfold idxE
  rw [if_neg]
  simp only [List.any_eq_true, not_exists, not_and, decide_eq_true_eq]
  exact hn
theorem idxE_cases (es : List Ent) (p : ByteArray) : (idxE es p = -1 ∧ ∀ e ∈ es, e.path ≠ p) ∨ ∃ (j : Nat) (hj : j < es.length), idxE es p = j ∧ es[j].path = p := by
  by_cases h : es.any (fun e => decide (e.path = p)) = true
  · right
    obtain ⟨e, he, hp⟩ := List.any_eq_true.1 h
    have hl : es.findIdx (fun e => decide (e.path = p)) < es.length := List.findIdx_lt_length.2 ⟨e, he, hp⟩
    refine ⟨_, hl, by unfold idxE; rw [if_pos h], ?_⟩
    simpa using List.findIdx_getElem (w := hl)
  · left
    have hn : ∀ e ∈ es, e.path ≠ p := by
      intro e he hp
      exact h (List.any_eq_true.2 ⟨e, he, decide_eq_true hp⟩)
    exact ⟨idxE_no hn, hn⟩
theorem SrtE.inj {es : List Ent} (h : SrtE es) {i j : Nat} (hi : i < es.length) (hj : j < es.length) (e : es[i].path = es[j].path) : i = j := by
  have hp := List.pairwise_iff_getElem.1 h
  rcases Nat.lt_trichotomy i j with h1 | h1 | h1
  · have := hp i j hi hj h1; rw [epth, epth, e] at this; exact absurd this (List.lt_irrefl _)
  · exact h1
  · have := hp j i hj hi h1; rw [epth, epth, e] at this; exact absurd this (List.lt_irrefl _)
theorem idxE_srt {es : List Ent} (h : SrtE es) {j : Nat} (hj : j < es.length) : idxE es es[j].path = j :=
  idxE_at hj rfl fun _ hk hkj e => by have := h.inj hk hj e; omega

/-! ### Both, gone over -/
def gone (e : Ent) : Ent := ⟨e.path, false, noS, e.l, e.r⟩
def kept (e : Ent) (d : ByteArray) : Ent := ⟨e.path, true, d, e.l, e.r⟩
def fresh (p : ByteArray) : Ent := ⟨p, false, noS, 0, 0⟩
def bothL : List Ent → List Fil → List (Ent × Ent)
  | [], [] => []
  | e :: l, [] => (e, gone e) :: bothL l []
  | [], f :: t => (fresh f.1, kept (fresh f.1) f.2) :: bothL [] t
  | e :: l, f :: t =>
    if e.path = f.1 then (e, kept e f.2) :: bothL l t
    else if Op.bytesLess (pth f) (epth e) then (fresh f.1, kept (fresh f.1) f.2) :: bothL (e :: l) t
    else (e, gone e) :: bothL l (f :: t)
  termination_by l t => l.length + t.length
theorem bothL_nil : bothL [] [] = [] := by rw [bothL]
theorem bothL_l (e : Ent) (l : List Ent) : bothL (e :: l) [] = (e, gone e) :: bothL l [] := by rw [bothL]
theorem bothL_t (f : Fil) (t : List Fil) : bothL [] (f :: t) = (fresh f.1, kept (fresh f.1) f.2) :: bothL [] t := by rw [bothL]
theorem bothL_eq {e : Ent} {f : Fil} (h : e.path = f.1) (l : List Ent) (t : List Fil) : bothL (e :: l) (f :: t) = (e, kept e f.2) :: bothL l t := by rw [bothL, if_pos h]
theorem bothL_lt {e : Ent} {f : Fil} (h : ¬ e.path = f.1) (hl : Op.bytesLess (pth f) (epth e) = true) (l : List Ent) (t : List Fil) : bothL (e :: l) (f :: t) = (fresh f.1, kept (fresh f.1) f.2) :: bothL (e :: l) t := by rw [bothL, if_neg h, if_pos hl]
theorem bothL_gt {e : Ent} {f : Fil} (h : ¬ e.path = f.1) (hl : Op.bytesLess (pth f) (epth e) = false) (l : List Ent) (t : List Fil) : bothL (e :: l) (f :: t) = (e, gone e) :: bothL l (f :: t) := by rw [bothL, if_neg h, if_neg (by simp [hl])]

/-- What holds of each step holds of all. -/
theorem both_ind {motive : List Ent → List Fil → List (Ent × Ent) → Prop} (h0 : motive [] [] [])
    (h1 : ∀ e l, motive l [] (bothL l []) → motive (e :: l) [] ((e, gone e) :: bothL l []))
    (h2 : ∀ f t, motive [] t (bothL [] t) → motive [] (f :: t) ((fresh f.1, kept (fresh f.1) f.2) :: bothL [] t))
    (h3 : ∀ e l f t, e.path = f.1 → motive l t (bothL l t) → motive (e :: l) (f :: t) ((e, kept e f.2) :: bothL l t))
    (h4 : ∀ e l f t, pth f < epth e → motive (e :: l) t (bothL (e :: l) t) → motive (e :: l) (f :: t) ((fresh f.1, kept (fresh f.1) f.2) :: bothL (e :: l) t))
    (h5 : ∀ e l f t, epth e < pth f → motive l (f :: t) (bothL l (f :: t)) → motive (e :: l) (f :: t) ((e, gone e) :: bothL l (f :: t))) :
    ∀ (n : Nat) (l : List Ent) (t : List Fil), l.length + t.length ≤ n → motive l t (bothL l t)
  | _, [], [], _ => by rw [bothL_nil]; exact h0
  | n + 1, e :: l, [], hn => by rw [bothL_l]; exact h1 e l (both_ind h0 h1 h2 h3 h4 h5 n l [] (by simp at hn ⊢; omega))
  | n + 1, [], f :: t, hn => by rw [bothL_t]; exact h2 f t (both_ind h0 h1 h2 h3 h4 h5 n [] t (by simp at hn ⊢; omega))
  | n + 1, e :: l, f :: t, hn => by
    by_cases h : e.path = f.1
    · rw [bothL_eq h]; exact h3 e l f t h (both_ind h0 h1 h2 h3 h4 h5 n l t (by simp at hn ⊢; omega))
    · cases hl : Op.bytesLess (pth f) (epth e) with
      | true => rw [bothL_lt h hl]; exact h4 e l f t ((less_iff _ _).1 hl) (both_ind h0 h1 h2 h3 h4 h5 n (e :: l) t (by simp at hn ⊢; omega))
      | false =>
        have hlt : epth e < pth f := by
          rcases lt_tri (epth e) (pth f) with x | x | x
          · exact x
          · exact absurd (data_inj x) h
          · rw [(less_iff _ _).2 x] at hl; cases hl
        rw [bothL_gt h hl]; exact h5 e l f t hlt (both_ind h0 h1 h2 h3 h4 h5 n l (f :: t) (by simp at hn ⊢; omega))
  | 0, _ :: _, _, hn => by simp at hn
  | 0, [], _ :: _, hn => by simp at hn

theorem both_len (l : List Ent) (t : List Fil) : (bothL l t).length ≤ l.length + t.length :=
  both_ind (motive := fun l t ps => ps.length ≤ l.length + t.length) (by simp) (fun _ _ h => by simp at h ⊢; omega) (fun _ _ h => by simp at h ⊢; omega) (fun _ _ _ _ _ h => by simp at h ⊢; omega)
    (fun _ _ _ _ _ h => by simp at h ⊢; omega) (fun _ _ _ _ _ h => by simp at h ⊢; omega) _ l t (Nat.le_refl _)
/-- What a pair is. -/
structure PairE (l : List Ent) (t : List Fil) (p : Ent × Ent) : Prop where
  path : p.2.path = p.1.path
  cl : p.2.l = p.1.l
  cr : p.2.r = p.1.r
  none : p.2.has = false → p.2.data = noS
  was : p.1 ∈ l ∨ (p.1 = fresh p.1.path ∧ p.2.has = true)
  is : p.2.has = true → (p.2.path, p.2.data) ∈ t
theorem PairE.more {l l' : List Ent} {t t' : List Fil} {p : Ent × Ent} (h : PairE l t p) (hl : ∀ e ∈ l, e ∈ l') (ht : ∀ f ∈ t, f ∈ t') : PairE l' t' p :=
  ⟨h.path, h.cl, h.cr, h.none, h.was.imp (hl _) id, fun x => ht _ (h.is x)⟩
theorem both_pair (l : List Ent) (t : List Fil) : ∀ p ∈ bothL l t, PairE l t p := by
  refine both_ind (motive := fun l t ps => ∀ p ∈ ps, PairE l t p) (by simp) ?_ ?_ ?_ ?_ ?_ _ l t (Nat.le_refl _)
  · intro e l h p hp
    rcases List.mem_cons.1 hp with rfl | hp
    · exact ⟨rfl, rfl, rfl, fun _ => rfl, .inl (by simp), (fun x => by cases x)⟩
    · exact (h p hp).more (fun _ => List.mem_cons_of_mem _) (fun _ x => x)
  · intro f t h p hp
    rcases List.mem_cons.1 hp with rfl | hp
    · exact ⟨rfl, rfl, rfl, (fun x => by cases x), .inr ⟨rfl, rfl⟩, fun _ => by simp [kept, fresh]⟩
    · exact (h p hp).more (fun _ x => x) (fun _ => List.mem_cons_of_mem _)
  · intro e l f t he h p hp
    rcases List.mem_cons.1 hp with rfl | hp
    · exact ⟨rfl, rfl, rfl, (fun x => by cases x), .inl (by simp), fun _ => by simp [kept, he]⟩
    · exact (h p hp).more (fun _ => List.mem_cons_of_mem _) (fun _ => List.mem_cons_of_mem _)
  · intro e l f t he h p hp
    rcases List.mem_cons.1 hp with rfl | hp
    · exact ⟨rfl, rfl, rfl, (fun x => by cases x), .inr ⟨rfl, rfl⟩, fun _ => by simp [kept, fresh]⟩
    · exact (h p hp).more (fun _ x => x) (fun _ => List.mem_cons_of_mem _)
  · intro e l f t he h p hp
    rcases List.mem_cons.1 hp with rfl | hp
    · exact ⟨rfl, rfl, rfl, fun _ => rfl, .inl (by simp), (fun x => by cases x)⟩
    · exact (h p hp).more (fun _ => List.mem_cons_of_mem _) (fun _ x => x)
/-- The files of both are the tree's. -/
theorem both_files (l : List Ent) (t : List Fil) : filesOf ((bothL l t).map (·.2)) = t := by
  refine both_ind (motive := fun _ t ps => filesOf (ps.map (·.2)) = t) rfl ?_ ?_ ?_ ?_ ?_ _ l t (Nat.le_refl _)
  · intro e l h; rw [List.map_cons, filesOf_cons, h]; rfl
  · intro f t h; rw [List.map_cons, filesOf_cons, h]; rfl
  · intro e l f t he h; rw [List.map_cons, filesOf_cons, h]; simp [kept, he]
  · intro e l f t _ h; rw [List.map_cons, filesOf_cons, h]; rfl
  · intro e l f t _ h; rw [List.map_cons, filesOf_cons, h]; rfl
def newB (e : Ent) : Bool := decide (e.l = 0) && decide (e.r = 0)
/-- What was there is the archive. -/
theorem both_was (l : List Ent) (t : List Fil) (hl : ∀ e ∈ l, newB e = false) : ((bothL l t).map (·.1)).filter (fun e => !newB e) = l := by
  refine both_ind (motive := fun l _ ps => (∀ e ∈ l, newB e = false) → (ps.map (·.1)).filter (fun e => !newB e) = l) (by simp) ?_ ?_ ?_ ?_ ?_ _ l t (Nat.le_refl _) hl
  · intro e l h hl; rw [List.map_cons, List.filter_cons, h fun x hx => hl x (List.mem_cons_of_mem _ hx), hl e (by simp)]; rfl
  · intro f t h hl; rw [List.map_cons, List.filter_cons, h hl]; rfl
  · intro e l f t _ h hl; rw [List.map_cons, List.filter_cons, h fun x hx => hl x (List.mem_cons_of_mem _ hx), hl e (by simp)]; rfl
  · intro e l f t _ h hl; rw [List.map_cons, List.filter_cons, h hl]; rfl
  · intro e l f t _ h hl; rw [List.map_cons, List.filter_cons, h fun x hx => hl x (List.mem_cons_of_mem _ hx), hl e (by simp)]; rfl
/-- Each path is one of the archive's, or the tree's, and all of them are there. -/
theorem both_path {l : List Ent} {t : List Fil} {x : ByteArray} : x ∈ (bothL l t).map (·.2.path) ↔ x ∈ l.map (·.path) ∨ x ∈ t.map (·.1) := by
  refine both_ind (motive := fun l t ps => x ∈ ps.map (·.2.path) ↔ x ∈ l.map (·.path) ∨ x ∈ t.map (·.1)) (by simp) ?_ ?_ ?_ ?_ ?_ _ l t (Nat.le_refl _)
  · intro e l h; simp only [List.map_cons, List.mem_cons, h, gone, List.map_nil, List.not_mem_nil, or_false]
  · intro f t h; simp only [List.map_cons, List.mem_cons, h, kept, fresh, List.map_nil, List.not_mem_nil, false_or]
  · intro e l f t he h; simp only [List.map_cons, List.mem_cons, h, kept, he]
    constructor
    · rintro (h | h | h)
      · exact .inl (.inl h)
      · exact .inl (.inr h)
      · exact .inr (.inr h)
    · rintro ((h | h) | h | h)
      · exact .inl h
      · exact .inr (.inl h)
      · exact .inl h
      · exact .inr (.inr h)
  · intro e l f t _ h; simp only [List.map_cons, List.mem_cons, kept, fresh] at h ⊢
    rw [h]
    constructor
    · rintro (h | (h | h) | h)
      · exact .inr (.inl h)
      · exact .inl (.inl h)
      · exact .inl (.inr h)
      · exact .inr (.inr h)
    · rintro ((h | h) | h | h)
      · exact .inr (.inl (.inl h))
      · exact .inr (.inl (.inr h))
      · exact .inl h
      · exact .inr (.inr h)
  · intro e l f t _ h; simp only [List.map_cons, List.mem_cons, gone] at h ⊢
    rw [h]
    exact or_assoc.symm
def SrtP (ps : List (Ent × Ent)) : Prop := ps.Pairwise fun a b => epth a.2 < epth b.2
theorem both_srt (l : List Ent) (t : List Fil) (hl : SrtE l) (ht : Srt t) : SrtP (bothL l t) := by
  have low : ∀ (l : List Ent) (t : List Fil) (x : List UInt8), (∀ e ∈ l, x < epth e) → (∀ f ∈ t, x < pth f) → ∀ p ∈ bothL l t, x < epth p.2 := by
    intro l t x h1 h2 p hp
    have := (both_path (x := p.2.path)).1 (List.mem_map.2 ⟨p, hp, rfl⟩)
    rcases this with h | h
    · obtain ⟨e, he, h⟩ := List.mem_map.1 h
      have := h1 e he
      unfold epth at this ⊢
      rw [← h]; exact this
    · obtain ⟨f, hf, h⟩ := List.mem_map.1 h
      have := h2 f hf
      unfold pth at this
      unfold epth
      rw [← h]; exact this
  refine both_ind (motive := fun l t ps => SrtE l → Srt t → SrtP ps) (fun _ _ => List.Pairwise.nil) ?_ ?_ ?_ ?_ ?_ _ l t (Nat.le_refl _) hl ht
  · intro e l h h1 h2
    have h1' := List.pairwise_cons.1 h1
    exact List.pairwise_cons.2 ⟨low l [] _ h1'.1 (by simp), h h1'.2 h2⟩
  · intro f t h h1 h2
    have h2' := List.pairwise_cons.1 h2
    exact List.pairwise_cons.2 ⟨low [] t _ (by simp) h2'.1, h h1 h2'.2⟩
  · intro e l f t he h h1 h2
    have h1' := List.pairwise_cons.1 h1
    have h2' := List.pairwise_cons.1 h2
    have e1 : epth e = pth f := by unfold epth pth; rw [he]
    exact List.pairwise_cons.2 ⟨low l t _ h1'.1 (by intro g hg; show epth e < _; rw [e1]; exact h2'.1 g hg), h h1'.2 h2'.2⟩
  · intro e l f t he h h1 h2
    have h1' := List.pairwise_cons.1 h1
    have h2' := List.pairwise_cons.1 h2
    refine List.pairwise_cons.2 ⟨low (e :: l) t _ ?_ h2'.1, h h1 h2'.2⟩
    intro g hg
    rcases List.mem_cons.1 hg with rfl | hg
    · exact he
    · exact List.lt_trans he (h1'.1 g hg)
  · intro e l f t he h h1 h2
    have h1' := List.pairwise_cons.1 h1
    have h2' := List.pairwise_cons.1 h2
    refine List.pairwise_cons.2 ⟨low l (f :: t) _ h1'.1 ?_, h h1'.2 h2⟩
    intro g hg
    rcases List.mem_cons.1 hg with rfl | hg
    · exact he
    · exact List.lt_trans he (h2'.1 g hg)

/-! ### Scan -/
def tickL (l r a : Int) : Int × Int := if odd a then (((cl l : Nat) : Int), ((up (cl r) : Nat) : Int)) else (((up (cl l) : Nat) : Int), ((cl r : Nat) : Int))
def newE (a : Int) (p : Ent × Ent) : Ent := if p.2 = p.1 then p.2 else ⟨p.2.path, p.2.has, p.2.data, (tickL p.1.l p.1.r a).1, (tickL p.1.l p.1.r a).2⟩
def stuck (a : Int) (p : Ent × Ent) : Bool := !decide (p.2 = p.1) && decide (tickL p.1.l p.1.r a = (p.1.l, p.1.r))
def okP (a : Int) (ps : List (Ent × Ent)) : Bool := decide (ps.length ≤ 32) && ps.all fun p => !stuck a p
def outP (a : Int) (ps : List (Ent × Ent)) : List Ent := ps.map (newE a)
def chgP (ps : List (Ent × Ent)) : List ByteArray := (ps.filter fun p => !decide (p.2 = p.1)).map (·.2.path)
def scanN (l : List Ent) (t : List Fil) (a : Int) : Nat := if archR l && treeR t then (if okP a (bothL l t) then 0 else 2) else 1
def scanA (l : List Ent) (t : List Fil) (a : Int) : List Ent := if scanN l t a = 0 then outP a (bothL l t) else []
def scanC (l : List Ent) (t : List Fil) (a : Int) : List ByteArray := if scanN l t a = 0 then chgP (bothL l t) else []
theorem scanN_ok {l : List Ent} {t : List Fil} {a : Int} : scanN l t a = 0 ↔ RightA l ∧ RightT t ∧ okP a (bothL l t) = true := by
  unfold scanN
  rw [← archR_iff, ← treeR_iff]
  cases archR l <;> cases treeR t <;> cases okP a (bothL l t) <;> simp
theorem scanN_arg {l : List Ent} {t : List Fil} {a : Int} (h : (archR l && treeR t) = false) : scanN l t a = 1 := by unfold scanN; rw [h]; rfl
theorem scanN_two {l : List Ent} {t : List Fil} {a : Int} (h : (archR l && treeR t) = true) : scanN l t a = if okP a (bothL l t) then 0 else 2 := by unfold scanN; rw [h]; rfl
theorem newE_path (a : Int) (p : Ent × Ent) : (newE a p).path = p.2.path := by unfold newE; split <;> rfl
theorem newE_has (a : Int) (p : Ent × Ent) : (newE a p).has = p.2.has := by unfold newE; split <;> rfl
theorem newE_data (a : Int) (p : Ent × Ent) : (newE a p).data = p.2.data := by unfold newE; split <;> rfl
end Go.Proofs.YtlmccjdpmhancaaGreatDoor
namespace Go.Proofs.YtlmccjdpmhancaaGreatDoor
open Go.ChangeShapes Go.WideShapes Go.ChangeAt Go.RowKit Go.Deep

theorem list5 {α : Type} {l : List α} (h : l.length = 5) : ∃ a b c d e, l = [a, b, c, d, e] := by
  match l, h with
  | [a, b, c, d, e], _ => exact ⟨a, b, c, d, e, rfl⟩
theorem list4 {α : Type} {l : List α} (h : l.length = 4) : ∃ a b c d, l = [a, b, c, d] := by
  match l, h with
  | [a, b, c, d], _ => exact ⟨a, b, c, d, rfl⟩
theorem trod_ent {H : Type} {enc : TypeId × Value → H} {W : World} {base : Nat} {sp : Nat → Bool} {hd : Bool} {fuel : Nat} {cs : List Value} {y : DataW H × List MemPlace} (h : DataW.trod enc Tryz.prog W base sp hd fuel 34 cs = some y) : ∃ x : Ent, cs = eV x := by
  have hct : Tryz.prog.cellsOf 34 = 5 := by kernel_rfl
  have hcs : Tryz.prog.cellsOf 9 = 1 := by kernel_rfl
  have hcb : Tryz.prog.cellsOf 4 = 1 := by kernel_rfl
  have hci : Tryz.prog.cellsOf 3 = 1 := by kernel_rfl
  have hcp : Tryz.prog.cellsOf 32 = 2 := by kernel_rfl
  obtain ⟨xs, n, -, -, hl, hlen, hf⟩ := DataW.trod_struct Tryz.underlying34 h
  rw [hct] at hl
  obtain ⟨u0, u1, u2, u3, u4, rfl⟩ := list5 hl
  obtain ⟨y0, y1, y2, y3, rfl⟩ := list4 (hlen.trans rfl)
  have h0 := hf 0 _ rfl
  have h1 := hf 1 _ rfl
  have h2 := hf 2 _ rfl
  have h3 := hf 3 _ rfl
  simp only [List.getElem?_cons_zero, List.getElem?_cons_succ] at h0 h1 h2 h3
  obtain ⟨z0, e0, -⟩ := DataW.trod_string Tryz.underlying9 h0
  obtain ⟨z1, e1, -⟩ := DataW.trod_bool Tryz.underlying4 h1
  obtain ⟨z2, e2, -⟩ := DataW.trod_string Tryz.underlying9 h2
  obtain ⟨x0, x1, m, -, -, g0, g1⟩ := trod_struct2 Tryz.underlying32 h3
  obtain ⟨z3, e3, -⟩ := DataW.trod_int Tryz.underlying3 g0
  obtain ⟨z4, e4, -⟩ := DataW.trod_int Tryz.underlying3 g1
  simp [hci, hcp] at e3 e4
  simp [hcs] at e0 e2
  simp [hcb] at e1
  exact ⟨⟨z0, z1, z2, z3, z4⟩, by rw [e0, e1, e2, e3, e4]; rfl⟩
set_option maxRecDepth 100000 in
theorem arg__api_Entry {H : Type} {enc : TypeId × Value → H} {W : World} {base : Nat} {v : Value} {d : DataW H} {p : List MemPlace} (hv : Value.okWide Tryz.prog W .any base 22 v)
    (h : DataW.Trod enc Tryz.prog W 0 (fun _ => true) true 22 v d p) (_ : ∀ elems spare, d = .slice elems spare → (elems.length + spare.length) * Tryz.prog.bytesOf 34 ≤ reachBytes) :
    ∃ (A : Option Addr) (c : Nat) (ps : List Ent), v = .slice A ps.length c ∧ Rd W A (entV ps) ∧ ps.length ≤ c ∧ c ≤ maxLen ∧ True := by
  have hct : Tryz.prog.cellsOf 34 = 5 := by kernel_rfl
  obtain ⟨a, len, cap, rfl⟩ := okWide_slice Tryz.underlying22 hv
  obtain ⟨fuel, hf⟩ := h
  rcases open_slice Tryz.underlying22 hf with ⟨hcs, _⟩ | ⟨x, l, c, m, n, D, Pl, hcs, _, hl, hm, hmm, hx, hcell⟩
  · simp [Value.cells] at hcs
    obtain ⟨rfl, rfl, rfl⟩ := hcs
    exact ⟨none, 0, [], rfl, .inl rfl, Nat.le_refl _, by unfold maxLen; omega, trivial⟩
  · simp [Value.cells] at hcs
    obtain ⟨rfl, rfl, rfl⟩ := hcs
    have hmm' : m = cap := by simpa using hmm
    have one : ∀ i, ∃ z : Ent, i < len → ∀ k, k < 5 → W.cell? (x.add (i * 5 + k)) = (eV z)[k]? := by
      intro i
      by_cases hi : i < len
      · obtain ⟨cs', hc1, hc2⟩ := hcell i (by omega)
        rw [hct] at hc1
        obtain ⟨-, hl2, hg⟩ := World.cells?_some hc1
        obtain ⟨z, rfl⟩ := trod_ent hc2
        refine ⟨z, fun _ k hk => ?_⟩
        have := hg k (by simpa [eV] using hk)
        rw [add_assoc'] at this
        exact this
      · exact ⟨⟨noS, false, noS, 0, 0⟩, fun h => absurd h hi⟩
    obtain ⟨B, hB⟩ := Classical.axiomOfChoice one
    refine ⟨some x, cap, (List.range len).map B, by simp, ?_, by simpa using hl, hm, trivial⟩
    refine .inr ⟨x, rfl, fun j u hu => ?_⟩
    have hjl := (List.getElem?_eq_some_iff.1 hu).1
    rw [entV_length, List.length_map, List.length_range] at hjl
    have hi' : j / 5 < len := by omega
    have hi2 : j / 5 < ((List.range len).map B).length := by simpa using hi'
    have eB : ((List.range len).map B)[j / 5] = B (j / 5) := by simp
    have e := entV_at _ _ hi2 (j % 5) (by omega)
    rw [eB, show j / 5 * 5 + j % 5 = j by omega, hu] at e
    have := hB (j / 5) hi' (j % 5) (by omega)
    rw [show j / 5 * 5 + j % 5 = j by omega] at this
    rw [this, ← e]
end Go.Proofs.YtlmccjdpmhancaaGreatDoor
namespace Go.Proofs.YtlmccjdpmhancaaGreatDoor
open Go.RowKit

theorem cl_of {a : Nat} {x : Int} (h : a ≤ 1073741824) (e : x = a) : cl x = a := by unfold cl; omega

/-- What Mine tells. -/
def mineI (a b : Nat) (author : Int) : Int := if odd author then b else a

set_option maxHeartbeats 1000000 in
theorem cjoin_any {a b c d : Nat} (ha : a ≤ 1073741824) (hb : b ≤ 1073741824) (hc : c ≤ 1073741824) (hd : d ≤ 1073741824) (w : World) :
    Calls Tryz.prog 86 #[.complex .f64 (fl a) (fl b), .complex .f64 (fl c) (fl d)] w fun e w' => e = .returned (.complex .f64 (fl (max a c)) (fl (max b d))) ∧ Below w.heap.size w w' := by
  have H1 := fun (x : Int) (e : x = (max a c : Nat)) => cl_of (show max a c ≤ 1073741824 by omega) e
  have H2 := fun (x : Int) (e : x = (max b d : Nat)) => cl_of (show max b d ≤ 1073741824 by omega) e
  have H1' := hid H1
  have H2' := hid H2
  clear H1 H2
  go_enter Tryz.func86, Tryz.ntmps86
  go_wp2_with fail
  refine (pair_clk ha hb _).mono ?_
  rintro e w1 ⟨rfl, hb1⟩
  go_wp2_with fail
  refine (pair_clk hc hd _).mono ?_
  rintro e w2 ⟨rfl, hb2⟩
  have hb2' := hb1.trans (hb2.mono hb1.size)
  clear hb1 hb2
  go_wp2_with fail
  all_goals
    refine (of_any _ _ _).mono ?_
    rintro e w3 ⟨rfl, hb3⟩
    rw [H1'.out _ (by omega), H2'.out _ (by omega)]
    have hb3' : Below w.heap.size w w3 := by
      refine Below.trans ?_ (hb3.mono ?_)
      · refine Below.trans hb2' ?_
        have := hb2'.size
        go_grown
      · have := hb2'.size
        go_size
    clear hb3 hb2'
    go_wp2
    go_ret
    exact ⟨rfl, hb3'⟩

/-- What Order tells. -/
def ordI (a b c d : Nat) : Int := if a = c ∧ b = d then 0 else if a ≤ c ∧ b ≤ d then 1 else if c ≤ a ∧ d ≤ b then 2 else 3

set_option maxHeartbeats 2000000 in
theorem order_any {a b c d : Nat} (ha : a ≤ 1073741824) (hb : b ≤ 1073741824) (hc : c ≤ 1073741824) (hd : d ≤ 1073741824) (w : World) :
    Calls Tryz.prog 67 #[.complex .f64 (fl a) (fl b), .complex .f64 (fl c) (fl d)] w fun e w' => e = .returned (.int .i64 (ordI a b c d)) ∧ Below w.heap.size w w' := by
  go_enter Tryz.func67, Tryz.ntmps67
  go_wp2_with fail
  refine (pair_clk ha hb _).mono ?_
  rintro e w1 ⟨rfl, hb1⟩
  go_wp2_with fail
  refine (pair_clk hc hd _).mono ?_
  rintro e w2 ⟨rfl, hb2⟩
  have hb2' := hb1.trans (hb2.mono hb1.size)
  clear hb1 hb2 ha hb hc hd
  go_wp2
  all_goals
    go_ret
    refine ⟨ret_int ?_, ?_⟩
    · unfold ordI
      omega
    · refine Below.trans hb2' ?_
      have := hb2'.size
      go_grown
end Go.Proofs.YtlmccjdpmhancaaGreatDoor
namespace Go.Proofs.YtlmccjdpmhancaaGreatDoor
open Go.RowKit

set_option maxHeartbeats 1000000 in
theorem search_any (g : Nat) (cb : Array Value) (n k : Nat) (w : World) (eg : ∀ args w, (callFunc g args).run Tryz.prog w = .ok (.enter g args) w) (hn : n < 4611686018427387904) (hk : k ≤ n)
    (hf : ∀ W i, i < n → Below w.heap.size w W → Calls Tryz.prog g (#[.int .i64 (i : Nat)] ++ cb) W fun e w' => e = .returned (.bool (decide (k ≤ i))) ∧ Below w.heap.size w w') :
    Calls Tryz.prog 99 #[.int .i64 n, .func (.func g) #[] cb] w fun e w' => e = .returned (.int .i64 k) ∧ Below w.heap.size w w' := by
  have HF := hid hf
  clear hf
  go_enter Tryz.func99, Tryz.ntmps99
  go_wp2
  go_loopw [5, 6] (fun s5 s6 wr => ∃ lo hi : Nat, s5 = .int .i64 lo ∧ s6 = .int .i64 hi ∧ lo ≤ k ∧ k ≤ hi ∧ hi ≤ n ∧ Below w.heap.size w wr) (fun s5 s6 _ => (intOf s6).toNat - (intOf s5).toNat)
  case atStart => exact ⟨0, n, rfl, rfl, by omega, hk, Nat.le_refl _, Below.refl _ _⟩
  case round =>
    obtain ⟨lo, hi, rfl, rfl, h1, h2, h3, hb⟩ := hrel
    by_cases hlt : lo < hi
    · have hc := HF.out wr ((lo + hi) / 2) (by omega) hb
      have em : (((lo + hi) / 2 : Nat) : Int) = ((lo : Int) + (hi : Int)) / 2 := by omega
      rw [em] at hc
      have HM := hid em
      clear em
      have hlz : (lo : Int) < hi := by omega
      by_cases hm : k ≤ (lo + hi) / 2
      · rw [decide_eq_true hm] at hc
        have HMM := hid hm
        clear hm
        go_wp2_with (go_at_fn g; refine hc.mono ?_; rintro e w' ⟨rfl, hb'⟩)
        go_roundw
        case rel => exact ⟨lo, (lo + hi) / 2, rfl, by rw [HM.out], h1, HMM.out, by omega, hb'⟩
        case measure => simp [intOf]; omega
      · rw [decide_eq_false hm] at hc
        have HMM := hid hm
        clear hm
        go_wp2_with (go_at_fn g; refine hc.mono ?_; rintro e w' ⟨rfl, hb'⟩)
        go_roundw
        case rel => exact ⟨(lo + hi) / 2 + 1, hi, by rw [← HM.out]; rfl, rfl, by have := HMM.out; omega, h2, h3, hb'⟩
        case measure => simp [intOf]; omega
    · have hnlt : ¬ (lo : Int) < hi := by omega
      have e : lo = k := by omega
      go_wp2
      go_ret
      exact ⟨rfl, hb⟩
end Go.Proofs.YtlmccjdpmhancaaGreatDoor
