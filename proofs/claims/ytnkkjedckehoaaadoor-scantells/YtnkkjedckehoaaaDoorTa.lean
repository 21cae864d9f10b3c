/- Trees of files, as plain lists. -/
import Derived.Test.YtnkkjedckehoaaaDoorQs
namespace Go.Proofs.YtnkkjedckehoaaaDoor
open Go.RowKit

abbrev Fil := ByteArray × ByteArray
def pth (f : Fil) : List UInt8 := f.1.data.toList
theorem pth_mk (p : ByteArray) (d : ByteArray) : pth (p, d) = p.data.toList := rfl
theorem data_inj {a b : ByteArray} (h : a.data.toList = b.data.toList) : a = b := by rw [← mkS_of a, h, mkS_of]
theorem pth_inj {f g : Fil} (h : pth f = pth g) (h2 : f.2 = g.2) : f = g := Prod.ext (data_inj h) h2

/-- The files as cells. -/
def filV (fs : List Fil) : List Value := fs.flatMap fun f => [.string f.1, .string f.2]
theorem filV_cons (f : Fil) (fs : List Fil) : filV (f :: fs) = .string f.1 :: .string f.2 :: filV fs := rfl
theorem filV_nil : filV [] = [] := rfl
theorem filV_append (a b : List Fil) : filV (a ++ b) = filV a ++ filV b := by simp [filV]
theorem filV_length (fs : List Fil) : (filV fs).length = fs.length * 2 := by
  induction fs with
  | nil => rfl
  | cons f r ih => rw [filV_cons, List.length_cons, List.length_cons, List.length_cons, ih]; omega
theorem filV_one (l : List Fil) : ∀ u ∈ filV l, u.oneCell' = true := by
  intro u hu
  simp only [filV, List.mem_flatMap] at hu
  obtain ⟨f, _, hf⟩ := hu
  simp at hf
  rcases hf with rfl | rfl <;> rfl
theorem filV_at0 : ∀ (fs : List Fil) (j : Nat) (h : j < fs.length), (filV fs)[j * 2]? = some (.string fs[j].1)
  | f :: fs, 0, _ => rfl
  | f :: fs, j + 1, h => by
    have e : (j + 1) * 2 = j * 2 + 1 + 1 := by omega
    rw [filV_cons, e, List.getElem?_cons_succ, List.getElem?_cons_succ, filV_at0 fs j (by simpa using h)]
    rfl
theorem filV_at1 : ∀ (fs : List Fil) (j : Nat) (h : j < fs.length), (filV fs)[j * 2 + 1]? = some (.string fs[j].2)
  | f :: fs, 0, _ => rfl
  | f :: fs, j + 1, h => by
    have e : (j + 1) * 2 + 1 = (j * 2 + 1) + 1 + 1 := by omega
    rw [filV_cons, e, List.getElem?_cons_succ, List.getElem?_cons_succ, filV_at1 fs j (by simpa using h)]
    rfl
theorem filV_take (fs : List Fil) (k : Nat) : filV (fs.take k) = (filV fs).take (k * 2) := by
  by_cases h : k ≤ fs.length
  · have e : filV fs = filV (fs.take k) ++ filV (fs.drop k) := by rw [← filV_append, List.take_append_drop]
    have l : (filV (fs.take k)).length = k * 2 := by rw [filV_length, List.length_take]; omega
    rw [e, ← l, List.take_left]
  · rw [List.take_of_length_le (by omega), List.take_of_length_le (by rw [filV_length]; omega)]
theorem filV_drop (fs : List Fil) (k : Nat) : filV (fs.drop k) = (filV fs).drop (k * 2) := by
  by_cases h : k ≤ fs.length
  · have e : filV fs = filV (fs.take k) ++ filV (fs.drop k) := by rw [← filV_append, List.take_append_drop]
    have l : (filV (fs.take k)).length = k * 2 := by rw [filV_length, List.length_take]; omega
    rw [e, ← l, List.drop_left]
  · rw [List.drop_of_length_le (by omega), List.drop_of_length_le (by rw [filV_length]; omega)]
    rfl

/-! ### Right trees -/
def apartL : List (List UInt8) → Bool
  | [] => true
  | d :: r => r.all (fun s => !underL s d) && apartL r
def treeR (fs : List Fil) : Bool := decide (fs.length ≤ 16) && fs.all (fun f => decide (f.2.size ≤ 600)) && sortedL (fs.map pth) && apartL (fs.map pth)
def Srt (fs : List Fil) : Prop := fs.Pairwise fun f g => pth f < pth g
structure RightT (fs : List Fil) : Prop where
  few : fs.length ≤ 16
  srt : Srt fs
  paths : ∀ f ∈ fs, rightL (pth f) = true
  datas : ∀ f ∈ fs, f.2.size ≤ 600
  apart : ∀ f ∈ fs, ∀ g ∈ fs, underL (pth f) (pth g) = false

theorem apart_iff (L : List (List UInt8)) : apartL L = true ↔ L.Pairwise (fun d s => underL s d = false) := by
  induction L with
  | nil => simp [apartL]
  | cons d r ih =>
    rw [apartL, Bool.and_eq_true, ih, List.pairwise_cons, List.all_eq_true]
    simp
theorem under_lt {a b : List UInt8} (h : underL a b = true) : b < a := by
  have := under_less h
  rw [less_flip b a, Bool.not_not] at this
  exact (less_iff _ _).1 this
theorem treeR_iff (fs : List Fil) : treeR fs = true ↔ RightT fs := by
  unfold treeR
  simp only [Bool.and_eq_true, decide_eq_true_eq, List.all_eq_true]
  constructor
  · rintro ⟨⟨⟨h1, h2⟩, h3⟩, h4⟩
    have hs : Srt fs := List.pairwise_map.1 (srt_pair h3)
    refine ⟨h1, hs, fun f hf => srt_right h3 _ (List.mem_map_of_mem hf), h2, ?_⟩
    have h5 := List.pairwise_map.1 ((apart_iff _).1 h4)
    intro f hf g hg
    refine not_true fun hu => ?_
    obtain ⟨i, hi, rfl⟩ := List.mem_iff_getElem.1 hf
    obtain ⟨k, hk, rfl⟩ := List.mem_iff_getElem.1 hg
    have hlt := under_lt hu
    rcases Nat.lt_trichotomy i k with h | h | h
    · exact List.lt_asymm hlt ((List.pairwise_iff_getElem.1 hs) i k hi hk h)
    · subst h; exact List.lt_irrefl _ hlt
    · rw [(List.pairwise_iff_getElem.1 h5) k i hk hi h] at hu
      cases hu
  · rintro ⟨h1, h2, h3, h4, h5⟩
    refine ⟨⟨⟨h1, h4⟩, srt_mk ?_ (List.pairwise_map.2 h2)⟩, (apart_iff _).2 (List.pairwise_map.2 ?_)⟩
    · intro s hs
      obtain ⟨f, hf, rfl⟩ := List.mem_map.1 hs
      exact h3 f hf
    · rw [List.pairwise_iff_getElem]
      intro i k hi hk _
      exact h5 _ (List.getElem_mem hk) _ (List.getElem_mem hi)
theorem treeR_no {fs : List Fil} (h : ¬ RightT fs) : treeR fs = false := not_true fun e => h ((treeR_iff fs).1 e)

theorem lt_tri (a b : List UInt8) : a < b ∨ a = b ∨ b < a := by
  by_cases h : a < b
  · exact .inl h
  · rcases List.le_iff_lt_or_eq.1 (List.not_lt.1 h) with h | h
    · exact .inr (.inr h)
    · exact .inr (.inl h.symm)
theorem less_no {a b : List UInt8} (h : ¬ a < b) : Op.bytesLess a b = false := not_true fun e => h ((less_iff _ _).1 e)

theorem Srt.unique : ∀ {a b : List Fil}, Srt a → Srt b → (∀ f, f ∈ a ↔ f ∈ b) → a = b
  | [], [], _, _, _ => rfl
  | [], y :: b, _, _, h => absurd ((h y).2 (by simp)) (by simp)
  | x :: a, [], _, _, h => absurd ((h x).1 (by simp)) (by simp)
  | x :: a, y :: b, ha, hb, h => by
    have ha' := List.pairwise_cons.1 ha
    have hb' := List.pairwise_cons.1 hb
    have hxy : x = y := by
      rcases List.mem_cons.1 ((h x).1 (by simp)) with e | e
      · exact e
      · rcases List.mem_cons.1 ((h y).2 (by simp)) with e2 | e2
        · exact e2.symm
        · exact absurd (List.lt_trans (ha'.1 y e2) (hb'.1 x e)) (List.lt_irrefl _)
    subst hxy
    have : a = b := Srt.unique ha'.2 hb'.2 fun f => by
      constructor
      · intro hf
        rcases List.mem_cons.1 ((h f).1 (List.mem_cons_of_mem _ hf)) with e | e
        · subst e; exact absurd (ha'.1 _ hf) (List.lt_irrefl _)
        · exact e
      · intro hf
        rcases List.mem_cons.1 ((h f).2 (List.mem_cons_of_mem _ hf)) with e | e
        · subst e; exact absurd (hb'.1 _ hf) (List.lt_irrefl _)
        · exact e
    rw [this]
theorem Srt.inj {fs : List Fil} (h : Srt fs) {f g : Fil} (hf : f ∈ fs) (hg : g ∈ fs) (e : pth f = pth g) : f = g := by
  obtain ⟨i, hi, rfl⟩ := List.mem_iff_getElem.1 hf
  obtain ⟨k, hk, rfl⟩ := List.mem_iff_getElem.1 hg
  rcases Nat.lt_trichotomy i k with h2 | h2 | h2
  · have := (List.pairwise_iff_getElem.1 h) i k hi hk h2
    rw [e] at this
    exact absurd this (List.lt_irrefl _)
  · subst h2; rfl
  · have := (List.pairwise_iff_getElem.1 h) k i hk hi h2
    rw [e] at this
    exact absurd this (List.lt_irrefl _)

/-! ### Where a path stands -/
def lowT (fs : List Fil) (p : List UInt8) : List Fil := fs.filter fun f => Op.bytesLess (pth f) p
def highT (fs : List Fil) (p : List UInt8) : List Fil := fs.filter fun f => Op.bytesLess p (pth f)
def thereT (fs : List Fil) (p : List UInt8) : Bool := fs.any fun f => pth f == p
theorem mem_low {fs : List Fil} {p : List UInt8} {f : Fil} : f ∈ lowT fs p ↔ f ∈ fs ∧ pth f < p := by rw [lowT, List.mem_filter, less_iff]
theorem mem_high {fs : List Fil} {p : List UInt8} {f : Fil} : f ∈ highT fs p ↔ f ∈ fs ∧ p < pth f := by rw [highT, List.mem_filter, less_iff]
theorem there_iff {fs : List Fil} {p : List UInt8} : thereT fs p = true ↔ ∃ f ∈ fs, pth f = p := by simp [thereT]
theorem there_no {fs : List Fil} {p : List UInt8} : thereT fs p = false ↔ ∀ f ∈ fs, pth f ≠ p := by simp [thereT]
theorem split_tree : ∀ {fs : List Fil} (p : List UInt8), Srt fs → (thereT fs p = false ∧ fs = lowT fs p ++ highT fs p) ∨ (∃ d, thereT fs p = true ∧ fs = lowT fs p ++ (mkS p, d) :: highT fs p)
  | [], p, _ => .inl ⟨rfl, rfl⟩
  | f :: r, p, h => by
    have h' := List.pairwise_cons.1 h
    have tail : p ≤ pth f → lowT r p = [] ∧ highT r p = r ∧ thereT r p = false := by
      intro hp
      have hr : ∀ g ∈ r, p < pth g := fun g hg => by
        rcases List.le_iff_lt_or_eq.1 hp with e | e
        · exact List.lt_trans e (h'.1 g hg)
        · rw [e]; exact h'.1 g hg
      refine ⟨List.filter_eq_nil_iff.2 fun g hg => ?_, List.filter_eq_self.2 fun g hg => (less_iff _ _).2 (hr g hg), there_no.2 fun g hg e => ?_⟩
      · rw [less_iff]; exact List.lt_asymm (hr g hg)
      · have := hr g hg
        rw [e] at this
        exact List.lt_irrefl _ this
    rcases lt_tri (pth f) p with h1 | h1 | h1
    · have e1 : lowT (f :: r) p = f :: lowT r p := List.filter_cons_of_pos ((less_iff _ _).2 h1)
      have e2 : highT (f :: r) p = highT r p := List.filter_cons_of_neg (by rw [less_iff]; exact List.lt_asymm h1)
      have e3 : thereT (f :: r) p = thereT r p := by
        rw [thereT, List.any_cons, show (pth f == p) = false by
          rw [beq_eq_false_iff_ne]
          intro e
          rw [e] at h1
          exact List.lt_irrefl _ h1]
        rfl
      rw [e1, e2, e3]
      rcases split_tree p h'.2 with ⟨a, b⟩ | ⟨d, a, b⟩
      · exact .inl ⟨a, by rw [List.cons_append, ← b]⟩
      · exact .inr ⟨d, a, by rw [List.cons_append, ← b]⟩
    · obtain ⟨t1, t2, t3⟩ := tail (by rw [h1]; exact List.le_refl _)
      have e1 : lowT (f :: r) p = [] := by rw [← t1]; exact List.filter_cons_of_neg (by rw [less_iff, h1]; exact List.lt_irrefl _)
      have e2 : highT (f :: r) p = r := by rw [highT, List.filter_cons_of_neg (by rw [less_iff, h1]; exact List.lt_irrefl _)]; exact t2
      refine .inr ⟨f.2, there_iff.2 ⟨f, by simp, h1⟩, ?_⟩
      rw [e1, e2, ← h1]
      have : (mkS (pth f), f.2) = f := by rw [pth, mkS_of]
      rw [this]; rfl
    · obtain ⟨t1, t2, t3⟩ := tail (List.le_of_lt h1)
      have e1 : lowT (f :: r) p = [] := by rw [← t1]; exact List.filter_cons_of_neg (by rw [less_iff]; exact List.lt_asymm h1)
      have e2 : highT (f :: r) p = f :: r := by
        have e : highT (f :: r) p = f :: highT r p := List.filter_cons_of_pos (p := fun f => Op.bytesLess p (pth f)) ((less_iff _ _).2 h1)
        rw [e, t2]
      refine .inl ⟨there_no.2 fun g hg e => ?_, by rw [e1, e2]; rfl⟩
      rcases List.mem_cons.1 hg with rfl | hg
      · rw [e] at h1; exact List.lt_irrefl _ h1
      · exact there_no.1 t3 g hg e
theorem low_len {fs : List Fil} (p : List UInt8) : (lowT fs p).length ≤ fs.length := List.length_filter_le _ _
/-- Below the place the paths are less, from there on they are not. -/
theorem low_at {fs : List Fil} {p : List UInt8} (h : Srt fs) {i : Nat} (hi : i < fs.length) : Op.bytesLess (pth fs[i]) p = decide (i < (lowT fs p).length) := by
  have key : i < (lowT fs p).length ↔ pth fs[i] < p := by
    rcases split_tree p h with ⟨_, b⟩ | ⟨d, _, b⟩
    · constructor
      · intro hl
        have : fs[i] = (lowT fs p)[i] := by rw [List.getElem_of_eq b, List.getElem_append_left hl]
        rw [this]; exact (mem_low.1 (List.getElem_mem hl)).2
      · intro hl
        refine Nat.not_le.1 fun hn => ?_
        have : fs[i] = (highT fs p)[i - (lowT fs p).length]'(by have := congrArg List.length b; rw [List.length_append] at this; omega) := by rw [List.getElem_of_eq b, List.getElem_append_right hn]
        rw [this] at hl
        exact List.lt_asymm hl (mem_high.1 (List.getElem_mem _)).2
    · constructor
      · intro hl
        have : fs[i] = (lowT fs p)[i] := by rw [List.getElem_of_eq b, List.getElem_append_left hl]
        rw [this]; exact (mem_low.1 (List.getElem_mem hl)).2
      · intro hl
        refine Nat.not_le.1 fun hn => ?_
        have : fs[i] = ((mkS p, d) :: highT fs p)[i - (lowT fs p).length]'(by have := congrArg List.length b; rw [List.length_append] at this; omega) := by rw [List.getElem_of_eq b, List.getElem_append_right hn]
        rw [this] at hl
        have hm := List.getElem_mem (l := (mkS p, d) :: highT fs p) (n := i - (lowT fs p).length) (by have := congrArg List.length b; rw [List.length_append] at this; omega)
        rcases List.mem_cons.1 hm with e | e
        · rw [e, pth_mk, mkS_data] at hl; exact List.lt_irrefl _ hl
        · exact List.lt_asymm hl (mem_high.1 e).2
  rw [Bool.eq_iff_iff, less_iff, decide_eq_true_eq]
  exact key.symm
/-- The path is there just where it stands at its place. -/
theorem there_at {fs : List Fil} {p : List UInt8} (h : Srt fs) : thereT fs p = true ↔ ∃ hl : (lowT fs p).length < fs.length, pth fs[(lowT fs p).length] = p := by
  rcases split_tree p h with ⟨a, b⟩ | ⟨d, a, b⟩
  · rw [a]
    constructor
    · intro h; cases h
    · rintro ⟨hl, e⟩
      exact absurd e (there_no.1 a _ (List.getElem_mem _))
  · have hl : (lowT fs p).length < fs.length := by have := congrArg List.length b; rw [List.length_append, List.length_cons] at this; omega
    have e : fs[(lowT fs p).length] = (mkS p, d) := by
      rw [List.getElem_of_eq b, List.getElem_append_right (Nat.le_refl _)]
      simp
    exact ⟨fun _ => ⟨hl, by rw [e]; rfl⟩, fun _ => a⟩

/-! ### What is put, and dropped -/
def putL (fs : List Fil) (p d : ByteArray) : List Fil := lowT fs p.data.toList ++ (p, d) :: highT fs p.data.toList
def dropL (fs : List Fil) (p : List UInt8) : List Fil := lowT fs p ++ highT fs p
theorem mem_drop {fs : List Fil} {p : List UInt8} {f : Fil} : f ∈ dropL fs p ↔ f ∈ fs ∧ pth f ≠ p := by
  rw [dropL, List.mem_append, mem_low, mem_high]
  constructor
  · rintro (⟨h1, h2⟩ | ⟨h1, h2⟩)
    · exact ⟨h1, fun e => by rw [e] at h2; exact List.lt_irrefl _ h2⟩
    · exact ⟨h1, fun e => by rw [e] at h2; exact List.lt_irrefl _ h2⟩
  · rintro ⟨h1, h2⟩
    rcases lt_tri (pth f) p with h | h | h
    · exact .inl ⟨h1, h⟩
    · exact absurd h h2
    · exact .inr ⟨h1, h⟩
theorem mem_put {fs : List Fil} {p d : ByteArray} {f : Fil} : f ∈ putL fs p d ↔ f = (p, d) ∨ (f ∈ fs ∧ pth f ≠ p.data.toList) := by
  have := mem_drop (fs := fs) (p := p.data.toList) (f := f)
  rw [dropL, List.mem_append] at this
  rw [putL, List.mem_append, List.mem_cons, ← this]
  constructor
  · rintro (h | h | h)
    · exact .inr (.inl h)
    · exact .inl h
    · exact .inr (.inr h)
  · rintro (h | h | h)
    · exact .inr (.inl h)
    · exact .inl h
    · exact .inr (.inr h)
theorem srt_low {fs : List Fil} (h : Srt fs) (p : List UInt8) : Srt (lowT fs p) := h.filter _
theorem srt_high {fs : List Fil} (h : Srt fs) (p : List UInt8) : Srt (highT fs p) := h.filter _
theorem srt_drop {fs : List Fil} (h : Srt fs) (p : List UInt8) : Srt (dropL fs p) :=
  List.pairwise_append.2 ⟨srt_low h p, srt_high h p, fun _ hf _ hg => List.lt_trans (mem_low.1 hf).2 (mem_high.1 hg).2⟩
theorem srt_put {fs : List Fil} (h : Srt fs) (p d : ByteArray) : Srt (putL fs p d) := by
  refine List.pairwise_append.2 ⟨srt_low h _, List.pairwise_cons.2 ⟨fun g hg => (mem_high.1 hg).2, srt_high h _⟩, fun f hf g hg => ?_⟩
  rcases List.mem_cons.1 hg with rfl | hg
  · exact (mem_low.1 hf).2
  · exact List.lt_trans (mem_low.1 hf).2 (mem_high.1 hg).2
theorem drop_len {fs : List Fil} (h : Srt fs) (p : List UInt8) : (dropL fs p).length = fs.length - (if thereT fs p then 1 else 0) := by
  rcases split_tree p h with ⟨a, b⟩ | ⟨d, a, b⟩
  · rw [a, dropL, ← b]; rfl
  · have := congrArg List.length b
    rw [List.length_append, List.length_cons] at this
    rw [a, dropL, List.length_append]
    simp only [if_true]
    omega
theorem put_len {fs : List Fil} (h : Srt fs) (p d : ByteArray) : (putL fs p d).length = fs.length + (if thereT fs p.data.toList then 0 else 1) := by
  rcases split_tree p.data.toList h with ⟨a, b⟩ | ⟨x, a, b⟩
  · have := congrArg List.length b
    rw [List.length_append] at this
    rw [a, putL, List.length_append, List.length_cons]
    simp only [Bool.false_eq_true, if_false]
    omega
  · have := congrArg List.length b
    rw [List.length_append, List.length_cons] at this
    rw [a, putL, List.length_append, List.length_cons]
    simp only [if_true]
    omega
def clashT (fs : List Fil) (p : List UInt8) : Bool := fs.any fun f => clashL (pth f) p
theorem clash_no {fs : List Fil} {p : List UInt8} : clashT fs p = false ↔ ∀ f ∈ fs, underL (pth f) p = false ∧ underL p (pth f) = false := by simp [clashT, clashL]
theorem right_drop {fs : List Fil} (h : RightT fs) (p : List UInt8) : RightT (dropL fs p) where
  few := by have := drop_len h.srt p; have := h.few; omega
  srt := srt_drop h.srt p
  paths := fun f hf => h.paths f (mem_drop.1 hf).1
  datas := fun f hf => h.datas f (mem_drop.1 hf).1
  apart := fun f hf g hg => h.apart f (mem_drop.1 hf).1 g (mem_drop.1 hg).1
theorem right_put {fs : List Fil} (h : RightT fs) {p d : ByteArray} (hp : rightL p.data.toList = true) (hc : clashT fs p.data.toList = false) (hd : d.size ≤ 600) (hl : thereT fs p.data.toList = true ∨ fs.length < 16) : RightT (putL fs p d) where
  few := by
    have h1 := put_len h.srt p d
    have h2 := h.few
    rcases hl with hl | hl
    · rw [hl] at h1
      simp only [if_true] at h1
      omega
    · split at h1 <;> omega
  srt := srt_put h.srt p d
  paths := fun f hf => by
    rcases mem_put.1 hf with rfl | hf
    · exact hp
    · exact h.paths f hf.1
  datas := fun f hf => by
    rcases mem_put.1 hf with rfl | hf
    · exact hd
    · exact h.datas f hf.1
  apart := fun f hf g hg => by
    have hc' := clash_no.1 hc
    rcases mem_put.1 hf with rfl | hf <;> rcases mem_put.1 hg with rfl | hg
    · exact under_self _
    · exact (hc' g hg.1).2
    · exact (hc' f hf.1).1
    · exact h.apart f hf.1 g hg.1

/-! ### The answers -/
def findT (fs : List Fil) (p : List UInt8) : Int := if treeR fs && thereT fs p then ((lowT fs p).length : Int) else -1
def dataAt (fs : List Fil) (p : List UInt8) : Option ByteArray := (fs.find? fun f => pth f == p).map (·.2)
def getT (fs : List Fil) (p : List UInt8) : Option ByteArray := if treeR fs then dataAt fs p else none
def putE (fs : List Fil) (p d : ByteArray) : Nat :=
  if !treeR fs then 1 else if !rightL p.data.toList || clashT fs p.data.toList then 6 else if decide (600 < d.size) || (!thereT fs p.data.toList && decide (fs.length = 16)) then 2 else 0
def putT (fs : List Fil) (p d : ByteArray) : List Fil := if putE fs p d = 0 then putL fs p d else []
def dropE (fs : List Fil) (p : List UInt8) : Nat := if !treeR fs then 1 else if !thereT fs p then 3 else 0
def dropT (fs : List Fil) (p : List UInt8) : List Fil := if dropE fs p = 0 then dropL fs p else []
def inT (fs : List Fil) (d : List UInt8) : List ByteArray := if treeR fs then (fs.filter fun f => underL (pth f) d).map (·.1) else []
def sizeT (fs : List Fil) : Nat := (fs.map fun f => f.2.size).sum
theorem data_iff {fs : List Fil} (h : Srt fs) {p x : ByteArray} : dataAt fs p.data.toList = some x ↔ (p, x) ∈ fs := by
  unfold dataAt
  constructor
  · intro e
    obtain ⟨f, h1, rfl⟩ := Option.map_eq_some_iff.1 e
    have h2 := List.find?_some h1
    have h3 := List.mem_of_find?_eq_some h1
    have : (p, f.2) = f := pth_inj (by rw [pth_mk]; exact (by simpa using h2 : pth f = p.data.toList).symm) rfl
    rw [this]; exact h3
  · intro hm
    cases hf : fs.find? (fun f => pth f == p.data.toList) with
    | none =>
      have := List.find?_eq_none.1 hf (p, x) hm
      simp [pth] at this
    | some f =>
      have h2 := List.find?_some hf
      have h3 := List.mem_of_find?_eq_some hf
      have : f = (p, x) := h.inj h3 hm (show pth f = p.data.toList by simpa using h2)
      rw [this]; rfl
theorem data_some {fs : List Fil} {p : List UInt8} : (dataAt fs p).isSome = thereT fs p := by
  unfold dataAt thereT
  rw [Option.isSome_map, Bool.eq_iff_iff, List.find?_isSome]
  simp
theorem putE_zero {fs : List Fil} {p d : ByteArray} : putE fs p d = 0 ↔ RightT fs ∧ rightL p.data.toList = true ∧ clashT fs p.data.toList = false ∧ d.size ≤ 600 ∧ (thereT fs p.data.toList = true ∨ fs.length < 16) := by
  unfold putE
  constructor
  · intro h
    split at h
    · cases h
    · rename_i h1
      have hR := (treeR_iff fs).1 (by simpa using h1)
      split at h
      · cases h
      · rename_i h2
        split at h
        · cases h
        · rename_i h3
          simp at h2 h3
          refine ⟨hR, h2.1, h2.2, h3.1, ?_⟩
          have := hR.few
          cases ht : thereT fs p.data.toList with
          | true => exact .inl rfl
          | false => have := h3.2 ht; exact .inr (by omega)
  · rintro ⟨h1, h2, h3, h4, h5⟩
    rw [(treeR_iff fs).2 h1, h2, h3]
    have : (!thereT fs p.data.toList && decide (fs.length = 16)) = false := by
      rcases h5 with h5 | h5
      · rw [h5]; rfl
      · rw [decide_eq_false (by omega)]; simp
    rw [this]
    simp; omega
theorem dropE_zero {fs : List Fil} {p : List UInt8} : dropE fs p = 0 ↔ RightT fs ∧ thereT fs p = true := by
  unfold dropE
  rw [← treeR_iff]
  cases treeR fs <;> cases thereT fs p <;> simp
theorem right_putT {fs : List Fil} {p d : ByteArray} (h : putE fs p d = 0) : RightT (putL fs p d) := by
  obtain ⟨h1, h2, h3, h4, h5⟩ := putE_zero.1 h
  exact right_put h1 h2 h3 h4 h5
end Go.Proofs.YtnkkjedckehoaaaDoor
