/- The texts Sa, ArgE, Cc, Ja, Jl, Tb, Tc, Td, Te, Tf, Sb, Sc, Cp, Tg, Sd, Se, in one. -/
import Derived.Test.YtaidggjnpnfdhaaGreatDoorP0
import Derived.Deep.Slices
import Derived.Lib.SmallJoins
import Derived.Deep.QuietTactic
import Derived.BigQuiet
import Derived.Shelf.Abstract
import Derived.Deep.DeepCutAuto
import Derived.Deep.OwnRows
import Derived.Laws.StructEq
import Derived.Handy
import Derived.Deep.RegionHeld3
import Derived.Deep.AppendSrc
import Derived.Lib.AppendZeros
import Derived.Laws.CopyRow
import Derived.Laws.CopyOwn
import Derived.RangeFuncNested
import Derived.RangeFuncBound
import Derived.RangeFuncBox
import Derived.RangeFuncCalls
import Derived.RangeFuncLeaves
import Derived.OwnWalkIn
import Derived.TacticsInMore
import Derived.LoopNIn
import Derived.LoopIn
import Derived.Maps.AppendAt
namespace Go.Proofs.YtaidggjnpnfdhaaGreatDoor
open Go.RowKit

structure Ent where
  path : ByteArray
  has : Bool
  data : ByteArray
  l : Int
  r : Int
theorem Ent.same {a b : Ent} (h1 : a.path = b.path) (h2 : a.has = b.has) (h3 : a.data = b.data) (h4 : a.l = b.l) (h5 : a.r = b.r) : a = b := by
  cases a; cases b; simp only at h1 h2 h3 h4 h5; subst h1 h2 h3 h4 h5; rfl
instance : DecidableEq Ent := fun a b =>
  decidable_of_iff (a.path = b.path ∧ a.has = b.has ∧ a.data = b.data ∧ a.l = b.l ∧ a.r = b.r)
    ⟨fun h => Ent.same h.1 h.2.1 h.2.2.1 h.2.2.2.1 h.2.2.2.2, fun h => by subst h; exact ⟨rfl, rfl, rfl, rfl, rfl⟩⟩

/-- The empty string. -/
abbrev noS : ByteArray := ⟨#[]⟩
def epth (e : Ent) : List UInt8 := e.path.data.toList
theorem epth_inj {a b : Ent} : epth a = epth b ↔ a.path = b.path := ⟨fun h => data_inj h, fun h => by unfold epth; rw [h]⟩

/-! ### Entries as cells -/
def eV (e : Ent) : List Value := [.string e.path, .bool e.has, .string e.data, .int .i64 e.l, .int .i64 e.r]
def entV (es : List Ent) : List Value := es.flatMap eV
theorem entV_nil : entV [] = [] := rfl
theorem entV_cons (e : Ent) (es : List Ent) : entV (e :: es) = eV e ++ entV es := rfl
theorem entV_append (a b : List Ent) : entV (a ++ b) = entV a ++ entV b := by simp [entV]
theorem entV_length (es : List Ent) : (entV es).length = es.length * 5 := by
  induction es with
  | nil => rfl
  | cons e r ih => rw [entV_cons, List.length_append, List.length_cons, ih]; simp only [eV, List.length_cons, List.length_nil]; omega
theorem entV_one (l : List Ent) : ∀ u ∈ entV l, u.oneCell' = true := by
  intro u hu
  simp only [entV, List.mem_flatMap] at hu
  obtain ⟨e, _, he⟩ := hu
  simp [eV] at he
  rcases he with rfl | rfl | rfl | rfl | rfl <;> rfl
theorem entV_at : ∀ (es : List Ent) (j : Nat) (h : j < es.length) (q : Nat), q < 5 → (entV es)[j * 5 + q]? = (eV es[j])[q]?
  | e :: es, 0, _, q, hq => by
    rw [entV_cons, List.getElem?_append_left (by simp only [eV, List.length_cons, List.length_nil]; omega), Nat.zero_mul, Nat.zero_add]; rfl
  | e :: es, j + 1, h, q, hq => by
    have e5 : (eV e).length = 5 := rfl
    rw [entV_cons, List.getElem?_append_right (by rw [e5]; omega), e5, show (j + 1) * 5 + q - 5 = j * 5 + q by omega, entV_at es j (by simpa using h) q hq]
    rfl
theorem entV_take (es : List Ent) (k : Nat) : entV (es.take k) = (entV es).take (k * 5) := by
  by_cases h : k ≤ es.length
  · have e : entV es = entV (es.take k) ++ entV (es.drop k) := by rw [← entV_append, List.take_append_drop]
    have l : (entV (es.take k)).length = k * 5 := by rw [entV_length, List.length_take]; omega
    rw [e, ← l, List.take_left]
  · rw [List.take_of_length_le (by omega), List.take_of_length_le (by rw [entV_length]; omega)]
theorem entV_drop (es : List Ent) (k : Nat) : entV (es.drop k) = (entV es).drop (k * 5) := by
  by_cases h : k ≤ es.length
  · have e : entV es = entV (es.take k) ++ entV (es.drop k) := by rw [← entV_append, List.take_append_drop]
    have l : (entV (es.take k)).length = k * 5 := by rw [entV_length, List.length_take]; omega
    rw [e, ← l, List.drop_left]
  · rw [List.drop_of_length_le (by omega), List.drop_of_length_le (by rw [entV_length]; omega)]
    rfl
theorem Rd.ent {w : World} {A : Option Addr} {es : List Ent} (h : Rd w A (entV es)) {j : Nat} (hj : j < es.length) :
    ∃ b off, A = some ⟨b, off, none⟩ ∧ w.cell? ⟨b, off + j * 5, none⟩ = some (.string es[j].path) ∧ w.cell? ⟨b, off + j * 5 + 1, none⟩ = some (.bool es[j].has) ∧ w.cell? ⟨b, off + j * 5 + 2, none⟩ = some (.string es[j].data) ∧
      w.cell? ⟨b, off + j * 5 + 3, none⟩ = some (.int .i64 es[j].l) ∧ w.cell? ⟨b, off + j * 5 + 4, none⟩ = some (.int .i64 es[j].r) ∧ b < w.heap.size := by
  have hl := entV_length es
  obtain ⟨b, off, rfl, -, hb⟩ := h.at_ (k := j * 5) (by omega)
  have g : ∀ q, q < 5 → w.cell? ⟨b, off + j * 5 + q, none⟩ = (eV es[j])[q]? := by
    intro q hq
    rw [Nat.add_assoc]
    obtain ⟨b', off', e, hc, -⟩ := h.at_ (k := j * 5 + q) (by omega)
    injection e with e; injection e with e1 e2; subst e1 e2
    rw [hc, ← List.getElem?_eq_getElem, entV_at es j hj q hq]
  exact ⟨b, off, rfl, g 0 (by omega), g 1 (by omega), g 2 (by omega), g 3 (by omega), g 4 (by omega), hb⟩

/-! ### Right archives -/
def filesOf (es : List Ent) : List Fil := (es.filter (·.has)).map fun e => (e.path, e.data)
theorem filesOf_cons (e : Ent) (es : List Ent) : filesOf (e :: es) = if e.has then (e.path, e.data) :: filesOf es else filesOf es := by
  unfold filesOf
  rw [List.filter_cons]
  split <;> rfl
theorem filesOf_append (a b : List Ent) : filesOf (a ++ b) = filesOf a ++ filesOf b := by simp [filesOf]
theorem filesOf_len (es : List Ent) : (filesOf es).length ≤ es.length := by rw [filesOf, List.length_map]; exact List.length_filter_le _ _
theorem mem_files {es : List Ent} {f : Fil} : f ∈ filesOf es ↔ ∃ e ∈ es, e.has = true ∧ f = (e.path, e.data) := by
  simp only [filesOf, List.mem_map, List.mem_filter]
  constructor
  · rintro ⟨e, ⟨h1, h2⟩, rfl⟩; exact ⟨e, h1, h2, rfl⟩
  · rintro ⟨e, h1, h2, rfl⟩; exact ⟨e, ⟨h1, h2⟩, rfl⟩
def fineE (e : Ent) : Bool := rt e.l e.r && !(decide (e.l = 0) && decide (e.r = 0)) && (e.has || decide (e.data = noS))
def archR (es : List Ent) : Bool := decide (es.length ≤ 32) && es.all fineE && sortedL (es.map epth) && treeR (filesOf es)
def SrtE (es : List Ent) : Prop := es.Pairwise fun a b => epth a < epth b
structure RightA (es : List Ent) : Prop where
  few : es.length ≤ 32
  srt : SrtE es
  paths : ∀ e ∈ es, rightL (epth e) = true
  fine : ∀ e ∈ es, fineE e = true
  tree : treeR (filesOf es) = true
theorem archR_iff (es : List Ent) : archR es = true ↔ RightA es := by
  unfold archR
  simp only [Bool.and_eq_true, decide_eq_true_eq, List.all_eq_true]
  constructor
  · rintro ⟨⟨⟨h1, h2⟩, h3⟩, h4⟩
    exact ⟨h1, List.pairwise_map.1 (srt_pair h3), fun e he => srt_right h3 _ (List.mem_map_of_mem he), h2, h4⟩
  · rintro ⟨h1, h2, h3, h4, h5⟩
    refine ⟨⟨⟨h1, h4⟩, srt_mk ?_ (List.pairwise_map.2 h2)⟩, h5⟩
    intro s hs
    obtain ⟨e, he, rfl⟩ := List.mem_map.1 hs
    exact h3 e he
theorem archR_no {es : List Ent} (h : ¬ RightA es) : archR es = false := not_true fun e => h ((archR_iff es).1 e)
theorem fineE_iff (e : Ent) : fineE e = true ↔ (0 ≤ e.l ∧ e.l ≤ 1073741824 ∧ 0 ≤ e.r ∧ e.r ≤ 1073741824) ∧ ¬ (e.l = 0 ∧ e.r = 0) ∧ (e.has = true ∨ e.data = noS) := by
  unfold fineE rt
  simp only [Bool.and_eq_true, decide_eq_true_eq, Bool.or_eq_true, Bool.not_eq_true', Bool.and_eq_false_iff, decide_eq_false_iff_not, and_assoc]
  constructor
  · rintro ⟨a, b, c, d, e, f⟩; exact ⟨a, b, c, d, by omega, f⟩
  · rintro ⟨a, b, c, d, e, f⟩; exact ⟨a, b, c, d, by omega, f⟩

/-- Where a path stands. -/
def idxE (es : List Ent) (p : ByteArray) : Int := if es.any (fun e => decide (e.path = p)) then (es.findIdx (fun e => decide (e.path = p)) : Int) else -1
theorem idxE_at {es : List Ent} {p : ByteArray} {j : Nat} (hj : j < es.length) (h : es[j].path = p) (hn : ∀ k (hk : k < es.length), k < j → es[k].path ≠ p) : idxE es p = j := by
  unfold idxE
  rw [if_pos (List.any_eq_true.2 ⟨_, List.getElem_mem hj, decide_eq_true h⟩)]
  rw [(List.findIdx_eq hj).2 ⟨decide_eq_true h, fun k hk => by simpa using hn k (by omega) hk⟩]
theorem idxE_no {es : List Ent} {p : ByteArray} (hn : ∀ e ∈ es, e.path ≠ p) : idxE es p = -1 := by
  unfold idxE
  rw [if_neg]
  simp only [List.any_eq_true, not_exists, not_and, decide_eq_true_eq]
  exact hn
theorem idxE_cases (es : List Ent) (p : ByteArray) : (idxE es p = -1 ∧ ∀ e ∈ es, e.path ≠ p) ∨ ∃ (j : Nat) (hj : j < es.length), idxE es p = j ∧ es[j].path = p := by
  by_cases h : es.any (fun e => decide (e.path = p)) = true
  · right
    obtain ⟨e, he, hp⟩ := List.any_eq_true.1 h
    have hl : es.findIdx (fun e => decide (e.path = p)) < es.length := List.findIdx_lt_length.2 ⟨e, he, hp⟩
    refine ⟨_, hl, by unfold idxE; rw [if_pos h], ?_⟩
    simpa using List.findIdx_getElem (w := hl)
  · left
    have hn : ∀ e ∈ es, e.path ≠ p := by
      intro e he hp
      exact h (List.any_eq_true.2 ⟨e, he, decide_eq_true hp⟩)
    exact ⟨idxE_no hn, hn⟩
theorem SrtE.inj {es : List Ent} (h : SrtE es) {i j : Nat} (hi : i < es.length) (hj : j < es.length) (e : es[i].path = es[j].path) : i = j := by
  have hp := List.pairwise_iff_getElem.1 h
  rcases Nat.lt_trichotomy i j with h1 | h1 | h1
  · have := hp i j hi hj h1; rw [epth, epth, e] at this; exact absurd this (List.lt_irrefl _)
  · exact h1
  · have := hp j i hj hi h1; rw [epth, epth, e] at this; exact absurd this (List.lt_irrefl _)
theorem idxE_srt {es : List Ent} (h : SrtE es) {j : Nat} (hj : j < es.length) : idxE es es[j].path = j :=
  idxE_at hj rfl fun _ hk hkj e => by have := h.inj hk hj e; omega

/-! ### Both, gone over -/
def gone (e : Ent) : Ent := ⟨e.path, false, noS, e.l, e.r⟩
def kept (e : Ent) (d : ByteArray) : Ent := ⟨e.path, true, d, e.l, e.r⟩
def fresh (p : ByteArray) : Ent := ⟨p, false, noS, 0, 0⟩
def bothL : List Ent → List Fil → List (Ent × Ent)
  | [], [] => []
  | e :: l, [] => (e, gone e) :: bothL l []
  | [], f :: t => (fresh f.1, kept (fresh f.1) f.2) :: bothL [] t
  | e :: l, f :: t =>
    if e.path = f.1 then (e, kept e f.2) :: bothL l t
    else if Op.bytesLess (pth f) (epth e) then (fresh f.1, kept (fresh f.1) f.2) :: bothL (e :: l) t
    else (e, gone e) :: bothL l (f :: t)
  termination_by l t => l.length + t.length
theorem bothL_nil : bothL [] [] = [] := by rw [bothL]
theorem bothL_l (e : Ent) (l : List Ent) : bothL (e :: l) [] = (e, gone e) :: bothL l [] := by rw [bothL]
theorem bothL_t (f : Fil) (t : List Fil) : bothL [] (f :: t) = (fresh f.1, kept (fresh f.1) f.2) :: bothL [] t := by rw [bothL]
theorem bothL_eq {e : Ent} {f : Fil} (h : e.path = f.1) (l : List Ent) (t : List Fil) : bothL (e :: l) (f :: t) = (e, kept e f.2) :: bothL l t := by rw [bothL, if_pos h]
theorem bothL_lt {e : Ent} {f : Fil} (h : ¬ e.path = f.1) (hl : Op.bytesLess (pth f) (epth e) = true) (l : List Ent) (t : List Fil) : bothL (e :: l) (f :: t) = (fresh f.1, kept (fresh f.1) f.2) :: bothL (e :: l) t := by rw [bothL, if_neg h, if_pos hl]
theorem bothL_gt {e : Ent} {f : Fil} (h : ¬ e.path = f.1) (hl : Op.bytesLess (pth f) (epth e) = false) (l : List Ent) (t : List Fil) : bothL (e :: l) (f :: t) = (e, gone e) :: bothL l (f :: t) := by rw [bothL, if_neg h, if_neg (by simp [hl])]

/-- What holds of each step holds of all. -/
theorem both_ind {motive : List Ent → List Fil → List (Ent × Ent) → Prop} (h0 : motive [] [] [])
    (h1 : ∀ e l, motive l [] (bothL l []) → motive (e :: l) [] ((e, gone e) :: bothL l []))
    (h2 : ∀ f t, motive [] t (bothL [] t) → motive [] (f :: t) ((fresh f.1, kept (fresh f.1) f.2) :: bothL [] t))
    (h3 : ∀ e l f t, e.path = f.1 → motive l t (bothL l t) → motive (e :: l) (f :: t) ((e, kept e f.2) :: bothL l t))
    (h4 : ∀ e l f t, pth f < epth e → motive (e :: l) t (bothL (e :: l) t) → motive (e :: l) (f :: t) ((fresh f.1, kept (fresh f.1) f.2) :: bothL (e :: l) t))
    (h5 : ∀ e l f t, epth e < pth f → motive l (f :: t) (bothL l (f :: t)) → motive (e :: l) (f :: t) ((e, gone e) :: bothL l (f :: t))) :
    ∀ (n : Nat) (l : List Ent) (t : List Fil), l.length + t.length ≤ n → motive l t (bothL l t)
  | _, [], [], _ => by rw [bothL_nil]; exact h0
  | n + 1, e :: l, [], hn => by rw [bothL_l]; exact h1 e l (both_ind h0 h1 h2 h3 h4 h5 n l [] (by simp at hn ⊢; omega))
  | n + 1, [], f :: t, hn => by rw [bothL_t]; exact h2 f t (both_ind h0 h1 h2 h3 h4 h5 n [] t (by simp at hn ⊢; omega))
  | n + 1, e :: l, f :: t, hn => by
    by_cases h : e.path = f.1
    · rw [bothL_eq h]; exact h3 e l f t h (both_ind h0 h1 h2 h3 h4 h5 n l t (by simp at hn ⊢; omega))
    · cases hl : Op.bytesLess (pth f) (epth e) with
      | true => rw [bothL_lt h hl]; exact h4 e l f t ((less_iff _ _).1 hl) (both_ind h0 h1 h2 h3 h4 h5 n (e :: l) t (by simp at hn ⊢; omega))
      | false =>
        have hlt : epth e < pth f := by
          rcases lt_tri (epth e) (pth f) with x | x | x
          · exact x
          · exact absurd (data_inj x) h
          · rw [(less_iff _ _).2 x] at hl; cases hl
        rw [bothL_gt h hl]; exact h5 e l f t hlt (both_ind h0 h1 h2 h3 h4 h5 n l (f :: t) (by simp at hn ⊢; omega))
  | 0, _ :: _, _, hn => by simp at hn
  | 0, [], _ :: _, hn => by simp at hn

theorem both_len (l : List Ent) (t : List Fil) : (bothL l t).length ≤ l.length + t.length :=
  both_ind (motive := fun l t ps => ps.length ≤ l.length + t.length) (by simp) (fun _ _ h => by simp at h ⊢; omega) (fun _ _ h => by simp at h ⊢; omega) (fun _ _ _ _ _ h => by simp at h ⊢; omega)
    (fun _ _ _ _ _ h => by simp at h ⊢; omega) (fun _ _ _ _ _ h => by simp at h ⊢; omega) _ l t (Nat.le_refl _)
/-- What a pair is. -/
structure PairE (l : List Ent) (t : List Fil) (p : Ent × Ent) : Prop where
  path : p.2.path = p.1.path
  cl : p.2.l = p.1.l
  cr : p.2.r = p.1.r
  none : p.2.has = false → p.2.data = noS
  was : p.1 ∈ l ∨ (p.1 = fresh p.1.path ∧ p.2.has = true)
  is : p.2.has = true → (p.2.path, p.2.data) ∈ t
theorem PairE.more {l l' : List Ent} {t t' : List Fil} {p : Ent × Ent} (h : PairE l t p) (hl : ∀ e ∈ l, e ∈ l') (ht : ∀ f ∈ t, f ∈ t') : PairE l' t' p :=
  ⟨h.path, h.cl, h.cr, h.none, h.was.imp (hl _) id, fun x => ht _ (h.is x)⟩
theorem both_pair (l : List Ent) (t : List Fil) : ∀ p ∈ bothL l t, PairE l t p := by
  refine both_ind (motive := fun l t ps => ∀ p ∈ ps, PairE l t p) (by simp) ?_ ?_ ?_ ?_ ?_ _ l t (Nat.le_refl _)
  · intro e l h p hp
    rcases List.mem_cons.1 hp with rfl | hp
    · exact ⟨rfl, rfl, rfl, fun _ => rfl, .inl (by simp), (fun x => by cases x)⟩
    · exact (h p hp).more (fun _ => List.mem_cons_of_mem _) (fun _ x => x)
  · intro f t h p hp
    rcases List.mem_cons.1 hp with rfl | hp
    · exact ⟨rfl, rfl, rfl, (fun x => by cases x), .inr ⟨rfl, rfl⟩, fun _ => by simp [kept, fresh]⟩
    · exact (h p hp).more (fun _ x => x) (fun _ => List.mem_cons_of_mem _)
  · intro e l f t he h p hp
    rcases List.mem_cons.1 hp with rfl | hp
    · exact ⟨rfl, rfl, rfl, (fun x => by cases x), .inl (by simp), fun _ => by simp [kept, he]⟩
    · exact (h p hp).more (fun _ => List.mem_cons_of_mem _) (fun _ => List.mem_cons_of_mem _)
  · intro e l f t he h p hp
    rcases List.mem_cons.1 hp with rfl | hp
    · exact ⟨rfl, rfl, rfl, (fun x => by cases x), .inr ⟨rfl, rfl⟩, fun _ => by simp [kept, fresh]⟩
    · exact (h p hp).more (fun _ x => x) (fun _ => List.mem_cons_of_mem _)
  · intro e l f t he h p hp
    rcases List.mem_cons.1 hp with rfl | hp
    · exact ⟨rfl, rfl, rfl, fun _ => rfl, .inl (by simp), (fun x => by cases x)⟩
    · exact (h p hp).more (fun _ => List.mem_cons_of_mem _) (fun _ x => x)
/-- The files of both are the tree's. -/
theorem both_files (l : List Ent) (t : List Fil) : filesOf ((bothL l t).map (·.2)) = t := by
  refine both_ind (motive := fun _ t ps => filesOf (ps.map (·.2)) = t) rfl ?_ ?_ ?_ ?_ ?_ _ l t (Nat.le_refl _)
  · intro e l h; rw [List.map_cons, filesOf_cons, h]; rfl
  · intro f t h; rw [List.map_cons, filesOf_cons, h]; rfl
  · intro e l f t he h; rw [List.map_cons, filesOf_cons, h]; simp [kept, he]
  · intro e l f t _ h; rw [List.map_cons, filesOf_cons, h]; rfl
  · intro e l f t _ h; rw [List.map_cons, filesOf_cons, h]; rfl
def newB (e : Ent) : Bool := decide (e.l = 0) && decide (e.r = 0)
/-- What was there is the archive. -/
theorem both_was (l : List Ent) (t : List Fil) (hl : ∀ e ∈ l, newB e = false) : ((bothL l t).map (·.1)).filter (fun e => !newB e) = l := by
  refine both_ind (motive := fun l _ ps => (∀ e ∈ l, newB e = false) → (ps.map (·.1)).filter (fun e => !newB e) = l) (by simp) ?_ ?_ ?_ ?_ ?_ _ l t (Nat.le_refl _) hl
  · intro e l h hl; rw [List.map_cons, List.filter_cons, h fun x hx => hl x (List.mem_cons_of_mem _ hx), hl e (by simp)]; rfl
  · intro f t h hl; rw [List.map_cons, List.filter_cons, h hl]; rfl
  · intro e l f t _ h hl; rw [List.map_cons, List.filter_cons, h fun x hx => hl x (List.mem_cons_of_mem _ hx), hl e (by simp)]; rfl
  · intro e l f t _ h hl; rw [List.map_cons, List.filter_cons, h hl]; rfl
  · intro e l f t _ h hl; rw [List.map_cons, List.filter_cons, h fun x hx => hl x (List.mem_cons_of_mem _ hx), hl e (by simp)]; rfl
/-- Each path is one of the archive's, or the tree's, and all of them are there. -/
theorem both_path {l : List Ent} {t : List Fil} {x : ByteArray} : x ∈ (bothL l t).map (·.2.path) ↔ x ∈ l.map (·.path) ∨ x ∈ t.map (·.1) := by
  refine both_ind (motive := fun l t ps => x ∈ ps.map (·.2.path) ↔ x ∈ l.map (·.path) ∨ x ∈ t.map (·.1)) (by simp) ?_ ?_ ?_ ?_ ?_ _ l t (Nat.le_refl _)
  · intro e l h; simp only [List.map_cons, List.mem_cons, h, gone, List.map_nil, List.not_mem_nil, or_false]
  · intro f t h; simp only [List.map_cons, List.mem_cons, h, kept, fresh, List.map_nil, List.not_mem_nil, false_or]
  · intro e l f t he h; simp only [List.map_cons, List.mem_cons, h, kept, he]
    constructor
    · rintro (h | h | h)
      · exact .inl (.inl h)
      · exact .inl (.inr h)
      · exact .inr (.inr h)
    · rintro ((h | h) | h | h)
      · exact .inl h
      · exact .inr (.inl h)
      · exact .inl h
      · exact .inr (.inr h)
  · intro e l f t _ h; simp only [List.map_cons, List.mem_cons, kept, fresh] at h ⊢
    rw [h]
    constructor
    · rintro (h | (h | h) | h)
      · exact .inr (.inl h)
      · exact .inl (.inl h)
      · exact .inl (.inr h)
      · exact .inr (.inr h)
    · rintro ((h | h) | h | h)
      · exact .inr (.inl (.inl h))
      · exact .inr (.inl (.inr h))
      · exact .inl h
      · exact .inr (.inr h)
  · intro e l f t _ h; simp only [List.map_cons, List.mem_cons, gone] at h ⊢
    rw [h]
    exact or_assoc.symm
def SrtP (ps : List (Ent × Ent)) : Prop := ps.Pairwise fun a b => epth a.2 < epth b.2
theorem both_srt (l : List Ent) (t : List Fil) (hl : SrtE l) (ht : Srt t) : SrtP (bothL l t) := by
  have low : ∀ (l : List Ent) (t : List Fil) (x : List UInt8), (∀ e ∈ l, x < epth e) → (∀ f ∈ t, x < pth f) → ∀ p ∈ bothL l t, x < epth p.2 := by
    intro l t x h1 h2 p hp
    have := (both_path (x := p.2.path)).1 (List.mem_map.2 ⟨p, hp, rfl⟩)
    rcases this with h | h
    · obtain ⟨e, he, h⟩ := List.mem_map.1 h
      have := h1 e he
      unfold epth at this ⊢
      rw [← h]; exact this
    · obtain ⟨f, hf, h⟩ := List.mem_map.1 h
      have := h2 f hf
      unfold pth at this
      unfold epth
      rw [← h]; exact this
  refine both_ind (motive := fun l t ps => SrtE l → Srt t → SrtP ps) (fun _ _ => List.Pairwise.nil) ?_ ?_ ?_ ?_ ?_ _ l t (Nat.le_refl _) hl ht
  · intro e l h h1 h2
    have h1' := List.pairwise_cons.1 h1
    exact List.pairwise_cons.2 ⟨low l [] _ h1'.1 (by simp), h h1'.2 h2⟩
  · intro f t h h1 h2
    have h2' := List.pairwise_cons.1 h2
    exact List.pairwise_cons.2 ⟨low [] t _ (by simp) h2'.1, h h1 h2'.2⟩
  · intro e l f t he h h1 h2
    have h1' := List.pairwise_cons.1 h1
    have h2' := List.pairwise_cons.1 h2
    have e1 : epth e = pth f := by unfold epth pth; rw [he]
    exact List.pairwise_cons.2 ⟨low l t _ h1'.1 (by intro g hg; show epth e < _; rw [e1]; exact h2'.1 g hg), h h1'.2 h2'.2⟩
  · intro e l f t he h h1 h2
    have h1' := List.pairwise_cons.1 h1
    have h2' := List.pairwise_cons.1 h2
    refine List.pairwise_cons.2 ⟨low (e :: l) t _ ?_ h2'.1, h h1 h2'.2⟩
    intro g hg
    rcases List.mem_cons.1 hg with rfl | hg
    · exact he
    · exact List.lt_trans he (h1'.1 g hg)
  · intro e l f t he h h1 h2
    have h1' := List.pairwise_cons.1 h1
    have h2' := List.pairwise_cons.1 h2
    refine List.pairwise_cons.2 ⟨low l (f :: t) _ h1'.1 ?_, h h1'.2 h2⟩
    intro g hg
    rcases List.mem_cons.1 hg with rfl | hg
    · exact he
    · exact List.lt_trans he (h2'.1 g hg)

/-! ### Scan -/
def tickL (l r a : Int) : Int × Int := if odd a then (((cl l : Nat) : Int), ((up (cl r) : Nat) : Int)) else (((up (cl l) : Nat) : Int), ((cl r : Nat) : Int))
def newE (a : Int) (p : Ent × Ent) : Ent := if p.2 = p.1 then p.2 else ⟨p.2.path, p.2.has, p.2.data, (tickL p.1.l p.1.r a).1, (tickL p.1.l p.1.r a).2⟩
def stuck (a : Int) (p : Ent × Ent) : Bool := !decide (p.2 = p.1) && decide (tickL p.1.l p.1.r a = (p.1.l, p.1.r))
def okP (a : Int) (ps : List (Ent × Ent)) : Bool := decide (ps.length ≤ 32) && ps.all fun p => !stuck a p
def outP (a : Int) (ps : List (Ent × Ent)) : List Ent := ps.map (newE a)
def chgP (ps : List (Ent × Ent)) : List ByteArray := (ps.filter fun p => !decide (p.2 = p.1)).map (·.2.path)
def scanN (l : List Ent) (t : List Fil) (a : Int) : Nat := if archR l && treeR t then (if okP a (bothL l t) then 0 else 2) else 1
def scanA (l : List Ent) (t : List Fil) (a : Int) : List Ent := if scanN l t a = 0 then outP a (bothL l t) else []
def scanC (l : List Ent) (t : List Fil) (a : Int) : List ByteArray := if scanN l t a = 0 then chgP (bothL l t) else []
theorem scanN_ok {l : List Ent} {t : List Fil} {a : Int} : scanN l t a = 0 ↔ RightA l ∧ RightT t ∧ okP a (bothL l t) = true := by
  unfold scanN
  rw [← archR_iff, ← treeR_iff]
  cases archR l <;> cases treeR t <;> cases okP a (bothL l t) <;> simp
theorem scanN_arg {l : List Ent} {t : List Fil} {a : Int} (h : (archR l && treeR t) = false) : scanN l t a = 1 := by unfold scanN; rw [h]; rfl
theorem scanN_two {l : List Ent} {t : List Fil} {a : Int} (h : (archR l && treeR t) = true) : scanN l t a = if okP a (bothL l t) then 0 else 2 := by unfold scanN; rw [h]; rfl
theorem newE_path (a : Int) (p : Ent × Ent) : (newE a p).path = p.2.path := by unfold newE; split <;> rfl
theorem newE_has (a : Int) (p : Ent × Ent) : (newE a p).has = p.2.has := by unfold newE; split <;> rfl
theorem newE_data (a : Int) (p : Ent × Ent) : (newE a p).data = p.2.data := by unfold newE; split <;> rfl
end Go.Proofs.YtaidggjnpnfdhaaGreatDoor
namespace Go.Proofs.YtaidggjnpnfdhaaGreatDoor
open Go.ChangeShapes Go.WideShapes Go.ChangeAt Go.RowKit Go.Deep

theorem list5 {α : Type} {l : List α} (h : l.length = 5) : ∃ a b c d e, l = [a, b, c, d, e] := by
  match l, h with
  | [a, b, c, d, e], _ => exact ⟨a, b, c, d, e, rfl⟩
theorem list4 {α : Type} {l : List α} (h : l.length = 4) : ∃ a b c d, l = [a, b, c, d] := by
  match l, h with
  | [a, b, c, d], _ => exact ⟨a, b, c, d, rfl⟩
theorem trod_ent {H : Type} {enc : TypeId × Value → H} {W : World} {base : Nat} {sp : Nat → Bool} {hd : Bool} {fuel : Nat} {cs : List Value} {y : DataW H × List MemPlace} (h : DataW.trod enc Tryz.prog W base sp hd fuel 66 cs = some y) : ∃ x : Ent, cs = eV x := by
  have hct : Tryz.prog.cellsOf 66 = 5 := by kernel_rfl
  have hcs : Tryz.prog.cellsOf 9 = 1 := by kernel_rfl
  have hcb : Tryz.prog.cellsOf 4 = 1 := by kernel_rfl
  have hci : Tryz.prog.cellsOf 3 = 1 := by kernel_rfl
  have hcp : Tryz.prog.cellsOf 64 = 2 := by kernel_rfl
  obtain ⟨xs, n, -, -, hl, hlen, hf⟩ := DataW.trod_struct Tryz.underlying66 h
  rw [hct] at hl
  obtain ⟨u0, u1, u2, u3, u4, rfl⟩ := list5 hl
  obtain ⟨y0, y1, y2, y3, rfl⟩ := list4 (hlen.trans rfl)
  have h0 := hf 0 _ rfl
  have h1 := hf 1 _ rfl
  have h2 := hf 2 _ rfl
  have h3 := hf 3 _ rfl
  simp only [List.getElem?_cons_zero, List.getElem?_cons_succ] at h0 h1 h2 h3
  obtain ⟨z0, e0, -⟩ := DataW.trod_string Tryz.underlying9 h0
  obtain ⟨z1, e1, -⟩ := DataW.trod_bool Tryz.underlying4 h1
  obtain ⟨z2, e2, -⟩ := DataW.trod_string Tryz.underlying9 h2
  obtain ⟨x0, x1, m, -, -, g0, g1⟩ := trod_struct2 Tryz.underlying64 h3
  obtain ⟨z3, e3, -⟩ := DataW.trod_int Tryz.underlying3 g0
  obtain ⟨z4, e4, -⟩ := DataW.trod_int Tryz.underlying3 g1
  simp [hci, hcp] at e3 e4
  simp [hcs] at e0 e2
  simp [hcb] at e1
  exact ⟨⟨z0, z1, z2, z3, z4⟩, by rw [e0, e1, e2, e3, e4]; rfl⟩
set_option maxRecDepth 100000 in
theorem arg__api_Entry {H : Type} {enc : TypeId × Value → H} {W : World} {base : Nat} {v : Value} {d : DataW H} {p : List MemPlace} (hv : Value.okWide Tryz.prog W .any base 40 v)
    (h : DataW.Trod enc Tryz.prog W 0 (fun _ => true) true 40 v d p) (_ : ∀ elems spare, d = .slice elems spare → (elems.length + spare.length) * Tryz.prog.bytesOf 66 ≤ reachBytes) :
    ∃ (A : Option Addr) (c : Nat) (ps : List Ent), v = .slice A ps.length c ∧ Rd W A (entV ps) ∧ ps.length ≤ c ∧ c ≤ maxLen ∧ True := by
  have hct : Tryz.prog.cellsOf 66 = 5 := by kernel_rfl
  obtain ⟨a, len, cap, rfl⟩ := okWide_slice Tryz.underlying40 hv
  obtain ⟨fuel, hf⟩ := h
  rcases open_slice Tryz.underlying40 hf with ⟨hcs, _⟩ | ⟨x, l, c, m, n, D, Pl, hcs, _, hl, hm, hmm, hx, hcell⟩
  · simp [Value.cells] at hcs
    obtain ⟨rfl, rfl, rfl⟩ := hcs
    exact ⟨none, 0, [], rfl, .inl rfl, Nat.le_refl _, by unfold maxLen; omega, trivial⟩
  · simp [Value.cells] at hcs
    obtain ⟨rfl, rfl, rfl⟩ := hcs
    have hmm' : m = cap := by simpa using hmm
    have one : ∀ i, ∃ z : Ent, i < len → ∀ k, k < 5 → W.cell? (x.add (i * 5 + k)) = (eV z)[k]? := by
      intro i
      by_cases hi : i < len
      · obtain ⟨cs', hc1, hc2⟩ := hcell i (by omega)
        rw [hct] at hc1
        obtain ⟨-, hl2, hg⟩ := World.cells?_some hc1
        obtain ⟨z, rfl⟩ := trod_ent hc2
        refine ⟨z, fun _ k hk => ?_⟩
        have := hg k (by simpa [eV] using hk)
        rw [add_assoc'] at this
        exact this
      · exact ⟨⟨noS, false, noS, 0, 0⟩, fun h => absurd h hi⟩
    obtain ⟨B, hB⟩ := Classical.axiomOfChoice one
    refine ⟨some x, cap, (List.range len).map B, by simp, ?_, by simpa using hl, hm, trivial⟩
    refine .inr ⟨x, rfl, fun j u hu => ?_⟩
    have hjl := (List.getElem?_eq_some_iff.1 hu).1
    rw [entV_length, List.length_map, List.length_range] at hjl
    have hi' : j / 5 < len := by omega
    have hi2 : j / 5 < ((List.range len).map B).length := by simpa using hi'
    have eB : ((List.range len).map B)[j / 5] = B (j / 5) := by simp
    have e := entV_at _ _ hi2 (j % 5) (by omega)
    rw [eB, show j / 5 * 5 + j % 5 = j by omega, hu] at e
    have := hB (j / 5) hi' (j % 5) (by omega)
    rw [show j / 5 * 5 + j % 5 = j by omega] at this
    rw [this, ← e]
end Go.Proofs.YtaidggjnpnfdhaaGreatDoor
namespace Go.Proofs.YtaidggjnpnfdhaaGreatDoor
open Go.RowKit

theorem cl_of {a : Nat} {x : Int} (h : a ≤ 1073741824) (e : x = a) : cl x = a := by unfold cl; omega

/-- What Mine tells. -/
def mineI (a b : Nat) (author : Int) : Int := if odd author then b else a

/-- What Order tells. -/
def ordI (a b c d : Nat) : Int := if a = c ∧ b = d then 0 else if a ≤ c ∧ b ≤ d then 1 else if c ≤ a ∧ d ≤ b then 2 else 3

end Go.Proofs.YtaidggjnpnfdhaaGreatDoor
namespace Go.Proofs.YtaidggjnpnfdhaaGreatDoor
open Go.RowKit

/-! ### What comes of two entries -/
def ordE (a b : Ent) : Int := ordI (cl a.l) (cl a.r) (cl b.l) (cl b.r)
theorem ord_cases (a b c d : Nat) : ordI a b c d = 0 ∨ ordI a b c d = 1 ∨ ordI a b c d = 2 ∨ ordI a b c d = 3 := by
  unfold ordI
  split
  · exact .inl rfl
  · split
    · exact .inr (.inl rfl)
    · split
      · exact .inr (.inr (.inl rfl))
      · exact .inr (.inr (.inr rfl))
def likeE (a b : Ent) : Bool := decide (a.has = b.has) && decide (a.data = b.data)
def joinC (a b : Ent) : Int × Int := (((max (cl a.l) (cl b.l) : Nat) : Int), ((max (cl a.r) (cl b.r) : Nat) : Int))
def joinE (a b : Ent) : Ent := ⟨a.path, a.has, a.data, (joinC a b).1, (joinC a b).2⟩
def comeE (a b : Ent) : Ent × Bool :=
  if ordE a b = 1 then (b, false) else if ordE a b = 2 then (a, false) else if likeE a b then ((if ordE a b = 3 then joinE a b else a), false) else (a, true)

/-! ### The entry of a path -/
def atE (es : List Ent) (p : ByteArray) : Option Ent := if idxE es p < 0 then none else es[(idxE es p).toNat]?
theorem atE_no {es : List Ent} {p : ByteArray} (h : idxE es p = -1) : atE es p = none := by unfold atE; rw [h]; rfl
theorem atE_yes {es : List Ent} {p : ByteArray} {j : Nat} (hj : j < es.length) (h : idxE es p = j) : atE es p = some es[j] := by
  unfold atE; rw [h, if_neg (by omega), Int.toNat_natCast, List.getElem?_eq_getElem hj]
def cm : Option Ent → Option Ent → Option (Ent × Bool)
  | some a, some b => some (comeE a b)
  | some a, none => some (a, false)
  | none, some b => some (b, false)
  | none, none => none
end Go.Proofs.YtaidggjnpnfdhaaGreatDoor
namespace Go.Proofs.YtaidggjnpnfdhaaGreatDoor
open Go.RowKit

theorem atE_nil (p : ByteArray) : atE [] p = none := rfl
theorem idxE_cons (a : Ent) (l : List Ent) (p : ByteArray) : idxE (a :: l) p = if a.path = p then 0 else if idxE l p < 0 then -1 else idxE l p + 1 := by
  by_cases h : a.path = p
  · rw [if_pos h]
    exact idxE_at (es := a :: l) (j := 0) (by simp) h (fun k _ hk => absurd hk (by omega))
  · rw [if_neg h]
    unfold idxE
    rw [List.any_cons, decide_eq_false h, Bool.false_or]
    by_cases hx : l.any (fun e => decide (e.path = p)) = true
    · rw [if_pos hx, if_pos hx, if_neg (by omega), List.findIdx_cons, decide_eq_false h]
      simp
    · rw [if_neg hx, if_neg hx]; rfl
theorem atE_cons (a : Ent) (l : List Ent) (p : ByteArray) : atE (a :: l) p = if a.path = p then some a else atE l p := by
  unfold atE
  rw [idxE_cons]
  by_cases h : a.path = p
  · rw [if_pos h, if_pos h, if_neg (by omega)]; rfl
  · rw [if_neg h, if_neg h]
    by_cases hx : idxE l p < 0
    · rw [if_pos hx, if_pos (by omega), if_pos hx]
    · rw [if_neg hx, if_neg (by omega), if_neg hx, show (idxE l p + 1).toNat = (idxE l p).toNat + 1 by omega, List.getElem?_cons_succ]
theorem atE_mem : ∀ {l : List Ent} {p : ByteArray} {e : Ent}, atE l p = some e → e ∈ l ∧ e.path = p
  | [], _, _, h => by cases h
  | a :: l, p, e, h => by
    rw [atE_cons] at h
    split at h
    · injection h with h; subst h; exact ⟨List.mem_cons_self, by assumption⟩
    · obtain ⟨h1, h2⟩ := atE_mem h; exact ⟨List.mem_cons_of_mem _ h1, h2⟩
theorem atE_none : ∀ {l : List Ent} {p : ByteArray}, atE l p = none ↔ ∀ e ∈ l, e.path ≠ p
  | [], _ => by simp [atE_nil]
  | a :: l, p => by
    rw [atE_cons]
    split
    · simp; intro h; exact absurd (by assumption) h
    · rw [atE_none]; simp_all
theorem atE_iff {l : List Ent} (hs : SrtE l) {e : Ent} : e ∈ l ↔ atE l e.path = some e := by
  constructor
  · intro h
    obtain ⟨j, hj, rfl⟩ := List.mem_iff_getElem.1 h
    exact atE_yes hj (idxE_srt hs hj)
  · exact fun h => (atE_mem h).1

/-! ### Rising lists are known by what they have -/
theorem pw_one {α : Type} {r : α → α → Prop} (asym : ∀ a b, r a b → ¬ r b a) : ∀ {a b : List α}, a.Pairwise r → b.Pairwise r → (∀ x, x ∈ a ↔ x ∈ b) → a = b
  | [], [], _, _, _ => rfl
  | [], y :: ys, _, _, h => absurd ((h y).2 List.mem_cons_self) (by simp)
  | x :: xs, [], _, _, h => absurd ((h x).1 List.mem_cons_self) (by simp)
  | x :: xs, y :: ys, ha, hb, h => by
    have ha' := List.pairwise_cons.1 ha
    have hb' := List.pairwise_cons.1 hb
    have e : x = y := by
      rcases List.mem_cons.1 ((h x).1 List.mem_cons_self) with e | e
      · exact e
      · rcases List.mem_cons.1 ((h y).2 List.mem_cons_self) with f | f
        · exact f.symm
        · exact absurd (ha'.1 y f) (asym _ _ (hb'.1 x e))
    subst e
    congr 1
    refine pw_one asym ha'.2 hb'.2 fun z => ?_
    constructor
    · intro hz
      rcases List.mem_cons.1 ((h z).1 (List.mem_cons_of_mem _ hz)) with e | e
      · subst e; exact absurd (ha'.1 z hz) (asym _ _ (ha'.1 z hz))
      · exact e
    · intro hz
      rcases List.mem_cons.1 ((h z).2 (List.mem_cons_of_mem _ hz)) with e | e
      · subst e; exact absurd (hb'.1 z hz) (asym _ _ (hb'.1 z hz))
      · exact e
theorem srtE_one {a b : List Ent} (ha : SrtE a) (hb : SrtE b) (h : ∀ p, atE a p = atE b p) : a = b :=
  pw_one (fun _ _ h1 h2 => absurd h2 (List.lt_asymm h1)) ha hb fun x => by rw [atE_iff ha, atE_iff hb, h]

/-! ### Both, in order -/
theorem comeE_path {a b : Ent} (h : a.path = b.path) : (comeE a b).1.path = a.path := by
  unfold comeE
  split
  · exact h.symm
  · split
    · rfl
    · split
      · simp only []; split <;> rfl
      · rfl
def mrgL : List Ent → List Ent → List (Ent × Bool)
  | [], [] => []
  | a :: l, [] => (a, false) :: mrgL l []
  | [], b :: m => (b, false) :: mrgL [] m
  | a :: l, b :: m => if a.path = b.path then comeE a b :: mrgL l m else if Op.bytesLess (epth a) (epth b) then (a, false) :: mrgL l (b :: m) else (b, false) :: mrgL (a :: l) m
termination_by l m => l.length + m.length
theorem mrg_mem (l m : List Ent) (x : ByteArray) : x ∈ (mrgL l m).map (·.1.path) ↔ x ∈ l.map (·.path) ∨ x ∈ m.map (·.path) := by
  fun_induction mrgL l m with
  | case1 => simp
  | case2 a l ih => simp only [List.map_cons, List.mem_cons, ih]; simp; 
  | case3 b m ih => simp only [List.map_cons, List.mem_cons, ih]; simp
  | case4 a l b m h ih => simp only [List.map_cons, List.mem_cons, ih, comeE_path h, ← h]; grind
  | case5 a l b m h h2 ih => simp only [List.map_cons, List.mem_cons, ih]; grind
  | case6 a l b m h h2 ih => simp only [List.map_cons, List.mem_cons, ih]; grind
theorem mrg_len (l m : List Ent) : (mrgL l m).length ≤ l.length + m.length := by
  fun_induction mrgL l m with
  | case1 => simp
  | case2 a l ih => simp at ih ⊢; omega
  | case3 b m ih => simp at ih ⊢; omega
  | case4 a l b m h ih => simp at ih ⊢; omega
  | case5 a l b m h h2 ih => simp at ih ⊢; omega
  | case6 a l b m h h2 ih => simp at ih ⊢; omega
def SrtM (M : List (Ent × Bool)) : Prop := M.Pairwise fun a b => epth a.1 < epth b.1
theorem path_of {x : Ent × Bool} {M : List (Ent × Bool)} (h : x ∈ M) : x.1.path ∈ M.map (·.1.path) := List.mem_map.2 ⟨x, h, rfl⟩
theorem not_less_lt {a b : Ent} (h : ¬ a.path = b.path) (h2 : Op.bytesLess (epth a) (epth b) = false) : epth b < epth a := by
  have h3 : ¬ epth a < epth b := fun e => by rw [(less_iff _ _).2 e] at h2; cases h2
  rcases List.le_iff_lt_or_eq.1 (List.not_lt.1 h3) with e | e
  · exact e
  · exact absurd (epth_inj.1 e.symm) h
theorem mrg_srt (l m : List Ent) (hl : SrtE l) (hm : SrtE m) : SrtM (mrgL l m) := by
  have key : ∀ (l m : List Ent) (z : List UInt8), (∀ e ∈ l, z < epth e) → (∀ e ∈ m, z < epth e) → ∀ x ∈ mrgL l m, z < epth x.1 := by
    intro l m z h1 h2 x hx
    rcases (mrg_mem l m x.1.path).1 (path_of hx) with h | h
    · obtain ⟨e, he, hp⟩ := List.mem_map.1 h
      have := h1 e he
      rwa [epth, hp] at this
    · obtain ⟨e, he, hp⟩ := List.mem_map.1 h
      have := h2 e he
      rwa [epth, hp] at this
  fun_induction mrgL l m with
  | case1 => exact List.Pairwise.nil
  | case2 a l ih => exact List.pairwise_cons.2 ⟨key _ _ _ (List.pairwise_cons.1 hl).1 (by simp), ih (List.pairwise_cons.1 hl).2 hm⟩
  | case3 b m ih => exact List.pairwise_cons.2 ⟨key _ _ _ (by simp) (List.pairwise_cons.1 hm).1, ih hl (List.pairwise_cons.1 hm).2⟩
  | case4 a l b m h ih =>
    have e : epth (comeE a b).1 = epth a := epth_inj.2 (comeE_path h)
    refine List.pairwise_cons.2 ⟨fun x hx => ?_, ih (List.pairwise_cons.1 hl).2 (List.pairwise_cons.1 hm).2⟩
    rw [e]
    refine key _ _ _ (List.pairwise_cons.1 hl).1 (fun f hf => ?_) x hx
    rw [epth_inj.2 h]
    exact (List.pairwise_cons.1 hm).1 f hf
  | case5 a l b m h h2 ih =>
    have hlt : epth a < epth b := (less_iff _ _).1 h2
    refine List.pairwise_cons.2 ⟨key _ _ _ (List.pairwise_cons.1 hl).1 (fun f hf => ?_), ih (List.pairwise_cons.1 hl).2 hm⟩
    rcases List.mem_cons.1 hf with rfl | hf
    · exact hlt
    · exact List.lt_trans hlt ((List.pairwise_cons.1 hm).1 f hf)
  | case6 a l b m h h2 ih =>
    have hlt : epth b < epth a := not_less_lt h (Bool.eq_false_iff.2 h2)
    refine List.pairwise_cons.2 ⟨key _ _ _ (fun f hf => ?_) (List.pairwise_cons.1 hm).1, ih hl (List.pairwise_cons.1 hm).2⟩
    rcases List.mem_cons.1 hf with rfl | hf
    · exact hlt
    · exact List.lt_trans hlt ((List.pairwise_cons.1 hl).1 f hf)
theorem gt_no {l : List Ent} {z : ByteArray} (h : ∀ e ∈ l, z.data.toList < epth e) : atE l z = none :=
  atE_none.2 fun e he hp => by
    have := h e he
    rw [epth, hp] at this
    exact absurd this (List.lt_irrefl _)
theorem mrg_at (l m : List Ent) (hl : SrtE l) (hm : SrtE m) : ∀ x ∈ mrgL l m, cm (atE l x.1.path) (atE m x.1.path) = some x := by
  have ne : ∀ {a : Ent} {x : Ent × Bool}, epth a < epth x.1 → a.path ≠ x.1.path := fun h e => by rw [epth, e] at h; exact absurd h (List.lt_irrefl _)
  have hs := mrg_srt l m hl hm
  fun_induction mrgL l m with
  | case1 => simp
  | case2 a l ih =>
    intro x hx
    rcases List.mem_cons.1 hx with rfl | hx'
    · rw [atE_cons, if_pos rfl, atE_nil]; rfl
    · rw [atE_cons, if_neg (ne ((List.pairwise_cons.1 hs).1 x hx'))]
      exact ih (List.pairwise_cons.1 hl).2 hm (List.pairwise_cons.1 hs).2 x hx'
  | case3 b m ih =>
    intro x hx
    rcases List.mem_cons.1 hx with rfl | hx'
    · rw [atE_cons, if_pos rfl, atE_nil]; rfl
    · rw [atE_cons b, if_neg (ne ((List.pairwise_cons.1 hs).1 x hx'))]
      exact ih hl (List.pairwise_cons.1 hm).2 (List.pairwise_cons.1 hs).2 x hx'
  | case4 a l b m h ih =>
    have e : epth (comeE a b).1 = epth a := epth_inj.2 (comeE_path h)
    intro x hx
    rcases List.mem_cons.1 hx with rfl | hx'
    · rw [comeE_path h, atE_cons, if_pos rfl, atE_cons, if_pos h.symm]; rfl
    · have := (List.pairwise_cons.1 hs).1 x hx'
      rw [e] at this
      have n1 := ne this
      rw [atE_cons, if_neg n1, atE_cons, if_neg (by rw [← h]; exact n1)]
      exact ih (List.pairwise_cons.1 hl).2 (List.pairwise_cons.1 hm).2 (List.pairwise_cons.1 hs).2 x hx'
  | case5 a l b m h h2 ih =>
    have hlt : epth a < epth b := (less_iff _ _).1 h2
    intro x hx
    rcases List.mem_cons.1 hx with rfl | hx'
    · rw [atE_cons, if_pos rfl, gt_no (fun f hf => ?_)]
      · rfl
      rcases List.mem_cons.1 hf with rfl | hf
      · exact hlt
      · exact List.lt_trans hlt ((List.pairwise_cons.1 hm).1 f hf)
    · rw [atE_cons a, if_neg (ne ((List.pairwise_cons.1 hs).1 x hx'))]
      exact ih (List.pairwise_cons.1 hl).2 hm (List.pairwise_cons.1 hs).2 x hx'
  | case6 a l b m h h2 ih =>
    have hlt : epth b < epth a := not_less_lt h (Bool.eq_false_iff.2 h2)
    intro x hx
    rcases List.mem_cons.1 hx with rfl | hx'
    · rw [atE_cons b, if_pos rfl, gt_no (fun f hf => ?_)]
      · rfl
      rcases List.mem_cons.1 hf with rfl | hf
      · exact hlt
      · exact List.lt_trans hlt ((List.pairwise_cons.1 hl).1 f hf)
    · rw [atE_cons b, if_neg (ne ((List.pairwise_cons.1 hs).1 x hx'))]
      exact ih hl (List.pairwise_cons.1 hm).2 (List.pairwise_cons.1 hs).2 x hx'

/-! ### What is told of two archives -/
def mA (l m : List Ent) : List Ent := (mrgL l m).map (·.1)
def mC (l m : List Ent) : List ByteArray := ((mrgL l m).filter (·.2)).map (·.1.path)
theorem mA_srt {l m : List Ent} (hl : SrtE l) (hm : SrtE m) : SrtE (mA l m) := by
  have := mrg_srt l m hl hm
  exact List.pairwise_map.2 this
theorem mA_at {l m : List Ent} (hl : SrtE l) (hm : SrtE m) (p : ByteArray) : atE (mA l m) p = (cm (atE l p) (atE m p)).map (·.1) := by
  by_cases h : p ∈ (mrgL l m).map (·.1.path)
  · obtain ⟨x, hx, rfl⟩ := List.mem_map.1 h
    rw [mrg_at l m hl hm x hx]
    exact (atE_iff (mA_srt hl hm)).1 (List.mem_map.2 ⟨x, hx, rfl⟩)
  · have h1 : atE l p = none := atE_none.2 fun e he hp => h ((mrg_mem l m p).2 (.inl (List.mem_map.2 ⟨e, he, hp⟩)))
    have h2 : atE m p = none := atE_none.2 fun e he hp => h ((mrg_mem l m p).2 (.inr (List.mem_map.2 ⟨e, he, hp⟩)))
    rw [h1, h2]
    exact atE_none.2 fun e he hp => by
      obtain ⟨x, hx, rfl⟩ := List.mem_map.1 he
      exact h (List.mem_map.2 ⟨x, hx, hp⟩)
theorem mC_mem {l m : List Ent} (hl : SrtE l) (hm : SrtE m) (p : ByteArray) : p ∈ mC l m ↔ ∃ e, cm (atE l p) (atE m p) = some (e, true) := by
  constructor
  · intro h
    obtain ⟨x, hx, rfl⟩ := List.mem_map.1 h
    obtain ⟨h1, h2⟩ := List.mem_filter.1 hx
    exact ⟨x.1, by rw [mrg_at l m hl hm x h1, ← h2]⟩
  · rintro ⟨e, he⟩
    have h : p ∈ (mrgL l m).map (·.1.path) := by
      rw [mrg_mem]
      cases h1 : atE l p with
      | some a => exact .inl (List.mem_map.2 ⟨a, atE_mem h1⟩)
      | none =>
        cases h2 : atE m p with
        | some b => exact .inr (List.mem_map.2 ⟨b, atE_mem h2⟩)
        | none => rw [h1, h2] at he; cases he
    obtain ⟨x, hx, rfl⟩ := List.mem_map.1 h
    have := mrg_at l m hl hm x hx
    rw [he] at this
    injection this with this
    exact List.mem_map.2 ⟨x, List.mem_filter.2 ⟨hx, by rw [← this]⟩, rfl⟩
def SrtB (l : List ByteArray) : Prop := l.Pairwise fun a b => a.data.toList < b.data.toList
theorem mC_srt {l m : List Ent} (hl : SrtE l) (hm : SrtE m) : SrtB (mC l m) := by
  have := (mrg_srt l m hl hm).filter (·.2)
  exact List.pairwise_map.2 this
theorem srtB_one {a b : List ByteArray} (ha : SrtB a) (hb : SrtB b) (h : ∀ x, x ∈ a ↔ x ∈ b) : a = b :=
  pw_one (fun _ _ h1 h2 => absurd h2 (List.lt_asymm h1)) ha hb h
theorem mrg_paths {l m : List Ent} (hl : SrtE l) (hm : SrtE m) {ps : List ByteArray} (hs : SrtB ps) (h : ∀ x, x ∈ ps ↔ x ∈ l.map (·.path) ∨ x ∈ m.map (·.path)) : ps = (mrgL l m).map (·.1.path) :=
  srtB_one hs (List.pairwise_map.2 (mrg_srt l m hl hm)) fun x => by rw [h, mrg_mem]
end Go.Proofs.YtaidggjnpnfdhaaGreatDoor
namespace Go.Proofs.YtaidggjnpnfdhaaGreatDoor
open Go.RowKit

set_option maxHeartbeats 1000000 in
theorem search_any (g : Nat) (cb : Array Value) (n k : Nat) (w : World) (eg : ∀ args w, (callFunc g args).run Tryz.prog w = .ok (.enter g args) w) (hn : n < 4611686018427387904) (hk : k ≤ n)
    (hf : ∀ W i, i < n → Below w.heap.size w W → Calls Tryz.prog g (#[.int .i64 (i : Nat)] ++ cb) W fun e w' => e = .returned (.bool (decide (k ≤ i))) ∧ Below w.heap.size w w') :
    Calls Tryz.prog 100 #[.int .i64 n, .func (.func g) #[] cb] w fun e w' => e = .returned (.int .i64 k) ∧ Below w.heap.size w w' := by
  have HF := hid hf
  clear hf
  go_enter Tryz.func100, Tryz.ntmps100
  go_wp2
  go_loopw [5, 6] (fun s5 s6 wr => ∃ lo hi : Nat, s5 = .int .i64 lo ∧ s6 = .int .i64 hi ∧ lo ≤ k ∧ k ≤ hi ∧ hi ≤ n ∧ Below w.heap.size w wr) (fun s5 s6 _ => (intOf s6).toNat - (intOf s5).toNat)
  case atStart => exact ⟨0, n, rfl, rfl, by omega, hk, Nat.le_refl _, Below.refl _ _⟩
  case round =>
    obtain ⟨lo, hi, rfl, rfl, h1, h2, h3, hb⟩ := hrel
    by_cases hlt : lo < hi
    · have hc := HF.out wr ((lo + hi) / 2) (by omega) hb
      have em : (((lo + hi) / 2 : Nat) : Int) = ((lo : Int) + (hi : Int)) / 2 := by omega
      rw [em] at hc
      have HM := hid em
      clear em
      have hlz : (lo : Int) < hi := by omega
      by_cases hm : k ≤ (lo + hi) / 2
      · rw [decide_eq_true hm] at hc
        have HMM := hid hm
        clear hm
        go_wp2_with (go_at_fn g; refine hc.mono ?_; rintro e w' ⟨rfl, hb'⟩)
        go_roundw
        case rel => exact ⟨lo, (lo + hi) / 2, rfl, by rw [HM.out], h1, HMM.out, by omega, hb'⟩
        case measure => simp [intOf]; omega
      · rw [decide_eq_false hm] at hc
        have HMM := hid hm
        clear hm
        go_wp2_with (go_at_fn g; refine hc.mono ?_; rintro e w' ⟨rfl, hb'⟩)
        go_roundw
        case rel => exact ⟨(lo + hi) / 2 + 1, hi, by rw [← HM.out]; rfl, rfl, by have := HMM.out; omega, h2, h3, hb'⟩
        case measure => simp [intOf]; omega
    · have hnlt : ¬ (lo : Int) < hi := by omega
      have e : lo = k := by omega
      go_wp2
      go_ret
      exact ⟨rfl, hb⟩
end Go.Proofs.YtaidggjnpnfdhaaGreatDoor
namespace Go.Proofs.YtaidggjnpnfdhaaGreatDoor
open Go.RowKit

theorem Rd.fil {w : World} {A : Option Addr} {fs : List Fil} (h : Rd w A (filV fs)) {j : Nat} (hj : j < fs.length) :
    ∃ b off, A = some ⟨b, off, none⟩ ∧ w.cell? ⟨b, off + j * 2, none⟩ = some (.string fs[j].1) ∧ w.cell? ⟨b, off + j * 2 + 1, none⟩ = some (.string fs[j].2) ∧ b < w.heap.size := by
  have hl := filV_length fs
  obtain ⟨b, off, rfl, h1, hb⟩ := h.at_ (k := j * 2) (by omega)
  have e1 := filV_at0 fs j hj
  have e2 := filV_at1 fs j hj
  rw [List.getElem?_eq_getElem (by omega)] at e1
  refine ⟨b, off, rfl, by rw [h1]; exact e1, ?_, hb⟩
  rw [Nat.add_assoc]
  rcases h with h | ⟨ad, he, hc⟩
  · rw [h] at hl
    simp at hl
    omega
  · injection he with he
    subst he
    have := hc _ _ e2
    rwa [Addr.add_lit] at this
theorem below_drewN {B : Nat} {a b : World} (h : Below B a b) (n : Nat) : Below B a (b.drewN n) := ⟨h.os, h.tape, h.output, h.size, h.block⟩

set_option maxHeartbeats 400000 in
theorem geq_any (ba bx : Nat) (A : Option Addr) (n c : Nat) (fs : List Fil) (p : ByteArray) (i : Nat) (W : World) (hl : fs.length = n) (hi : i < n)
    (ha : W.cell? ⟨ba, 0, none⟩ = some (.slice A n c)) (hx : W.cell? ⟨bx, 0, none⟩ = some (.string p)) (hr : Rd W A (filV fs)) :
    Calls Tryz.prog 101 (#[.int .i64 i] ++ #[.pointer (some ⟨ba, 0, none⟩), .pointer (some ⟨bx, 0, none⟩)]) W fun e w' => e = .returned (.bool (!Op.bytesLess (pth (fs[i]'(by omega))) p.data.toList)) ∧ Below W.heap.size W w' := by
  have hif : i < fs.length := by omega
  obtain ⟨b, off, rfl, h1, -, -⟩ := hr.fil hif
  unfold pth
  generalize fs[i].1 = x at h1 ⊢
  clear hr hl hif
  have hz : (0 : Int) ≤ i := by omega
  have hlt : (i : Int) < n := by omega
  go_enter Tryz.func101, Tryz.ntmps101
  go_wp2
  go_quiet (fail)
  go_wp2
  go_ret
  exact ⟨ret_bool (by rw [Lib.toList_data, Lib.toList_data]), below_drewN (Below.refl _ _) _⟩

theorem box2 (w : World) (v u : Value) (s t : TypeId) : ((w.alloc (.cells #[v] s)).alloc (.cells #[u] t)).cell? ⟨w.heap.size, 0, none⟩ = some v ∧ ((w.alloc (.cells #[v] s)).alloc (.cells #[u] t)).cell? ⟨w.heap.size + 1, 0, none⟩ = some u := by
  constructor
  · rw [World.cell?_alloc_past _ _ _ (by simp), World.cell?_alloc_at _ _ _ _ (by simp)]; rfl
  · rw [World.cell?_alloc_at _ _ _ _ (by simp)]; rfl

set_option maxHeartbeats 1000000 in
theorem place_any (A : Option Addr) (n c : Nat) (fs : List Fil) (p : ByteArray) (w : World) (hl : fs.length = n) (hs : Srt fs) (hr : Rd w A (filV fs)) (hn : n ≤ 140737488355328) :
    Calls Tryz.prog 84 #[.slice A n c, .string p] w fun e w' => e = .returned (.tuple #[.int .i64 ((lowT fs p.data.toList).length : Nat), .bool (thereT fs p.data.toList)]) ∧ Below w.heap.size w w' := by
  have hmf : ∀ (fn : Fn) (first cap : Array Value) (w : World), (Instr.makeFunc fn first cap).run Tryz.prog w = .ok (.func fn first cap) w := fun _ _ _ _ => rfl
  have HA := hid (@there_at fs p.data.toList hs)
  have hk : (lowT fs p.data.toList).length ≤ n := by rw [← hl]; exact low_len _
  have HS := hid (fun i (hi : i < fs.length) => @low_at fs p.data.toList hs i hi)
  generalize (lowT fs p.data.toList).length = k at *
  generalize thereT fs p.data.toList = th at *
  go_enter Tryz.func84, Tryz.ntmps84
  go_wp2_with fail
  obtain ⟨c1, c2⟩ := box2 w (.slice A n c) (.string p) 22 9
  have hr2 : Rd ((w.alloc (.cells #[.slice A n c] 22)).alloc (.cells #[.string p] 9)) A (filV fs) := (hr.alloc _).alloc _
  have hbb : Below w.heap.size w ((w.alloc (.cells #[.slice A n c] 22)).alloc (.cells #[.string p] 9)) := ((Below.refl _ _).alloc (Nat.le_refl _) _).alloc (by simp) _
  have hsz : w.heap.size + 1 < ((w.alloc (.cells #[.slice A n c] 22)).alloc (.cells #[.string p] 9)).heap.size := by simp
  generalize ((w.alloc (.cells #[.slice A n c] 22)).alloc (.cells #[.string p] 9)) = w2 at c1 c2 hr2 hbb hsz ⊢
  refine (search_any 101 _ n k w2 (enters_of Tryz.func101 (by kernel_rfl) rfl) (by omega) hk ?_).mono ?_
  · intro W i hi hbW
    refine (geq_any w.heap.size (w.heap.size + 1) A n c fs p i W hl hi ((hbW.cell (by show w.heap.size < _; omega)).trans c1) ((hbW.cell (by show w.heap.size + 1 < _; omega)).trans c2) (hr2.below hbW)).mono ?_
    rintro e w' ⟨rfl, hb'⟩
    refine ⟨ret_bool ?_, below2 hbW hb'⟩
    rw [HS.out i (by omega)]
    by_cases h : i < k
    · simp [h]
    · simp [h]; omega
  rintro e w3 ⟨rfl, hb3⟩
  have d1 := (hb3.cell (p := ⟨w.heap.size, 0, none⟩) (by show w.heap.size < _; omega)).trans c1
  have d2 := (hb3.cell (p := ⟨w.heap.size + 1, 0, none⟩) (by show w.heap.size + 1 < _; omega)).trans c2
  have hr3 := hr2.below hb3
  have hb3' := hbb.trans (hb3.mono hbb.size)
  clear c1 c2 hr2 hbb hb3 hr hsz
  by_cases hkn : k < n
  · obtain ⟨b, off, rfl, h1, -, -⟩ := hr3.fil (j := k) (by omega)
    have HT := hid (show th = true ↔ fs[k].1.data.toList = p.data.toList from ⟨fun h => (HA.out.1 h).2, fun h => HA.out.2 ⟨by omega, h⟩⟩)
    generalize fs[k].1 = x at h1 HT
    have hz : (0 : Int) ≤ k := by omega
    have hlt : (k : Int) < n := by omega
    clear hr3
    go_wp2_with fail
    go_quiet (fail)
    go_wp2
    go_ret2
    have et : (x.toList == p.toList) = th := by
      rw [Lib.toList_data, Lib.toList_data, Bool.eq_iff_iff, beq_iff_eq]
      exact HT.out.symm
    exact ⟨by rw [← et]; rfl, below_drewN hb3' _⟩
  · have hnlt : ¬ (k : Int) < n := by omega
    go_wp2_with fail
    go_quiet (fail)
    go_wp2
    go_ret2
    have et : th = false := not_true fun h => absurd (HA.out.1 h).1 (by omega)
    exact ⟨by rw [et]; rfl, below_drewN hb3' _⟩
end Go.Proofs.YtaidggjnpnfdhaaGreatDoor
namespace Go.Proofs.YtaidggjnpnfdhaaGreatDoor
open Go.RowKit


set_option maxHeartbeats 400000 in
theorem clashf_any (bx : Nat) (f : Fil) (p : ByteArray) (W : World) (hx : W.cell? ⟨bx, 0, none⟩ = some (.string p)) (hf : f.1.size < 4294967281) (hp : p.size < 4294967281) :
    Calls Tryz.prog 98 (#[.agg #[.string f.1, .string f.2]] ++ #[.pointer (some ⟨bx, 0, none⟩)]) W fun e w' => e = .returned (.bool (clashL (pth f) p.data.toList)) ∧ Below W.heap.size W w' := by
  obtain ⟨x, d⟩ := f
  have hb := World.block_lt_of_cell? _ _ hx
  unfold pth
  simp only at hf ⊢
  go_enter Tryz.func98, Tryz.ntmps98
  go_wp2_with fail
  refine (clash_any x p _ hf hp).mono ?_
  rintro e w1 ⟨rfl, hb1⟩
  go_wp2
  go_ret
  exact ⟨rfl, below_new _ hb1⟩

/-- Which file is the first that clashes. -/
def IdxPost (w : World) (b : Bool) (e : Ending) (w' : World) : Prop := ∃ k : Int, e = .returned (.int .i64 k) ∧ decide (0 ≤ k) = b ∧ Below w.heap.size w w'
theorem any_take_step {α : Type} (q : α → Bool) (l : List α) (j : Nat) (h : j < l.length) : (l.take (j + 1)).any q = ((l.take j).any q || q l[j]) := by
  rw [List.take_add_one, List.getElem?_eq_getElem h, List.any_append]
  simp

set_option maxHeartbeats 1000000 in
theorem idx_any (bx : Nat) (A : Option Addr) (n c : Nat) (fs : List Fil) (p : ByteArray) (w : World) (hl : fs.length = n) (hx : w.cell? ⟨bx, 0, none⟩ = some (.string p)) (hr : Rd w A (filV fs)) (hn : n ≤ 140737488355328)
    (hf : ∀ f ∈ fs, f.1.size < 4294967281) (hp : p.size < 4294967281) :
    Calls Tryz.prog 31 #[.slice A n c, .func (.func 98) #[] #[.pointer (some ⟨bx, 0, none⟩)]] w (IdxPost w (clashT fs p.data.toList)) := by
  have eg := enters_of Tryz.func98 (by kernel_rfl) rfl
  have hbx := World.block_lt_of_cell? _ _ hx
  have HF := hid hf
  have HL := hid hl
  clear hf hl
  go_enter Tryz.func31, Tryz.ntmps31
  go_wp2_with fail
  go_loopw [8] (fun i wr => ∃ j : Nat, j ≤ n ∧ i = .int .i64 j ∧ Hid ((fs.take j).any (fun f => clashL (pth f) p.data.toList) = false) ∧ Below w.heap.size w wr) (fun i _ => n - (intOf i).toNat)
  case atStart => exact ⟨0, by omega, rfl, by simp [Hid], Below.refl _ _⟩
  case round =>
    obtain ⟨j, hj, rfl, HO, hb⟩ := hrel
    by_cases hjn : j < n
    · have hjl : j < fs.length := by rw [HL.out]; exact hjn
      have hr1 := hr.below hb
      obtain ⟨b, off, rfl, h1, h2, -⟩ := hr1.fil hjl
      have HK := hid (any_take_step (fun f => clashL (pth f) p.data.toList) fs j hjl)
      have hx1 := (hb.cell (p := ⟨bx, 0, none⟩) hbx).trans hx
      have cc := clashf_any bx fs[j] p wr hx1 (HF.out _ (List.getElem_mem hjl)) hp
      have HM := hid (List.getElem_mem hjl)
      generalize fs[j] = f at *
      clear hr1
      have hz : (0 : Int) ≤ j := by omega
      have hlt : (j : Int) < n := by omega
      go_wp2_with fail
      refine cc.mono ?_
      rintro e w1 ⟨rfl, hb1⟩
      have hb1' := below2 hb hb1
      clear cc hb hb1 hx1
      cases hq : clashL (pth f) p.data.toList
      · go_wp2
        go_roundw
        case rel => exact ⟨j + 1, by omega, by go_num, hid (by rw [HK.out, HO.out, hq]; rfl), hb1'⟩
        case measure => simp [intOf]; omega
      · have HQ := hid hq
        clear hq
        go_wp2
        go_ret
        refine ⟨j, rfl, ?_, hb1'⟩
        rw [decide_eq_true hz]
        exact (List.any_eq_true.2 ⟨f, HM.out, HQ.out⟩).symm
    · have e : j = n := by omega
      have HE := hid e
      have hnlt : ¬ (j : Int) < n := by omega
      clear e
      go_wp2
      go_ret
      refine ⟨-1, rfl, ?_, hb⟩
      have ho := HO.out
      rw [HE.out, ← HL.out, List.take_length] at ho
      exact ho.symm

set_option maxHeartbeats 400000 in
theorem contains_any (bx : Nat) (A : Option Addr) (n c : Nat) (fs : List Fil) (p : ByteArray) (w : World) (hl : fs.length = n) (hx : w.cell? ⟨bx, 0, none⟩ = some (.string p)) (hr : Rd w A (filV fs)) (hn : n ≤ 140737488355328)
    (hf : ∀ f ∈ fs, f.1.size < 4294967281) (hp : p.size < 4294967281) :
    Calls Tryz.prog 39 #[.slice A n c, .func (.func 98) #[] #[.pointer (some ⟨bx, 0, none⟩)]] w fun e w' => e = .returned (.bool (clashT fs p.data.toList)) ∧ Below w.heap.size w w' := by
  have c0 := idx_any bx A n c fs p w hl hx hr hn hf hp
  clear hl hx hr hf hp
  generalize clashT fs p.data.toList = b at *
  go_enter Tryz.func39, Tryz.ntmps39
  go_wp2_with fail
  refine c0.mono ?_
  rintro e w1 ⟨k, rfl, hk, hb⟩
  have HK := hid hk
  clear hk c0
  go_wp2
  go_ret
  exact ⟨ret_bool HK.out, hb⟩

set_option maxHeartbeats 400000 in
theorem clashes_any (A : Option Addr) (n c : Nat) (fs : List Fil) (p : ByteArray) (w : World) (hl : fs.length = n) (hr : Rd w A (filV fs)) (hn : n ≤ 140737488355328)
    (hf : ∀ f ∈ fs, f.1.size < 4294967281) (hp : p.size < 4294967281) :
    Calls Tryz.prog 83 #[.slice A n c, .string p] w fun e w' => e = .returned (.bool (clashT fs p.data.toList)) ∧ Below w.heap.size w w' := by
  have hmf : ∀ (fn : Fn) (first cap : Array Value) (w : World), (Instr.makeFunc fn first cap).run Tryz.prog w = .ok (.func fn first cap) w := fun _ _ _ _ => rfl
  have c0 := contains_any w.heap.size A n c fs p (w.alloc (.cells #[.string p] 9)) hl (by rw [World.cell?_alloc_at _ _ _ _ (by simp)]; rfl) (hr.alloc _) hn hf hp
  clear hl hr hf hp
  generalize clashT fs p.data.toList = b at *
  go_enter Tryz.func83, Tryz.ntmps83
  go_wp2_with fail
  refine c0.mono ?_
  rintro e w1 ⟨rfl, hb⟩
  clear c0
  go_wp2
  go_ret
  exact ⟨rfl, below_new _ hb⟩

/-! ### None is under another one -/
theorem prefix_mid : ∀ (d s r : List UInt8), d < s → s ≤ d ++ r → Lib.hasPrefix s d = true
  | [], s, r, _, _ => by simp [Lib.hasPrefix]
  | c :: d, [], r, h, _ => by simp at h
  | c :: d, x :: s, r, h, h2 => by
    have h2' : x :: s < c :: (d ++ r) ∨ x :: s = c :: (d ++ r) := List.le_iff_lt_or_eq.1 h2
    rw [List.cons_lt_cons_iff] at h h2'
    have key : c = x ∧ d < s ∧ s ≤ d ++ r := by
      rcases h with h | ⟨e, h⟩
      · rcases h2' with (h3 | ⟨e3, _⟩) | h3
        · exact absurd h (UInt8.lt_asymm h3)
        · rw [e3] at h; exact absurd h (UInt8.lt_irrefl _)
        · injection h3 with e3 _; rw [e3] at h; exact absurd h (UInt8.lt_irrefl _)
      · rcases h2' with (h3 | ⟨_, h3⟩) | h3
        · rw [e] at h3; exact absurd h3 (UInt8.lt_irrefl _)
        · exact ⟨e, h, List.le_of_lt h3⟩
        · injection h3 with _ e3; exact ⟨e, h, by rw [e3]; exact List.le_refl _⟩
    have := prefix_mid d s r key.2.1 key.2.2
    rw [Lib.hasPrefix] at this ⊢
    simp [key.1, this]
theorem under_mid {d s t : List UInt8} (h1 : d < s) (h2 : s ≤ t) (h3 : Lib.hasPrefix s d = false) : underL t d = false := by
  refine not_true fun h => ?_
  unfold underL at h
  rw [Bool.and_eq_true, pre_iff] at h
  obtain ⟨_, r, rfl⟩ := h
  rw [prefix_mid d s (47 :: r) h1 h2] at h3
  cases h3
theorem apart_idx (L : List (List UInt8)) : apartL L = true ↔ ∀ i k (_ : i < k) (hk : k < L.length), underL L[k] (L[i]'(by omega)) = false := by
  rw [apart_iff, List.pairwise_iff_getElem]
  exact ⟨fun h i k hik hk => h i k (by omega) hk hik, fun h i k _ hk hik => h i k hik hk⟩

set_option maxHeartbeats 2000000 in
theorem apart_any (A : Option Addr) (n c : Nat) (ls : List ByteArray) (w : World) (hl : ls.length = n) (hnc : n ≤ c) (hcm : c ≤ 140737488355328) (hr : Rd w A (strV ls)) (hs : (lst ls).Pairwise (· < ·)) (hss : ∀ s ∈ ls, s.size < 4294967281) :
    Calls Tryz.prog 45 #[.slice A n c] w fun e w' => e = .returned (.bool (apartL (lst ls))) ∧ Below w.heap.size w w' := by
  have HI := hid (apart_idx (lst ls))
  have HP := hid (List.pairwise_iff_getElem.1 hs)
  have HL := hid (show (lst ls).length = n by rw [lst_length]; exact hl)
  have HL2 := hid hl
  have HS := hid hss
  have HA := hid (fun j (h : j < ls.length) (h' : j < (lst ls).length) => (show (lst ls)[j] = ls[j].data.toList by simp [lst]))
  clear hl hs hss
  generalize lst ls = L at *
  go_enter Tryz.func45, Tryz.ntmps45
  go_wp2_with fail
  go_loopw [9] (fun i wr => ∃ j : Nat, j ≤ n ∧ i = .int .i64 j ∧ Hid (∀ i k (hi : i < j) (hik : i < k) (hk : k < L.length), underL L[k] (L[i]'(by omega)) = false) ∧ Below w.heap.size w wr) (fun i _ => n - (intOf i).toNat)
  case atStart => exact ⟨0, by omega, rfl, hid (fun i k hi => absurd hi (by omega)), Below.refl _ _⟩
  case round =>
    obtain ⟨i, hi, rfl, HO, hb⟩ := hrel
    by_cases hin : i < n
    · have hil : i < ls.length := by rw [HL2.out]; exact hin
      have hr1 := hr.below hb
      obtain ⟨b, off, rfl, h1, -⟩ := hr1.at_ (k := i) (by rw [strV_length]; exact hil)
      have h2 : wr.cell? ⟨b, off + i, none⟩ = some (.string ls[i]) := by rw [h1]; simp [strV]
      have hz : (0 : Int) ≤ i := by omega
      have hlt : (i : Int) < n := by omega
      clear h1 hr1
      by_cases hci : c = i + 1
      · have hnn : n - (i + 1) = 0 := by omega
        have hn1 : n = i + 1 := by omega
        have HN := hid hn1
        clear hn1
        go_upto_region 5 with (fail)
        go_loopw [19] (fun v wx => v = .int .i64 0 ∧ wr = wx) (fun _ _ => 0)
        case atStart => exact ⟨rfl, rfl⟩
        case round =>
          obtain ⟨rfl, rfl⟩ := hrel
          go_wp2
          go_roundw
          case rel =>
            refine ⟨i + 1, by omega, by go_num, hid (fun i' k hi' hik hk => ?_), hb⟩
            have := HN.out
            have := HL.out
            exact HO.out i' k (by omega) hik hk
          case measure => simp [intOf]; omega
      · have HW := hid hb
        go_upto_region 5 with (fail)
        go_loopw [19] (fun v wx => ∃ j : Nat, j ≤ n - (i + 1) ∧ v = .int .i64 j ∧ Hid (∀ k (hk : k < L.length) (hik : i < k), k < i + 1 + j → underL L[k] (L[i]'(by omega)) = false) ∧ Below w.heap.size w wx) (fun v _ => n - (i + 1) - (intOf v).toNat)
        case atStart => exact ⟨0, by omega, rfl, hid (fun k hk hik h => absurd h (by omega)), hb⟩
        case round =>
          clear hb h2
          obtain ⟨j, hj, rfl, HJ, hb⟩ := hrel
          have hLi : i < L.length := by have := HL.out; omega
          have HAi := hid (HA.out i hil hLi)
          by_cases hjn : j < n - (i + 1)
          · have hkl : i + 1 + j < ls.length := by have := HL2.out; omega
            have hLk : i + 1 + j < L.length := by have := HL.out; omega
            have HAk := hid (HA.out (i + 1 + j) hkl hLk)
            have hr1 := hr.below hb
            obtain ⟨b', off', he, h1, -⟩ := hr1.at_ (k := i + 1 + j) (by rw [strV_length]; exact hkl)
            injection he with he
            injection he with he1 he2
            subst he1 he2
            have h3 : wr.cell? ⟨b, off + (i + 1) + j, none⟩ = some (.string ls[i + 1 + j]) := by
              rw [Nat.add_assoc off, h1]
              simp [strV]
            have hsi := HS.out ls[i] (List.getElem_mem hil)
            have hsk := HS.out ls[i + 1 + j] (List.getElem_mem hkl)
            have HPk := hid (HP.out i (i + 1 + j) hLi hLk (by omega))
            clear h1 hr1
            generalize ls[i + 1 + j] = x at *
            generalize ls[i] = y at *
            have hz2 : (0 : Int) ≤ j := by omega
            have hlt2 : (j : Int) < ((n - (i + 1) : Nat) : Int) := by omega
            go_wp2_with fail
            refine (Tryz.strings_HasPrefix _ _ _).mono ?_
            rintro e w1 ⟨rfl, rfl⟩
            cases hp : Lib.hasPrefix x.data.toList y.data.toList
            · have HPP := hid hp
              clear hp
              go_wp2
              go_roundw
              case rel =>
                refine ⟨i + 1, by omega, by go_num, hid (fun i' k hi' hik hk => ?_), hb⟩
                by_cases hii : i' < i
                · exact HO.out i' k hii hik hk
                · obtain rfl : i' = i := by omega
                  by_cases hkj : k < i' + 1 + j
                  · exact HJ.out k hk hik hkj
                  · refine under_mid HPk.out ?_ ?_
                    · by_cases hke : k = i' + 1 + j
                      · subst hke; exact List.le_refl _
                      · exact List.le_of_lt (HP.out (i' + 1 + j) k hLk hk (by omega))
                    · rw [HAi.out, HAk.out]; exact HPP.out
              case measure => simp [intOf]; omega
            · go_wp2_with fail
              refine (under_any _ _ _ hsk hsi).mono ?_
              rintro e w2 ⟨rfl, hb2⟩
              have hb2' := below2 hb hb2
              clear hb hb2
              cases hu : underL x.data.toList y.data.toList
              · have HU := hid hu
                clear hu
                go_wp2
                go_roundw
                case rel =>
                  refine ⟨j + 1, by omega, by go_num, hid (fun k hk hik hkj => ?_), hb2'⟩
                  by_cases hke : k = i + 1 + j
                  · subst hke
                    rw [HAi.out, HAk.out]; exact HU.out
                  · exact HJ.out k hk hik (by omega)
                case measure => simp [intOf]; omega
              · have HU := hid hu
                clear hu
                go_wp2
                go_ret
                refine ⟨ret_bool ?_, hb2'⟩
                symm
                refine not_true fun hap => ?_
                have := HI.out.1 hap i (i + 1 + j) (by omega) hLk
                rw [HAi.out, HAk.out, HU.out] at this
                cases this
          · have hnlt2 : ¬ (j : Int) < ((n - (i + 1) : Nat) : Int) := by omega
            have HJE := hid (show j = n - (i + 1) by omega)
            go_wp2
            go_roundw
            case rel =>
              refine ⟨i + 1, by omega, by go_num, hid (fun i' k hi' hik hk => ?_), hb⟩
              by_cases hii : i' < i
              · exact HO.out i' k hii hik hk
              · obtain rfl : i' = i := by omega
                have := HL.out
                have := HJE.out
                exact HJ.out k hk hik (by omega)
            case measure => simp [intOf]; omega
    · have HE := hid (show i = n by omega)
      have hnlt : ¬ (i : Int) < n := by omega
      go_wp2
      go_ret
      refine ⟨ret_bool ?_, hb⟩
      symm
      refine HI.out.2 fun i' k hik hk => ?_
      have := HE.out
      have := HL.out
      exact HO.out i' k (by omega) hik hk
end Go.Proofs.YtaidggjnpnfdhaaGreatDoor
namespace Go.Proofs.YtaidggjnpnfdhaaGreatDoor
open Go.RowKit

theorem made_one (z : Value) (n : Nat) : madeCells #[z] n = (List.replicate n z).toArray := by
  apply Array.toList_inj.1
  rw [toList_madeCells_one]
theorem made_two (a : Value) (n : Nat) : madeCells #[a, a] n = (List.replicate n a).toArray := by
  apply Array.ext
  · simp [madeCells]
  · intro i h1 h2
    simp only [madeCells, Array.getElem_map, Array.getElem_range, List.getElem_toArray, List.getElem_replicate]
    have h : i % (#[a, a] : Array Value).size = 0 ∨ i % (#[a, a] : Array Value).size = 1 := by
      have : (#[a, a] : Array Value).size = 2 := rfl
      rw [this]; omega
    rcases h with h | h <;> rw [h] <;> rfl
theorem make_strs (n : Nat) (hn : n ≤ 1000000) (w : World) : (Instr.makeSlice 35 (.int .i64 (n : Int)) (.int .i64 (n : Int))).run Tryz.prog w = .ok (.slice (some ⟨w.heap.size, 0, none⟩) n n) (w.alloc (.cells (List.replicate n (Value.string ⟨#[]⟩)).toArray 9)) := by
  rw [← made_one]
  exact run_make_row' 35 9 (.string ⟨#[]⟩) 16 Tryz.underlying35 Tryz.infoS rfl .i64 .i64 n (by omega) (by omega) w

/-- What was laid, and room for the rest. -/
def fill (xs : List Value) (z : Value) (j : Nat) : List Value := xs.take j ++ List.replicate (xs.length - j) z
theorem fill_zero (xs : List Value) (z : Value) : fill xs z 0 = List.replicate xs.length z := by simp [fill]
theorem fill_all (xs : List Value) (z : Value) : fill xs z xs.length = xs := by simp [fill]
theorem fill_at (xs : List Value) (z : Value) (j : Nat) (h : j < xs.length) : (fill xs z j)[j]? = some z := by
  rw [fill, List.getElem?_append_right (by rw [List.length_take]; omega), List.length_take, Nat.min_eq_left (by omega), Nat.sub_self, List.getElem?_replicate, if_pos (by omega)]
theorem fill_set (xs : List Value) (z : Value) (j : Nat) (x : Value) (h : xs[j]? = some x) : (fill xs z j).set j x = fill xs z (j + 1) := by
  have hj := (List.getElem?_eq_some_iff.1 h).1
  rw [fill, fill, List.set_append_right _ _ (by rw [List.length_take]; omega), List.length_take, Nat.min_eq_left (by omega), Nat.sub_self, show xs.length - j = (xs.length - (j + 1)) + 1 by omega, List.replicate_succ, List.set_cons_zero, List.take_add_one, h, List.append_assoc]
  rfl
theorem all_take_more {α : Type} (q : α → Bool) (l : List α) (j : Nat) (h : j < l.length) : (l.take (j + 1)).all q = ((l.take j).all q && q l[j]) := by
  rw [List.take_add_one, List.getElem?_eq_getElem h, List.all_append]
  simp

set_option maxHeartbeats 1000000 in
theorem tright_any (A : Option Addr) (n c : Nat) (fs : List Fil) (w : World) (hl : fs.length = n) (hr : Rd w A (filV fs)) (hn : n ≤ 140737488355328) (hf : ∀ f ∈ fs, f.1.size < 4294967281 ∧ f.2.size ≤ maxLen) :
    Calls Tryz.prog 23 #[.slice A n c] w fun e w' => e = .returned (.bool (treeR fs)) ∧ Below w.heap.size w w' := by
  have HF := hid hf
  have HL := hid hl
  clear hf hl
  by_cases h16 : (16 : Int) < n
  · go_enter Tryz.func23, Tryz.ntmps23
    go_wp2
    go_ret
    refine ⟨ret_bool ?_, Below.refl _ _⟩
    symm
    refine treeR_no fun h => ?_
    have := h.few
    have := HL.out
    omega
  · have hmk := make_strs n (by omega)
    go_enter Tryz.func23, Tryz.ntmps23
    go_upto_region 5 with (fail)
    go_loopw [14] (fun i wr => ∃ j : Nat, j ≤ n ∧ i = .int .i64 j ∧ Blk wr w.heap.size (fill (strV (fs.map (·.1))) (.string ⟨#[]⟩) j) 9 ∧ Below w.heap.size w wr ∧ Hid ((fs.take j).all (fun f => decide (f.2.size ≤ 600)) = true)) (fun i _ => n - (intOf i).toNat)
    case atStart =>
      refine ⟨0, by omega, rfl, ?_, (Below.refl _ _).alloc (Nat.le_refl _) _, by simp [Hid]⟩
      have := Blk.new w (List.replicate n (Value.string ⟨#[]⟩)) 9
      rw [fill_zero, strV_length, List.length_map, HL.out]
      simpa using this
    case round =>
      obtain ⟨j, hj, rfl, hblk, hb, HO⟩ := hrel
      by_cases hjn : j < n
      · have hjl : j < fs.length := by rw [HL.out]; exact hjn
        have hr1 := hr.below hb
        obtain ⟨b, off, rfl, h1, h2, -⟩ := hr1.fil hjl
        have hz : (0 : Int) ≤ j := by omega
        have hlt : (j : Int) < n := by omega
        clear hr1
        go_upto_region 7 with (fail)
        have HK := hid (all_take_more (fun f : Fil => decide (f.2.size ≤ 600)) fs j hjl)
        have HX := hid (show (strV (fs.map (·.1)))[j]? = some (.string fs[j].1) by simp [strV, hjl])
        have hblk2 := hblk.below ((Below.refl _ _).alloc (Nat.le_refl _) (.cells #[.string fs[j].1, .string fs[j].2] 38))
        have hb2 := hb.alloc hb.size (.cells #[.string fs[j].1, .string fs[j].2] 38)
        have k := Blk.new wr [.string fs[j].1, .string fs[j].2] 38
        have k1 := k.cell 0
        have k2 := k.cell 1
        simp only [List.getElem?_cons_zero, List.getElem?_cons_succ] at k1 k2
        have hd := (HF.out fs[j] (List.getElem_mem hjl)).2
        unfold maxLen at hd
        have HM := hid (List.getElem_mem hjl)
        clear k hblk hb h1 h2
        generalize fs[j] = f at *
        generalize wr.alloc (.cells #[.string f.1, .string f.2] 38) = wa at *
        generalize wr.heap.size = g at *
        have c1 := hblk2.cell j
        rw [fill_at _ _ _ (by rw [strV_length, List.length_map]; exact hjl)] at c1
        have c2 := hblk2.frozen j
        have hblk3 := hblk2.set_ j (.string f.1)
        rw [fill_set _ _ _ _ HX.out] at hblk3
        have hb3 : Below w.heap.size w (wa.setCell ⟨w.heap.size, j, none⟩ (.string f.1)) := hb2.grown (grown_set j _) hb2.size (by intro k hk; injection hk with hk; omega)
        clear hblk2
        by_cases h600 : (600 : Int) < f.2.size
        · go_wp2
          go_ret
          refine ⟨ret_bool ?_, hb2⟩
          symm
          refine treeR_no fun h => ?_
          have := h.datas f HM.out
          omega
        · go_wp2
          go_roundw
          case rel => exact ⟨j + 1, by omega, by go_num, hblk3, hb3, hid (by rw [HK.out, HO.out]; simp; omega)⟩
          case measure => simp [intOf]; omega
      · have HE := hid (show j = n by omega)
        have hnlt : ¬ (j : Int) < n := by omega
        have ho := HO.out
        have e1 : j = fs.length := by rw [HL.out]; omega
        rw [e1, List.take_length] at ho
        have HD := hid ho
        have e2 : (strV (fs.map (·.1))).length = fs.length := by rw [strV_length, List.length_map]
        rw [show j = (strV (fs.map (·.1))).length by rw [e2]; exact e1, fill_all] at hblk
        have hrd : Rd wr (some ⟨w.heap.size, 0, none⟩) (strV (fs.map (·.1))) := .inr ⟨_, rfl, fun k u hu => by rw [Addr.add_lit, Nat.zero_add, hblk.cell, hu]⟩
        have HLL := hid (show lst (fs.map (·.1)) = fs.map pth by simp [lst, pth])
        have hfn : (fs.map (·.1)).length = n := by rw [List.length_map, HL.out]
        have hss : ∀ s ∈ fs.map (·.1), s.size < 4294967281 := by
          intro s hs
          obtain ⟨f, hf, rfl⟩ := List.mem_map.1 hs
          exact (HF.out f hf).1
        have HFN := hid hfn
        have HSS := hid hss
        clear ho e1 e2 hblk hfn hss HO
        have hn16 : fs.length ≤ 16 := by rw [HL.out]; omega
        have HT := hid (show treeR fs = (sortedL (fs.map pth) && apartL (fs.map pth)) by rw [treeR, HD.out, decide_eq_true hn16]; rfl)
        clear hn16
        go_wp2_with fail
        refine (sorted_any _ n n (fs.map (·.1)) _ HFN.out hrd hn HSS.out).mono ?_
        rintro e w1 ⟨rfl, hb1⟩
        rw [HLL.out]
        have hrd1 := hrd.below hb1
        have hb1' := below2 hb hb1
        clear hrd hb hb1
        cases hq : sortedL (fs.map pth)
        · rw [hq] at HT
          go_wp2
          go_ret
          exact ⟨ret_bool HT.out.symm, hb1'⟩
        · rw [hq, Bool.true_and] at HT
          have HS := hid (srt_pair hq)
          go_wp2_with fail
          refine (apart_any _ n n (fs.map (·.1)) _ HFN.out (Nat.le_refl _) hn hrd1 (by rw [HLL.out]; exact HS.out) HSS.out).mono ?_
          rintro e w2 ⟨rfl, hb2⟩
          rw [HLL.out]
          go_wp2
          go_ret
          exact ⟨ret_bool HT.out.symm, below2 hb1' hb2⟩
end Go.Proofs.YtaidggjnpnfdhaaGreatDoor
namespace Go.Proofs.YtaidggjnpnfdhaaGreatDoor
open Go.RowKit

/-- A slice of n files: what is read, and the bounds. -/
structure Ft (w : World) (A : Option Addr) (n c : Nat) (fs : List Fil) : Prop where
  len : fs.length = n
  rd : Rd w A (filV fs)
  cap : n ≤ c
  big : n ≤ 140737488355328
  capm : c ≤ 9223372036854775807
  sz : ∀ f ∈ fs, f.1.size < 4294967281 ∧ f.2.size ≤ 140737488355328
theorem Ft.below {w w' : World} {A : Option Addr} {n c : Nat} {fs : List Fil} (h : Ft w A n c fs) (hb : Below w.heap.size w w') : Ft w' A n c fs := ⟨h.len, h.rd.below hb, h.cap, h.big, h.capm, h.sz⟩
theorem Ft.sz1 {w : World} {A : Option Addr} {n c : Nat} {fs : List Fil} (h : Ft w A n c fs) : ∀ f ∈ fs, f.1.size < 4294967281 := fun f hf => (h.sz f hf).1
theorem tree_any {w : World} {A : Option Addr} {n c : Nat} {fs : List Fil} (h : Ft w A n c fs) : Calls Tryz.prog 23 #[.slice A n c] w fun e w' => e = .returned (.bool (treeR fs)) ∧ Below w.heap.size w w' :=
  tright_any A n c fs w h.len h.rd h.big (fun f hf => ⟨(h.sz f hf).1, by have := (h.sz f hf).2; unfold maxLen; omega⟩)

def getV : Option ByteArray → Value
  | some d => .tuple #[.string d, .bool true]
  | none => .tuple #[.string ⟨#[]⟩, .bool false]
theorem get_of {fs : List Fil} {p : ByteArray} (hR : treeR fs = true) (ht : thereT fs p.data.toList = true) : ∃ hl : (lowT fs p.data.toList).length < fs.length, getT fs p.data.toList = some fs[(lowT fs p.data.toList).length].2 := by
  have hs := ((treeR_iff fs).1 hR).srt
  obtain ⟨hl, he⟩ := (there_at hs).1 ht
  refine ⟨hl, ?_⟩
  rw [getT, if_pos hR, data_iff hs]
  have : (p, fs[(lowT fs p.data.toList).length].2) = fs[(lowT fs p.data.toList).length] := pth_inj (by rw [he]; rfl) rfl
  rw [this]
  exact List.getElem_mem _
theorem get_none {fs : List Fil} {p : ByteArray} (h : (treeR fs && thereT fs p.data.toList) = false) : getT fs p.data.toList = none := by
  rw [getT]
  cases hR : treeR fs
  · rfl
  · rw [hR, Bool.true_and, ← data_some] at h
    simpa using h

theorem size_more (fs : List Fil) (j : Nat) (h : j < fs.length) : sizeT (fs.take (j + 1)) = sizeT (fs.take j) + fs[j].2.size := by
  rw [sizeT, List.take_add_one, List.getElem?_eq_getElem h, List.map_append, List.sum_append]
  simp [sizeT]
theorem size_part (fs : List Fil) (j : Nat) : sizeT (fs.take j) ≤ sizeT fs := by
  have e : sizeT fs = sizeT (fs.take j) + sizeT (fs.drop j) := by
    conv => lhs; rw [← List.take_append_drop j fs]
    rw [sizeT, List.map_append, List.sum_append]
    rfl
  omega

set_option maxHeartbeats 400000 in
theorem size_any {w : World} {A : Option Addr} {n c : Nat} {fs : List Fil} (h : Ft w A n c fs) (hs : sizeT fs ≤ 140737488355328) :
    Calls Tryz.prog 26 #[.slice A n c] w fun e w' => e = .returned (.int .i64 (sizeT fs : Nat)) ∧ Below w.heap.size w w' := by
  have hn := h.big
  have HL := hid h.len
  have hr := h.rd
  clear h
  go_enter Tryz.func26, Tryz.ntmps26
  go_wp2_with fail
  go_loopw [3, 8] (fun s i wr => ∃ j : Nat, j ≤ n ∧ i = .int .i64 j ∧ s = .int .i64 (sizeT (fs.take j) : Nat) ∧ Below w.heap.size w wr) (fun _ i _ => n - (intOf i).toNat)
  case atStart => exact ⟨0, by omega, rfl, rfl, Below.refl _ _⟩
  case round =>
    obtain ⟨j, hj, rfl, rfl, hb⟩ := hrel
    by_cases hjn : j < n
    · have hjl : j < fs.length := by rw [HL.out]; exact hjn
      have hr1 := hr.below hb
      obtain ⟨b, off, rfl, h1, h2, -⟩ := hr1.fil hjl
      have HM := hid (size_more fs j hjl)
      have hp1 := size_part fs (j + 1)
      rw [HM.out] at hp1
      have hz : (0 : Int) ≤ j := by omega
      have hlt : (j : Int) < n := by omega
      clear hr1
      generalize fs[j] = f at *
      generalize sizeT (fs.take j) = s at *
      have hb2 := hb.alloc hb.size (.cells #[.string f.1, .string f.2] 38)
      go_wp2
      go_roundw
      case rel => exact ⟨j + 1, by omega, by go_num, by rw [HM.out]; go_num, hb2⟩
      case measure => simp [intOf]; omega
    · have HE := hid (show j = n by omega)
      have hnlt : ¬ (j : Int) < n := by omega
      go_wp2
      go_ret
      refine ⟨ret_int ?_, hb⟩
      rw [HE.out, ← HL.out, List.take_length]

/-! ### Same -/
theorem neqF (f g : Fil) (w : World) : (binOp .neq 38 (.agg #[.string f.1, .string f.2]) (.agg #[.string g.1, .string g.2])).run Tryz.prog w = .ok (.bool (!decide (f = g))) w := by
  have u9 := Tryz.underlying9
  have a9 := Tryz.isAgg9
  have z9 := Tryz.sizeOf9
  have hS : Tryz.prog.underlying 38 = some (.struct (Tryz.prog.fieldsOf 38)) := by kernel_rfl
  have hp : Tryz.prog.stoodInHeld 38 = false := by kernel_rfl
  rw [run_neq_struct, show (10000 : Nat) = 9999 + 1 from rfl, run_equalIn_agg w 9999 38 _ _ hS hp]
  simp only [Program.fieldsOf, Tryz.underlying38]
  go_simp
  have inj : ∀ {a b : ByteArray}, a.toList = b.toList → a = b := fun h => data_inj (by rw [← Lib.toList_data, ← Lib.toList_data]; exact h)
  by_cases h1 : f.1.toList = g.1.toList
  · by_cases h2 : f.2.toList = g.2.toList
    · have e : f = g := Prod.ext (inj h1) (inj h2)
      rw [if_pos h1, if_pos h2, decide_eq_true e]; rfl
    · have e : f ≠ g := fun e => h2 (by rw [e])
      rw [if_pos h1, if_neg h2, decide_eq_false e]; rfl
  · have e : f ≠ g := fun e => h1 (by rw [e])
    rw [if_neg h1, decide_eq_false e]; rfl

theorem same_no {fs gs : List Fil} {j : Nat} (h1 : j < fs.length) (h2 : j < gs.length) (h : fs[j] ≠ gs[j]) : fs ≠ gs := fun e => by subst e; exact h rfl

set_option maxHeartbeats 1000000 in
theorem equal_any {w : World} {A B : Option Addr} {n c m d : Nat} {fs gs : List Fil} (h : Ft w A n c fs) (k : Ft w B m d gs) :
    Calls Tryz.prog 42 #[.slice A n c, .slice B m d] w fun e w' => e = .returned (.bool (decide (fs = gs))) ∧ Below w.heap.size w w' := by
  have hn := h.big
  have HL := hid h.len
  have HL2 := hid k.len
  have hr := h.rd
  have hr2 := k.rd
  clear h k
  by_cases hnm : n = m
  · subst hnm
    go_enter Tryz.func42, Tryz.ntmps42
    go_wp2
    go_loopw [13] (fun i wr => ∃ j : Nat, j ≤ n ∧ i = .int .i64 j ∧ Hid (fs.take j = gs.take j) ∧ ∃ q, wr = w.drewN q) (fun i _ => n - (intOf i).toNat)
    case atStart => exact ⟨0, by omega, rfl, by simp [Hid], 0, rfl⟩
    case round =>
      obtain ⟨j, hj, rfl, HO, q, rfl⟩ := hrel
      by_cases hjn : j < n
      · have hjl : j < fs.length := by rw [HL.out]; exact hjn
        have hjl2 : j < gs.length := by rw [HL2.out]; exact hjn
        obtain ⟨b, off, rfl, h1, h2, -⟩ := hr.fil hjl
        obtain ⟨b', off', rfl, h3, h4, -⟩ := hr2.fil hjl2
        have HN := hid (@same_no fs gs j hjl hjl2)
        have HT1 := hid (show fs.take (j + 1) = fs.take j ++ [fs[j]] by rw [List.take_add_one, List.getElem?_eq_getElem hjl]; rfl)
        have HT2 := hid (show gs.take (j + 1) = gs.take j ++ [gs[j]] by rw [List.take_add_one, List.getElem?_eq_getElem hjl2]; rfl)
        have hz : (0 : Int) ≤ j := by omega
        have hlt : (j : Int) < n := by omega
        have hneq : ∀ w, (binOp .neq 38 (.agg #[.string fs[j].1, .string fs[j].2]) (.agg #[.string gs[j].1, .string gs[j].2])).run Tryz.prog w = .ok (.bool (!decide (fs[j] = gs[j]))) w := neqF fs[j] gs[j]
        generalize fs[j] = f at *
        generalize gs[j] = g at *
        by_cases hfg : f = g
        · rw [decide_eq_true hfg] at hneq
          have HFG := hid hfg
          clear hfg
          go_wp2_with fail
          go_quiet (fail)
          go_wp2
          go_roundw
          case rel => exact ⟨j + 1, by omega, by go_num, hid (by rw [HT1.out, HT2.out, HO.out, HFG.out]), _, rfl⟩
          case measure => simp [intOf]; omega
        · rw [decide_eq_false hfg] at hneq
          have HFG := hid hfg
          clear hfg
          go_wp2_with fail
          go_quiet (fail)
          go_wp2
          go_ret
          exact ⟨ret_bool (decide_eq_false (HN.out HFG.out)).symm, below_drewN (below_drewN (Below.refl _ _) _) _⟩
      · have HE := hid (show j = n by omega)
        have hnlt : ¬ (j : Int) < n := by omega
        go_wp2
        go_ret
        refine ⟨ret_bool ?_, below_drewN (Below.refl _ _) _⟩
        have ho := HO.out
        have e1 := HE.out
        rw [e1, List.take_of_length_le (by rw [HL.out]; omega), List.take_of_length_le (by rw [HL2.out]; omega)] at ho
        exact (decide_eq_true ho).symm
  · have hnz : ¬ (n : Int) = m := by omega
    go_enter Tryz.func42, Tryz.ntmps42
    go_wp2
    go_ret
    refine ⟨ret_bool ?_, Below.refl _ _⟩
    refine (decide_eq_false ?_).symm
    intro e
    subst e
    exact hnm (by rw [← HL.out, HL2.out])

set_option maxHeartbeats 400000 in
theorem same_any {w : World} {A B : Option Addr} {n c m d : Nat} {fs gs : List Fil} (h : Ft w A n c fs) (k : Ft w B m d gs) :
    Calls Tryz.prog 21 #[.slice A n c, .slice B m d] w fun e w' => e = .returned (.bool (decide (fs = gs))) ∧ Below w.heap.size w w' := by
  have c0 := equal_any h k
  clear h k
  generalize decide (fs = gs) = b at *
  go_enter Tryz.func21, Tryz.ntmps21
  go_wp2_with fail
  refine c0.mono ?_
  rintro e w1 ⟨rfl, hb⟩
  clear c0
  go_wp2
  go_ret
  exact ⟨rfl, hb⟩

/-! ### In -/
/-- A new slice of strings was answered. -/
def StrsPost (w : World) (ls : List ByteArray) (e : Ending) (w' : World) : Prop :=
  ∃ A c, e = .returned (.slice A ls.length c) ∧ Rd w' A (strV ls) ∧ ls.length ≤ c ∧ c ≤ maxLen ∧ Below w.heap.size w w'
def inTo (fs : List Fil) (d : List UInt8) : List ByteArray := (fs.filter fun f => underL (pth f) d).map (·.1)
theorem inTo_more (fs : List Fil) (d : List UInt8) (j : Nat) (h : j < fs.length) : inTo (fs.take (j + 1)) d = inTo (fs.take j) d ++ (if underL (pth fs[j]) d then [fs[j].1] else []) := by
  rw [inTo, List.take_add_one, List.getElem?_eq_getElem h, List.filter_append, List.map_append]
  simp only [Option.toList, List.filter_cons, List.filter_nil]
  split <;> rfl
theorem inTo_len (fs : List Fil) (d : List UInt8) : (inTo fs d).length ≤ fs.length := by rw [inTo, List.length_map]; exact List.length_filter_le _ _

end Go.Proofs.YtaidggjnpnfdhaaGreatDoor
namespace Go.Proofs.YtaidggjnpnfdhaaGreatDoor
open Go.RowKit

/-- An entry's value. -/
abbrev eA (e : Ent) : Value := .agg #[.string e.path, .bool e.has, .string e.data, .int .i64 e.l, .int .i64 e.r]
/-- A slice of n entries: what is read, and the bounds. -/
structure Et (w : World) (A : Option Addr) (n c : Nat) (es : List Ent) : Prop where
  len : es.length = n
  rd : Rd w A (entV es)
  cap : n ≤ c
  big : n ≤ 1000000
  capm : c ≤ 9223372036854775807
  sz : ∀ e ∈ es, e.path.size < 4294967281 ∧ e.data.size ≤ 140737488355328
theorem Et.below {w w' : World} {A : Option Addr} {n c : Nat} {es : List Ent} (h : Et w A n c es) (hb : Below w.heap.size w w') : Et w' A n c es := ⟨h.len, h.rd.below hb, h.cap, h.big, h.capm, h.sz⟩

theorem str_inj {a b : ByteArray} (h : a.toList = b.toList) : a = b := data_inj (by rw [← Lib.toList_data, ← Lib.toList_data]; exact h)
theorem eqInP (d : Nat) (a b c e : Int) (w : World) : (Op.equalIn (d + 1 + 1) 64 (.agg #[.int .i64 a, .int .i64 b]) (.agg #[.int .i64 c, .int .i64 e])).run Tryz.prog w = .ok (decide (a = c) && decide (b = e)) w := by
  have u9 := Tryz.underlying3
  have a9 := Tryz.isAgg3
  have z9 := Tryz.sizeOf3
  have hS : Tryz.prog.underlying 64 = some (.struct (Tryz.prog.fieldsOf 64)) := by kernel_rfl
  have hp : Tryz.prog.stoodInHeld 64 = false := by kernel_rfl
  rw [run_equalIn_agg w (d + 1) 64 _ _ hS hp]
  simp only [Program.fieldsOf, Tryz.underlying64]
  go_simp
  by_cases h1 : a = c <;> by_cases h2 : b = e <;> simp [h1, h2]
theorem eqP (a b c d : Int) (w : World) : (binOp .eql 64 (.agg #[.int .i64 a, .int .i64 b]) (.agg #[.int .i64 c, .int .i64 d])).run Tryz.prog w = .ok (.bool (decide (a = c) && decide (b = d))) w := by
  rw [run_eql_struct, show (10000 : Nat) = 9998 + 1 + 1 from rfl, eqInP]; rfl
theorem neqP (a b c d : Int) (w : World) : (binOp .neq 64 (.agg #[.int .i64 a, .int .i64 b]) (.agg #[.int .i64 c, .int .i64 d])).run Tryz.prog w = .ok (.bool (!(decide (a = c) && decide (b = d)))) w := by
  rw [run_neq_struct, show (10000 : Nat) = 9998 + 1 + 1 from rfl, eqInP]; rfl
theorem eqInE (e f : Ent) (w : World) : (Op.equalIn (9997 + 1 + 1 + 1) 66 (eA e) (eA f)).run Tryz.prog w = .ok (decide (e = f)) w := by
  have u9 := Tryz.underlying9
  have a9 := Tryz.isAgg9
  have z9 := Tryz.sizeOf9
  have u8 := Tryz.underlying4
  have a8 := Tryz.isAgg4
  have z8 := Tryz.sizeOf4
  have a6 := Tryz.isAgg64
  have z6 := Tryz.sizeOf64
  have hS : Tryz.prog.underlying 66 = some (.struct (Tryz.prog.fieldsOf 66)) := by kernel_rfl
  have hp : Tryz.prog.stoodInHeld 66 = false := by kernel_rfl
  have hpair := eqInP 9997 e.l e.r f.l f.r
  rw [run_equalIn_agg w (9997 + 1 + 1) 66 _ _ hS hp]
  simp only [Program.fieldsOf, Tryz.underlying66]
  go_simp
  by_cases h : e = f
  · subst h
    rw [if_pos rfl, if_pos rfl, if_pos rfl, if_neg (by simp), decide_eq_true rfl]
  · rw [decide_eq_false h]
    by_cases h1 : e.path.toList = f.path.toList
    · rw [if_pos h1]
      by_cases h2 : e.has = f.has
      · rw [if_pos h2]
        by_cases h3 : e.data.toList = f.data.toList
        · rw [if_pos h3, if_pos fun h4 h5 => h (Ent.same (str_inj h1) h2 (str_inj h3) h4 h5)]
        · rw [if_neg h3]
      · rw [if_neg h2]
    · rw [if_neg h1]
theorem eqE (e f : Ent) (w : World) : (binOp .eql 66 (eA e) (eA f)).run Tryz.prog w = .ok (.bool (decide (e = f))) w := by
  rw [run_eql_struct, show (10000 : Nat) = 9997 + 1 + 1 + 1 from rfl, eqInE]; rfl
theorem neqE (e f : Ent) (w : World) : (binOp .neq 66 (eA e) (eA f)).run Tryz.prog w = .ok (.bool (!decide (e = f))) w := by
  rw [run_neq_struct, show (10000 : Nat) = 9997 + 1 + 1 + 1 from rfl, eqInE]; rfl

theorem str_eqb (a b : ByteArray) : (a.toList == b.toList) = decide (a = b) := by
  by_cases h : a = b
  · subst h; simp
  · rw [decide_eq_false h, beq_eq_false_iff_ne]; exact fun e => h (str_inj e)

theorem isEmpty_no (d : ByteArray) : d.toList.isEmpty = decide (d = noS) := by
  by_cases h : d = noS
  · subst h; simp
  · rw [decide_eq_false h]
    cases hl : d.toList with
    | nil => exact absurd (str_inj (a := d) (b := noS) (by rw [hl]; simp)) h
    | cons _ _ => rfl
set_option maxHeartbeats 1000000 in
theorem efine_any (e : Ent) (w : World) :
    Calls Tryz.prog 56 #[eA e] w fun x w' => x = .returned (.bool (fineE e)) ∧ Below w.heap.size w w' := by
  obtain ⟨p, h, d, l, r⟩ := e
  have hn := neqP l r 0 0
  have HF := hid (show fineE ⟨p, h, d, l, r⟩ = (rt l r && !(decide (l = 0) && decide (r = 0)) && (h || decide (d = noS))) from rfl)
  have HD := hid (isEmpty_no d)
  have k := Blk.new w [.string p, .bool h, .string d, .int .i64 l, .int .i64 r] 66
  go_enter Tryz.func56, Tryz.ntmps56
  go_wp2_with fail
  refine (cright_any l r _).mono ?_
  rintro x w1 ⟨rfl, hb1⟩
  have k1 := k.below hb1
  have c1 := k1.cell 1
  have c2 := k1.cell 2
  have c3 := k1.cell 3
  have c4 := k1.cell 4
  simp only [List.getElem?_cons_zero, List.getElem?_cons_succ] at c1 c2 c3 c4
  have b1 := below_new _ hb1
  clear k k1 hb1
  generalize rt l r = q at *
  generalize (decide (l = 0) && decide (r = 0)) = z at *
  cases q <;> cases z <;> cases h
  all_goals
    go_wp2
    go_ret
    exact ⟨ret_bool (by rw [HF.out]; first | rfl | exact HD.out), b1⟩

/-! ### lesser -/
theorem run_minS (ts : Array TypeId) (t : TypeId) (a b : ByteArray) (w : World) : (Builtin.min_ ts t #[.string a, .string b]).run Tryz.prog w = .ok (.string (if Op.bytesLess b.toList a.toList then b else a)) w := by
  have h := less_flip b.toList a.toList
  simp [Builtin.min_, Builtin.min2, Op.stringOp, asBool]
  cases hq : Op.bytesLess b.toList a.toList
  · rw [hq] at h; simp at h; rcases h with h | h <;> simp [h]
  · rw [hq] at h; simp at h; simp [h.1, h.2]
def lesP : List Ent → List Fil → ByteArray
  | [], f :: _ => f.1
  | e :: _, [] => e.path
  | e :: _, f :: _ => if Op.bytesLess (pth f) (epth e) then f.1 else e.path
  | [], [] => noS
end Go.Proofs.YtaidggjnpnfdhaaGreatDoor
namespace Go.Proofs.YtaidggjnpnfdhaaGreatDoor
open Go.RowKit

/-! ### Cells of one entry, stored -/
theorem set_zero (x e : Ent) (es : List Ent) : (((((entV (x :: es)).set 0 (.string e.path)).set 1 (.bool e.has)).set 2 (.string e.data)).set 3 (.int .i64 e.l)).set 4 (.int .i64 e.r) = entV (e :: es) := rfl
theorem ent_set : ∀ (es : List Ent) (j : Nat) (_ : j < es.length) (e : Ent), (((((entV es).set (j * 5) (.string e.path)).set (j * 5 + 1) (.bool e.has)).set (j * 5 + 2) (.string e.data)).set (j * 5 + 3) (.int .i64 e.l)).set (j * 5 + 4) (.int .i64 e.r) = entV (es.set j e)
  | x :: es, 0, _, e => by
    rw [List.set_cons_zero, Nat.zero_mul]
    exact set_zero x e es
  | x :: es, j + 1, h, e => by
    have ih := ent_set es j (by simpa using h) e
    rw [List.set_cons_succ, entV_cons, entV_cons, ← ih]
    have e0 : (j + 1) * 5 = (j * 5) + 1 + 1 + 1 + 1 + 1 := by omega
    have e1 : (j + 1) * 5 + 1 = (j * 5 + 1) + 1 + 1 + 1 + 1 + 1 := by omega
    have e2 : (j + 1) * 5 + 2 = (j * 5 + 2) + 1 + 1 + 1 + 1 + 1 := by omega
    have e3 : (j + 1) * 5 + 3 = (j * 5 + 3) + 1 + 1 + 1 + 1 + 1 := by omega
    have e4 : (j + 1) * 5 + 4 = (j * 5 + 4) + 1 + 1 + 1 + 1 + 1 := by omega
    rw [e1, e2, e3, e4, e0]
    simp only [eV, List.cons_append, List.nil_append, List.set_cons_succ]
theorem path_set : ∀ (es : List Ent) (j : Nat) (h : j < es.length) (p : ByteArray), (entV es).set (j * 5) (.string p) = entV (es.set j ⟨p, es[j].has, es[j].data, es[j].l, es[j].r⟩)
  | x :: es, 0, _, p => rfl
  | x :: es, j + 1, h, p => by
    have ih := path_set es j (by simpa using h) p
    have e0 : (j + 1) * 5 = (j * 5) + 1 + 1 + 1 + 1 + 1 := by omega
    rw [List.set_cons_succ, entV_cons, entV_cons, e0]
    simp only [eV, List.cons_append, List.nil_append, List.set_cons_succ, List.getElem_cons_succ, ih]
theorem Blk.ent {w : World} {g : Nat} {es : List Ent} {t : TypeId} (h : Blk w g (entV es) t) {j : Nat} (hj : j < es.length) :
    w.cell? ⟨g, j * 5, none⟩ = some (.string es[j].path) ∧ w.cell? ⟨g, j * 5 + 1, none⟩ = some (.bool es[j].has) ∧ w.cell? ⟨g, j * 5 + 2, none⟩ = some (.string es[j].data) ∧ w.cell? ⟨g, j * 5 + 3, none⟩ = some (.int .i64 es[j].l) ∧ w.cell? ⟨g, j * 5 + 4, none⟩ = some (.int .i64 es[j].r) := by
  have g : ∀ q, q < 5 → w.cell? ⟨g, j * 5 + q, none⟩ = (eV es[j])[q]? := fun q hq => by rw [h.cell, entV_at es j hj q hq]
  exact ⟨g 0 (by omega), g 1 (by omega), g 2 (by omega), g 3 (by omega), g 4 (by omega)⟩
theorem Blk.rd {w : World} {g : Nat} {cs : List Value} {t : TypeId} (h : Blk w g cs t) : Rd w (some ⟨g, 0, none⟩) cs :=
  .inr ⟨_, rfl, fun k u hu => by rw [Addr.add_lit, Nat.zero_add, h.cell, hu]⟩

abbrev zE : Ent := ⟨noS, false, noS, 0, 0⟩
theorem Tryz.infoE : (Tryz.prog.info? 66).map (fun i => (i.zero, i.size, i.bytes)) = some (some (eA zE), 5, 56) := by kernel_rfl
theorem made_ents (n : Nat) : madeCells (eV zE).toArray (n * 5) = (entV (List.replicate n zE)).toArray := by
  apply Array.ext
  · simp [madeCells, entV_length]
  · intro i h1 h2
    have hi : i < n * 5 := by simpa [entV_length] using h2
    have e := entV_at (List.replicate n zE) (i / 5) (by simp; omega) (i % 5) (by omega)
    rw [show i / 5 * 5 + i % 5 = i by omega] at e
    simp only [madeCells, Array.getElem_map, Array.getElem_range, List.getElem_toArray]
    have e2 : (entV (List.replicate n zE))[i]? = some ((entV (List.replicate n zE))[i]'(by simpa using h2)) := List.getElem?_eq_getElem _
    rw [e2, List.getElem_replicate] at e
    have h5 : (eV zE).toArray.size = 5 := rfl
    rw [h5]
    have h6 : (eV zE)[i % 5]? = some ((eV zE).toArray[i % 5]!) := by
      have : i % 5 < 5 := by omega
      match i % 5, this with
      | 0, _ => rfl
      | 1, _ => rfl
      | 2, _ => rfl
      | 3, _ => rfl
      | 4, _ => rfl
    rw [h6] at e
    injection e with e
    rw [e]
theorem make_ents (n : Nat) (hn : n ≤ 1000000) (w : World) : (Instr.makeSlice 40 (.int .i64 (n : Int)) (.int .i64 (n : Int))).run Tryz.prog w = .ok (.slice (some ⟨w.heap.size, 0, none⟩) n n) (w.alloc (.cells (entV (List.replicate n zE)).toArray 66)) := by
  obtain ⟨i, hi, hz0, hz1, hz2⟩ := info_parts Tryz.infoE
  have h := run_make (P := Tryz.prog) w 40 66 i _ Tryz.underlying40 hi hz0 .i64 .i64 n n (by omega) (Int.le_refl _) (by rw [hz2]; omega) (by omega)
  rw [h, hz1, Int.toNat_natCast, ← made_ents]
  rfl

/-! ### Same -/
theorem same_noE {fs gs : List Ent} {j : Nat} (h1 : j < fs.length) (h2 : j < gs.length) (h : fs[j] ≠ gs[j]) : fs ≠ gs := fun e => by subst e; exact h rfl
/-! ### Find's closure -/
end Go.Proofs.YtaidggjnpnfdhaaGreatDoor
namespace Go.Proofs.YtaidggjnpnfdhaaGreatDoor
open Go.RowKit

theorem Blk.row {w : World} {g : Nat} {cs cs' : List Value} {t : TypeId} (h : Blk w g cs t) : Blk (w.setRow g cs'.toArray) g cs' t := setRow_heap w g cs.toArray cs'.toArray t (0, 0) h
theorem Blk.rowOther {w : World} {g k : Nat} {cs : List Value} {t : TypeId} (h : Blk w k cs t) (hne : k ≠ g) (x : Array Value) : Blk (w.setRow g x) k cs t := by
  unfold Blk
  rw [setRow_other w g k x hne]
  exact h
theorem Blk.read {w : World} {g : Nat} {cs : List Value} {t : TypeId} (h : Blk w g cs t) (o : Nat) (xs : List Value) (hx : ∀ j u, xs[j]? = some u → cs[o + j]? = some u) : ∀ j u, xs[j]? = some u → w.cell? ((⟨g, o, none⟩ : Addr).add j) = some u := by
  intro j u hu
  rw [Addr.add_lit, h.cell]
  exact hx j u hu
theorem wp_copy2 {P : Program} (w : World) {o : Oper} {a : Act} {K : Act → World → Prop} {Q : Exit → Act → World → Prop} (d s : Operand) (t t' : TypeId)
    (ho : o.op = .call { callee := .builtin .copy, args := #[d, s], argTypes := #[t, t'] }) (v u : Value) (hd : a.eval d = v) (hs : a.eval s = u) {v' : Value} {w' : World}
    (hr : (Builtin.copy_ #[t, t'] o.type #[v, u]).run P w = .ok v' w') (h : K (a.put o.dst v') w') : o.wp P a w K Q := by
  unfold Oper.wp
  simp [execOp, ho, resolve, invoke, builtin, hd, hs, hr, Result.andThen]
  exact h
theorem wpCopy {P : Program} (w : World) {ops : Array Oper} {rest : List Oper} {o : Oper} {a : Act} {Q : Exit → Act → World → Prop} (hgd : o.guard = none) (d s : Operand) (t t' : TypeId)
    (ho : o.op = .call { callee := .builtin .copy, args := #[d, s], argTypes := #[t, t'] }) (v u : Value) (hd : a.eval d = v) (hs : a.eval s = u) {v' : Value} {w' : World}
    (hr : (Builtin.copy_ #[t, t'] o.type #[v, u]).run P w = .ok v' w') (h : wpList P ops Q rest (a.put o.dst v') w') : wpList P ops Q (o :: rest) a w :=
  wpList_plain hgd fun _ hK => wp_copy2 w d s t t' ho v u hd hs hr (hK _ _ h)
theorem stepCopy {P : Program} {w w' : World} {ops : Array Oper} {o : Oper} {a : Act} {K : Act → World → Prop} {Q : Exit → Act → World → Prop} {E : Prop} (hw : Region.wanted o (yielded ops a.tmps) = true) (d s : Operand) (t t' : TypeId)
    (ho : o.op = .call { callee := .builtin .copy, args := #[d, s], argTypes := #[t, t'] }) (v u v' : Value) (hd : a.eval d = v) (hs : a.eval s = u)
    (hr : (Builtin.copy_ #[t, t'] o.type #[v, u]).run P w = .ok v' w') (h : K (a.put o.dst v') w') : if Region.wanted o (yielded ops a.tmps) = true then Oper.wp P o a w K Q else E := by
  rw [if_pos hw]
  exact wp_copy2 w d s t t' ho v u hd hs hr h
theorem stepApp2 {P : Program} {w w' : World} {ops : Array Oper} {o : Oper} {a : Act} {K : Act → World → Prop} {Q : Exit → Act → World → Prop} {E : Prop} (hw : Region.wanted o (yielded ops a.tmps) = true) (s x : Operand) (t : TypeId)
    (ho : o.op = .call { callee := .builtin .append, args := #[s, x], argTypes := #[t, t] }) (v1 v2 v : Value) (hs : a.eval s = v1) (hx : a.eval x = v2)
    (hrun : (Builtin.append_ #[t, t] o.type #[v1, v2]).run P w = .ok v w') (h : K (a.put o.dst v) w') : if Region.wanted o (yielded ops a.tmps) = true then Oper.wp P o a w K Q else E := by
  rw [if_pos hw]
  exact Lib.wp_append_run w s x t t ho v1 v2 hs hx v w' hrun h
end Go.Proofs.YtaidggjnpnfdhaaGreatDoor
namespace Go.Proofs.YtaidggjnpnfdhaaGreatDoor
open Go.RowKit

abbrev zS : Value := .string ⟨#[]⟩
theorem Tryz.infoF : (Tryz.prog.info? 38).map (fun i => (i.zero, i.size, i.bytes)) = some (some (.agg #[zS, zS]), 2, 32) := by kernel_rfl
theorem zero_two (n : Nat) : Builtin.zeroCells (Value.agg #[zS, zS]).cells n = (List.replicate (n * 2) zS).toArray := made_two zS (n * 2)
/-- append of one more where there is no room. -/
theorem app_end {w : World} {g n : Nat} {fs : List Fil} (hB : Blk w g (filV fs) 38) (hl : fs.length = n) (hn : n ≤ 1000) (ty : TypeId) (k : Nat) (a b : Value) (hk : Blk w k [a, b] 38) (ha : a.oneCell' = true) (hb : b.oneCell' = true) :
    ∃ c', n + 1 ≤ c' ∧ c' ≤ maxLen ∧ (Builtin.append_ #[22, 22] ty #[.slice (some ⟨g, 0, none⟩) n n, .slice (some ⟨k, 0, none⟩) 1 1]).run Tryz.prog w =
      .ok (.slice (some ⟨w.heap.size, 0, none⟩) (n + 1) c') (w.drew.alloc (.cells (filV fs ++ [a, b] ++ List.replicate ((c' - (n + 1)) * 2) zS).toArray 38)) := by
  obtain ⟨i, hi, hz0, hz1, hz2⟩ := info_parts Tryz.infoF
  have hs : Src Tryz.prog i.size 22 (.slice (some ⟨k, 0, none⟩) 1 1) 1 [a, b] w := Src.ofSlice w Tryz.underlying22 _ 1 1 [a, b] (by rw [hz1]; rfl) (hk.read 0 [a, b] (fun j u hu => by rw [Nat.zero_add]; exact hu)) (by simp [ha, hb])
  have hold : (Builtin.firstCells i.size n (.slice (some ⟨g, 0, none⟩) n n)).run Tryz.prog w.drew = .ok (filV fs).toArray w.drew := run_firstCells_some w.drew i.size n _ n n (filV fs) (by rw [hz1, filV_length, hl]) (hB.drew.read 0 (filV fs) (fun j u hu => by rw [Nat.zero_add]; exact hu))
  have hfit : Builtin.nextslicecap (n + 1) n * i.bytes ≤ 281474976710656 := by
    rw [hz2]
    exact growslice_fits (by omega) (by omega)
  refine ⟨grownCap w (n + 1) n 38, grownCap_ge w _ _ _, grownCap_le_maxLen w _ _ _ (by unfold maxLen; omega), ?_⟩
  rw [run_append_grow_src w _ _ ty 38 i _ Tryz.underlying22 hi hz0 (some ⟨g, 0, none⟩) n n (filV fs) hold _ 1 [a, b] hs (by omega) (by omega) hfit, zero_two]
  have e : (filV fs ++ [a, b] ++ List.replicate ((grownCap w (n + 1) n 38 - (n + 1)) * 2) zS).toArray = (filV fs ++ [a, b]).toArray ++ (List.replicate ((grownCap w (n + 1) n 38 - (n + 1)) * 2) zS).toArray := by
    apply Array.ext'
    simp
  rw [e]

/-- append of zero values where there is no room. -/
theorem app_zeros {w : World} {g n i : Nat} {fs : List Fil} (hB : Blk w g (filV fs) 38) (hl : fs.length = n) (hn : n ≤ 1000) (hi : i < n) (ty : TypeId) (z : Int) (hz : z = (n : Int) + 1 - i) :
    ∃ c', n + 1 ≤ c' ∧ c' ≤ maxLen ∧ (Builtin.append_ #[22, 3] ty #[.slice (some ⟨g, 0, none⟩) i n, .int .i64 z]).run Tryz.prog w =
      .ok (.slice (some ⟨w.heap.size, 0, none⟩) (n + 1) c') (w.drew.alloc (.cells (filV (fs.take i) ++ List.replicate ((c' - i) * 2) zS).toArray 38)) := by
  obtain ⟨inf, hinf, hz0, hz1, hz2⟩ := info_parts Tryz.infoF
  subst hz
  have e : ((n : Int) + 1 - i) = ((n + 1 - i : Nat) : Int) := by omega
  rw [e]
  have hold : (Builtin.firstCells inf.size i (.slice (some ⟨g, 0, none⟩) i n)).run Tryz.prog w.drew = .ok (filV (fs.take i)).toArray w.drew := run_firstCells_some w.drew inf.size i _ i n (filV (fs.take i)) (by rw [hz1, filV_length, List.length_take, hl]; omega) (hB.drew.read 0 (filV (fs.take i)) (fun j u hu => by
    rw [Nat.zero_add]
    rw [filV_take, List.getElem?_take] at hu
    split at hu
    · exact hu
    · cases hu))
  have hfit : Builtin.nextslicecap (n + 1) n * inf.bytes ≤ 281474976710656 := by
    rw [hz2]
    exact growslice_fits (by omega) (by omega)
  refine ⟨grownCap w (n + 1) n 38, grownCap_ge w _ _ _, grownCap_le_maxLen w _ _ _ (by unfold maxLen; omega), ?_⟩
  have hge := grownCap_ge w (n + 1) n 38
  have hw : IntKind.i64.wrap ((n + 1 - i : Nat) : Int) = ((n + 1 - i : Nat) : Int) := by rw [IntKind.wrap_i64]; omega
  have need : i + (n + 1 - i) = n + 1 := by omega
  have hroom : ¬ n + 1 ≤ n := by omega
  have h48' : ¬ (281474976710656 < Builtin.nextslicecap (n + 1) n * inf.bytes) := by omega
  have h48i : ¬ (281474976710656 < ((n + 1 - i : Nat) : Int) * (inf.bytes : Int)) := by rw [hz2]; omega
  have hneg : ¬ (((n + 1 - i : Nat) : Int) < 0) := by omega
  have hns : ¬ ((n + 1 - i) * inf.size = 0) := by rw [hz1]; omega
  have hzc : Builtin.zeroCells (Value.agg #[zS, zS]).cells (n + 1 - i) ++ Builtin.zeroCells (Value.agg #[zS, zS]).cells (grownCap w (n + 1) n 38 - (n + 1)) = (List.replicate ((grownCap w (n + 1) n 38 - i) * 2) zS).toArray := by
    rw [zero_two, zero_two, show (grownCap w (n + 1) n 38 - i) * 2 = (n + 1 - i) * 2 + (grownCap w (n + 1) n 38 - (n + 1)) * 2 by omega]
    apply Array.ext'
    simp
  have e2 : (filV (fs.take i) ++ List.replicate ((grownCap w (n + 1) n 38 - i) * 2) zS).toArray = (filV (fs.take i)).toArray ++ (Builtin.zeroCells (Value.agg #[zS, zS]).cells (n + 1 - i) ++ Builtin.zeroCells (Value.agg #[zS, zS]).cells (grownCap w (n + 1) n 38 - (n + 1))) := by
    rw [hzc]; simp
  rw [e2, ← Array.append_assoc]
  generalize (n + 1 - i : Nat) = m at *
  have h63' : ¬ (9223372036854775807 < (i : Int) + (m : Int)) := by omega
  simp [Builtin.append_, run_underlying Tryz.underlying22, run_underlying Tryz.underlying3, sizeOf, typeInfo, zeroValue, hinf, hz0, asInt, asIntOf, hw, hneg, hns, need, hroom, h63', h48', h48i, Question.forced, hold, newRow, grownCap]

/-- copy of cells onto a block that is known whole. -/
theorem copy_blk {w : World} {g o dLen dCap : Nat} {cs : List Value} (hB : Blk w g cs 38) (ty : TypeId) (a : Addr) (sLen sCap : Nat) (news : List Value) (hl : news.length = Nat.min sLen dLen * 2) (hfit : o + news.length ≤ cs.length)
    (hsrc : ∀ j v, news[j]? = some v → w.cell? (a.add j) = some v) (h1 : ∀ v ∈ news, v.oneCell' = true) :
    (Builtin.copy_ #[22, 22] ty #[.slice (some ⟨g, o, none⟩) dLen dCap, .slice (some a) sLen sCap]).run Tryz.prog w =
      .ok (goInt (Nat.min sLen dLen : Nat)) (w.setRow g (cs.take o ++ news ++ cs.drop (o + news.length)).toArray) := by
  obtain ⟨i, hi, hz0, hz1, hz2⟩ := info_parts Tryz.infoF
  have hst := run_storeCells_at Tryz.prog g o 38 news 0 cs.toArray w hB (by simpa using hfit) h1
  have hld := run_firstCells_some (P := Tryz.prog) w i.size (Nat.min sLen dLen) a sLen sCap news (by rw [hz1]; exact hl) hsrc
  simp only [Nat.add_zero] at hst
  simp [Builtin.copy_, run_underlying Tryz.underlying22, Builtin.lenOf, sizeOf, typeInfo, hi]
  rw [hld]
  simp [Result.andThen, hst]
/-- append where there is room. -/
theorem app_room {w : World} {g : Nat} {cs : List Value} (hB : Blk w g cs 38) (ty : TypeId) (sLen sCap : Nat) (a : Addr) (m d : Nat) (news : List Value) (hl : news.length = m * 2) (hroom : sLen + m ≤ sCap) (hfit : sLen * 2 + news.length ≤ cs.length)
    (hsrc : ∀ j v, news[j]? = some v → w.cell? (a.add j) = some v) (h1 : ∀ v ∈ news, v.oneCell' = true) :
    (Builtin.append_ #[22, 22] ty #[.slice (some ⟨g, 0, none⟩) sLen sCap, .slice (some a) m d]).run Tryz.prog w =
      .ok (.slice (some ⟨g, 0, none⟩) (sLen + m) sCap) (w.setRow g (cs.take (sLen * 2) ++ news ++ cs.drop (sLen * 2 + news.length)).toArray) := by
  obtain ⟨i, hi, hz0, hz1, hz2⟩ := info_parts Tryz.infoF
  have hst := run_storeCells_at Tryz.prog g (sLen * 2) 38 news 0 cs.toArray w hB (by simpa using hfit) h1
  have hld := run_firstCells_some (P := Tryz.prog) w i.size m a m d news (by rw [hz1]; exact hl) hsrc
  rw [hz1] at hld
  simp only [Nat.add_zero] at hst
  simp [Builtin.append_, run_underlying Tryz.underlying22, sizeOf, typeInfo, hi, Builtin.lenOf, hroom, hz1, hld, Addr.add_lit, hst]

/-- clear of one file. -/
theorem clear_one {w : World} {g : Nat} {cs : List Value} (hB : Blk w g cs 38) (ty : TypeId) (o c : Nat) (hfit : o + 2 ≤ cs.length) :
    (Builtin.clear_ #[22] ty #[.slice (some ⟨g, o, none⟩) 1 c]).run Tryz.prog w = .ok (.tuple #[]) (w.setRow g (cs.take o ++ [zS, zS] ++ cs.drop (o + 2)).toArray) := by
  obtain ⟨i, hi, hz0, hz1, hz2⟩ := info_parts Tryz.infoF
  have hst := run_storeCells_at Tryz.prog g o 38 [zS, zS] 0 cs.toArray w hB (by simpa using hfit) (by simp; rfl)
  simp only [Nat.add_zero] at hst
  have hz : Builtin.zeroCells (Value.agg #[zS, zS]).cells 1 = #[zS, zS] := zero_two 1
  simp [Builtin.clear_, run_underlying Tryz.underlying22, zeroValue, typeInfo, hi, hz0]
  rw [hz, show (#[zS, zS] : Array Value).toList = [zS, zS] from rfl, hst]
  simp [Result.andThen]
end Go.Proofs.YtaidggjnpnfdhaaGreatDoor
namespace Go.Proofs.YtaidggjnpnfdhaaGreatDoor
open Go.RowKit Go.Shelf

attribute [local go_sem] Oper.semAt_some

/-- Sizes that are asked. -/
def SzE (e : Ent) : Prop := e.path.size < 4294967281 ∧ e.data.size ≤ 140737488355328
def SzF (f : Fil) : Prop := f.1.size < 4294967281 ∧ f.2.size ≤ 140737488355328
instance (f : Fil) : Decidable (SzF f) := by unfold SzF; exact inferInstance
abbrev SF := { f : Fil // SzF f }
def toF (e : Ent) : Option SF := if h : e.has = true ∧ SzF (e.path, e.data) then some ⟨(e.path, e.data), h.2⟩ else none
def filT (es : List Ent) : List SF := es.filterMap toF
theorem filT_val {es : List Ent} (h : ∀ e ∈ es, SzE e) : (filT es).map (·.1) = filesOf es := by
  induction es with
  | nil => rfl
  | cons e es ih =>
    have ih := ih fun x hx => h x (List.mem_cons_of_mem _ hx)
    have he : SzF (e.path, e.data) := h e (by simp)
    rw [filesOf_cons, filT, List.filterMap_cons]
    cases hh : e.has with
    | true => rw [toF, dif_pos ⟨hh, he⟩]; simp only [List.map_cons, if_true]; rw [← ih]; rfl
    | false => rw [toF, dif_neg (by simp [hh]), if_neg (by simp)]; exact ih
theorem filT_more (es : List Ent) (j : Nat) (h : j < es.length) : filT (es.take (j + 1)) = filT (es.take j) ++ (toF es[j]).toList := by
  rw [filT, List.take_add_one, List.getElem?_eq_getElem h, List.filterMap_append]
  simp only [Option.toList, List.filterMap_cons, List.filterMap_nil]
  cases toF es[j] <;> rfl
theorem filT_len (es : List Ent) : (filT es).length ≤ es.length := List.length_filterMap_le ..

theorem files_any (A : Option Addr) (n c : Nat) (w : World) :
    Calls Tryz.prog 43 #[.slice A n c] w fun e w' => e = .returned (.func (.func 59) #[] #[.pointer (some ⟨w.heap.size, 0, none⟩)]) ∧ w' = w.alloc (.cells #[.slice A n c] 40) := by
  have hmf : ∀ (fn : Fn) (first cap : Array Value) (w : World), (Instr.makeFunc fn first cap).run Tryz.prog w = .ok (.func fn first cap) w := fun _ _ _ _ => rfl
  go_enter Tryz.func43, Tryz.ntmps43
  go_wp2
  go_ret
  exact ⟨rfl, rfl⟩

set_option maxRecDepth 100000 in
set_option maxHeartbeats 1000000 in
theorem files1_in (k : Nat) (hk : 1 ≤ k) (l Bn : Nat) (w0 : World) (A : Option Addr) (n c : Nat) (es : List Ent) (hl : es.length = n) (hr : Rd w0 A (entV es)) (hn : n ≤ 1000000) (hsz : ∀ e ∈ es, SzE e) (J Jx : List SF → World → Prop)
    (W : World) (hJ : AbidesFrom W.heap.size J)
    (hY : ∀ pre (x : SF) W, J pre W → pre.length < n → YieldAt Fence.wide (k - 1) Tryz.prog l #[.agg #[.string x.1.1, .string x.1.2]] W fun e W' =>
      (e = .returned (.bool true) ∧ J (pre ++ [x]) W' ∧ Below w0.heap.size W W') ∨ (e = .returned (.bool false) ∧ Jx (pre ++ [x]) W'))
    (hB : W.cell? ⟨Bn, 0, none⟩ = some (.slice A n c)) (hW : Below w0.heap.size w0 W) (h0 : J [] W) :
    CallsIn Fence.wide k Tryz.prog 59 #[.func (.yield l) #[] #[], .pointer (some ⟨Bn, 0, none⟩)] W fun e W' => (∃ v, e = .returned v) ∧
      ((∃ ys, ys = filT es ∧ J ys W') ∨ (∃ pre, pre <+: filT es ∧ Jx pre W')) := by
  refine callsIn_of_wp Tryz.func59 rfl trivial ?_ rfl
  simp only [Tryz.ntmps59, List.size_toArray, List.length_cons, List.length_nil, Nat.reduceAdd, Nat.reduceSub, Array.replicate_succ, Array.replicate_zero, List.push_toArray, List.append_toArray, List.nil_append, List.cons_append]
  have HL := hid hl
  have HS := hid hsz
  clear hl hsz
  gi_wp2
  gi_loopw [7] (fun p wr => ∃ j : Nat, j ≤ n ∧ p = .int .i64 j ∧ Below w0.heap.size w0 wr ∧ J (filT (es.take j)) wr) (fun p _ => n - (intOf p).toNat)
  case atStart => exact ⟨0, by omega, rfl, hW, h0⟩
  case round =>
    obtain ⟨j, hj, rfl, hw, hJj⟩ := hrel
    by_cases hjn : j < n
    · have hjl : j < es.length := by rw [HL.out]; exact hjn
      have hr1 := hr.below hw
      obtain ⟨b, off, rfl, h1, h2, h3, h4, h5, -⟩ := hr1.ent hjl
      have hz : (0 : Int) ≤ j := by omega
      have hlt : (j : Int) < n := by omega
      have HM := hid (filT_more es j hjl)
      have HZ := hid (HS.out es[j] (List.getElem_mem hjl))
      have HPre : Hid (filT (es.take (j + 1)) <+: filT es) := List.IsPrefix.filterMap _ (List.take_prefix _ _)
      have hlen : (filT (es.take j)).length < n := by have := filT_len (es.take j); rw [List.length_take] at this; omega
      have hJ1 := hJ _ _ _ none hJj (World.grownBy_alloc wr (.cells #[.string es[j].path, .bool es[j].has, .string es[j].data, .int .i64 es[j].l, .int .i64 es[j].r] 66) none) (by simp)
      have hw1 := hw.alloc hw.size (.cells #[.string es[j].path, .bool es[j].has, .string es[j].data, .int .i64 es[j].l, .int .i64 es[j].r] 66)
      clear hr1
      generalize es[j] = x at *
      obtain ⟨p, h, d, cl, cr⟩ := x
      simp only at h1 h2 h3 h4 h5 hJ1 hw1
      cases h with
      | false =>
        have HF : Hid (toF ⟨p, false, d, cl, cr⟩ = none) := by show _ = _; rw [toF, dif_neg (by simp)]
        rw [HF.out] at HM
        have HJ2 : Hid (J (filT (es.take (j + 1))) (wr.alloc (.cells #[.string p, .bool false, .string d, .int .i64 cl, .int .i64 cr] 66))) := by rw [HM.out, Option.toList, List.append_nil]; exact hJ1
        clear HM HF HZ hJ1
        gi_wp2
        refine ⟨fun _ h => (by cases h), ?_⟩
        gi_wp2
        go_roundw
        case rel => exact ⟨j + 1, by omega, by go_num, hw1, HJ2.out⟩
        case measure => simp [intOf]; omega
      | true =>
        have HF : Hid (toF ⟨p, true, d, cl, cr⟩ = some ⟨(p, d), HZ.out⟩) := by show _ = _; rw [toF, dif_pos ⟨rfl, HZ.out⟩]
        rw [HF.out] at HM
        obtain ⟨fn, tmps, assign, body, hy, hR⟩ := hY _ ⟨(p, d), HZ.out⟩ _ hJ1 hlen
        dsimp only at hy
        gi_wp2
        refine hR.mono ?_
        rintro e W3 (⟨rfl, hJ3, hk3⟩ | ⟨rfl, hJx3⟩)
        · have HJ3 : Hid (J (filT (es.take (j + 1))) W3) := by rw [HM.out]; exact hJ3
          have hw3 := hw1.trans hk3
          clear hJ3 hk3 HM HF hy hR
          gi_wp2
          go_roundw
          case rel => exact ⟨j + 1, by omega, by go_num, hw3, HJ3.out⟩
          case measure => simp [intOf]; omega
        · have HJ3 : Hid (Jx (filT (es.take (j + 1))) W3) := by rw [HM.out]; exact hJx3
          gi_wp2
          refine bodyPost_ret (results_none rfl _ _ _) rfl ?_
          exact ⟨⟨_, rfl⟩, .inr ⟨_, HPre.out, HJ3.out⟩⟩
    · have HE := hid (show j = n by omega)
      have hnlt : ¬ (j : Int) < n := by omega
      gi_wp2
      go_end0
      refine ⟨⟨_, rfl⟩, .inl ?_⟩
      rw [HE.out, List.take_of_length_le (by rw [HL.out]; omega)] at hJj
      exact hJj
theorem files_stops (k : Nat) (hk : 1 ≤ k) (Bn : Nat) (w0 w : World) (A : Option Addr) (n c : Nat) (es : List Ent) (hl : es.length = n) (hr : Rd w0 A (entV es)) (hn : n ≤ 1000000) (hsz : ∀ e ∈ es, SzE e) (hBn : Bn < w.heap.size) (hc : w.cell? ⟨Bn, 0, none⟩ = some (.slice A n c)) (hw : Below w0.heap.size w0 w) :
    SeqStopsK Fence.wide k Tryz.prog 59 #[.pointer (some ⟨Bn, 0, none⟩)] (fun x : SF => #[Value.agg #[.string x.1.1, .string x.1.2]]) (Below w0.heap.size) (fun ys => ys = filT es) (fun pre => pre <+: filT es) n w := fun l J Jx W hW hJ _ hY h0 =>
  files1_in k hk l Bn w0 A n c es hl hr hn hsz J Jx W hJ hY ((hW.cell (p := ⟨Bn, 0, none⟩) hBn).trans hc) (hw.trans (hW.mono hw.size)) h0

/-! ### slices.Collect of it -/
theorem blk_kept {W W' : World} {row : Option Nat} {g : Nat} {cs : List Value} {t : TypeId} (h : Blk W g cs t) (hg : W.grownBy W' row) (hr : ∀ r, row = some r → ∃ o : Obj, W.heap[r]? = some o ∧ o.isCells = false) : Blk W' g cs t := by
  unfold Blk at h ⊢
  rw [hg.block g (Array.getElem?_eq_some_iff.1 h).1 (fun e => by
    obtain ⟨o, ho, hc⟩ := hr g e.symm
    rw [h] at ho; injection ho with ho; subst ho; cases hc)]
  exact h
/-- append whose run is known. -/
theorem wpAppIn {F : Fence} {n : Nat} {P : Program} {w w' : World} {ops : Array Oper} {rest : List Oper} {o : Oper} {a : Act} {Q : Exit → Act → World → Prop} (hgd : o.guard = none) (s x : Operand) (t : TypeId)
    (ho : o.op = .call { callee := .builtin .append, args := #[s, x], argTypes := #[t, t] }) (v1 v2 v : Value) (hs : a.eval s = v1) (hx : a.eval x = v2)
    (hrun : (Builtin.append_ #[t, t] o.type #[v1, v2]).run P w = .ok v w') (h : wpListIn F n P ops Q rest (a.put o.dst v) w') : wpListIn F n P ops Q (o :: rest) a w := by
  refine wpListIn_plain hgd fun K hK => ?_
  unfold Oper.wpIn
  refine ⟨?_, ?_⟩
  · simp [Oper.about, ho, resolve, Target.leads, Sem.run_pure]
  · rw [Oper.semAt_plain F _ _ (by rw [ho]; intro c hc'; cases hc')]
    simp [execOp, ho, resolve, invoke, builtin, hs, hx, hrun, Result.andThen]
    exact hK _ _ h
/-- A file as one behind what is there already, in a round. -/
theorem app_round {W : World} {n₀ B : Nat} {v : Value} {k : Nat} {xs : List Value} (hv : Boxed W B 22 v) (hrow : W.ownsRow n₀ 38 2 v k xs) (hn : n₀ ≤ W.heap.size) (hB : n₀ ≤ B) (hk : k ≤ 1000000) (f : Fil) :
    ∃ A' c' w1, Hid ((Builtin.append_ #[22, 22] 22 #[v, .slice (some ⟨W.heap.size, 0, none⟩) 1 1]).run Tryz.prog (W.alloc (.cells #[.string f.1, .string f.2] 38)) = .ok (.slice A' (k + 1) c') w1) ∧
      w1.cell? ⟨B, 0, none⟩ = some v ∧ w1.frozen? ⟨B, 0, none⟩ = false ∧ Boxed (w1.setCell ⟨B, 0, none⟩ (.slice A' (k + 1) c')) B 22 (.slice A' (k + 1) c') ∧
      (w1.setCell ⟨B, 0, none⟩ (.slice A' (k + 1) c')).ownsRow n₀ 38 2 (.slice A' (k + 1) c') (k + 1) (xs ++ [.string f.1, .string f.2]) ∧ KeepsOthers W (w1.setCell ⟨B, 0, none⟩ (.slice A' (k + 1) c')) ∧ Below n₀ W (w1.setCell ⟨B, 0, none⟩ (.slice A' (k + 1) c')) ∧ (W.alloc (.cells #[.string f.1, .string f.2] 38)).grownBy w1 v.ownBlock := by
  obtain ⟨i, hi, hz0, hz1, hz2⟩ := info_parts Tryz.infoF
  obtain ⟨v', w1, h2, h3, h4, -⟩ := run_append_own (P := Tryz.prog) (W.alloc (.cells #[.string f.1, .string f.2] 38)) n₀ 22 22 38 i _ 2 32 Tryz.underlying22 hi hz0 hz1 hz2 rfl (by decide) v k xs (hrow.alloc _) ⟨W.heap.size, 0, none⟩ 1 1 [.string f.1, .string f.2] rfl
    (new_cells W 38 [.string f.1, .string f.2]) (by simp [Value.oneCell']) (by unfold maxLen; omega) (by omega) (by simp; omega)
  obtain ⟨g', cap', rfl⟩ := ownsRow_succ h3
  obtain ⟨a1, a2, a3, a4, a5⟩ := hv.appended (by decide) hrow hn hB h3 h4
  exact ⟨_, _, w1, h2, a1.cell, a1.frozen, a2, a3, a4, a5, h4⟩

set_option maxRecDepth 100000 in
set_option maxHeartbeats 2000000 in
theorem appendSeq_any (Bn : Nat) (A : Option Addr) (n c : Nat) (es : List Ent) (w : World) (hl : es.length = n) (hr : Rd w A (entV es)) (hn : n ≤ 1000000) (hsz : ∀ e ∈ es, SzE e) (hc : w.cell? ⟨Bn, 0, none⟩ = some (.slice A n c)) :
    Calls Tryz.prog 79 #[.slice none 0 0, .func (.func 59) #[] #[.pointer (some ⟨Bn, 0, none⟩)]] w fun e w' =>
      ∃ v, e = .returned v ∧ w'.ownsRow w.heap.size 38 2 v (filesOf es).length (filV (filesOf es)) ∧ Below w.heap.size w w' := by
  have hBn := World.block_lt_of_cell? _ _ hc
  refine (callsIn_wide (n := 3)).1 ?_
  refine callsIn_of_wp_marks Tryz.func79 rfl trivial ?_ rfl
  simp only [Tryz.ntmps79, List.size_toArray, List.length_cons, List.length_nil, Nat.reduceAdd, Nat.reduceSub, Array.replicate_succ, Array.replicate_zero, List.push_toArray, List.append_toArray, List.nil_append, List.cons_append]
  gi_wp2
  have bO := Boxed.new w 22 (.slice none 0 0)
  have hB0 : Below w.heap.size w (w.alloc (.cells #[.slice none 0 0] 22)) := (Below.refl _ _).alloc (Nat.le_refl _) _
  have hs0 : (w.alloc (.cells #[.slice none 0 0] 22)).heap.size = w.heap.size + 1 := by simp
  have hc0 := (hB0.cell (p := ⟨Bn, 0, none⟩) hBn).trans hc
  obtain ⟨W0, hW0⟩ : ∃ W0, w.alloc (.cells #[.slice none 0 0] 22) = W0 := ⟨_, rfl⟩
  rw [hW0] at bO hB0 hs0 hc0 ⊢
  clear hW0
  refine wpIn_rangeFunc_ownH rfl (by omega) (gf := 59) (lb := #[.pointer (some ⟨Bn, 0, none⟩)]) rfl trivial (enters_of Tryz.func59 (by kernel_rfl) rfl)
    (files_stops _ (by omega) Bn w W0 A n c es hl hr hn hsz (by omega) hc0 hB0) belowK_t (belowK_b (by omega)) (Below.refl _ _) (fun _ => rfl)
    (fun (pre : List SF) W => (∃ v, Boxed W w.heap.size 22 v ∧ W.ownsRow w.heap.size 38 2 v pre.length (filV (pre.map (·.1))) ∧ True) ∧ Below w.heap.size w W)
    (fun _ _ _ => False)
    (OwnFrom.and (Own.from (holdsRow_own w.heap.size w.heap.size 22 38 2 (fun (pre : List SF) => pre.length) (fun pre => filV (pre.map (·.1))) (fun _ _ => True)) _) (ownFrom_below (Nat.le_refl _) (by omega)))
    (fun _ _ _ _ _ hs _ _ => hs)
    ⟨⟨_, bO, World.ownsRow_nil _ _ _ _, trivial⟩, hB0⟩
    (fun x a' W => ∃ Bx, w.heap.size < Bx ∧ Blk W Bx [.string x.1.1, .string x.1.2] 38 ∧ a' = { tmps := #[.slice none 0 0, .func (.func 59) #[] #[.pointer (some ⟨Bn, 0, none⟩)], .pointer (some ⟨w.heap.size, 0, none⟩), undef, .slice none 0 0, .pointer (some ⟨Bx, 0, none⟩), .func (.func 59) #[] #[.pointer (some ⟨Bn, 0, none⟩)], .agg #[.string x.1.1, .string x.1.2], undef, undef, undef, undef, undef], defers := [] })
    (fun x a' _ X Y row hs hg hr => by obtain ⟨Bx, h1, h2, h3⟩ := hs; exact ⟨Bx, h1, blk_kept h2 hg (fun r e => (hr r e).2), h3⟩)
    ?assign ?body ?done ?stop
  case assign =>
    rintro l pre x W K ⟨⟨v, hv, hrow, -⟩, hB⟩ hK
    gi_wp2
    exact hK _ _ ((KeepsOthers.alloc _ _).from _) ((Below.refl _ W).alloc hB.size _) ⟨⟨v, hv.alloc _, hrow.alloc _, trivial⟩, hB.alloc hB.size _⟩ ⟨W.heap.size, hv.lt, Blk.new W _ _, rfl⟩
  case body =>
    rintro l pre x a' W hl ⟨r, hr⟩ ⟨⟨v, hv, hrow, -⟩, hB⟩ ⟨Bx, hBx, bX, rfl⟩ hlt
    have hcv := hv.cell
    have x0 := bX.cell 0
    have x1 := bX.cell 1
    simp only [List.getElem?_cons_zero, List.getElem?_cons_succ] at x0 x1
    obtain ⟨A', c', w1, HRUN, c1, c2, c3, c4, c5, c6, -⟩ := app_round hv hrow hB.size (Nat.le_refl _) (by omega) x.1
    gi_wp2_with (gi_at_builtin; refine wpAppIn rfl (.tmp 8) (.tmp 10) 22 rfl _ _ _ rfl rfl HRUN.out ?_)
    exact ⟨c5.from _, c6, ⟨_, c3, by simpa [filV_append, filV] using c4, trivial⟩, hB.trans c6⟩
  case done =>
    rintro D ys W hD rfl ⟨⟨v, hv, hrow, -⟩, hB⟩ hK
    rw [show (filT es).length = (filesOf es).length by rw [← filT_val hsz, List.length_map], filT_val hsz] at hrow
    have hcv := hv.cell
    gi_wp2
    refine ⟨by simp, .inl ⟨_, _, rfl, run_takeDeferred hK, ?_⟩⟩
    exact ⟨_, results_tmp rfl _ _ _, v, rfl, ownsRow_putObj hrow _ hK rfl, hB.trans (belowK_b (w := w) (Nat.le_refl _) W D _ _ (by omega) hK rfl rfl)⟩
  case stop =>
    rintro D c pre W _ _ h _
    exact h.elim
end Go.Proofs.YtaidggjnpnfdhaaGreatDoor
namespace Go.Proofs.YtaidggjnpnfdhaaGreatDoor
open Go.RowKit

/-- Files in memory of the call's own. -/
theorem own2_ft {w : World} {base : Nat} {v : Value} {fs : List Fil} (h : w.ownsRow base 38 2 v fs.length (filV fs)) (hn : fs.length ≤ 1000000) (hs : ∀ f ∈ fs, SzF f) : ∃ A c, v = .slice A fs.length c ∧ Ft w A fs.length c fs := by
  rcases h.2 with ⟨rfl, h0⟩ | ⟨g, cap, cur, rfl, _, _, h1, h2, _⟩
  · exact ⟨none, 0, by rw [h0], rfl, .inl (List.eq_nil_of_length_eq_zero (by rw [filV_length, h0])), by omega, by omega, by omega, hs⟩
  · exact ⟨_, cap, rfl, rfl, .inr ⟨_, rfl, h.cells (g := g) rfl⟩, h1, by omega, h2, hs⟩
theorem files_sz {es : List Ent} (h : ∀ e ∈ es, SzE e) : ∀ f ∈ filesOf es, SzF f := by
  intro f hf
  obtain ⟨e, he, -, rfl⟩ := mem_files.1 hf
  exact h e he
set_option maxHeartbeats 400000 in
theorem collect_any (Bn : Nat) (A : Option Addr) (n c : Nat) (es : List Ent) (w : World) (hl : es.length = n) (hr : Rd w A (entV es)) (hn : n ≤ 1000000) (hsz : ∀ e ∈ es, SzE e) (hc : w.cell? ⟨Bn, 0, none⟩ = some (.slice A n c)) :
    Calls Tryz.prog 57 #[.func (.func 59) #[] #[.pointer (some ⟨Bn, 0, none⟩)]] w fun e w' =>
      ∃ B d, e = .returned (.slice B (filesOf es).length d) ∧ Ft w' B (filesOf es).length d (filesOf es) ∧ Below w.heap.size w w' := by
  have c0 := appendSeq_any Bn A n c es w hl hr hn hsz hc
  have HS := hid (files_sz hsz)
  have HN := hid (filesOf_len es)
  clear hc hr hsz
  go_enter Tryz.func57, Tryz.ntmps57
  go_wp2_with fail
  refine c0.mono ?_
  clear c0
  rintro e w1 ⟨v, rfl, hrow, hb⟩
  obtain ⟨B, d, rfl, hft⟩ := own2_ft hrow (by have := HN.out; omega) HS.out
  go_wp2
  go_ret
  exact ⟨B, d, rfl, hft, hb⟩

theorem all_take_moreE (q : Ent → Bool) (l : List Ent) (j : Nat) (h : j < l.length) : (l.take (j + 1)).all q = ((l.take j).all q && q l[j]) := all_take_more q l j h
set_option maxHeartbeats 2000000 in
theorem archR_any {w : World} {A : Option Addr} {n c : Nat} {es : List Ent} (h : Et w A n c es) :
    Calls Tryz.prog 38 #[.slice A n c] w fun e w' => e = .returned (.bool (archR es)) ∧ Below w.heap.size w w' := by
  have hr := h.rd
  have hnb := h.big
  have HF : Hid (∀ e ∈ es, SzE e) := h.sz
  have HL := hid h.len
  clear h
  by_cases h32 : (32 : Int) < n
  · go_enter Tryz.func38, Tryz.ntmps38
    go_wp2
    go_ret
    refine ⟨ret_bool ?_, Below.refl _ _⟩
    symm
    refine archR_no fun h => ?_
    have := h.few
    have := HL.out
    omega
  · have hmk := make_strs n (by omega)
    go_enter Tryz.func38, Tryz.ntmps38
    go_upto_region 5 with (fail)
    go_loopw [14] (fun i wr => ∃ j : Nat, j ≤ n ∧ i = .int .i64 j ∧ Blk wr w.heap.size (fill (strV (es.map (·.path))) (.string ⟨#[]⟩) j) 9 ∧ Below w.heap.size w wr ∧ Hid ((es.take j).all fineE = true)) (fun i _ => n - (intOf i).toNat)
    case atStart =>
      refine ⟨0, by omega, rfl, ?_, (Below.refl _ _).alloc (Nat.le_refl _) _, by simp [Hid]⟩
      have := Blk.new w (List.replicate n (Value.string ⟨#[]⟩)) 9
      rw [fill_zero, strV_length, List.length_map, HL.out]
      simpa using this
    case round =>
      obtain ⟨j, hj, rfl, hblk, hb, HO⟩ := hrel
      by_cases hjn : j < n
      · have hjl : j < es.length := by rw [HL.out]; exact hjn
        have hr1 := hr.below hb
        obtain ⟨b, off, rfl, h1, h2, h3, h4, h5, -⟩ := hr1.ent hjl
        have hz : (0 : Int) ≤ j := by omega
        have hlt : (j : Int) < n := by omega
        clear hr1
        go_upto_region 7 with (fail)
        have HK := hid (all_take_more fineE es j hjl)
        have HX := hid (show (strV (es.map (·.path)))[j]? = some (.string es[j].path) by simp [strV, hjl])
        have hblk2 := hblk.below ((Below.refl _ _).alloc (Nat.le_refl _) (.cells #[.string es[j].path, .bool es[j].has, .string es[j].data, .int .i64 es[j].l, .int .i64 es[j].r] 66))
        have hb2 := hb.alloc hb.size (.cells #[.string es[j].path, .bool es[j].has, .string es[j].data, .int .i64 es[j].l, .int .i64 es[j].r] 66)
        have k := Blk.new wr [.string es[j].path, .bool es[j].has, .string es[j].data, .int .i64 es[j].l, .int .i64 es[j].r] 66
        have HM := hid (List.getElem_mem hjl)
        clear hblk hb h1 h2 h3 h4 h5
        generalize es[j] = f at *
        generalize wr.alloc (.cells #[.string f.path, .bool f.has, .string f.data, .int .i64 f.l, .int .i64 f.r] 66) = wa at *
        generalize wr.heap.size = g at *
        have k1 := k.cell 0
        have k2 := k.cell 1
        have k3 := k.cell 2
        have k4 := k.cell 3
        have k5 := k.cell 4
        simp only [List.getElem?_cons_zero, List.getElem?_cons_succ] at k1 k2 k3 k4 k5
        go_wp2_with fail
        refine (efine_any f _).mono ?_
        rintro e w1 ⟨rfl, hb1⟩
        have hblk3 := hblk2.below hb1
        have hb3 := hb2.trans (hb1.mono hb2.size)
        have k6 := (k.below hb1).cell 0
        simp only [List.getElem?_cons_zero] at k6
        clear hblk2 hb2 k k1 k2 k3 k4 k5 hb1
        cases hq : fineE f with
        | false =>
          have HQ := hid hq
          clear hq
          go_wp2
          go_ret
          refine ⟨ret_bool ?_, hb3⟩
          symm
          refine archR_no fun h => ?_
          have := h.fine f HM.out
          rw [HQ.out] at this
          cases this
        | true =>
          have c1 := hblk3.cell j
          rw [fill_at _ _ _ (by rw [strV_length, List.length_map]; exact hjl)] at c1
          have c2 := hblk3.frozen j
          have hblk4 := hblk3.set_ j (.string f.path)
          rw [fill_set _ _ _ _ HX.out] at hblk4
          have hb4 : Below w.heap.size w (w1.setCell ⟨w.heap.size, j, none⟩ (.string f.path)) := hb3.grown (grown_set j _) hb3.size (by intro k hk; injection hk with hk; omega)
          clear hblk3
          go_wp2
          go_roundw
          case rel => exact ⟨j + 1, by omega, by go_num, hblk4, hb4, hid (by rw [HK.out, HO.out, hq]; rfl)⟩
          case measure => simp [intOf]; omega
      · have HE := hid (show j = n by omega)
        have hnlt : ¬ (j : Int) < n := by omega
        have ho := HO.out
        have e1 : j = es.length := by rw [HL.out]; omega
        rw [e1, List.take_length] at ho
        have HD := hid ho
        have e2 : (strV (es.map (·.path))).length = es.length := by rw [strV_length, List.length_map]
        rw [show j = (strV (es.map (·.path))).length by rw [e2]; exact e1, fill_all] at hblk
        have hrd : Rd wr (some ⟨w.heap.size, 0, none⟩) (strV (es.map (·.path))) := hblk.rd
        have HLL := hid (show lst (es.map (·.path)) = es.map epth by simp [lst, epth])
        have HFN := hid (show (es.map (·.path)).length = n by rw [List.length_map, HL.out])
        have HSS : Hid (∀ s ∈ es.map (·.path), s.size < 4294967281) := by
          intro s hs
          obtain ⟨f, hf, rfl⟩ := List.mem_map.1 hs
          exact (HF.out f hf).1
        clear ho e1 e2 hblk HO
        have hn32 : es.length ≤ 32 := by rw [HL.out]; omega
        have HT := hid (show archR es = (sortedL (es.map epth) && treeR (filesOf es)) by rw [archR, HD.out, decide_eq_true hn32]; rfl)
        clear hn32
        go_wp2_with fail
        refine (sorted_any _ n n (es.map (·.path)) _ HFN.out hrd (by omega) HSS.out).mono ?_
        rintro e w1 ⟨rfl, hb1⟩
        rw [HLL.out]
        have hb1' := below2 hb hb1
        clear hrd hb hb1
        cases hq : sortedL (es.map epth)
        · rw [hq] at HT
          go_wp2
          go_ret
          exact ⟨ret_bool HT.out.symm, hb1'⟩
        · rw [hq, Bool.true_and] at HT
          have hr1 := hr.below hb1'
          go_wp2_with fail
          refine (files_any A n c _).mono ?_
          rintro e w2 ⟨rfl, rfl⟩
          go_wp2_with fail
          refine (collect_any w1.heap.size A n c es _ HL.out (hr1.alloc _) hnb HF.out (Boxed.new w1 _ _).cell).mono ?_
          rintro e w3 ⟨B, d, rfl, hft, hb3⟩
          have hb3' := below2 hb1' (below_new _ hb3)
          clear hb1' hb3 hr1
          go_wp2_with fail
          refine (tree_any hft).mono ?_
          rintro e w4 ⟨rfl, hb4⟩
          go_wp2
          go_ret
          exact ⟨ret_bool HT.out.symm, below2 hb3' hb4⟩

def findE (es : List Ent) (p : ByteArray) : Int := if archR es then idxE es p else -1
end Go.Proofs.YtaidggjnpnfdhaaGreatDoor
