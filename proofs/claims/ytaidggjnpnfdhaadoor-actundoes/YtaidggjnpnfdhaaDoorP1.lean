/- The texts Sa, ArgE, Cc, Ja, Jl, Tb, Tc, Td, Te, Tf, Sb, Sc, Cp, Tg, Sd, Se, Hin, Sf, Sg, Sh, Si, Sj, Tk, in one. -/
import Derived.Test.YtaidggjnpnfdhaaDoorP0
import Derived.Deep.Slices
import Derived.Lib.SmallJoins
import Derived.Deep.QuietTactic
import Derived.BigQuiet
import Derived.Shelf.Abstract
import Derived.Deep.DeepCutAuto
import Derived.Deep.OwnRows
import Derived.Laws.StructEq
import Derived.Handy
import Derived.Deep.RegionHeld3
import Derived.Deep.AppendSrc
import Derived.Lib.AppendZeros
import Derived.Laws.CopyRow
import Derived.Laws.CopyOwn
import Derived.RangeFuncNested
import Derived.RangeFuncBound
import Derived.RangeFuncBox
import Derived.RangeFuncCalls
import Derived.RangeFuncLeaves
import Derived.OwnWalkIn
import Derived.TacticsInMore
import Derived.LoopNIn
import Derived.LoopIn
import Derived.Maps.AppendAt
import Derived.OrdersIn
import Derived.ControlIn
import Derived.Deep.RegionHeld
namespace Go.Proofs.YtaidggjnpnfdhaaDoor
open Go.RowKit

structure Ent where
  path : ByteArray
  has : Bool
  data : ByteArray
  l : Int
  r : Int
theorem Ent.same {a b : Ent} (h1 : a.path = b.path) (h2 : a.has = b.has) (h3 : a.data = b.data) (h4 : a.l = b.l) (h5 : a.r = b.r) : a = b := by
  cases a; cases b; simp only at h1 h2 h3 h4 h5; subst h1 h2 h3 h4 h5; rfl
instance : DecidableEq Ent := fun a b =>
  decidable_of_iff (a.path = b.path ∧ a.has = b.has ∧ a.data = b.data ∧ a.l = b.l ∧ a.r = b.r)
    ⟨fun h => Ent.same h.1 h.2.1 h.2.2.1 h.2.2.2.1 h.2.2.2.2, fun h => by subst h; exact ⟨rfl, rfl, rfl, rfl, rfl⟩⟩

/-- The empty string. -/
abbrev noS : ByteArray := ⟨#[]⟩
def epth (e : Ent) : List UInt8 := e.path.data.toList
theorem epth_inj {a b : Ent} : epth a = epth b ↔ a.path = b.path := ⟨fun h => data_inj h, fun h => by unfold epth; rw [h]⟩

/-! ### Entries as cells -/
def eV (e : Ent) : List Value := [.string e.path, .bool e.has, .string e.data, .int .i64 e.l, .int .i64 e.r]
def entV (es : List Ent) : List Value := es.flatMap eV
theorem entV_nil : entV [] = [] := rfl
theorem entV_cons (e : Ent) (es : List Ent) : entV (e :: es) = eV e ++ entV es := rfl
theorem entV_append (a b : List Ent) : entV (a ++ b) = entV a ++ entV b := by simp [entV]
theorem entV_length (es : List Ent) : (entV es).length = es.length * 5 := by
  induction es with
  | nil => rfl
  | cons e r ih => rw [entV_cons, List.length_append, List.length_cons, ih]; simp only [eV, List.length_cons, List.length_nil]; omega
theorem entV_one (l : List Ent) : ∀ u ∈ entV l, u.oneCell' = true := by
  intro u hu
  simp only [entV, List.mem_flatMap] at hu
  obtain ⟨e, _, he⟩ := hu
  simp [eV] at he
  rcases he with rfl | rfl | rfl | rfl | rfl <;> rfl
theorem entV_at : ∀ (es : List Ent) (j : Nat) (h : j < es.length) (q : Nat), q < 5 → (entV es)[j * 5 + q]? = (eV es[j])[q]?
  | e :: es, 0, _, q, hq => by
    rw [entV_cons, List.getElem?_append_left (by simp only [eV, List.length_cons, List.length_nil]; omega), Nat.zero_mul, Nat.zero_add]; rfl
  | e :: es, j + 1, h, q, hq => by
    have e5 : (eV e).length = 5 := rfl
    rw [entV_cons, List.getElem?_append_right (by rw [e5]; omega), e5, show (j + 1) * 5 + q - 5 = j * 5 + q by omega, entV_at es j (by simpa using h) q hq]
    rfl
theorem entV_take (es : List Ent) (k : Nat) : entV (es.take k) = (entV es).take (k * 5) := by
  by_cases h : k ≤ es.length
  · have e : entV es = entV (es.take k) ++ entV (es.drop k) := by rw [← entV_append, List.take_append_drop]
    have l : (entV (es.take k)).length = k * 5 := by rw [entV_length, List.length_take]; omega
    rw [e, ← l, List.take_left]
  · rw [List.take_of_length_le (by omega), List.take_of_length_le (by rw [entV_length]; omega)]
theorem entV_drop (es : List Ent) (k : Nat) : entV (es.drop k) = (entV es).drop (k * 5) := by
  by_cases h : k ≤ es.length
  · have e : entV es = entV (es.take k) ++ entV (es.drop k) := by rw [← entV_append, List.take_append_drop]
    have l : (entV (es.take k)).length = k * 5 := by rw [entV_length, List.length_take]; omega
    rw [e, ← l, List.drop_left]
  · rw [List.drop_of_length_le (by omega), List.drop_of_length_le (by rw [entV_length]; omega)]
    rfl
theorem Rd.ent {w : World} {A : Option Addr} {es : List Ent} (h : Rd w A (entV es)) {j : Nat} (hj : j < es.length) :
    ∃ b off, A = some ⟨b, off, none⟩ ∧ w.cell? ⟨b, off + j * 5, none⟩ = some (.string es[j].path) ∧ w.cell? ⟨b, off + j * 5 + 1, none⟩ = some (.bool es[j].has) ∧ w.cell? ⟨b, off + j * 5 + 2, none⟩ = some (.string es[j].data) ∧
      w.cell? ⟨b, off + j * 5 + 3, none⟩ = some (.int .i64 es[j].l) ∧ w.cell? ⟨b, off + j * 5 + 4, none⟩ = some (.int .i64 es[j].r) ∧ b < w.heap.size := by
  have hl := entV_length es
  obtain ⟨b, off, rfl, -, hb⟩ := h.at_ (k := j * 5) (by omega)
  have g : ∀ q, q < 5 → w.cell? ⟨b, off + j * 5 + q, none⟩ = (eV es[j])[q]? := by
    intro q hq
    rw [Nat.add_assoc]
    obtain ⟨b', off', e, hc, -⟩ := h.at_ (k := j * 5 + q) (by omega)
    injection e with e; injection e with e1 e2; subst e1 e2
    rw [hc, ← List.getElem?_eq_getElem, entV_at es j hj q hq]
  exact ⟨b, off, rfl, g 0 (by omega), g 1 (by omega), g 2 (by omega), g 3 (by omega), g 4 (by omega), hb⟩

/-! ### Right archives -/
def filesOf (es : List Ent) : List Fil := (es.filter (·.has)).map fun e => (e.path, e.data)
theorem filesOf_cons (e : Ent) (es : List Ent) : filesOf (e :: es) = if e.has then (e.path, e.data) :: filesOf es else filesOf es := by
  unfold filesOf
  rw [List.filter_cons]
  split <;> rfl
theorem filesOf_append (a b : List Ent) : filesOf (a ++ b) = filesOf a ++ filesOf b := by simp [filesOf]
theorem filesOf_len (es : List Ent) : (filesOf es).length ≤ es.length := by rw [filesOf, List.length_map]; exact List.length_filter_le _ _
theorem mem_files {es : List Ent} {f : Fil} : f ∈ filesOf es ↔ ∃ e ∈ es, e.has = true ∧ f = (e.path, e.data) := by
  simp only [filesOf, List.mem_map, List.mem_filter]
  constructor
  · rintro ⟨e, ⟨h1, h2⟩, rfl⟩; exact ⟨e, h1, h2, rfl⟩
  · rintro ⟨e, h1, h2, rfl⟩; exact ⟨e, ⟨h1, h2⟩, rfl⟩
def fineE (e : Ent) : Bool := rt e.l e.r && !(decide (e.l = 0) && decide (e.r = 0)) && (e.has || decide (e.data = noS))
def archR (es : List Ent) : Bool := decide (es.length ≤ 32) && es.all fineE && sortedL (es.map epth) && treeR (filesOf es)
def SrtE (es : List Ent) : Prop := es.Pairwise fun a b => epth a < epth b
structure RightA (es : List Ent) : Prop where
  few : es.length ≤ 32
  srt : SrtE es
  paths : ∀ e ∈ es, rightL (epth e) = true
  fine : ∀ e ∈ es, fineE e = true
  tree : treeR (filesOf es) = true
theorem archR_iff (es : List Ent) : archR es = true ↔ RightA es := by
  unfold archR
  simp only [Bool.and_eq_true, decide_eq_true_eq, List.all_eq_true]
  constructor
  · rintro ⟨⟨⟨h1, h2⟩, h3⟩, h4⟩
    exact ⟨h1, List.pairwise_map.1 (srt_pair h3), fun e he => srt_right h3 _ (List.mem_map_of_mem he), h2, h4⟩
  · rintro ⟨h1, h2, h3, h4, h5⟩
    refine ⟨⟨⟨h1, h4⟩, srt_mk ?_ (List.pairwise_map.2 h2)⟩, h5⟩
    intro s hs
    obtain ⟨e, he, rfl⟩ := List.mem_map.1 hs
    exact h3 e he
theorem archR_no {es : List Ent} (h : ¬ RightA es) : archR es = false := not_true fun e => h ((archR_iff es).1 e)
theorem fineE_iff (e : Ent) : fineE e = true ↔ (0 ≤ e.l ∧ e.l ≤ 1073741824 ∧ 0 ≤ e.r ∧ e.r ≤ 1073741824) ∧ ¬ (e.l = 0 ∧ e.r = 0) ∧ (e.has = true ∨ e.data = noS) := by
  unfold fineE rt
  simp only [Bool.and_eq_true, decide_eq_true_eq, Bool.or_eq_true, Bool.not_eq_true', Bool.and_eq_false_iff, decide_eq_false_iff_not, and_assoc]
  constructor
  · rintro ⟨a, b, c, d, e, f⟩; exact ⟨a, b, c, d, by omega, f⟩
  · rintro ⟨a, b, c, d, e, f⟩; exact ⟨a, b, c, d, by omega, f⟩

/-- Where a path stands. -/
def idxE (es : List Ent) (p : ByteArray) : Int := if es.any (fun e => decide (e.path = p)) then (es.findIdx (fun e => decide (e.path = p)) : Int) else -1
theorem idxE_at {es : List Ent} {p : ByteArray} {j : Nat} (hj : j < es.length) (h : es[j].path = p) (hn : ∀ k (hk : k < es.length), k < j → es[k].path ≠ p) : idxE es p = j := by
  unfold idxE
  rw [if_pos (List.any_eq_true.2 ⟨_, List.getElem_mem hj, decide_eq_true h⟩)]
  rw [(List.findIdx_eq hj).2 ⟨decide_eq_true h, fun k hk => by simpa using hn k (by omega) hk⟩]
theorem idxE_no {es : List Ent} {p : ByteArray} (hn : ∀ e ∈ es, e.path ≠ p) : idxE es p = -1 := by
  unfold idxE
  rw [if_neg]
  simp only [List.any_eq_true, not_exists, not_and, decide_eq_true_eq]
  exact hn
theorem idxE_cases (es : List Ent) (p : ByteArray) : (idxE es p = -1 ∧ ∀ e ∈ es, e.path ≠ p) ∨ ∃ (j : Nat) (hj : j < es.length), idxE es p = j ∧ es[j].path = p := by
  by_cases h : es.any (fun e => decide (e.path = p)) = true
  · right
    obtain ⟨e, he, hp⟩ := List.any_eq_true.1 h
    have hl : es.findIdx (fun e => decide (e.path = p)) < es.length := List.findIdx_lt_length.2 ⟨e, he, hp⟩
    refine ⟨_, hl, by unfold idxE; rw [if_pos h], ?_⟩
    simpa using List.findIdx_getElem (w := hl)
  · left
    have hn : ∀ e ∈ es, e.path ≠ p := by
      intro e he hp
      exact h (List.any_eq_true.2 ⟨e, he, decide_eq_true hp⟩)
    exact ⟨idxE_no hn, hn⟩
theorem SrtE.inj {es : List Ent} (h : SrtE es) {i j : Nat} (hi : i < es.length) (hj : j < es.length) (e : es[i].path = es[j].path) : i = j := by
  have hp := List.pairwise_iff_getElem.1 h
  rcases Nat.lt_trichotomy i j with h1 | h1 | h1
  · have := hp i j hi hj h1; rw [epth, epth, e] at this; exact absurd this (List.lt_irrefl _)
  · exact h1
  · have := hp j i hj hi h1; rw [epth, epth, e] at this; exact absurd this (List.lt_irrefl _)
theorem idxE_srt {es : List Ent} (h : SrtE es) {j : Nat} (hj : j < es.length) : idxE es es[j].path = j :=
  idxE_at hj rfl fun _ hk hkj e => by have := h.inj hk hj e; omega

/-! ### Both, gone over -/
def gone (e : Ent) : Ent := ⟨e.path, false, noS, e.l, e.r⟩
def kept (e : Ent) (d : ByteArray) : Ent := ⟨e.path, true, d, e.l, e.r⟩
def fresh (p : ByteArray) : Ent := ⟨p, false, noS, 0, 0⟩
def bothL : List Ent → List Fil → List (Ent × Ent)
  | [], [] => []
  | e :: l, [] => (e, gone e) :: bothL l []
  | [], f :: t => (fresh f.1, kept (fresh f.1) f.2) :: bothL [] t
  | e :: l, f :: t =>
    if e.path = f.1 then (e, kept e f.2) :: bothL l t
    else if Op.bytesLess (pth f) (epth e) then (fresh f.1, kept (fresh f.1) f.2) :: bothL (e :: l) t
    else (e, gone e) :: bothL l (f :: t)
  termination_by l t => l.length + t.length
theorem bothL_nil : bothL [] [] = [] := by rw [bothL]
theorem bothL_l (e : Ent) (l : List Ent) : bothL (e :: l) [] = (e, gone e) :: bothL l [] := by rw [bothL]
theorem bothL_t (f : Fil) (t : List Fil) : bothL [] (f :: t) = (fresh f.1, kept (fresh f.1) f.2) :: bothL [] t := by rw [bothL]
theorem bothL_eq {e : Ent} {f : Fil} (h : e.path = f.1) (l : List Ent) (t : List Fil) : bothL (e :: l) (f :: t) = (e, kept e f.2) :: bothL l t := by rw [bothL, if_pos h]
theorem bothL_lt {e : Ent} {f : Fil} (h : ¬ e.path = f.1) (hl : Op.bytesLess (pth f) (epth e) = true) (l : List Ent) (t : List Fil) : bothL (e :: l) (f :: t) = (fresh f.1, kept (fresh f.1) f.2) :: bothL (e :: l) t := by rw [bothL, if_neg h, if_pos hl]
theorem bothL_gt {e : Ent} {f : Fil} (h : ¬ e.path = f.1) (hl : Op.bytesLess (pth f) (epth e) = false) (l : List Ent) (t : List Fil) : bothL (e :: l) (f :: t) = (e, gone e) :: bothL l (f :: t) := by rw [bothL, if_neg h, if_neg (by simp [hl])]

/-- What holds of each step holds of all. -/
theorem both_ind {motive : List Ent → List Fil → List (Ent × Ent) → Prop} (h0 : motive [] [] [])
    (h1 : ∀ e l, motive l [] (bothL l []) → motive (e :: l) [] ((e, gone e) :: bothL l []))
    (h2 : ∀ f t, motive [] t (bothL [] t) → motive [] (f :: t) ((fresh f.1, kept (fresh f.1) f.2) :: bothL [] t))
    (h3 : ∀ e l f t, e.path = f.1 → motive l t (bothL l t) → motive (e :: l) (f :: t) ((e, kept e f.2) :: bothL l t))
    (h4 : ∀ e l f t, pth f < epth e → motive (e :: l) t (bothL (e :: l) t) → motive (e :: l) (f :: t) ((fresh f.1, kept (fresh f.1) f.2) :: bothL (e :: l) t))
    (h5 : ∀ e l f t, epth e < pth f → motive l (f :: t) (bothL l (f :: t)) → motive (e :: l) (f :: t) ((e, gone e) :: bothL l (f :: t))) :
    ∀ (n : Nat) (l : List Ent) (t : List Fil), l.length + t.length ≤ n → motive l t (bothL l t)
  | _, [], [], _ => by rw [bothL_nil]; exact h0
  | n + 1, e :: l, [], hn => by rw [bothL_l]; exact h1 e l (both_ind h0 h1 h2 h3 h4 h5 n l [] (by simp at hn ⊢; omega))
  | n + 1, [], f :: t, hn => by rw [bothL_t]; exact h2 f t (both_ind h0 h1 h2 h3 h4 h5 n [] t (by simp at hn ⊢; omega))
  | n + 1, e :: l, f :: t, hn => by
    by_cases h : e.path = f.1
    · rw [bothL_eq h]; exact h3 e l f t h (both_ind h0 h1 h2 h3 h4 h5 n l t (by simp at hn ⊢; omega))
    · cases hl : Op.bytesLess (pth f) (epth e) with
      | true => rw [bothL_lt h hl]; exact h4 e l f t ((less_iff _ _).1 hl) (both_ind h0 h1 h2 h3 h4 h5 n (e :: l) t (by simp at hn ⊢; omega))
      | false =>
        have hlt : epth e < pth f := by
          rcases lt_tri (epth e) (pth f) with x | x | x
          · exact x
          · exact absurd (data_inj x) h
          · rw [(less_iff _ _).2 x] at hl; cases hl
        rw [bothL_gt h hl]; exact h5 e l f t hlt (both_ind h0 h1 h2 h3 h4 h5 n l (f :: t) (by simp at hn ⊢; omega))
  | 0, _ :: _, _, hn => by simp at hn
  | 0, [], _ :: _, hn => by simp at hn

theorem both_len (l : List Ent) (t : List Fil) : (bothL l t).length ≤ l.length + t.length :=
  both_ind (motive := fun l t ps => ps.length ≤ l.length + t.length) (by simp) (fun _ _ h => by simp at h ⊢; omega) (fun _ _ h => by simp at h ⊢; omega) (fun _ _ _ _ _ h => by simp at h ⊢; omega)
    (fun _ _ _ _ _ h => by simp at h ⊢; omega) (fun _ _ _ _ _ h => by simp at h ⊢; omega) _ l t (Nat.le_refl _)
/-- What a pair is. -/
structure PairE (l : List Ent) (t : List Fil) (p : Ent × Ent) : Prop where
  path : p.2.path = p.1.path
  cl : p.2.l = p.1.l
  cr : p.2.r = p.1.r
  none : p.2.has = false → p.2.data = noS
  was : p.1 ∈ l ∨ (p.1 = fresh p.1.path ∧ p.2.has = true)
  is : p.2.has = true → (p.2.path, p.2.data) ∈ t
theorem PairE.more {l l' : List Ent} {t t' : List Fil} {p : Ent × Ent} (h : PairE l t p) (hl : ∀ e ∈ l, e ∈ l') (ht : ∀ f ∈ t, f ∈ t') : PairE l' t' p :=
  ⟨h.path, h.cl, h.cr, h.none, h.was.imp (hl _) id, fun x => ht _ (h.is x)⟩
theorem both_pair (l : List Ent) (t : List Fil) : ∀ p ∈ bothL l t, PairE l t p := by
  refine both_ind (motive := fun l t ps => ∀ p ∈ ps, PairE l t p) (by simp) ?_ ?_ ?_ ?_ ?_ _ l t (Nat.le_refl _)
  · intro e l h p hp
    rcases List.mem_cons.1 hp with rfl | hp
    · exact ⟨rfl, rfl, rfl, fun _ => rfl, .inl (by simp), (fun x => by cases x)⟩
    · exact (h p hp).more (fun _ => List.mem_cons_of_mem _) (fun _ x => x)
  · intro f t h p hp
    rcases List.mem_cons.1 hp with rfl | hp
    · exact ⟨rfl, rfl, rfl, (fun x => by cases x), .inr ⟨rfl, rfl⟩, fun _ => by simp [kept, fresh]⟩
    · exact (h p hp).more (fun _ x => x) (fun _ => List.mem_cons_of_mem _)
  · intro e l f t he h p hp
    rcases List.mem_cons.1 hp with rfl | hp
    · exact ⟨rfl, rfl, rfl, (fun x => by cases x), .inl (by simp), fun _ => by simp [kept, he]⟩
    · exact (h p hp).more (fun _ => List.mem_cons_of_mem _) (fun _ => List.mem_cons_of_mem _)
  · intro e l f t he h p hp
    rcases List.mem_cons.1 hp with rfl | hp
    · exact ⟨rfl, rfl, rfl, (fun x => by cases x), .inr ⟨rfl, rfl⟩, fun _ => by simp [kept, fresh]⟩
    · exact (h p hp).more (fun _ x => x) (fun _ => List.mem_cons_of_mem _)
  · intro e l f t he h p hp
    rcases List.mem_cons.1 hp with rfl | hp
    · exact ⟨rfl, rfl, rfl, fun _ => rfl, .inl (by simp), (fun x => by cases x)⟩
    · exact (h p hp).more (fun _ => List.mem_cons_of_mem _) (fun _ x => x)
/-- The files of both are the tree's. -/
theorem both_files (l : List Ent) (t : List Fil) : filesOf ((bothL l t).map (·.2)) = t := by
  refine both_ind (motive := fun _ t ps => filesOf (ps.map (·.2)) = t) rfl ?_ ?_ ?_ ?_ ?_ _ l t (Nat.le_refl _)
  · intro e l h; rw [List.map_cons, filesOf_cons, h]; rfl
  · intro f t h; rw [List.map_cons, filesOf_cons, h]; rfl
  · intro e l f t he h; rw [List.map_cons, filesOf_cons, h]; simp [kept, he]
  · intro e l f t _ h; rw [List.map_cons, filesOf_cons, h]; rfl
  · intro e l f t _ h; rw [List.map_cons, filesOf_cons, h]; rfl
def newB (e : Ent) : Bool := decide (e.l = 0) && decide (e.r = 0)
/-- What was there is the archive. -/
theorem both_was (l : List Ent) (t : List Fil) (hl : ∀ e ∈ l, newB e = false) : ((bothL l t).map (·.1)).filter (fun e => !newB e) = l := by
  refine both_ind (motive := fun l _ ps => (∀ e ∈ l, newB e = false) → (ps.map (·.1)).filter (fun e => !newB e) = l) (by simp) ?_ ?_ ?_ ?_ ?_ _ l t (Nat.le_refl _) hl
  · intro e l h hl; rw [List.map_cons, List.filter_cons, h fun x hx => hl x (List.mem_cons_of_mem _ hx), hl e (by simp)]; rfl
  · intro f t h hl; rw [List.map_cons, List.filter_cons, h hl]; rfl
  · intro e l f t _ h hl; rw [List.map_cons, List.filter_cons, h fun x hx => hl x (List.mem_cons_of_mem _ hx), hl e (by simp)]; rfl
  · intro e l f t _ h hl; rw [List.map_cons, List.filter_cons, h hl]; rfl
  · intro e l f t _ h hl; rw [List.map_cons, List.filter_cons, h fun x hx => hl x (List.mem_cons_of_mem _ hx), hl e (by simp)]; rfl
/-- Each path is one of the archive's, or the tree's, and all of them are there. -/
theorem both_path {l : List Ent} {t : List Fil} {x : ByteArray} : x ∈ (bothL l t).map (·.2.path) ↔ x ∈ l.map (·.path) ∨ x ∈ t.map (·.1) := by
  refine both_ind (motive := fun l t ps => x ∈ ps.map (·.2.path) ↔ x ∈ l.map (·.path) ∨ x ∈ t.map (·.1)) (by simp) ?_ ?_ ?_ ?_ ?_ _ l t (Nat.le_refl _)
  · intro e l h; simp only [List.map_cons, List.mem_cons, h, gone, List.map_nil, List.not_mem_nil, or_false]
  · intro f t h; simp only [List.map_cons, List.mem_cons, h, kept, fresh, List.map_nil, List.not_mem_nil, false_or]
  · intro e l f t he h; simp only [List.map_cons, List.mem_cons, h, kept, he]
    constructor
    · rintro (h | h | h)
      · exact .inl (.inl h)
      · exact .inl (.inr h)
      · exact .inr (.inr h)
    · rintro ((h | h) | h | h)
      · exact .inl h
      · exact .inr (.inl h)
      · exact .inl h
      · exact .inr (.inr h)
  · intro e l f t _ h; simp only [List.map_cons, List.mem_cons, kept, fresh] at h ⊢
    rw [h]
    constructor
    · rintro (h | (h | h) | h)
      · exact .inr (.inl h)
      · exact .inl (.inl h)
      · exact .inl (.inr h)
      · exact .inr (.inr h)
    · rintro ((h | h) | h | h)
      · exact .inr (.inl (.inl h))
      · exact .inr (.inl (.inr h))
      · exact .inl h
      · exact .inr (.inr h)
  · intro e l f t _ h; simp only [List.map_cons, List.mem_cons, gone] at h ⊢
    rw [h]
    exact or_assoc.symm
def SrtP (ps : List (Ent × Ent)) : Prop := ps.Pairwise fun a b => epth a.2 < epth b.2
theorem both_srt (l : List Ent) (t : List Fil) (hl : SrtE l) (ht : Srt t) : SrtP (bothL l t) := by
  have low : ∀ (l : List Ent) (t : List Fil) (x : List UInt8), (∀ e ∈ l, x < epth e) → (∀ f ∈ t, x < pth f) → ∀ p ∈ bothL l t, x < epth p.2 := by
    intro l t x h1 h2 p hp
    have := (both_path (x := p.2.path)).1 (List.mem_map.2 ⟨p, hp, rfl⟩)
    rcases this with h | h
    · obtain ⟨e, he, h⟩ := List.mem_map.1 h
      have := h1 e he
      unfold epth at this ⊢
      rw [← h]; exact this
    · obtain ⟨f, hf, h⟩ := List.mem_map.1 h
      have := h2 f hf
      unfold pth at this
      unfold epth
      rw [← h]; exact this
  refine both_ind (motive := fun l t ps => SrtE l → Srt t → SrtP ps) (fun _ _ => List.Pairwise.nil) ?_ ?_ ?_ ?_ ?_ _ l t (Nat.le_refl _) hl ht
  · intro e l h h1 h2
    have h1' := List.pairwise_cons.1 h1
    exact List.pairwise_cons.2 ⟨low l [] _ h1'.1 (by simp), h h1'.2 h2⟩
  · intro f t h h1 h2
    have h2' := List.pairwise_cons.1 h2
    exact List.pairwise_cons.2 ⟨low [] t _ (by simp) h2'.1, h h1 h2'.2⟩
  · intro e l f t he h h1 h2
    have h1' := List.pairwise_cons.1 h1
    have h2' := List.pairwise_cons.1 h2
    have e1 : epth e = pth f := by unfold epth pth; rw [he]
    exact List.pairwise_cons.2 ⟨low l t _ h1'.1 (by intro g hg; show epth e < _; rw [e1]; exact h2'.1 g hg), h h1'.2 h2'.2⟩
  · intro e l f t he h h1 h2
    have h1' := List.pairwise_cons.1 h1
    have h2' := List.pairwise_cons.1 h2
    refine List.pairwise_cons.2 ⟨low (e :: l) t _ ?_ h2'.1, h h1 h2'.2⟩
    intro g hg
    rcases List.mem_cons.1 hg with rfl | hg
    · exact he
    · exact List.lt_trans he (h1'.1 g hg)
  · intro e l f t he h h1 h2
    have h1' := List.pairwise_cons.1 h1
    have h2' := List.pairwise_cons.1 h2
    refine List.pairwise_cons.2 ⟨low l (f :: t) _ h1'.1 ?_, h h1'.2 h2⟩
    intro g hg
    rcases List.mem_cons.1 hg with rfl | hg
    · exact he
    · exact List.lt_trans he (h2'.1 g hg)

/-! ### Scan -/
def tickL (l r a : Int) : Int × Int := if odd a then (((cl l : Nat) : Int), ((up (cl r) : Nat) : Int)) else (((up (cl l) : Nat) : Int), ((cl r : Nat) : Int))
def newE (a : Int) (p : Ent × Ent) : Ent := if p.2 = p.1 then p.2 else ⟨p.2.path, p.2.has, p.2.data, (tickL p.1.l p.1.r a).1, (tickL p.1.l p.1.r a).2⟩
def stuck (a : Int) (p : Ent × Ent) : Bool := !decide (p.2 = p.1) && decide (tickL p.1.l p.1.r a = (p.1.l, p.1.r))
def okP (a : Int) (ps : List (Ent × Ent)) : Bool := decide (ps.length ≤ 32) && ps.all fun p => !stuck a p
def outP (a : Int) (ps : List (Ent × Ent)) : List Ent := ps.map (newE a)
def chgP (ps : List (Ent × Ent)) : List ByteArray := (ps.filter fun p => !decide (p.2 = p.1)).map (·.2.path)
def scanN (l : List Ent) (t : List Fil) (a : Int) : Nat := if archR l && treeR t then (if okP a (bothL l t) then 0 else 2) else 1
def scanA (l : List Ent) (t : List Fil) (a : Int) : List Ent := if scanN l t a = 0 then outP a (bothL l t) else []
def scanC (l : List Ent) (t : List Fil) (a : Int) : List ByteArray := if scanN l t a = 0 then chgP (bothL l t) else []
theorem scanN_ok {l : List Ent} {t : List Fil} {a : Int} : scanN l t a = 0 ↔ RightA l ∧ RightT t ∧ okP a (bothL l t) = true := by
  unfold scanN
  rw [← archR_iff, ← treeR_iff]
  cases archR l <;> cases treeR t <;> cases okP a (bothL l t) <;> simp
theorem scanN_arg {l : List Ent} {t : List Fil} {a : Int} (h : (archR l && treeR t) = false) : scanN l t a = 1 := by unfold scanN; rw [h]; rfl
theorem scanN_two {l : List Ent} {t : List Fil} {a : Int} (h : (archR l && treeR t) = true) : scanN l t a = if okP a (bothL l t) then 0 else 2 := by unfold scanN; rw [h]; rfl
theorem newE_path (a : Int) (p : Ent × Ent) : (newE a p).path = p.2.path := by unfold newE; split <;> rfl
theorem newE_has (a : Int) (p : Ent × Ent) : (newE a p).has = p.2.has := by unfold newE; split <;> rfl
theorem newE_data (a : Int) (p : Ent × Ent) : (newE a p).data = p.2.data := by unfold newE; split <;> rfl
end Go.Proofs.YtaidggjnpnfdhaaDoor
namespace Go.Proofs.YtaidggjnpnfdhaaDoor
open Go.ChangeShapes Go.WideShapes Go.ChangeAt Go.RowKit Go.Deep

theorem list5 {α : Type} {l : List α} (h : l.length = 5) : ∃ a b c d e, l = [a, b, c, d, e] := by
  match l, h with
  | [a, b, c, d, e], _ => exact ⟨a, b, c, d, e, rfl⟩
theorem list4 {α : Type} {l : List α} (h : l.length = 4) : ∃ a b c d, l = [a, b, c, d] := by
  match l, h with
  | [a, b, c, d], _ => exact ⟨a, b, c, d, rfl⟩
end Go.Proofs.YtaidggjnpnfdhaaDoor
namespace Go.Proofs.YtaidggjnpnfdhaaDoor
open Go.RowKit

theorem cl_of {a : Nat} {x : Int} (h : a ≤ 1073741824) (e : x = a) : cl x = a := by unfold cl; omega

/-- What Mine tells. -/
def mineI (a b : Nat) (author : Int) : Int := if odd author then b else a

/-- What Order tells. -/
def ordI (a b c d : Nat) : Int := if a = c ∧ b = d then 0 else if a ≤ c ∧ b ≤ d then 1 else if c ≤ a ∧ d ≤ b then 2 else 3

end Go.Proofs.YtaidggjnpnfdhaaDoor
namespace Go.Proofs.YtaidggjnpnfdhaaDoor
open Go.RowKit

/-! ### What comes of two entries -/
def ordE (a b : Ent) : Int := ordI (cl a.l) (cl a.r) (cl b.l) (cl b.r)
theorem ord_cases (a b c d : Nat) : ordI a b c d = 0 ∨ ordI a b c d = 1 ∨ ordI a b c d = 2 ∨ ordI a b c d = 3 := by
  unfold ordI
  split
  · exact .inl rfl
  · split
    · exact .inr (.inl rfl)
    · split
      · exact .inr (.inr (.inl rfl))
      · exact .inr (.inr (.inr rfl))
def likeE (a b : Ent) : Bool := decide (a.has = b.has) && decide (a.data = b.data)
def joinC (a b : Ent) : Int × Int := (((max (cl a.l) (cl b.l) : Nat) : Int), ((max (cl a.r) (cl b.r) : Nat) : Int))
def joinE (a b : Ent) : Ent := ⟨a.path, a.has, a.data, (joinC a b).1, (joinC a b).2⟩
def comeE (a b : Ent) : Ent × Bool :=
  if ordE a b = 1 then (b, false) else if ordE a b = 2 then (a, false) else if likeE a b then ((if ordE a b = 3 then joinE a b else a), false) else (a, true)

/-! ### The entry of a path -/
def atE (es : List Ent) (p : ByteArray) : Option Ent := if idxE es p < 0 then none else es[(idxE es p).toNat]?
theorem atE_no {es : List Ent} {p : ByteArray} (h : idxE es p = -1) : atE es p = none := by unfold atE; rw [h]; rfl
theorem atE_yes {es : List Ent} {p : ByteArray} {j : Nat} (hj : j < es.length) (h : idxE es p = j) : atE es p = some es[j] := by
  unfold atE; rw [h, if_neg (by omega), Int.toNat_natCast, List.getElem?_eq_getElem hj]
def cm : Option Ent → Option Ent → Option (Ent × Bool)
  | some a, some b => some (comeE a b)
  | some a, none => some (a, false)
  | none, some b => some (b, false)
  | none, none => none
end Go.Proofs.YtaidggjnpnfdhaaDoor
namespace Go.Proofs.YtaidggjnpnfdhaaDoor
open Go.RowKit

theorem atE_nil (p : ByteArray) : atE [] p = none := rfl
theorem idxE_cons (a : Ent) (l : List Ent) (p : ByteArray) : idxE (a :: l) p = if a.path = p then 0 else if idxE l p < 0 then -1 else idxE l p + 1 := by
  by_cases h : a.path = p
  · rw [if_pos h]
    exact idxE_at (es := a :: l) (j := 0) (by simp) h (fun k _ hk => absurd hk (by omega))
  · rw [if_neg h]
    unfold idxE
    rw [List.any_cons, decide_eq_false h, Bool.false_or]
    by_cases hx : l.any (fun e => decide (e.path = p)) = true
    · rw [if_pos hx, if_pos hx, if_neg (by omega), List.findIdx_cons, decide_eq_false h]
      simp
    · rw [if_neg hx, if_neg hx]; rfl
theorem atE_cons (a : Ent) (l : List Ent) (p : ByteArray) : atE (a :: l) p = if a.path = p then some a else atE l p := by
  unfold atE
  rw [idxE_cons]
  by_cases h : a.path = p
  · rw [if_pos h, if_pos h, if_neg (by omega)]; rfl
  · rw [if_neg h, if_neg h]
    by_cases hx : idxE l p < 0
    · rw [if_pos hx, if_pos (by omega), if_pos hx]
    · rw [if_neg hx, if_neg (by omega), if_neg hx, show (idxE l p + 1).toNat = (idxE l p).toNat + 1 by omega, List.getElem?_cons_succ]
theorem atE_mem : ∀ {l : List Ent} {p : ByteArray} {e : Ent}, atE l p = some e → e ∈ l ∧ e.path = p
  | [], _, _, h => by cases h
  | a :: l, p, e, h => by
    rw [atE_cons] at h
    split at h
    · injection h with h; subst h; exact ⟨List.mem_cons_self, by assumption⟩
    · obtain ⟨h1, h2⟩ := atE_mem h; exact ⟨List.mem_cons_of_mem _ h1, h2⟩
theorem atE_none : ∀ {l : List Ent} {p : ByteArray}, atE l p = none ↔ ∀ e ∈ l, e.path ≠ p
  | [], _ => by simp [atE_nil]
  | a :: l, p => by
    rw [atE_cons]
    split
    · simp; intro h; exact absurd (by assumption) h
    · rw [atE_none]; simp_all
theorem atE_iff {l : List Ent} (hs : SrtE l) {e : Ent} : e ∈ l ↔ atE l e.path = some e := by
  constructor
  · intro h
    obtain ⟨j, hj, rfl⟩ := List.mem_iff_getElem.1 h
    exact atE_yes hj (idxE_srt hs hj)
  · exact fun h => (atE_mem h).1

/-! ### Rising lists are known by what they have -/
theorem pw_one {α : Type} {r : α → α → Prop} (asym : ∀ a b, r a b → ¬ r b a) : ∀ {a b : List α}, a.Pairwise r → b.Pairwise r → (∀ x, x ∈ a ↔ x ∈ b) → a = b
  | [], [], _, _, _ => rfl
  | [], y :: ys, _, _, h => absurd ((h y).2 List.mem_cons_self) (by simp)
  | x :: xs, [], _, _, h => absurd ((h x).1 List.mem_cons_self) (by simp)
  | x :: xs, y :: ys, ha, hb, h => by
    have ha' := List.pairwise_cons.1 ha
    have hb' := List.pairwise_cons.1 hb
    have e : x = y := by
      rcases List.mem_cons.1 ((h x).1 List.mem_cons_self) with e | e
      · exact e
      · rcases List.mem_cons.1 ((h y).2 List.mem_cons_self) with f | f
        · exact f.symm
        · exact absurd (ha'.1 y f) (asym _ _ (hb'.1 x e))
    subst e
    congr 1
    refine pw_one asym ha'.2 hb'.2 fun z => ?_
    constructor
    · intro hz
      rcases List.mem_cons.1 ((h z).1 (List.mem_cons_of_mem _ hz)) with e | e
      · subst e; exact absurd (ha'.1 z hz) (asym _ _ (ha'.1 z hz))
      · exact e
    · intro hz
      rcases List.mem_cons.1 ((h z).2 (List.mem_cons_of_mem _ hz)) with e | e
      · subst e; exact absurd (hb'.1 z hz) (asym _ _ (hb'.1 z hz))
      · exact e
theorem srtE_one {a b : List Ent} (ha : SrtE a) (hb : SrtE b) (h : ∀ p, atE a p = atE b p) : a = b :=
  pw_one (fun _ _ h1 h2 => absurd h2 (List.lt_asymm h1)) ha hb fun x => by rw [atE_iff ha, atE_iff hb, h]

/-! ### Both, in order -/
theorem comeE_path {a b : Ent} (h : a.path = b.path) : (comeE a b).1.path = a.path := by
  unfold comeE
  split
  · exact h.symm
  · split
    · rfl
    · split
      · simp only []; split <;> rfl
      · rfl
def mrgL : List Ent → List Ent → List (Ent × Bool)
  | [], [] => []
  | a :: l, [] => (a, false) :: mrgL l []
  | [], b :: m => (b, false) :: mrgL [] m
  | a :: l, b :: m => if a.path = b.path then comeE a b :: mrgL l m else if Op.bytesLess (epth a) (epth b) then (a, false) :: mrgL l (b :: m) else (b, false) :: mrgL (a :: l) m
termination_by l m => l.length + m.length
theorem mrg_mem (l m : List Ent) (x : ByteArray) : x ∈ (mrgL l m).map (·.1.path) ↔ x ∈ l.map (·.path) ∨ x ∈ m.map (·.path) := by
  fun_induction mrgL l m with
  | case1 => simp
  | case2 a l ih => simp only [List.map_cons, List.mem_cons, ih]; simp; 
  | case3 b m ih => simp only [List.map_cons, List.mem_cons, ih]; simp
  | case4 a l b m h ih => simp only [List.map_cons, List.mem_cons, ih, comeE_path h, ← h]; grind
  | case5 a l b m h h2 ih => simp only [List.map_cons, List.mem_cons, ih]; grind
  | case6 a l b m h h2 ih => simp only [List.map_cons, List.mem_cons, ih]; grind
theorem mrg_len (l m : List Ent) : (mrgL l m).length ≤ l.length + m.length := by
  fun_induction mrgL l m with
  | case1 => simp
  | case2 a l ih => simp at ih ⊢; omega
  | case3 b m ih => simp at ih ⊢; omega
  | case4 a l b m h ih => simp at ih ⊢; omega
  | case5 a l b m h h2 ih => simp at ih ⊢; omega
  | case6 a l b m h h2 ih => simp at ih ⊢; omega
def SrtM (M : List (Ent × Bool)) : Prop := M.Pairwise fun a b => epth a.1 < epth b.1
theorem path_of {x : Ent × Bool} {M : List (Ent × Bool)} (h : x ∈ M) : x.1.path ∈ M.map (·.1.path) := List.mem_map.2 ⟨x, h, rfl⟩
theorem not_less_lt {a b : Ent} (h : ¬ a.path = b.path) (h2 : Op.bytesLess (epth a) (epth b) = false) : epth b < epth a := by
  have h3 : ¬ epth a < epth b := fun e => by rw [(less_iff _ _).2 e] at h2; cases h2
  rcases List.le_iff_lt_or_eq.1 (List.not_lt.1 h3) with e | e
  · exact e
  · exact absurd (epth_inj.1 e.symm) h
theorem mrg_srt (l m : List Ent) (hl : SrtE l) (hm : SrtE m) : SrtM (mrgL l m) := by
  have key : ∀ (l m : List Ent) (z : List UInt8), (∀ e ∈ l, z < epth e) → (∀ e ∈ m, z < epth e) → ∀ x ∈ mrgL l m, z < epth x.1 := by
    intro l m z h1 h2 x hx
    rcases (mrg_mem l m x.1.path).1 (path_of hx) with h | h
    · obtain ⟨e, he, hp⟩ := List.mem_map.1 h
      have := h1 e he
      rwa [epth, hp] at this
    · obtain ⟨e, he, hp⟩ := List.mem_map.1 h
      have := h2 e he
      rwa [epth, hp] at this
  fun_induction mrgL l m with
  | case1 => exact List.Pairwise.nil
  | case2 a l ih => exact List.pairwise_cons.2 ⟨key _ _ _ (List.pairwise_cons.1 hl).1 (by simp), ih (List.pairwise_cons.1 hl).2 hm⟩
  | case3 b m ih => exact List.pairwise_cons.2 ⟨key _ _ _ (by simp) (List.pairwise_cons.1 hm).1, ih hl (List.pairwise_cons.1 hm).2⟩
  | case4 a l b m h ih =>
    have e : epth (comeE a b).1 = epth a := epth_inj.2 (comeE_path h)
    refine List.pairwise_cons.2 ⟨fun x hx => ?_, ih (List.pairwise_cons.1 hl).2 (List.pairwise_cons.1 hm).2⟩
    rw [e]
    refine key _ _ _ (List.pairwise_cons.1 hl).1 (fun f hf => ?_) x hx
    rw [epth_inj.2 h]
    exact (List.pairwise_cons.1 hm).1 f hf
  | case5 a l b m h h2 ih =>
    have hlt : epth a < epth b := (less_iff _ _).1 h2
    refine List.pairwise_cons.2 ⟨key _ _ _ (List.pairwise_cons.1 hl).1 (fun f hf => ?_), ih (List.pairwise_cons.1 hl).2 hm⟩
    rcases List.mem_cons.1 hf with rfl | hf
    · exact hlt
    · exact List.lt_trans hlt ((List.pairwise_cons.1 hm).1 f hf)
  | case6 a l b m h h2 ih =>
    have hlt : epth b < epth a := not_less_lt h (Bool.eq_false_iff.2 h2)
    refine List.pairwise_cons.2 ⟨key _ _ _ (fun f hf => ?_) (List.pairwise_cons.1 hm).1, ih hl (List.pairwise_cons.1 hm).2⟩
    rcases List.mem_cons.1 hf with rfl | hf
    · exact hlt
    · exact List.lt_trans hlt ((List.pairwise_cons.1 hl).1 f hf)
theorem gt_no {l : List Ent} {z : ByteArray} (h : ∀ e ∈ l, z.data.toList < epth e) : atE l z = none :=
  atE_none.2 fun e he hp => by
    have := h e he
    rw [epth, hp] at this
    exact absurd this (List.lt_irrefl _)
theorem mrg_at (l m : List Ent) (hl : SrtE l) (hm : SrtE m) : ∀ x ∈ mrgL l m, cm (atE l x.1.path) (atE m x.1.path) = some x := by
  have ne : ∀ {a : Ent} {x : Ent × Bool}, epth a < epth x.1 → a.path ≠ x.1.path := fun h e => by rw [epth, e] at h; exact absurd h (List.lt_irrefl _)
  have hs := mrg_srt l m hl hm
  fun_induction mrgL l m with
  | case1 => simp
  | case2 a l ih =>
    intro x hx
    rcases List.mem_cons.1 hx with rfl | hx'
    · rw [atE_cons, if_pos rfl, atE_nil]; rfl
    · rw [atE_cons, if_neg (ne ((List.pairwise_cons.1 hs).1 x hx'))]
      exact ih (List.pairwise_cons.1 hl).2 hm (List.pairwise_cons.1 hs).2 x hx'
  | case3 b m ih =>
    intro x hx
    rcases List.mem_cons.1 hx with rfl | hx'
    · rw [atE_cons, if_pos rfl, atE_nil]; rfl
    · rw [atE_cons b, if_neg (ne ((List.pairwise_cons.1 hs).1 x hx'))]
      exact ih hl (List.pairwise_cons.1 hm).2 (List.pairwise_cons.1 hs).2 x hx'
  | case4 a l b m h ih =>
    have e : epth (comeE a b).1 = epth a := epth_inj.2 (comeE_path h)
    intro x hx
    rcases List.mem_cons.1 hx with rfl | hx'
    · rw [comeE_path h, atE_cons, if_pos rfl, atE_cons, if_pos h.symm]; rfl
    · have := (List.pairwise_cons.1 hs).1 x hx'
      rw [e] at this
      have n1 := ne this
      rw [atE_cons, if_neg n1, atE_cons, if_neg (by rw [← h]; exact n1)]
      exact ih (List.pairwise_cons.1 hl).2 (List.pairwise_cons.1 hm).2 (List.pairwise_cons.1 hs).2 x hx'
  | case5 a l b m h h2 ih =>
    have hlt : epth a < epth b := (less_iff _ _).1 h2
    intro x hx
    rcases List.mem_cons.1 hx with rfl | hx'
    · rw [atE_cons, if_pos rfl, gt_no (fun f hf => ?_)]
      · rfl
      rcases List.mem_cons.1 hf with rfl | hf
      · exact hlt
      · exact List.lt_trans hlt ((List.pairwise_cons.1 hm).1 f hf)
    · rw [atE_cons a, if_neg (ne ((List.pairwise_cons.1 hs).1 x hx'))]
      exact ih (List.pairwise_cons.1 hl).2 hm (List.pairwise_cons.1 hs).2 x hx'
  | case6 a l b m h h2 ih =>
    have hlt : epth b < epth a := not_less_lt h (Bool.eq_false_iff.2 h2)
    intro x hx
    rcases List.mem_cons.1 hx with rfl | hx'
    · rw [atE_cons b, if_pos rfl, gt_no (fun f hf => ?_)]
      · rfl
      rcases List.mem_cons.1 hf with rfl | hf
      · exact hlt
      · exact List.lt_trans hlt ((List.pairwise_cons.1 hl).1 f hf)
    · rw [atE_cons b, if_neg (ne ((List.pairwise_cons.1 hs).1 x hx'))]
      exact ih hl (List.pairwise_cons.1 hm).2 (List.pairwise_cons.1 hs).2 x hx'

/-! ### What is told of two archives -/
def mA (l m : List Ent) : List Ent := (mrgL l m).map (·.1)
def mC (l m : List Ent) : List ByteArray := ((mrgL l m).filter (·.2)).map (·.1.path)
theorem mA_srt {l m : List Ent} (hl : SrtE l) (hm : SrtE m) : SrtE (mA l m) := by
  have := mrg_srt l m hl hm
  exact List.pairwise_map.2 this
theorem mA_at {l m : List Ent} (hl : SrtE l) (hm : SrtE m) (p : ByteArray) : atE (mA l m) p = (cm (atE l p) (atE m p)).map (·.1) := by
  by_cases h : p ∈ (mrgL l m).map (·.1.path)
  · obtain ⟨x, hx, rfl⟩ := List.mem_map.1 h
    rw [mrg_at l m hl hm x hx]
    exact (atE_iff (mA_srt hl hm)).1 (List.mem_map.2 ⟨x, hx, rfl⟩)
  · have h1 : atE l p = none := atE_none.2 fun e he hp => h ((mrg_mem l m p).2 (.inl (List.mem_map.2 ⟨e, he, hp⟩)))
    have h2 : atE m p = none := atE_none.2 fun e he hp => h ((mrg_mem l m p).2 (.inr (List.mem_map.2 ⟨e, he, hp⟩)))
    rw [h1, h2]
    exact atE_none.2 fun e he hp => by
      obtain ⟨x, hx, rfl⟩ := List.mem_map.1 he
      exact h (List.mem_map.2 ⟨x, hx, hp⟩)
theorem mC_mem {l m : List Ent} (hl : SrtE l) (hm : SrtE m) (p : ByteArray) : p ∈ mC l m ↔ ∃ e, cm (atE l p) (atE m p) = some (e, true) := by
  constructor
  · intro h
    obtain ⟨x, hx, rfl⟩ := List.mem_map.1 h
    obtain ⟨h1, h2⟩ := List.mem_filter.1 hx
    exact ⟨x.1, by rw [mrg_at l m hl hm x h1, ← h2]⟩
  · rintro ⟨e, he⟩
    have h : p ∈ (mrgL l m).map (·.1.path) := by
      rw [mrg_mem]
      cases h1 : atE l p with
      | some a => exact .inl (List.mem_map.2 ⟨a, atE_mem h1⟩)
      | none =>
        cases h2 : atE m p with
        | some b => exact .inr (List.mem_map.2 ⟨b, atE_mem h2⟩)
        | none => rw [h1, h2] at he; cases he
    obtain ⟨x, hx, rfl⟩ := List.mem_map.1 h
    have := mrg_at l m hl hm x hx
    rw [he] at this
    injection this with this
    exact List.mem_map.2 ⟨x, List.mem_filter.2 ⟨hx, by rw [← this]⟩, rfl⟩
def SrtB (l : List ByteArray) : Prop := l.Pairwise fun a b => a.data.toList < b.data.toList
theorem mC_srt {l m : List Ent} (hl : SrtE l) (hm : SrtE m) : SrtB (mC l m) := by
  have := (mrg_srt l m hl hm).filter (·.2)
  exact List.pairwise_map.2 this
theorem srtB_one {a b : List ByteArray} (ha : SrtB a) (hb : SrtB b) (h : ∀ x, x ∈ a ↔ x ∈ b) : a = b :=
  pw_one (fun _ _ h1 h2 => absurd h2 (List.lt_asymm h1)) ha hb h
theorem mrg_paths {l m : List Ent} (hl : SrtE l) (hm : SrtE m) {ps : List ByteArray} (hs : SrtB ps) (h : ∀ x, x ∈ ps ↔ x ∈ l.map (·.path) ∨ x ∈ m.map (·.path)) : ps = (mrgL l m).map (·.1.path) :=
  srtB_one hs (List.pairwise_map.2 (mrg_srt l m hl hm)) fun x => by rw [h, mrg_mem]
end Go.Proofs.YtaidggjnpnfdhaaDoor
namespace Go.Proofs.YtaidggjnpnfdhaaDoor
open Go.RowKit

set_option maxHeartbeats 1000000 in
theorem search_any (g : Nat) (cb : Array Value) (n k : Nat) (w : World) (eg : ∀ args w, (callFunc g args).run Tryd.prog w = .ok (.enter g args) w) (hn : n < 4611686018427387904) (hk : k ≤ n)
    (hf : ∀ W i, i < n → Below w.heap.size w W → Calls Tryd.prog g (#[.int .i64 (i : Nat)] ++ cb) W fun e w' => e = .returned (.bool (decide (k ≤ i))) ∧ Below w.heap.size w w') :
    Calls Tryd.prog 37 #[.int .i64 n, .func (.func g) #[] cb] w fun e w' => e = .returned (.int .i64 k) ∧ Below w.heap.size w w' := by
  have HF := hid hf
  clear hf
  go_enter Tryd.func37, Tryd.ntmps37
  go_wp2
  go_loopw [5, 6] (fun s5 s6 wr => ∃ lo hi : Nat, s5 = .int .i64 lo ∧ s6 = .int .i64 hi ∧ lo ≤ k ∧ k ≤ hi ∧ hi ≤ n ∧ Below w.heap.size w wr) (fun s5 s6 _ => (intOf s6).toNat - (intOf s5).toNat)
  case atStart => exact ⟨0, n, rfl, rfl, by omega, hk, Nat.le_refl _, Below.refl _ _⟩
  case round =>
    obtain ⟨lo, hi, rfl, rfl, h1, h2, h3, hb⟩ := hrel
    by_cases hlt : lo < hi
    · have hc := HF.out wr ((lo + hi) / 2) (by omega) hb
      have em : (((lo + hi) / 2 : Nat) : Int) = ((lo : Int) + (hi : Int)) / 2 := by omega
      rw [em] at hc
      have HM := hid em
      clear em
      have hlz : (lo : Int) < hi := by omega
      by_cases hm : k ≤ (lo + hi) / 2
      · rw [decide_eq_true hm] at hc
        have HMM := hid hm
        clear hm
        go_wp2_with (go_at_fn g; refine hc.mono ?_; rintro e w' ⟨rfl, hb'⟩)
        go_roundw
        case rel => exact ⟨lo, (lo + hi) / 2, rfl, by rw [HM.out], h1, HMM.out, by omega, hb'⟩
        case measure => simp [intOf]; omega
      · rw [decide_eq_false hm] at hc
        have HMM := hid hm
        clear hm
        go_wp2_with (go_at_fn g; refine hc.mono ?_; rintro e w' ⟨rfl, hb'⟩)
        go_roundw
        case rel => exact ⟨(lo + hi) / 2 + 1, hi, by rw [← HM.out]; rfl, rfl, by have := HMM.out; omega, h2, h3, hb'⟩
        case measure => simp [intOf]; omega
    · have hnlt : ¬ (lo : Int) < hi := by omega
      have e : lo = k := by omega
      go_wp2
      go_ret
      exact ⟨rfl, hb⟩
end Go.Proofs.YtaidggjnpnfdhaaDoor
namespace Go.Proofs.YtaidggjnpnfdhaaDoor
open Go.RowKit

theorem Rd.fil {w : World} {A : Option Addr} {fs : List Fil} (h : Rd w A (filV fs)) {j : Nat} (hj : j < fs.length) :
    ∃ b off, A = some ⟨b, off, none⟩ ∧ w.cell? ⟨b, off + j * 2, none⟩ = some (.string fs[j].1) ∧ w.cell? ⟨b, off + j * 2 + 1, none⟩ = some (.string fs[j].2) ∧ b < w.heap.size := by
  have hl := filV_length fs
  obtain ⟨b, off, rfl, h1, hb⟩ := h.at_ (k := j * 2) (by omega)
  have e1 := filV_at0 fs j hj
  have e2 := filV_at1 fs j hj
  rw [List.getElem?_eq_getElem (by omega)] at e1
  refine ⟨b, off, rfl, by rw [h1]; exact e1, ?_, hb⟩
  rw [Nat.add_assoc]
  rcases h with h | ⟨ad, he, hc⟩
  · rw [h] at hl
    simp at hl
    omega
  · injection he with he
    subst he
    have := hc _ _ e2
    rwa [Addr.add_lit] at this
theorem below_drewN {B : Nat} {a b : World} (h : Below B a b) (n : Nat) : Below B a (b.drewN n) := ⟨h.os, h.tape, h.output, h.size, h.block⟩

set_option maxHeartbeats 400000 in
theorem geq_any (ba bx : Nat) (A : Option Addr) (n c : Nat) (fs : List Fil) (p : ByteArray) (i : Nat) (W : World) (hl : fs.length = n) (hi : i < n)
    (ha : W.cell? ⟨ba, 0, none⟩ = some (.slice A n c)) (hx : W.cell? ⟨bx, 0, none⟩ = some (.string p)) (hr : Rd W A (filV fs)) :
    Calls Tryd.prog 38 (#[.int .i64 i] ++ #[.pointer (some ⟨ba, 0, none⟩), .pointer (some ⟨bx, 0, none⟩)]) W fun e w' => e = .returned (.bool (!Op.bytesLess (pth (fs[i]'(by omega))) p.data.toList)) ∧ Below W.heap.size W w' := by
  have hif : i < fs.length := by omega
  obtain ⟨b, off, rfl, h1, -, -⟩ := hr.fil hif
  unfold pth
  generalize fs[i].1 = x at h1 ⊢
  clear hr hl hif
  have hz : (0 : Int) ≤ i := by omega
  have hlt : (i : Int) < n := by omega
  go_enter Tryd.func38, Tryd.ntmps38
  go_wp2
  go_quiet (fail)
  go_wp2
  go_ret
  exact ⟨ret_bool (by rw [Lib.toList_data, Lib.toList_data]), below_drewN (Below.refl _ _) _⟩

theorem box2 (w : World) (v u : Value) (s t : TypeId) : ((w.alloc (.cells #[v] s)).alloc (.cells #[u] t)).cell? ⟨w.heap.size, 0, none⟩ = some v ∧ ((w.alloc (.cells #[v] s)).alloc (.cells #[u] t)).cell? ⟨w.heap.size + 1, 0, none⟩ = some u := by
  constructor
  · rw [World.cell?_alloc_past _ _ _ (by simp), World.cell?_alloc_at _ _ _ _ (by simp)]; rfl
  · rw [World.cell?_alloc_at _ _ _ _ (by simp)]; rfl

set_option maxHeartbeats 1000000 in
theorem place_any (A : Option Addr) (n c : Nat) (fs : List Fil) (p : ByteArray) (w : World) (hl : fs.length = n) (hs : Srt fs) (hr : Rd w A (filV fs)) (hn : n ≤ 140737488355328) :
    Calls Tryd.prog 26 #[.slice A n c, .string p] w fun e w' => e = .returned (.tuple #[.int .i64 ((lowT fs p.data.toList).length : Nat), .bool (thereT fs p.data.toList)]) ∧ Below w.heap.size w w' := by
  have hmf : ∀ (fn : Fn) (first cap : Array Value) (w : World), (Instr.makeFunc fn first cap).run Tryd.prog w = .ok (.func fn first cap) w := fun _ _ _ _ => rfl
  have HA := hid (@there_at fs p.data.toList hs)
  have hk : (lowT fs p.data.toList).length ≤ n := by rw [← hl]; exact low_len _
  have HS := hid (fun i (hi : i < fs.length) => @low_at fs p.data.toList hs i hi)
  generalize (lowT fs p.data.toList).length = k at *
  generalize thereT fs p.data.toList = th at *
  go_enter Tryd.func26, Tryd.ntmps26
  go_wp2_with fail
  obtain ⟨c1, c2⟩ := box2 w (.slice A n c) (.string p) 22 9
  have hr2 : Rd ((w.alloc (.cells #[.slice A n c] 22)).alloc (.cells #[.string p] 9)) A (filV fs) := (hr.alloc _).alloc _
  have hbb : Below w.heap.size w ((w.alloc (.cells #[.slice A n c] 22)).alloc (.cells #[.string p] 9)) := ((Below.refl _ _).alloc (Nat.le_refl _) _).alloc (by simp) _
  have hsz : w.heap.size + 1 < ((w.alloc (.cells #[.slice A n c] 22)).alloc (.cells #[.string p] 9)).heap.size := by simp
  generalize ((w.alloc (.cells #[.slice A n c] 22)).alloc (.cells #[.string p] 9)) = w2 at c1 c2 hr2 hbb hsz ⊢
  refine (search_any 38 _ n k w2 (enters_of Tryd.func38 (by kernel_rfl) rfl) (by omega) hk ?_).mono ?_
  · intro W i hi hbW
    refine (geq_any w.heap.size (w.heap.size + 1) A n c fs p i W hl hi ((hbW.cell (by show w.heap.size < _; omega)).trans c1) ((hbW.cell (by show w.heap.size + 1 < _; omega)).trans c2) (hr2.below hbW)).mono ?_
    rintro e w' ⟨rfl, hb'⟩
    refine ⟨ret_bool ?_, below2 hbW hb'⟩
    rw [HS.out i (by omega)]
    by_cases h : i < k
    · simp [h]
    · simp [h]; omega
  rintro e w3 ⟨rfl, hb3⟩
  have d1 := (hb3.cell (p := ⟨w.heap.size, 0, none⟩) (by show w.heap.size < _; omega)).trans c1
  have d2 := (hb3.cell (p := ⟨w.heap.size + 1, 0, none⟩) (by show w.heap.size + 1 < _; omega)).trans c2
  have hr3 := hr2.below hb3
  have hb3' := hbb.trans (hb3.mono hbb.size)
  clear c1 c2 hr2 hbb hb3 hr hsz
  by_cases hkn : k < n
  · obtain ⟨b, off, rfl, h1, -, -⟩ := hr3.fil (j := k) (by omega)
    have HT := hid (show th = true ↔ fs[k].1.data.toList = p.data.toList from ⟨fun h => (HA.out.1 h).2, fun h => HA.out.2 ⟨by omega, h⟩⟩)
    generalize fs[k].1 = x at h1 HT
    have hz : (0 : Int) ≤ k := by omega
    have hlt : (k : Int) < n := by omega
    clear hr3
    go_wp2_with fail
    go_quiet (fail)
    go_wp2
    go_ret2
    have et : (x.toList == p.toList) = th := by
      rw [Lib.toList_data, Lib.toList_data, Bool.eq_iff_iff, beq_iff_eq]
      exact HT.out.symm
    exact ⟨by rw [← et]; rfl, below_drewN hb3' _⟩
  · have hnlt : ¬ (k : Int) < n := by omega
    go_wp2_with fail
    go_quiet (fail)
    go_wp2
    go_ret2
    have et : th = false := not_true fun h => absurd (HA.out.1 h).1 (by omega)
    exact ⟨by rw [et]; rfl, below_drewN hb3' _⟩
end Go.Proofs.YtaidggjnpnfdhaaDoor
namespace Go.Proofs.YtaidggjnpnfdhaaDoor
open Go.RowKit


set_option maxHeartbeats 400000 in
theorem clashf_any (bx : Nat) (f : Fil) (p : ByteArray) (W : World) (hx : W.cell? ⟨bx, 0, none⟩ = some (.string p)) (hf : f.1.size < 4294967281) (hp : p.size < 4294967281) :
    Calls Tryd.prog 74 (#[.agg #[.string f.1, .string f.2]] ++ #[.pointer (some ⟨bx, 0, none⟩)]) W fun e w' => e = .returned (.bool (clashL (pth f) p.data.toList)) ∧ Below W.heap.size W w' := by
  obtain ⟨x, d⟩ := f
  have hb := World.block_lt_of_cell? _ _ hx
  unfold pth
  simp only at hf ⊢
  go_enter Tryd.func74, Tryd.ntmps74
  go_wp2_with fail
  refine (clash_any x p _ hf hp).mono ?_
  rintro e w1 ⟨rfl, hb1⟩
  go_wp2
  go_ret
  exact ⟨rfl, below_new _ hb1⟩

/-- Which file is the first that clashes. -/
def IdxPost (w : World) (b : Bool) (e : Ending) (w' : World) : Prop := ∃ k : Int, e = .returned (.int .i64 k) ∧ decide (0 ≤ k) = b ∧ Below w.heap.size w w'
theorem any_take_step {α : Type} (q : α → Bool) (l : List α) (j : Nat) (h : j < l.length) : (l.take (j + 1)).any q = ((l.take j).any q || q l[j]) := by
  rw [List.take_add_one, List.getElem?_eq_getElem h, List.any_append]
  simp

set_option maxHeartbeats 1000000 in
theorem idx_any (bx : Nat) (A : Option Addr) (n c : Nat) (fs : List Fil) (p : ByteArray) (w : World) (hl : fs.length = n) (hx : w.cell? ⟨bx, 0, none⟩ = some (.string p)) (hr : Rd w A (filV fs)) (hn : n ≤ 140737488355328)
    (hf : ∀ f ∈ fs, f.1.size < 4294967281) (hp : p.size < 4294967281) :
    Calls Tryd.prog 24 #[.slice A n c, .func (.func 74) #[] #[.pointer (some ⟨bx, 0, none⟩)]] w (IdxPost w (clashT fs p.data.toList)) := by
  have eg := enters_of Tryd.func74 (by kernel_rfl) rfl
  have hbx := World.block_lt_of_cell? _ _ hx
  have HF := hid hf
  have HL := hid hl
  clear hf hl
  go_enter Tryd.func24, Tryd.ntmps24
  go_wp2_with fail
  go_loopw [8] (fun i wr => ∃ j : Nat, j ≤ n ∧ i = .int .i64 j ∧ Hid ((fs.take j).any (fun f => clashL (pth f) p.data.toList) = false) ∧ Below w.heap.size w wr) (fun i _ => n - (intOf i).toNat)
  case atStart => exact ⟨0, by omega, rfl, by simp [Hid], Below.refl _ _⟩
  case round =>
    obtain ⟨j, hj, rfl, HO, hb⟩ := hrel
    by_cases hjn : j < n
    · have hjl : j < fs.length := by rw [HL.out]; exact hjn
      have hr1 := hr.below hb
      obtain ⟨b, off, rfl, h1, h2, -⟩ := hr1.fil hjl
      have HK := hid (any_take_step (fun f => clashL (pth f) p.data.toList) fs j hjl)
      have hx1 := (hb.cell (p := ⟨bx, 0, none⟩) hbx).trans hx
      have cc := clashf_any bx fs[j] p wr hx1 (HF.out _ (List.getElem_mem hjl)) hp
      have HM := hid (List.getElem_mem hjl)
      generalize fs[j] = f at *
      clear hr1
      have hz : (0 : Int) ≤ j := by omega
      have hlt : (j : Int) < n := by omega
      go_wp2_with fail
      refine cc.mono ?_
      rintro e w1 ⟨rfl, hb1⟩
      have hb1' := below2 hb hb1
      clear cc hb hb1 hx1
      cases hq : clashL (pth f) p.data.toList
      · go_wp2
        go_roundw
        case rel => exact ⟨j + 1, by omega, by go_num, hid (by rw [HK.out, HO.out, hq]; rfl), hb1'⟩
        case measure => simp [intOf]; omega
      · have HQ := hid hq
        clear hq
        go_wp2
        go_ret
        refine ⟨j, rfl, ?_, hb1'⟩
        rw [decide_eq_true hz]
        exact (List.any_eq_true.2 ⟨f, HM.out, HQ.out⟩).symm
    · have e : j = n := by omega
      have HE := hid e
      have hnlt : ¬ (j : Int) < n := by omega
      clear e
      go_wp2
      go_ret
      refine ⟨-1, rfl, ?_, hb⟩
      have ho := HO.out
      rw [HE.out, ← HL.out, List.take_length] at ho
      exact ho.symm

set_option maxHeartbeats 400000 in
theorem contains_any (bx : Nat) (A : Option Addr) (n c : Nat) (fs : List Fil) (p : ByteArray) (w : World) (hl : fs.length = n) (hx : w.cell? ⟨bx, 0, none⟩ = some (.string p)) (hr : Rd w A (filV fs)) (hn : n ≤ 140737488355328)
    (hf : ∀ f ∈ fs, f.1.size < 4294967281) (hp : p.size < 4294967281) :
    Calls Tryd.prog 73 #[.slice A n c, .func (.func 74) #[] #[.pointer (some ⟨bx, 0, none⟩)]] w fun e w' => e = .returned (.bool (clashT fs p.data.toList)) ∧ Below w.heap.size w w' := by
  have c0 := idx_any bx A n c fs p w hl hx hr hn hf hp
  clear hl hx hr hf hp
  generalize clashT fs p.data.toList = b at *
  go_enter Tryd.func73, Tryd.ntmps73
  go_wp2_with fail
  refine c0.mono ?_
  rintro e w1 ⟨k, rfl, hk, hb⟩
  have HK := hid hk
  clear hk c0
  go_wp2
  go_ret
  exact ⟨ret_bool HK.out, hb⟩

set_option maxHeartbeats 400000 in
theorem clashes_any (A : Option Addr) (n c : Nat) (fs : List Fil) (p : ByteArray) (w : World) (hl : fs.length = n) (hr : Rd w A (filV fs)) (hn : n ≤ 140737488355328)
    (hf : ∀ f ∈ fs, f.1.size < 4294967281) (hp : p.size < 4294967281) :
    Calls Tryd.prog 60 #[.slice A n c, .string p] w fun e w' => e = .returned (.bool (clashT fs p.data.toList)) ∧ Below w.heap.size w w' := by
  have hmf : ∀ (fn : Fn) (first cap : Array Value) (w : World), (Instr.makeFunc fn first cap).run Tryd.prog w = .ok (.func fn first cap) w := fun _ _ _ _ => rfl
  have c0 := contains_any w.heap.size A n c fs p (w.alloc (.cells #[.string p] 9)) hl (by rw [World.cell?_alloc_at _ _ _ _ (by simp)]; rfl) (hr.alloc _) hn hf hp
  clear hl hr hf hp
  generalize clashT fs p.data.toList = b at *
  go_enter Tryd.func60, Tryd.ntmps60
  go_wp2_with fail
  refine c0.mono ?_
  rintro e w1 ⟨rfl, hb⟩
  clear c0
  go_wp2
  go_ret
  exact ⟨rfl, below_new _ hb⟩

/-! ### None is under another one -/
theorem prefix_mid : ∀ (d s r : List UInt8), d < s → s ≤ d ++ r → Lib.hasPrefix s d = true
  | [], s, r, _, _ => by simp [Lib.hasPrefix]
  | c :: d, [], r, h, _ => by simp at h
  | c :: d, x :: s, r, h, h2 => by
    have h2' : x :: s < c :: (d ++ r) ∨ x :: s = c :: (d ++ r) := List.le_iff_lt_or_eq.1 h2
    rw [List.cons_lt_cons_iff] at h h2'
    have key : c = x ∧ d < s ∧ s ≤ d ++ r := by
      rcases h with h | ⟨e, h⟩
      · rcases h2' with (h3 | ⟨e3, _⟩) | h3
        · exact absurd h (UInt8.lt_asymm h3)
        · rw [e3] at h; exact absurd h (UInt8.lt_irrefl _)
        · injection h3 with e3 _; rw [e3] at h; exact absurd h (UInt8.lt_irrefl _)
      · rcases h2' with (h3 | ⟨_, h3⟩) | h3
        · rw [e] at h3; exact absurd h3 (UInt8.lt_irrefl _)
        · exact ⟨e, h, List.le_of_lt h3⟩
        · injection h3 with _ e3; exact ⟨e, h, by rw [e3]; exact List.le_refl _⟩
    have := prefix_mid d s r key.2.1 key.2.2
    rw [Lib.hasPrefix] at this ⊢
    simp [key.1, this]
theorem under_mid {d s t : List UInt8} (h1 : d < s) (h2 : s ≤ t) (h3 : Lib.hasPrefix s d = false) : underL t d = false := by
  refine not_true fun h => ?_
  unfold underL at h
  rw [Bool.and_eq_true, pre_iff] at h
  obtain ⟨_, r, rfl⟩ := h
  rw [prefix_mid d s (47 :: r) h1 h2] at h3
  cases h3
theorem apart_idx (L : List (List UInt8)) : apartL L = true ↔ ∀ i k (_ : i < k) (hk : k < L.length), underL L[k] (L[i]'(by omega)) = false := by
  rw [apart_iff, List.pairwise_iff_getElem]
  exact ⟨fun h i k hik hk => h i k (by omega) hk hik, fun h i k _ hk hik => h i k hik hk⟩

set_option maxHeartbeats 2000000 in
theorem apart_any (A : Option Addr) (n c : Nat) (ls : List ByteArray) (w : World) (hl : ls.length = n) (hnc : n ≤ c) (hcm : c ≤ 140737488355328) (hr : Rd w A (strV ls)) (hs : (lst ls).Pairwise (· < ·)) (hss : ∀ s ∈ ls, s.size < 4294967281) :
    Calls Tryd.prog 23 #[.slice A n c] w fun e w' => e = .returned (.bool (apartL (lst ls))) ∧ Below w.heap.size w w' := by
  have HI := hid (apart_idx (lst ls))
  have HP := hid (List.pairwise_iff_getElem.1 hs)
  have HL := hid (show (lst ls).length = n by rw [lst_length]; exact hl)
  have HL2 := hid hl
  have HS := hid hss
  have HA := hid (fun j (h : j < ls.length) (h' : j < (lst ls).length) => (show (lst ls)[j] = ls[j].data.toList by simp [lst]))
  clear hl hs hss
  generalize lst ls = L at *
  go_enter Tryd.func23, Tryd.ntmps23
  go_wp2_with fail
  go_loopw [9] (fun i wr => ∃ j : Nat, j ≤ n ∧ i = .int .i64 j ∧ Hid (∀ i k (hi : i < j) (hik : i < k) (hk : k < L.length), underL L[k] (L[i]'(by omega)) = false) ∧ Below w.heap.size w wr) (fun i _ => n - (intOf i).toNat)
  case atStart => exact ⟨0, by omega, rfl, hid (fun i k hi => absurd hi (by omega)), Below.refl _ _⟩
  case round =>
    obtain ⟨i, hi, rfl, HO, hb⟩ := hrel
    by_cases hin : i < n
    · have hil : i < ls.length := by rw [HL2.out]; exact hin
      have hr1 := hr.below hb
      obtain ⟨b, off, rfl, h1, -⟩ := hr1.at_ (k := i) (by rw [strV_length]; exact hil)
      have h2 : wr.cell? ⟨b, off + i, none⟩ = some (.string ls[i]) := by rw [h1]; simp [strV]
      have hz : (0 : Int) ≤ i := by omega
      have hlt : (i : Int) < n := by omega
      clear h1 hr1
      by_cases hci : c = i + 1
      · have hnn : n - (i + 1) = 0 := by omega
        have hn1 : n = i + 1 := by omega
        have HN := hid hn1
        clear hn1
        go_upto_region 5 with (fail)
        go_loopw [19] (fun v wx => v = .int .i64 0 ∧ wr = wx) (fun _ _ => 0)
        case atStart => exact ⟨rfl, rfl⟩
        case round =>
          obtain ⟨rfl, rfl⟩ := hrel
          go_wp2
          go_roundw
          case rel =>
            refine ⟨i + 1, by omega, by go_num, hid (fun i' k hi' hik hk => ?_), hb⟩
            have := HN.out
            have := HL.out
            exact HO.out i' k (by omega) hik hk
          case measure => simp [intOf]; omega
      · have HW := hid hb
        go_upto_region 5 with (fail)
        go_loopw [19] (fun v wx => ∃ j : Nat, j ≤ n - (i + 1) ∧ v = .int .i64 j ∧ Hid (∀ k (hk : k < L.length) (hik : i < k), k < i + 1 + j → underL L[k] (L[i]'(by omega)) = false) ∧ Below w.heap.size w wx) (fun v _ => n - (i + 1) - (intOf v).toNat)
        case atStart => exact ⟨0, by omega, rfl, hid (fun k hk hik h => absurd h (by omega)), hb⟩
        case round =>
          clear hb h2
          obtain ⟨j, hj, rfl, HJ, hb⟩ := hrel
          have hLi : i < L.length := by have := HL.out; omega
          have HAi := hid (HA.out i hil hLi)
          by_cases hjn : j < n - (i + 1)
          · have hkl : i + 1 + j < ls.length := by have := HL2.out; omega
            have hLk : i + 1 + j < L.length := by have := HL.out; omega
            have HAk := hid (HA.out (i + 1 + j) hkl hLk)
            have hr1 := hr.below hb
            obtain ⟨b', off', he, h1, -⟩ := hr1.at_ (k := i + 1 + j) (by rw [strV_length]; exact hkl)
            injection he with he
            injection he with he1 he2
            subst he1 he2
            have h3 : wr.cell? ⟨b, off + (i + 1) + j, none⟩ = some (.string ls[i + 1 + j]) := by
              rw [Nat.add_assoc off, h1]
              simp [strV]
            have hsi := HS.out ls[i] (List.getElem_mem hil)
            have hsk := HS.out ls[i + 1 + j] (List.getElem_mem hkl)
            have HPk := hid (HP.out i (i + 1 + j) hLi hLk (by omega))
            clear h1 hr1
            generalize ls[i + 1 + j] = x at *
            generalize ls[i] = y at *
            have hz2 : (0 : Int) ≤ j := by omega
            have hlt2 : (j : Int) < ((n - (i + 1) : Nat) : Int) := by omega
            go_wp2_with fail
            refine (Tryd.strings_HasPrefix _ _ _).mono ?_
            rintro e w1 ⟨rfl, rfl⟩
            cases hp : Lib.hasPrefix x.data.toList y.data.toList
            · have HPP := hid hp
              clear hp
              go_wp2
              go_roundw
              case rel =>
                refine ⟨i + 1, by omega, by go_num, hid (fun i' k hi' hik hk => ?_), hb⟩
                by_cases hii : i' < i
                · exact HO.out i' k hii hik hk
                · obtain rfl : i' = i := by omega
                  by_cases hkj : k < i' + 1 + j
                  · exact HJ.out k hk hik hkj
                  · refine under_mid HPk.out ?_ ?_
                    · by_cases hke : k = i' + 1 + j
                      · subst hke; exact List.le_refl _
                      · exact List.le_of_lt (HP.out (i' + 1 + j) k hLk hk (by omega))
                    · rw [HAi.out, HAk.out]; exact HPP.out
              case measure => simp [intOf]; omega
            · go_wp2_with fail
              refine (under_any _ _ _ hsk hsi).mono ?_
              rintro e w2 ⟨rfl, hb2⟩
              have hb2' := below2 hb hb2
              clear hb hb2
              cases hu : underL x.data.toList y.data.toList
              · have HU := hid hu
                clear hu
                go_wp2
                go_roundw
                case rel =>
                  refine ⟨j + 1, by omega, by go_num, hid (fun k hk hik hkj => ?_), hb2'⟩
                  by_cases hke : k = i + 1 + j
                  · subst hke
                    rw [HAi.out, HAk.out]; exact HU.out
                  · exact HJ.out k hk hik (by omega)
                case measure => simp [intOf]; omega
              · have HU := hid hu
                clear hu
                go_wp2
                go_ret
                refine ⟨ret_bool ?_, hb2'⟩
                symm
                refine not_true fun hap => ?_
                have := HI.out.1 hap i (i + 1 + j) (by omega) hLk
                rw [HAi.out, HAk.out, HU.out] at this
                cases this
          · have hnlt2 : ¬ (j : Int) < ((n - (i + 1) : Nat) : Int) := by omega
            have HJE := hid (show j = n - (i + 1) by omega)
            go_wp2
            go_roundw
            case rel =>
              refine ⟨i + 1, by omega, by go_num, hid (fun i' k hi' hik hk => ?_), hb⟩
              by_cases hii : i' < i
              · exact HO.out i' k hii hik hk
              · obtain rfl : i' = i := by omega
                have := HL.out
                have := HJE.out
                exact HJ.out k hk hik (by omega)
            case measure => simp [intOf]; omega
    · have HE := hid (show i = n by omega)
      have hnlt : ¬ (i : Int) < n := by omega
      go_wp2
      go_ret
      refine ⟨ret_bool ?_, hb⟩
      symm
      refine HI.out.2 fun i' k hik hk => ?_
      have := HE.out
      have := HL.out
      exact HO.out i' k (by omega) hik hk
end Go.Proofs.YtaidggjnpnfdhaaDoor
namespace Go.Proofs.YtaidggjnpnfdhaaDoor
open Go.RowKit

theorem made_one (z : Value) (n : Nat) : madeCells #[z] n = (List.replicate n z).toArray := by
  apply Array.toList_inj.1
  rw [toList_madeCells_one]
theorem made_two (a : Value) (n : Nat) : madeCells #[a, a] n = (List.replicate n a).toArray := by
  apply Array.ext
  · simp [madeCells]
  · intro i h1 h2
    simp only [madeCells, Array.getElem_map, Array.getElem_range, List.getElem_toArray, List.getElem_replicate]
    have h : i % (#[a, a] : Array Value).size = 0 ∨ i % (#[a, a] : Array Value).size = 1 := by
      have : (#[a, a] : Array Value).size = 2 := rfl
      rw [this]; omega
    rcases h with h | h <;> rw [h] <;> rfl
theorem make_strs (n : Nat) (hn : n ≤ 1000000) (w : World) : (Instr.makeSlice 40 (.int .i64 (n : Int)) (.int .i64 (n : Int))).run Tryd.prog w = .ok (.slice (some ⟨w.heap.size, 0, none⟩) n n) (w.alloc (.cells (List.replicate n (Value.string ⟨#[]⟩)).toArray 9)) := by
  rw [← made_one]
  exact run_make_row' 40 9 (.string ⟨#[]⟩) 16 Tryd.underlying40 Tryd.infoS rfl .i64 .i64 n (by omega) (by omega) w

/-- What was laid, and room for the rest. -/
def fill (xs : List Value) (z : Value) (j : Nat) : List Value := xs.take j ++ List.replicate (xs.length - j) z
theorem fill_zero (xs : List Value) (z : Value) : fill xs z 0 = List.replicate xs.length z := by simp [fill]
theorem fill_all (xs : List Value) (z : Value) : fill xs z xs.length = xs := by simp [fill]
theorem fill_at (xs : List Value) (z : Value) (j : Nat) (h : j < xs.length) : (fill xs z j)[j]? = some z := by
  rw [fill, List.getElem?_append_right (by rw [List.length_take]; omega), List.length_take, Nat.min_eq_left (by omega), Nat.sub_self, List.getElem?_replicate, if_pos (by omega)]
theorem fill_set (xs : List Value) (z : Value) (j : Nat) (x : Value) (h : xs[j]? = some x) : (fill xs z j).set j x = fill xs z (j + 1) := by
  have hj := (List.getElem?_eq_some_iff.1 h).1
  rw [fill, fill, List.set_append_right _ _ (by rw [List.length_take]; omega), List.length_take, Nat.min_eq_left (by omega), Nat.sub_self, show xs.length - j = (xs.length - (j + 1)) + 1 by omega, List.replicate_succ, List.set_cons_zero, List.take_add_one, h, List.append_assoc]
  rfl
theorem all_take_more {α : Type} (q : α → Bool) (l : List α) (j : Nat) (h : j < l.length) : (l.take (j + 1)).all q = ((l.take j).all q && q l[j]) := by
  rw [List.take_add_one, List.getElem?_eq_getElem h, List.all_append]
  simp

set_option maxHeartbeats 1000000 in
theorem tright_any (A : Option Addr) (n c : Nat) (fs : List Fil) (w : World) (hl : fs.length = n) (hr : Rd w A (filV fs)) (hn : n ≤ 140737488355328) (hf : ∀ f ∈ fs, f.1.size < 4294967281 ∧ f.2.size ≤ maxLen) :
    Calls Tryd.prog 12 #[.slice A n c] w fun e w' => e = .returned (.bool (treeR fs)) ∧ Below w.heap.size w w' := by
  have HF := hid hf
  have HL := hid hl
  clear hf hl
  by_cases h16 : (16 : Int) < n
  · go_enter Tryd.func12, Tryd.ntmps12
    go_wp2
    go_ret
    refine ⟨ret_bool ?_, Below.refl _ _⟩
    symm
    refine treeR_no fun h => ?_
    have := h.few
    have := HL.out
    omega
  · have hmk := make_strs n (by omega)
    go_enter Tryd.func12, Tryd.ntmps12
    go_upto_region 5 with (fail)
    go_loopw [14] (fun i wr => ∃ j : Nat, j ≤ n ∧ i = .int .i64 j ∧ Blk wr w.heap.size (fill (strV (fs.map (·.1))) (.string ⟨#[]⟩) j) 9 ∧ Below w.heap.size w wr ∧ Hid ((fs.take j).all (fun f => decide (f.2.size ≤ 600)) = true)) (fun i _ => n - (intOf i).toNat)
    case atStart =>
      refine ⟨0, by omega, rfl, ?_, (Below.refl _ _).alloc (Nat.le_refl _) _, by simp [Hid]⟩
      have := Blk.new w (List.replicate n (Value.string ⟨#[]⟩)) 9
      rw [fill_zero, strV_length, List.length_map, HL.out]
      simpa using this
    case round =>
      obtain ⟨j, hj, rfl, hblk, hb, HO⟩ := hrel
      by_cases hjn : j < n
      · have hjl : j < fs.length := by rw [HL.out]; exact hjn
        have hr1 := hr.below hb
        obtain ⟨b, off, rfl, h1, h2, -⟩ := hr1.fil hjl
        have hz : (0 : Int) ≤ j := by omega
        have hlt : (j : Int) < n := by omega
        clear hr1
        go_upto_region 7 with (fail)
        have HK := hid (all_take_more (fun f : Fil => decide (f.2.size ≤ 600)) fs j hjl)
        have HX := hid (show (strV (fs.map (·.1)))[j]? = some (.string fs[j].1) by simp [strV, hjl])
        have hblk2 := hblk.below ((Below.refl _ _).alloc (Nat.le_refl _) (.cells #[.string fs[j].1, .string fs[j].2] 46))
        have hb2 := hb.alloc hb.size (.cells #[.string fs[j].1, .string fs[j].2] 46)
        have k := Blk.new wr [.string fs[j].1, .string fs[j].2] 46
        have k1 := k.cell 0
        have k2 := k.cell 1
        simp only [List.getElem?_cons_zero, List.getElem?_cons_succ] at k1 k2
        have hd := (HF.out fs[j] (List.getElem_mem hjl)).2
        unfold maxLen at hd
        have HM := hid (List.getElem_mem hjl)
        clear k hblk hb h1 h2
        generalize fs[j] = f at *
        generalize wr.alloc (.cells #[.string f.1, .string f.2] 46) = wa at *
        generalize wr.heap.size = g at *
        have c1 := hblk2.cell j
        rw [fill_at _ _ _ (by rw [strV_length, List.length_map]; exact hjl)] at c1
        have c2 := hblk2.frozen j
        have hblk3 := hblk2.set_ j (.string f.1)
        rw [fill_set _ _ _ _ HX.out] at hblk3
        have hb3 : Below w.heap.size w (wa.setCell ⟨w.heap.size, j, none⟩ (.string f.1)) := hb2.grown (grown_set j _) hb2.size (by intro k hk; injection hk with hk; omega)
        clear hblk2
        by_cases h600 : (600 : Int) < f.2.size
        · go_wp2
          go_ret
          refine ⟨ret_bool ?_, hb2⟩
          symm
          refine treeR_no fun h => ?_
          have := h.datas f HM.out
          omega
        · go_wp2
          go_roundw
          case rel => exact ⟨j + 1, by omega, by go_num, hblk3, hb3, hid (by rw [HK.out, HO.out]; simp; omega)⟩
          case measure => simp [intOf]; omega
      · have HE := hid (show j = n by omega)
        have hnlt : ¬ (j : Int) < n := by omega
        have ho := HO.out
        have e1 : j = fs.length := by rw [HL.out]; omega
        rw [e1, List.take_length] at ho
        have HD := hid ho
        have e2 : (strV (fs.map (·.1))).length = fs.length := by rw [strV_length, List.length_map]
        rw [show j = (strV (fs.map (·.1))).length by rw [e2]; exact e1, fill_all] at hblk
        have hrd : Rd wr (some ⟨w.heap.size, 0, none⟩) (strV (fs.map (·.1))) := .inr ⟨_, rfl, fun k u hu => by rw [Addr.add_lit, Nat.zero_add, hblk.cell, hu]⟩
        have HLL := hid (show lst (fs.map (·.1)) = fs.map pth by simp [lst, pth])
        have hfn : (fs.map (·.1)).length = n := by rw [List.length_map, HL.out]
        have hss : ∀ s ∈ fs.map (·.1), s.size < 4294967281 := by
          intro s hs
          obtain ⟨f, hf, rfl⟩ := List.mem_map.1 hs
          exact (HF.out f hf).1
        have HFN := hid hfn
        have HSS := hid hss
        clear ho e1 e2 hblk hfn hss HO
        have hn16 : fs.length ≤ 16 := by rw [HL.out]; omega
        have HT := hid (show treeR fs = (sortedL (fs.map pth) && apartL (fs.map pth)) by rw [treeR, HD.out, decide_eq_true hn16]; rfl)
        clear hn16
        go_wp2_with fail
        refine (sorted_any _ n n (fs.map (·.1)) _ HFN.out hrd hn HSS.out).mono ?_
        rintro e w1 ⟨rfl, hb1⟩
        rw [HLL.out]
        have hrd1 := hrd.below hb1
        have hb1' := below2 hb hb1
        clear hrd hb hb1
        cases hq : sortedL (fs.map pth)
        · rw [hq] at HT
          go_wp2
          go_ret
          exact ⟨ret_bool HT.out.symm, hb1'⟩
        · rw [hq, Bool.true_and] at HT
          have HS := hid (srt_pair hq)
          go_wp2_with fail
          refine (apart_any _ n n (fs.map (·.1)) _ HFN.out (Nat.le_refl _) hn hrd1 (by rw [HLL.out]; exact HS.out) HSS.out).mono ?_
          rintro e w2 ⟨rfl, hb2⟩
          rw [HLL.out]
          go_wp2
          go_ret
          exact ⟨ret_bool HT.out.symm, below2 hb1' hb2⟩
end Go.Proofs.YtaidggjnpnfdhaaDoor
namespace Go.Proofs.YtaidggjnpnfdhaaDoor
open Go.RowKit

/-- A slice of n files: what is read, and the bounds. -/
structure Ft (w : World) (A : Option Addr) (n c : Nat) (fs : List Fil) : Prop where
  len : fs.length = n
  rd : Rd w A (filV fs)
  cap : n ≤ c
  big : n ≤ 140737488355328
  capm : c ≤ 9223372036854775807
  sz : ∀ f ∈ fs, f.1.size < 4294967281 ∧ f.2.size ≤ 140737488355328
theorem Ft.below {w w' : World} {A : Option Addr} {n c : Nat} {fs : List Fil} (h : Ft w A n c fs) (hb : Below w.heap.size w w') : Ft w' A n c fs := ⟨h.len, h.rd.below hb, h.cap, h.big, h.capm, h.sz⟩
theorem Ft.sz1 {w : World} {A : Option Addr} {n c : Nat} {fs : List Fil} (h : Ft w A n c fs) : ∀ f ∈ fs, f.1.size < 4294967281 := fun f hf => (h.sz f hf).1
theorem tree_any {w : World} {A : Option Addr} {n c : Nat} {fs : List Fil} (h : Ft w A n c fs) : Calls Tryd.prog 12 #[.slice A n c] w fun e w' => e = .returned (.bool (treeR fs)) ∧ Below w.heap.size w w' :=
  tright_any A n c fs w h.len h.rd h.big (fun f hf => ⟨(h.sz f hf).1, by have := (h.sz f hf).2; unfold maxLen; omega⟩)

set_option maxHeartbeats 400000 in
theorem find_any {w : World} {A : Option Addr} {n c : Nat} {fs : List Fil} (h : Ft w A n c fs) (p : ByteArray) :
    Calls Tryd.prog 15 #[.slice A n c, .string p] w fun e w' => e = .returned (.int .i64 (findT fs p.data.toList)) ∧ Below w.heap.size w w' := by
  have hn := h.big
  go_enter Tryd.func15, Tryd.ntmps15
  go_wp2_with fail
  refine (tree_any h).mono ?_
  rintro e w1 ⟨rfl, hb1⟩
  cases hR : treeR fs
  · go_wp2
    go_ret
    exact ⟨ret_int (by rw [findT, hR]; rfl), hb1⟩
  · have HR := hid hR
    have hT := (treeR_iff fs).1 hR
    have h1 := h.below hb1
    clear hR h
    go_wp2_with fail
    refine (place_any A n c fs p _ h1.len hT.srt h1.rd hn).mono ?_
    rintro e w2 ⟨rfl, hb2⟩
    have hb2' := below2 hb1 hb2
    clear hb1 hb2
    cases ht : thereT fs p.data.toList
    · have HH := hid ht
      clear ht
      go_wp2
      go_ret
      exact ⟨ret_int (by rw [findT, HR.out, HH.out]; rfl), hb2'⟩
    · have HH := hid ht
      clear ht
      go_wp2
      go_ret
      exact ⟨ret_int (by rw [findT, HR.out, HH.out]; rfl), hb2'⟩

def getV : Option ByteArray → Value
  | some d => .tuple #[.string d, .bool true]
  | none => .tuple #[.string ⟨#[]⟩, .bool false]
theorem get_of {fs : List Fil} {p : ByteArray} (hR : treeR fs = true) (ht : thereT fs p.data.toList = true) : ∃ hl : (lowT fs p.data.toList).length < fs.length, getT fs p.data.toList = some fs[(lowT fs p.data.toList).length].2 := by
  have hs := ((treeR_iff fs).1 hR).srt
  obtain ⟨hl, he⟩ := (there_at hs).1 ht
  refine ⟨hl, ?_⟩
  rw [getT, if_pos hR, data_iff hs]
  have : (p, fs[(lowT fs p.data.toList).length].2) = fs[(lowT fs p.data.toList).length] := pth_inj (by rw [he]; rfl) rfl
  rw [this]
  exact List.getElem_mem _
theorem get_none {fs : List Fil} {p : ByteArray} (h : (treeR fs && thereT fs p.data.toList) = false) : getT fs p.data.toList = none := by
  rw [getT]
  cases hR : treeR fs
  · rfl
  · rw [hR, Bool.true_and, ← data_some] at h
    simpa using h

set_option maxHeartbeats 400000 in
theorem get_any {w : World} {A : Option Addr} {n c : Nat} {fs : List Fil} (h : Ft w A n c fs) (p : ByteArray) :
    Calls Tryd.prog 11 #[.slice A n c, .string p] w fun e w' => e = .returned (getV (getT fs p.data.toList)) ∧ Below w.heap.size w w' := by
  have c0 := find_any h p
  have HG := hid (@get_of fs p)
  have HN := hid (@get_none fs p)
  unfold findT at c0
  go_enter Tryd.func11, Tryd.ntmps11
  go_wp2_with fail
  refine c0.mono ?_
  clear c0
  rintro e w1 ⟨rfl, hb1⟩
  have h1 := h.below hb1
  clear h
  cases hc : (treeR fs && thereT fs p.data.toList)
  · rw [if_neg (by simp)]
    have HC := hid hc
    clear hc
    go_wp2
    go_ret2
    rw [HN.out HC.out]
    exact ⟨rfl, hb1⟩
  · rw [if_pos rfl]
    rw [Bool.and_eq_true] at hc
    obtain ⟨hl, he⟩ := HG.out hc.1 hc.2
    obtain ⟨b, off, rfl, -, k2, -⟩ := h1.rd.fil hl
    have HE := hid he
    have hsz := (h1.sz fs[(lowT fs p.data.toList).length] (List.getElem_mem _)).2
    have hln := h1.len
    clear hc he h1 HN HG
    generalize fs[(lowT fs p.data.toList).length].2 = x at *
    generalize (lowT fs p.data.toList).length = k at *
    have hz : ¬ (k : Int) < 0 := by omega
    have hz0 : (0 : Int) ≤ k := by omega
    have hlt : (k : Int) < n := by omega
    go_wp2_with fail
    refine (clone_any _ _ (by omega)).mono ?_
    rintro e w2 ⟨rfl, hb2⟩
    have hb2' := below2 hb1 hb2
    clear hb1 hb2
    go_wp2
    go_ret2
    rw [HE.out]
    exact ⟨rfl, hb2'⟩

theorem size_more (fs : List Fil) (j : Nat) (h : j < fs.length) : sizeT (fs.take (j + 1)) = sizeT (fs.take j) + fs[j].2.size := by
  rw [sizeT, List.take_add_one, List.getElem?_eq_getElem h, List.map_append, List.sum_append]
  simp [sizeT]
theorem size_part (fs : List Fil) (j : Nat) : sizeT (fs.take j) ≤ sizeT fs := by
  have e : sizeT fs = sizeT (fs.take j) + sizeT (fs.drop j) := by
    conv => lhs; rw [← List.take_append_drop j fs]
    rw [sizeT, List.map_append, List.sum_append]
    rfl
  omega

set_option maxHeartbeats 400000 in
theorem size_any {w : World} {A : Option Addr} {n c : Nat} {fs : List Fil} (h : Ft w A n c fs) (hs : sizeT fs ≤ 140737488355328) :
    Calls Tryd.prog 13 #[.slice A n c] w fun e w' => e = .returned (.int .i64 (sizeT fs : Nat)) ∧ Below w.heap.size w w' := by
  have hn := h.big
  have HL := hid h.len
  have hr := h.rd
  clear h
  go_enter Tryd.func13, Tryd.ntmps13
  go_wp2_with fail
  go_loopw [3, 8] (fun s i wr => ∃ j : Nat, j ≤ n ∧ i = .int .i64 j ∧ s = .int .i64 (sizeT (fs.take j) : Nat) ∧ Below w.heap.size w wr) (fun _ i _ => n - (intOf i).toNat)
  case atStart => exact ⟨0, by omega, rfl, rfl, Below.refl _ _⟩
  case round =>
    obtain ⟨j, hj, rfl, rfl, hb⟩ := hrel
    by_cases hjn : j < n
    · have hjl : j < fs.length := by rw [HL.out]; exact hjn
      have hr1 := hr.below hb
      obtain ⟨b, off, rfl, h1, h2, -⟩ := hr1.fil hjl
      have HM := hid (size_more fs j hjl)
      have hp1 := size_part fs (j + 1)
      rw [HM.out] at hp1
      have hz : (0 : Int) ≤ j := by omega
      have hlt : (j : Int) < n := by omega
      clear hr1
      generalize fs[j] = f at *
      generalize sizeT (fs.take j) = s at *
      have hb2 := hb.alloc hb.size (.cells #[.string f.1, .string f.2] 46)
      go_wp2
      go_roundw
      case rel => exact ⟨j + 1, by omega, by go_num, by rw [HM.out]; go_num, hb2⟩
      case measure => simp [intOf]; omega
    · have HE := hid (show j = n by omega)
      have hnlt : ¬ (j : Int) < n := by omega
      go_wp2
      go_ret
      refine ⟨ret_int ?_, hb⟩
      rw [HE.out, ← HL.out, List.take_length]

/-! ### Same -/
theorem neqF (f g : Fil) (w : World) : (binOp .neq 46 (.agg #[.string f.1, .string f.2]) (.agg #[.string g.1, .string g.2])).run Tryd.prog w = .ok (.bool (!decide (f = g))) w := by
  have u9 := Tryd.underlying9
  have a9 := Tryd.isAgg9
  have z9 := Tryd.sizeOf9
  have hS : Tryd.prog.underlying 46 = some (.struct (Tryd.prog.fieldsOf 46)) := by kernel_rfl
  have hp : Tryd.prog.stoodInHeld 46 = false := by kernel_rfl
  rw [run_neq_struct, show (10000 : Nat) = 9999 + 1 from rfl, run_equalIn_agg w 9999 46 _ _ hS hp]
  simp only [Program.fieldsOf, Tryd.underlying46]
  go_simp
  have inj : ∀ {a b : ByteArray}, a.toList = b.toList → a = b := fun h => data_inj (by rw [← Lib.toList_data, ← Lib.toList_data]; exact h)
  by_cases h1 : f.1.toList = g.1.toList
  · by_cases h2 : f.2.toList = g.2.toList
    · have e : f = g := Prod.ext (inj h1) (inj h2)
      rw [if_pos h1, if_pos h2, decide_eq_true e]; rfl
    · have e : f ≠ g := fun e => h2 (by rw [e])
      rw [if_pos h1, if_neg h2, decide_eq_false e]; rfl
  · have e : f ≠ g := fun e => h1 (by rw [e])
    rw [if_neg h1, decide_eq_false e]; rfl

theorem same_no {fs gs : List Fil} {j : Nat} (h1 : j < fs.length) (h2 : j < gs.length) (h : fs[j] ≠ gs[j]) : fs ≠ gs := fun e => by subst e; exact h rfl

set_option maxHeartbeats 1000000 in
theorem equal_any {w : World} {A B : Option Addr} {n c m d : Nat} {fs gs : List Fil} (h : Ft w A n c fs) (k : Ft w B m d gs) :
    Calls Tryd.prog 27 #[.slice A n c, .slice B m d] w fun e w' => e = .returned (.bool (decide (fs = gs))) ∧ Below w.heap.size w w' := by
  have hn := h.big
  have HL := hid h.len
  have HL2 := hid k.len
  have hr := h.rd
  have hr2 := k.rd
  clear h k
  by_cases hnm : n = m
  · subst hnm
    go_enter Tryd.func27, Tryd.ntmps27
    go_wp2
    go_loopw [13] (fun i wr => ∃ j : Nat, j ≤ n ∧ i = .int .i64 j ∧ Hid (fs.take j = gs.take j) ∧ ∃ q, wr = w.drewN q) (fun i _ => n - (intOf i).toNat)
    case atStart => exact ⟨0, by omega, rfl, by simp [Hid], 0, rfl⟩
    case round =>
      obtain ⟨j, hj, rfl, HO, q, rfl⟩ := hrel
      by_cases hjn : j < n
      · have hjl : j < fs.length := by rw [HL.out]; exact hjn
        have hjl2 : j < gs.length := by rw [HL2.out]; exact hjn
        obtain ⟨b, off, rfl, h1, h2, -⟩ := hr.fil hjl
        obtain ⟨b', off', rfl, h3, h4, -⟩ := hr2.fil hjl2
        have HN := hid (@same_no fs gs j hjl hjl2)
        have HT1 := hid (show fs.take (j + 1) = fs.take j ++ [fs[j]] by rw [List.take_add_one, List.getElem?_eq_getElem hjl]; rfl)
        have HT2 := hid (show gs.take (j + 1) = gs.take j ++ [gs[j]] by rw [List.take_add_one, List.getElem?_eq_getElem hjl2]; rfl)
        have hz : (0 : Int) ≤ j := by omega
        have hlt : (j : Int) < n := by omega
        have hneq : ∀ w, (binOp .neq 46 (.agg #[.string fs[j].1, .string fs[j].2]) (.agg #[.string gs[j].1, .string gs[j].2])).run Tryd.prog w = .ok (.bool (!decide (fs[j] = gs[j]))) w := neqF fs[j] gs[j]
        generalize fs[j] = f at *
        generalize gs[j] = g at *
        by_cases hfg : f = g
        · rw [decide_eq_true hfg] at hneq
          have HFG := hid hfg
          clear hfg
          go_wp2_with fail
          go_quiet (fail)
          go_wp2
          go_roundw
          case rel => exact ⟨j + 1, by omega, by go_num, hid (by rw [HT1.out, HT2.out, HO.out, HFG.out]), _, rfl⟩
          case measure => simp [intOf]; omega
        · rw [decide_eq_false hfg] at hneq
          have HFG := hid hfg
          clear hfg
          go_wp2_with fail
          go_quiet (fail)
          go_wp2
          go_ret
          exact ⟨ret_bool (decide_eq_false (HN.out HFG.out)).symm, below_drewN (below_drewN (Below.refl _ _) _) _⟩
      · have HE := hid (show j = n by omega)
        have hnlt : ¬ (j : Int) < n := by omega
        go_wp2
        go_ret
        refine ⟨ret_bool ?_, below_drewN (Below.refl _ _) _⟩
        have ho := HO.out
        have e1 := HE.out
        rw [e1, List.take_of_length_le (by rw [HL.out]; omega), List.take_of_length_le (by rw [HL2.out]; omega)] at ho
        exact (decide_eq_true ho).symm
  · have hnz : ¬ (n : Int) = m := by omega
    go_enter Tryd.func27, Tryd.ntmps27
    go_wp2
    go_ret
    refine ⟨ret_bool ?_, Below.refl _ _⟩
    refine (decide_eq_false ?_).symm
    intro e
    subst e
    exact hnm (by rw [← HL.out, HL2.out])

set_option maxHeartbeats 400000 in
theorem same_any {w : World} {A B : Option Addr} {n c m d : Nat} {fs gs : List Fil} (h : Ft w A n c fs) (k : Ft w B m d gs) :
    Calls Tryd.prog 16 #[.slice A n c, .slice B m d] w fun e w' => e = .returned (.bool (decide (fs = gs))) ∧ Below w.heap.size w w' := by
  have c0 := equal_any h k
  clear h k
  generalize decide (fs = gs) = b at *
  go_enter Tryd.func16, Tryd.ntmps16
  go_wp2_with fail
  refine c0.mono ?_
  rintro e w1 ⟨rfl, hb⟩
  clear c0
  go_wp2
  go_ret
  exact ⟨rfl, hb⟩

/-! ### In -/
/-- A new slice of strings was answered. -/
def StrsPost (w : World) (ls : List ByteArray) (e : Ending) (w' : World) : Prop :=
  ∃ A c, e = .returned (.slice A ls.length c) ∧ Rd w' A (strV ls) ∧ ls.length ≤ c ∧ c ≤ maxLen ∧ Below w.heap.size w w'
def inTo (fs : List Fil) (d : List UInt8) : List ByteArray := (fs.filter fun f => underL (pth f) d).map (·.1)
theorem inTo_more (fs : List Fil) (d : List UInt8) (j : Nat) (h : j < fs.length) : inTo (fs.take (j + 1)) d = inTo (fs.take j) d ++ (if underL (pth fs[j]) d then [fs[j].1] else []) := by
  rw [inTo, List.take_add_one, List.getElem?_eq_getElem h, List.filter_append, List.map_append]
  simp only [Option.toList, List.filter_cons, List.filter_nil]
  split <;> rfl
theorem inTo_len (fs : List Fil) (d : List UInt8) : (inTo fs d).length ≤ fs.length := by rw [inTo, List.length_map]; exact List.length_filter_le _ _

end Go.Proofs.YtaidggjnpnfdhaaDoor
namespace Go.Proofs.YtaidggjnpnfdhaaDoor
open Go.RowKit

/-- An entry's value. -/
abbrev eA (e : Ent) : Value := .agg #[.string e.path, .bool e.has, .string e.data, .int .i64 e.l, .int .i64 e.r]
/-- A slice of n entries: what is read, and the bounds. -/
structure Et (w : World) (A : Option Addr) (n c : Nat) (es : List Ent) : Prop where
  len : es.length = n
  rd : Rd w A (entV es)
  cap : n ≤ c
  big : n ≤ 1000000
  capm : c ≤ 9223372036854775807
  sz : ∀ e ∈ es, e.path.size < 4294967281 ∧ e.data.size ≤ 140737488355328
theorem Et.below {w w' : World} {A : Option Addr} {n c : Nat} {es : List Ent} (h : Et w A n c es) (hb : Below w.heap.size w w') : Et w' A n c es := ⟨h.len, h.rd.below hb, h.cap, h.big, h.capm, h.sz⟩

theorem str_inj {a b : ByteArray} (h : a.toList = b.toList) : a = b := data_inj (by rw [← Lib.toList_data, ← Lib.toList_data]; exact h)
theorem str_eqb (a b : ByteArray) : (a.toList == b.toList) = decide (a = b) := by
  by_cases h : a = b
  · subst h; simp
  · rw [decide_eq_false h, beq_eq_false_iff_ne]; exact fun e => h (str_inj e)

theorem isEmpty_no (d : ByteArray) : d.toList.isEmpty = decide (d = noS) := by
  by_cases h : d = noS
  · subst h; simp
  · rw [decide_eq_false h]
    cases hl : d.toList with
    | nil => exact absurd (str_inj (a := d) (b := noS) (by rw [hl]; simp)) h
    | cons _ _ => rfl
/-! ### lesser -/
theorem run_minS (ts : Array TypeId) (t : TypeId) (a b : ByteArray) (w : World) : (Builtin.min_ ts t #[.string a, .string b]).run Tryd.prog w = .ok (.string (if Op.bytesLess b.toList a.toList then b else a)) w := by
  have h := less_flip b.toList a.toList
  simp [Builtin.min_, Builtin.min2, Op.stringOp, asBool]
  cases hq : Op.bytesLess b.toList a.toList
  · rw [hq] at h; simp at h; rcases h with h | h <;> simp [h]
  · rw [hq] at h; simp at h; simp [h.1, h.2]
def lesP : List Ent → List Fil → ByteArray
  | [], f :: _ => f.1
  | e :: _, [] => e.path
  | e :: _, f :: _ => if Op.bytesLess (pth f) (epth e) then f.1 else e.path
  | [], [] => noS
end Go.Proofs.YtaidggjnpnfdhaaDoor
namespace Go.Proofs.YtaidggjnpnfdhaaDoor
open Go.RowKit

/-! ### Cells of one entry, stored -/
theorem set_zero (x e : Ent) (es : List Ent) : (((((entV (x :: es)).set 0 (.string e.path)).set 1 (.bool e.has)).set 2 (.string e.data)).set 3 (.int .i64 e.l)).set 4 (.int .i64 e.r) = entV (e :: es) := rfl
theorem ent_set : ∀ (es : List Ent) (j : Nat) (_ : j < es.length) (e : Ent), (((((entV es).set (j * 5) (.string e.path)).set (j * 5 + 1) (.bool e.has)).set (j * 5 + 2) (.string e.data)).set (j * 5 + 3) (.int .i64 e.l)).set (j * 5 + 4) (.int .i64 e.r) = entV (es.set j e)
  | x :: es, 0, _, e => by
    rw [List.set_cons_zero, Nat.zero_mul]
    exact set_zero x e es
  | x :: es, j + 1, h, e => by
    have ih := ent_set es j (by simpa using h) e
    rw [List.set_cons_succ, entV_cons, entV_cons, ← ih]
    have e0 : (j + 1) * 5 = (j * 5) + 1 + 1 + 1 + 1 + 1 := by omega
    have e1 : (j + 1) * 5 + 1 = (j * 5 + 1) + 1 + 1 + 1 + 1 + 1 := by omega
    have e2 : (j + 1) * 5 + 2 = (j * 5 + 2) + 1 + 1 + 1 + 1 + 1 := by omega
    have e3 : (j + 1) * 5 + 3 = (j * 5 + 3) + 1 + 1 + 1 + 1 + 1 := by omega
    have e4 : (j + 1) * 5 + 4 = (j * 5 + 4) + 1 + 1 + 1 + 1 + 1 := by omega
    rw [e1, e2, e3, e4, e0]
    simp only [eV, List.cons_append, List.nil_append, List.set_cons_succ]
theorem path_set : ∀ (es : List Ent) (j : Nat) (h : j < es.length) (p : ByteArray), (entV es).set (j * 5) (.string p) = entV (es.set j ⟨p, es[j].has, es[j].data, es[j].l, es[j].r⟩)
  | x :: es, 0, _, p => rfl
  | x :: es, j + 1, h, p => by
    have ih := path_set es j (by simpa using h) p
    have e0 : (j + 1) * 5 = (j * 5) + 1 + 1 + 1 + 1 + 1 := by omega
    rw [List.set_cons_succ, entV_cons, entV_cons, e0]
    simp only [eV, List.cons_append, List.nil_append, List.set_cons_succ, List.getElem_cons_succ, ih]
theorem Blk.ent {w : World} {g : Nat} {es : List Ent} {t : TypeId} (h : Blk w g (entV es) t) {j : Nat} (hj : j < es.length) :
    w.cell? ⟨g, j * 5, none⟩ = some (.string es[j].path) ∧ w.cell? ⟨g, j * 5 + 1, none⟩ = some (.bool es[j].has) ∧ w.cell? ⟨g, j * 5 + 2, none⟩ = some (.string es[j].data) ∧ w.cell? ⟨g, j * 5 + 3, none⟩ = some (.int .i64 es[j].l) ∧ w.cell? ⟨g, j * 5 + 4, none⟩ = some (.int .i64 es[j].r) := by
  have g : ∀ q, q < 5 → w.cell? ⟨g, j * 5 + q, none⟩ = (eV es[j])[q]? := fun q hq => by rw [h.cell, entV_at es j hj q hq]
  exact ⟨g 0 (by omega), g 1 (by omega), g 2 (by omega), g 3 (by omega), g 4 (by omega)⟩
theorem Blk.rd {w : World} {g : Nat} {cs : List Value} {t : TypeId} (h : Blk w g cs t) : Rd w (some ⟨g, 0, none⟩) cs :=
  .inr ⟨_, rfl, fun k u hu => by rw [Addr.add_lit, Nat.zero_add, h.cell, hu]⟩

abbrev zE : Ent := ⟨noS, false, noS, 0, 0⟩
theorem made_ents (n : Nat) : madeCells (eV zE).toArray (n * 5) = (entV (List.replicate n zE)).toArray := by
  apply Array.ext
  · simp [madeCells, entV_length]
  · intro i h1 h2
    have hi : i < n * 5 := by simpa [entV_length] using h2
    have e := entV_at (List.replicate n zE) (i / 5) (by simp; omega) (i % 5) (by omega)
    rw [show i / 5 * 5 + i % 5 = i by omega] at e
    simp only [madeCells, Array.getElem_map, Array.getElem_range, List.getElem_toArray]
    have e2 : (entV (List.replicate n zE))[i]? = some ((entV (List.replicate n zE))[i]'(by simpa using h2)) := List.getElem?_eq_getElem _
    rw [e2, List.getElem_replicate] at e
    have h5 : (eV zE).toArray.size = 5 := rfl
    rw [h5]
    have h6 : (eV zE)[i % 5]? = some ((eV zE).toArray[i % 5]!) := by
      have : i % 5 < 5 := by omega
      match i % 5, this with
      | 0, _ => rfl
      | 1, _ => rfl
      | 2, _ => rfl
      | 3, _ => rfl
      | 4, _ => rfl
    rw [h6] at e
    injection e with e
    rw [e]
/-! ### Same -/
theorem same_noE {fs gs : List Ent} {j : Nat} (h1 : j < fs.length) (h2 : j < gs.length) (h : fs[j] ≠ gs[j]) : fs ≠ gs := fun e => by subst e; exact h rfl
/-! ### Find's closure -/
end Go.Proofs.YtaidggjnpnfdhaaDoor
namespace Go.Proofs.YtaidggjnpnfdhaaDoor
open Go.RowKit

theorem Blk.row {w : World} {g : Nat} {cs cs' : List Value} {t : TypeId} (h : Blk w g cs t) : Blk (w.setRow g cs'.toArray) g cs' t := setRow_heap w g cs.toArray cs'.toArray t (0, 0) h
theorem Blk.rowOther {w : World} {g k : Nat} {cs : List Value} {t : TypeId} (h : Blk w k cs t) (hne : k ≠ g) (x : Array Value) : Blk (w.setRow g x) k cs t := by
  unfold Blk
  rw [setRow_other w g k x hne]
  exact h
theorem Blk.read {w : World} {g : Nat} {cs : List Value} {t : TypeId} (h : Blk w g cs t) (o : Nat) (xs : List Value) (hx : ∀ j u, xs[j]? = some u → cs[o + j]? = some u) : ∀ j u, xs[j]? = some u → w.cell? ((⟨g, o, none⟩ : Addr).add j) = some u := by
  intro j u hu
  rw [Addr.add_lit, h.cell]
  exact hx j u hu
theorem wp_copy2 {P : Program} (w : World) {o : Oper} {a : Act} {K : Act → World → Prop} {Q : Exit → Act → World → Prop} (d s : Operand) (t t' : TypeId)
    (ho : o.op = .call { callee := .builtin .copy, args := #[d, s], argTypes := #[t, t'] }) (v u : Value) (hd : a.eval d = v) (hs : a.eval s = u) {v' : Value} {w' : World}
    (hr : (Builtin.copy_ #[t, t'] o.type #[v, u]).run P w = .ok v' w') (h : K (a.put o.dst v') w') : o.wp P a w K Q := by
  unfold Oper.wp
  simp [execOp, ho, resolve, invoke, builtin, hd, hs, hr, Result.andThen]
  exact h
theorem wpCopy {P : Program} (w : World) {ops : Array Oper} {rest : List Oper} {o : Oper} {a : Act} {Q : Exit → Act → World → Prop} (hgd : o.guard = none) (d s : Operand) (t t' : TypeId)
    (ho : o.op = .call { callee := .builtin .copy, args := #[d, s], argTypes := #[t, t'] }) (v u : Value) (hd : a.eval d = v) (hs : a.eval s = u) {v' : Value} {w' : World}
    (hr : (Builtin.copy_ #[t, t'] o.type #[v, u]).run P w = .ok v' w') (h : wpList P ops Q rest (a.put o.dst v') w') : wpList P ops Q (o :: rest) a w :=
  wpList_plain hgd fun _ hK => wp_copy2 w d s t t' ho v u hd hs hr (hK _ _ h)
theorem stepCopy {P : Program} {w w' : World} {ops : Array Oper} {o : Oper} {a : Act} {K : Act → World → Prop} {Q : Exit → Act → World → Prop} {E : Prop} (hw : Region.wanted o (yielded ops a.tmps) = true) (d s : Operand) (t t' : TypeId)
    (ho : o.op = .call { callee := .builtin .copy, args := #[d, s], argTypes := #[t, t'] }) (v u v' : Value) (hd : a.eval d = v) (hs : a.eval s = u)
    (hr : (Builtin.copy_ #[t, t'] o.type #[v, u]).run P w = .ok v' w') (h : K (a.put o.dst v') w') : if Region.wanted o (yielded ops a.tmps) = true then Oper.wp P o a w K Q else E := by
  rw [if_pos hw]
  exact wp_copy2 w d s t t' ho v u hd hs hr h
theorem stepApp2 {P : Program} {w w' : World} {ops : Array Oper} {o : Oper} {a : Act} {K : Act → World → Prop} {Q : Exit → Act → World → Prop} {E : Prop} (hw : Region.wanted o (yielded ops a.tmps) = true) (s x : Operand) (t : TypeId)
    (ho : o.op = .call { callee := .builtin .append, args := #[s, x], argTypes := #[t, t] }) (v1 v2 v : Value) (hs : a.eval s = v1) (hx : a.eval x = v2)
    (hrun : (Builtin.append_ #[t, t] o.type #[v1, v2]).run P w = .ok v w') (h : K (a.put o.dst v) w') : if Region.wanted o (yielded ops a.tmps) = true then Oper.wp P o a w K Q else E := by
  rw [if_pos hw]
  exact Lib.wp_append_run w s x t t ho v1 v2 hs hx v w' hrun h
end Go.Proofs.YtaidggjnpnfdhaaDoor
namespace Go.Proofs.YtaidggjnpnfdhaaDoor
open Go.RowKit

abbrev zS : Value := .string ⟨#[]⟩
theorem Tryd.infoF : (Tryd.prog.info? 46).map (fun i => (i.zero, i.size, i.bytes)) = some (some (.agg #[zS, zS]), 2, 32) := by kernel_rfl
theorem zero_two (n : Nat) : Builtin.zeroCells (Value.agg #[zS, zS]).cells n = (List.replicate (n * 2) zS).toArray := made_two zS (n * 2)
/-- append of one more where there is no room. -/
theorem app_end {w : World} {g n : Nat} {fs : List Fil} (hB : Blk w g (filV fs) 46) (hl : fs.length = n) (hn : n ≤ 1000) (ty : TypeId) (k : Nat) (a b : Value) (hk : Blk w k [a, b] 46) (ha : a.oneCell' = true) (hb : b.oneCell' = true) :
    ∃ c', n + 1 ≤ c' ∧ c' ≤ maxLen ∧ (Builtin.append_ #[22, 22] ty #[.slice (some ⟨g, 0, none⟩) n n, .slice (some ⟨k, 0, none⟩) 1 1]).run Tryd.prog w =
      .ok (.slice (some ⟨w.heap.size, 0, none⟩) (n + 1) c') (w.drew.alloc (.cells (filV fs ++ [a, b] ++ List.replicate ((c' - (n + 1)) * 2) zS).toArray 46)) := by
  obtain ⟨i, hi, hz0, hz1, hz2⟩ := info_parts Tryd.infoF
  have hs : Src Tryd.prog i.size 22 (.slice (some ⟨k, 0, none⟩) 1 1) 1 [a, b] w := Src.ofSlice w Tryd.underlying22 _ 1 1 [a, b] (by rw [hz1]; rfl) (hk.read 0 [a, b] (fun j u hu => by rw [Nat.zero_add]; exact hu)) (by simp [ha, hb])
  have hold : (Builtin.firstCells i.size n (.slice (some ⟨g, 0, none⟩) n n)).run Tryd.prog w.drew = .ok (filV fs).toArray w.drew := run_firstCells_some w.drew i.size n _ n n (filV fs) (by rw [hz1, filV_length, hl]) (hB.drew.read 0 (filV fs) (fun j u hu => by rw [Nat.zero_add]; exact hu))
  have hfit : Builtin.nextslicecap (n + 1) n * i.bytes ≤ 281474976710656 := by
    rw [hz2]
    exact growslice_fits (by omega) (by omega)
  refine ⟨grownCap w (n + 1) n 46, grownCap_ge w _ _ _, grownCap_le_maxLen w _ _ _ (by unfold maxLen; omega), ?_⟩
  rw [run_append_grow_src w _ _ ty 46 i _ Tryd.underlying22 hi hz0 (some ⟨g, 0, none⟩) n n (filV fs) hold _ 1 [a, b] hs (by omega) (by omega) hfit, zero_two]
  have e : (filV fs ++ [a, b] ++ List.replicate ((grownCap w (n + 1) n 46 - (n + 1)) * 2) zS).toArray = (filV fs ++ [a, b]).toArray ++ (List.replicate ((grownCap w (n + 1) n 46 - (n + 1)) * 2) zS).toArray := by
    apply Array.ext'
    simp
  rw [e]

/-- append of zero values where there is no room. -/
theorem app_zeros {w : World} {g n i : Nat} {fs : List Fil} (hB : Blk w g (filV fs) 46) (hl : fs.length = n) (hn : n ≤ 1000) (hi : i < n) (ty : TypeId) (z : Int) (hz : z = (n : Int) + 1 - i) :
    ∃ c', n + 1 ≤ c' ∧ c' ≤ maxLen ∧ (Builtin.append_ #[22, 3] ty #[.slice (some ⟨g, 0, none⟩) i n, .int .i64 z]).run Tryd.prog w =
      .ok (.slice (some ⟨w.heap.size, 0, none⟩) (n + 1) c') (w.drew.alloc (.cells (filV (fs.take i) ++ List.replicate ((c' - i) * 2) zS).toArray 46)) := by
  obtain ⟨inf, hinf, hz0, hz1, hz2⟩ := info_parts Tryd.infoF
  subst hz
  have e : ((n : Int) + 1 - i) = ((n + 1 - i : Nat) : Int) := by omega
  rw [e]
  have hold : (Builtin.firstCells inf.size i (.slice (some ⟨g, 0, none⟩) i n)).run Tryd.prog w.drew = .ok (filV (fs.take i)).toArray w.drew := run_firstCells_some w.drew inf.size i _ i n (filV (fs.take i)) (by rw [hz1, filV_length, List.length_take, hl]; omega) (hB.drew.read 0 (filV (fs.take i)) (fun j u hu => by
    rw [Nat.zero_add]
    rw [filV_take, List.getElem?_take] at hu
    split at hu
    · exact hu
    · cases hu))
  have hfit : Builtin.nextslicecap (n + 1) n * inf.bytes ≤ 281474976710656 := by
    rw [hz2]
    exact growslice_fits (by omega) (by omega)
  refine ⟨grownCap w (n + 1) n 46, grownCap_ge w _ _ _, grownCap_le_maxLen w _ _ _ (by unfold maxLen; omega), ?_⟩
  have hge := grownCap_ge w (n + 1) n 46
  have hw : IntKind.i64.wrap ((n + 1 - i : Nat) : Int) = ((n + 1 - i : Nat) : Int) := by rw [IntKind.wrap_i64]; omega
  have need : i + (n + 1 - i) = n + 1 := by omega
  have hroom : ¬ n + 1 ≤ n := by omega
  have h48' : ¬ (281474976710656 < Builtin.nextslicecap (n + 1) n * inf.bytes) := by omega
  have h48i : ¬ (281474976710656 < ((n + 1 - i : Nat) : Int) * (inf.bytes : Int)) := by rw [hz2]; omega
  have hneg : ¬ (((n + 1 - i : Nat) : Int) < 0) := by omega
  have hns : ¬ ((n + 1 - i) * inf.size = 0) := by rw [hz1]; omega
  have hzc : Builtin.zeroCells (Value.agg #[zS, zS]).cells (n + 1 - i) ++ Builtin.zeroCells (Value.agg #[zS, zS]).cells (grownCap w (n + 1) n 46 - (n + 1)) = (List.replicate ((grownCap w (n + 1) n 46 - i) * 2) zS).toArray := by
    rw [zero_two, zero_two, show (grownCap w (n + 1) n 46 - i) * 2 = (n + 1 - i) * 2 + (grownCap w (n + 1) n 46 - (n + 1)) * 2 by omega]
    apply Array.ext'
    simp
  have e2 : (filV (fs.take i) ++ List.replicate ((grownCap w (n + 1) n 46 - i) * 2) zS).toArray = (filV (fs.take i)).toArray ++ (Builtin.zeroCells (Value.agg #[zS, zS]).cells (n + 1 - i) ++ Builtin.zeroCells (Value.agg #[zS, zS]).cells (grownCap w (n + 1) n 46 - (n + 1))) := by
    rw [hzc]; simp
  rw [e2, ← Array.append_assoc]
  generalize (n + 1 - i : Nat) = m at *
  have h63' : ¬ (9223372036854775807 < (i : Int) + (m : Int)) := by omega
  simp [Builtin.append_, run_underlying Tryd.underlying22, run_underlying Tryd.underlying3, sizeOf, typeInfo, zeroValue, hinf, hz0, asInt, asIntOf, hw, hneg, hns, need, hroom, h63', h48', h48i, Question.forced, hold, newRow, grownCap]

/-- copy of cells onto a block that is known whole. -/
theorem copy_blk {w : World} {g o dLen dCap : Nat} {cs : List Value} (hB : Blk w g cs 46) (ty : TypeId) (a : Addr) (sLen sCap : Nat) (news : List Value) (hl : news.length = Nat.min sLen dLen * 2) (hfit : o + news.length ≤ cs.length)
    (hsrc : ∀ j v, news[j]? = some v → w.cell? (a.add j) = some v) (h1 : ∀ v ∈ news, v.oneCell' = true) :
    (Builtin.copy_ #[22, 22] ty #[.slice (some ⟨g, o, none⟩) dLen dCap, .slice (some a) sLen sCap]).run Tryd.prog w =
      .ok (goInt (Nat.min sLen dLen : Nat)) (w.setRow g (cs.take o ++ news ++ cs.drop (o + news.length)).toArray) := by
  obtain ⟨i, hi, hz0, hz1, hz2⟩ := info_parts Tryd.infoF
  have hst := run_storeCells_at Tryd.prog g o 46 news 0 cs.toArray w hB (by simpa using hfit) h1
  have hld := run_firstCells_some (P := Tryd.prog) w i.size (Nat.min sLen dLen) a sLen sCap news (by rw [hz1]; exact hl) hsrc
  simp only [Nat.add_zero] at hst
  simp [Builtin.copy_, run_underlying Tryd.underlying22, Builtin.lenOf, sizeOf, typeInfo, hi]
  rw [hld]
  simp [Result.andThen, hst]
/-- append where there is room. -/
theorem app_room {w : World} {g : Nat} {cs : List Value} (hB : Blk w g cs 46) (ty : TypeId) (sLen sCap : Nat) (a : Addr) (m d : Nat) (news : List Value) (hl : news.length = m * 2) (hroom : sLen + m ≤ sCap) (hfit : sLen * 2 + news.length ≤ cs.length)
    (hsrc : ∀ j v, news[j]? = some v → w.cell? (a.add j) = some v) (h1 : ∀ v ∈ news, v.oneCell' = true) :
    (Builtin.append_ #[22, 22] ty #[.slice (some ⟨g, 0, none⟩) sLen sCap, .slice (some a) m d]).run Tryd.prog w =
      .ok (.slice (some ⟨g, 0, none⟩) (sLen + m) sCap) (w.setRow g (cs.take (sLen * 2) ++ news ++ cs.drop (sLen * 2 + news.length)).toArray) := by
  obtain ⟨i, hi, hz0, hz1, hz2⟩ := info_parts Tryd.infoF
  have hst := run_storeCells_at Tryd.prog g (sLen * 2) 46 news 0 cs.toArray w hB (by simpa using hfit) h1
  have hld := run_firstCells_some (P := Tryd.prog) w i.size m a m d news (by rw [hz1]; exact hl) hsrc
  rw [hz1] at hld
  simp only [Nat.add_zero] at hst
  simp [Builtin.append_, run_underlying Tryd.underlying22, sizeOf, typeInfo, hi, Builtin.lenOf, hroom, hz1, hld, Addr.add_lit, hst]

/-- clear of one file. -/
theorem clear_one {w : World} {g : Nat} {cs : List Value} (hB : Blk w g cs 46) (ty : TypeId) (o c : Nat) (hfit : o + 2 ≤ cs.length) :
    (Builtin.clear_ #[22] ty #[.slice (some ⟨g, o, none⟩) 1 c]).run Tryd.prog w = .ok (.tuple #[]) (w.setRow g (cs.take o ++ [zS, zS] ++ cs.drop (o + 2)).toArray) := by
  obtain ⟨i, hi, hz0, hz1, hz2⟩ := info_parts Tryd.infoF
  have hst := run_storeCells_at Tryd.prog g o 46 [zS, zS] 0 cs.toArray w hB (by simpa using hfit) (by simp; rfl)
  simp only [Nat.add_zero] at hst
  have hz : Builtin.zeroCells (Value.agg #[zS, zS]).cells 1 = #[zS, zS] := zero_two 1
  simp [Builtin.clear_, run_underlying Tryd.underlying22, zeroValue, typeInfo, hi, hz0]
  rw [hz, show (#[zS, zS] : Array Value).toList = [zS, zS] from rfl, hst]
  simp [Result.andThen]
end Go.Proofs.YtaidggjnpnfdhaaDoor
namespace Go.Proofs.YtaidggjnpnfdhaaDoor
open Go.RowKit Go.Shelf

attribute [local go_sem] Oper.semAt_some

/-- Sizes that are asked. -/
def SzE (e : Ent) : Prop := e.path.size < 4294967281 ∧ e.data.size ≤ 140737488355328
def SzF (f : Fil) : Prop := f.1.size < 4294967281 ∧ f.2.size ≤ 140737488355328
instance (f : Fil) : Decidable (SzF f) := by unfold SzF; exact inferInstance
abbrev SF := { f : Fil // SzF f }
def toF (e : Ent) : Option SF := if h : e.has = true ∧ SzF (e.path, e.data) then some ⟨(e.path, e.data), h.2⟩ else none
def filT (es : List Ent) : List SF := es.filterMap toF
theorem filT_val {es : List Ent} (h : ∀ e ∈ es, SzE e) : (filT es).map (·.1) = filesOf es := by
  induction es with
  | nil => rfl
  | cons e es ih =>
    have ih := ih fun x hx => h x (List.mem_cons_of_mem _ hx)
    have he : SzF (e.path, e.data) := h e (by simp)
    rw [filesOf_cons, filT, List.filterMap_cons]
    cases hh : e.has with
    | true => rw [toF, dif_pos ⟨hh, he⟩]; simp only [List.map_cons, if_true]; rw [← ih]; rfl
    | false => rw [toF, dif_neg (by simp [hh]), if_neg (by simp)]; exact ih
theorem filT_more (es : List Ent) (j : Nat) (h : j < es.length) : filT (es.take (j + 1)) = filT (es.take j) ++ (toF es[j]).toList := by
  rw [filT, List.take_add_one, List.getElem?_eq_getElem h, List.filterMap_append]
  simp only [Option.toList, List.filterMap_cons, List.filterMap_nil]
  cases toF es[j] <;> rfl
theorem filT_len (es : List Ent) : (filT es).length ≤ es.length := List.length_filterMap_le ..

/-! ### slices.Collect of it -/
theorem blk_kept {W W' : World} {row : Option Nat} {g : Nat} {cs : List Value} {t : TypeId} (h : Blk W g cs t) (hg : W.grownBy W' row) (hr : ∀ r, row = some r → ∃ o : Obj, W.heap[r]? = some o ∧ o.isCells = false) : Blk W' g cs t := by
  unfold Blk at h ⊢
  rw [hg.block g (Array.getElem?_eq_some_iff.1 h).1 (fun e => by
    obtain ⟨o, ho, hc⟩ := hr g e.symm
    rw [h] at ho; injection ho with ho; subst ho; cases hc)]
  exact h
/-- append whose run is known. -/
theorem wpAppIn {F : Fence} {n : Nat} {P : Program} {w w' : World} {ops : Array Oper} {rest : List Oper} {o : Oper} {a : Act} {Q : Exit → Act → World → Prop} (hgd : o.guard = none) (s x : Operand) (t : TypeId)
    (ho : o.op = .call { callee := .builtin .append, args := #[s, x], argTypes := #[t, t] }) (v1 v2 v : Value) (hs : a.eval s = v1) (hx : a.eval x = v2)
    (hrun : (Builtin.append_ #[t, t] o.type #[v1, v2]).run P w = .ok v w') (h : wpListIn F n P ops Q rest (a.put o.dst v) w') : wpListIn F n P ops Q (o :: rest) a w := by
  refine wpListIn_plain hgd fun K hK => ?_
  unfold Oper.wpIn
  refine ⟨?_, ?_⟩
  · simp [Oper.about, ho, resolve, Target.leads, Sem.run_pure]
  · rw [Oper.semAt_plain F _ _ (by rw [ho]; intro c hc'; cases hc')]
    simp [execOp, ho, resolve, invoke, builtin, hs, hx, hrun, Result.andThen]
    exact hK _ _ h
/-- A file as one behind what is there already, in a round. -/
theorem app_round {W : World} {n₀ B : Nat} {v : Value} {k : Nat} {xs : List Value} (hv : Boxed W B 22 v) (hrow : W.ownsRow n₀ 46 2 v k xs) (hn : n₀ ≤ W.heap.size) (hB : n₀ ≤ B) (hk : k ≤ 1000000) (f : Fil) :
    ∃ A' c' w1, Hid ((Builtin.append_ #[22, 22] 22 #[v, .slice (some ⟨W.heap.size, 0, none⟩) 1 1]).run Tryd.prog (W.alloc (.cells #[.string f.1, .string f.2] 46)) = .ok (.slice A' (k + 1) c') w1) ∧
      w1.cell? ⟨B, 0, none⟩ = some v ∧ w1.frozen? ⟨B, 0, none⟩ = false ∧ Boxed (w1.setCell ⟨B, 0, none⟩ (.slice A' (k + 1) c')) B 22 (.slice A' (k + 1) c') ∧
      (w1.setCell ⟨B, 0, none⟩ (.slice A' (k + 1) c')).ownsRow n₀ 46 2 (.slice A' (k + 1) c') (k + 1) (xs ++ [.string f.1, .string f.2]) ∧ KeepsOthers W (w1.setCell ⟨B, 0, none⟩ (.slice A' (k + 1) c')) ∧ Below n₀ W (w1.setCell ⟨B, 0, none⟩ (.slice A' (k + 1) c')) ∧ (W.alloc (.cells #[.string f.1, .string f.2] 46)).grownBy w1 v.ownBlock := by
  obtain ⟨i, hi, hz0, hz1, hz2⟩ := info_parts Tryd.infoF
  obtain ⟨v', w1, h2, h3, h4, -⟩ := run_append_own (P := Tryd.prog) (W.alloc (.cells #[.string f.1, .string f.2] 46)) n₀ 22 22 46 i _ 2 32 Tryd.underlying22 hi hz0 hz1 hz2 rfl (by decide) v k xs (hrow.alloc _) ⟨W.heap.size, 0, none⟩ 1 1 [.string f.1, .string f.2] rfl
    (new_cells W 46 [.string f.1, .string f.2]) (by simp [Value.oneCell']) (by unfold maxLen; omega) (by omega) (by simp; omega)
  obtain ⟨g', cap', rfl⟩ := ownsRow_succ h3
  obtain ⟨a1, a2, a3, a4, a5⟩ := hv.appended (by decide) hrow hn hB h3 h4
  exact ⟨_, _, w1, h2, a1.cell, a1.frozen, a2, a3, a4, a5, h4⟩

end Go.Proofs.YtaidggjnpnfdhaaDoor
namespace Go.Proofs.YtaidggjnpnfdhaaDoor
open Go.RowKit

/-- Files in memory of the call's own. -/
theorem own2_ft {w : World} {base : Nat} {v : Value} {fs : List Fil} (h : w.ownsRow base 46 2 v fs.length (filV fs)) (hn : fs.length ≤ 1000000) (hs : ∀ f ∈ fs, SzF f) : ∃ A c, v = .slice A fs.length c ∧ Ft w A fs.length c fs := by
  rcases h.2 with ⟨rfl, h0⟩ | ⟨g, cap, cur, rfl, _, _, h1, h2, _⟩
  · exact ⟨none, 0, by rw [h0], rfl, .inl (List.eq_nil_of_length_eq_zero (by rw [filV_length, h0])), by omega, by omega, by omega, hs⟩
  · exact ⟨_, cap, rfl, rfl, .inr ⟨_, rfl, h.cells (g := g) rfl⟩, h1, by omega, h2, hs⟩
theorem files_sz {es : List Ent} (h : ∀ e ∈ es, SzE e) : ∀ f ∈ filesOf es, SzF f := by
  intro f hf
  obtain ⟨e, he, -, rfl⟩ := mem_files.1 hf
  exact h e he
theorem all_take_moreE (q : Ent → Bool) (l : List Ent) (j : Nat) (h : j < l.length) : (l.take (j + 1)).all q = ((l.take j).all q && q l[j]) := all_take_more q l j h
def findE (es : List Ent) (p : ByteArray) : Int := if archR es then idxE es p else -1
end Go.Proofs.YtaidggjnpnfdhaaDoor
namespace Go.Proofs.YtaidggjnpnfdhaaDoor
open Go.RowKit

def noDefer (ops : Array Oper) : Bool := ops.all fun o => match o.op with
  | .defer _ => false
  | _ => true
theorem noDefer_at {ops : Array Oper} (h : noDefer ops = true) {i : Nat} {o : Oper} (ho : ops[i]? = some o) : ∀ c, o.op ≠ .defer c := by
  intro c hc
  have := (Array.all_eq_true.1 h) i (Array.getElem?_eq_some_iff.1 ho).1
  rw [(Array.getElem?_eq_some_iff.1 ho).2, hc] at this
  cases this
theorem op_round {l n : Nat} {P : Program} {o : Oper} {a : Act} {w : World} {K : Act → World → Prop} {Q : Exit → Act → World → Prop} (hd : ∀ c, o.op ≠ .defer c) (h : o.wp P a w K Q) : o.wpIn (Fence.wide.inRound l) n P a w K Q := by
  unfold Oper.wpIn
  refine ⟨fun _ _ => trivial, ?_⟩
  rw [Oper.semAt_eq _ _ _ hd]
  unfold Oper.wp at h
  generalize (execOp a.eval o).run P w = r at *
  cases r with
  | ok x w' =>
    cases x with
    | enter f args => exact ⟨fun h => (by cases h), CallsIn.inRound l (callsIn_wide.2 h)⟩
    | row rw_ args => exact ⟨fun h => (by cases h), fun c cs _ => by obtain ⟨v, w2, r, s⟩ := h c cs; exact ⟨v, w2, r, stepsIn_wide.2 s⟩⟩
    | round => exact h.elim
    | _ => exact h
  | halt x w' => cases x <;> exact h
theorem any_round {l n : Nat} {P : Program} {md : Region.Mode} {ops : Array Oper} {Q : Exit → Act → World → Prop} (hd : noDefer ops = true) (hno : ¬ LetsOut Q) :
    ∀ (fuel : Nat) (listed : Array Bool) (a : Act) (w : World), wpAny P md ops Q fuel listed a w → wpAnyIn (Fence.wide.inRound l) n P md ops Q fuel listed a w
  | 0, _, _, _, h => h
  | fuel + 1, listed, a, w, h => by
    refine ⟨h.1, fun i hi => ?_⟩
    have h1 := wpOp_mono (K' := wpAnyIn (Fence.wide.inRound l) n P md ops Q fuel (listed.setIfInBounds i true)) (fun a' w' h' => any_round (l := l) (n := n) hd hno fuel _ a' w' h') (h.2 i hi)
    unfold wpOp at h1
    unfold wpOpIn
    cases ho : ops[i]? with
    | none => rw [ho] at h1; exact h1
    | some o =>
      rw [ho] at h1
      simp only at h1 ⊢
      split
      · rename_i hw
        rw [if_pos hw] at h1
        rcases h1 with h1 | ⟨-, h1⟩
        · exact op_round (noDefer_at hd ho) h1
        · exact absurd h1 hno
      · rename_i hw
        rw [if_neg hw] at h1
        exact ⟨fun _ _ => trivial, h1⟩
/-- The beginning: as 'wp_region_held_drew', in a round. -/
theorem in_round {id l n : Nat} {P : Program} {ops : Array Oper} {Q : Exit → Act → World → Prop} {S : World → Prop} {a : Act} {w : World} (hm : P.follows .mixedOrders = true) (hd : noDefer ops = true) (hno : ¬ LetsOut Q) (hS : S w.drew)
    (h : S w.drew → wpAnyH P .any ops Q S ops.size (Array.replicate ops.size false) a w.drew) : (Code.region id ops true).wpIn (Fence.wide.inRound l) n P Q a w :=
  wpIn_region_any hm (any_round hd hno _ _ _ _ (wpAny_of_held _ _ _ _ (h hS)))
end Go.Proofs.YtaidggjnpnfdhaaDoor
namespace Go.Proofs.YtaidggjnpnfdhaaDoor
open Go.RowKit Go.Shelf

attribute [local go_sem] Oper.semAt_some

theorem boxed_below {W W' : World} {B : Nat} {t : TypeId} {v : Value} (h : Boxed W B t v) (hb : Below W.heap.size W W') : Boxed W' B t v := (hb.block B h.lt).trans h
theorem own_below {W W' : World} {base : Nat} {e : TypeId} {sz k : Nat} {v : Value} {xs : List Value} (h : W.ownsRow base e sz v k xs) (hb : Below W.heap.size W W') : W'.ownsRow base e sz v k xs := by
  refine h.kept (grown_below (row := none) hb) ?_
  rcases h.2 with ⟨e, -⟩ | ⟨g, cap', cur, e, -⟩
  · exact .inl (by rw [e]; rfl)
  · exact .inr (by rw [e]; simp [Value.ownBlock])
theorem own_low {w : World} {base base' : Nat} {e : TypeId} {sz : Nat} {v : Value} {n : Nat} {xs : List Value} (h : w.ownsRow base e sz v n xs) (hb : base' ≤ base) : w.ownsRow base' e sz v n xs := by
  refine ⟨h.1, ?_⟩
  rcases h.2 with h2 | ⟨g, cap, cur, h2, h3, h4⟩
  · exact .inl h2
  · exact .inr ⟨g, cap, cur, h2, by omega, h4⟩
theorem keeps_below {W W' : World} (h : Below W.heap.size W W') : KeepsOthers W W' := KeepsOthers.of_grownBy (grown_below (row := none) h) (by simp)
theorem below_undrew {W W' : World} (h : Below W.drew.heap.size W.drew W') : Below W.heap.size W W' := ⟨h.os, h.tape, h.output, h.size, h.block⟩

def treeE (es : List Ent) : List Fil := if archR es then filesOf es else []
end Go.Proofs.YtaidggjnpnfdhaaDoor
namespace Go.Proofs.YtaidggjnpnfdhaaDoor
open Go.RowKit Go.Shelf

attribute [local go_sem] Oper.semAt_some

/-- The slice without its first one. -/
theorem cut_run {t e : TypeId} {sz : Nat} (ht : Tryd.prog.underlying t = some (.slice e)) (hz : ∀ w, (sizeOf e).run Tryd.prog w = .ok sz w) (A : Option Addr) (n c : Nat) (hn : 0 < n) (w : World) :
    (Instr.slice t (.slice A n c) (some (.int .i64 1)) none none).run Tryd.prog w = .ok (.slice (if c = 1 then A else A.map (·.add (1 * sz))) (n - 1) (c - 1)) w := by
  have h1 : (0 : Int) ≤ 1 ∧ (1 : Int) ≤ (n : Int) := by omega
  simp [Instr.slice, Instr.sliceBounds, Instr.sliceBound, run_underlying ht, hz, asIntOf, h1]
theorem rd_tail {w : World} {A : Option Addr} {xs ys : List Value} {c k : Nat} (h : Rd w A (xs ++ ys)) (hk : xs.length = k) (hc : ys ≠ [] → c ≠ 1) : Rd w (if c = 1 then A else A.map (·.add k)) ys := by
  by_cases hy : ys = []
  · exact .inl hy
  · rw [if_neg (hc hy)]
    rcases h with h | ⟨ad, rfl, h⟩
    · exact .inl (List.append_eq_nil_iff.1 h).2
    · refine .inr ⟨ad.add k, rfl, fun j u hu => ?_⟩
      rw [add_assoc']
      refine h _ u ?_
      rw [List.getElem?_append_right (by omega), hk, Nat.add_sub_cancel_left]
      exact hu
theorem fil_tail {w : World} {A : Option Addr} {f : Fil} {fs : List Fil} {c : Nat} (h : Rd w A (filV (f :: fs))) (hc : fs.length + 1 ≤ c) :
    ∃ A', (∀ w, (Instr.slice 22 (.slice A (fs.length + 1) c) (some (.int .i64 1)) none none).run Tryd.prog w = .ok (.slice A' fs.length (c - 1)) w) ∧ Rd w A' (filV fs) :=
  ⟨_, fun w => cut_run Tryd.underlying22 (fun w => Tryd.sizeOf46 w) A (fs.length + 1) c (by omega) w, rd_tail (xs := [.string f.1, .string f.2]) h rfl (fun hy => by
    have : fs ≠ [] := fun x => hy (by rw [x]; rfl)
    have := List.length_pos_iff.2 this
    omega)⟩
abbrev S2 := { p : Ent × Ent // SzE p.2 }
def sliceLen : Value → Nat
  | .slice _ n _ => n
  | _ => 0

/-- The pairs, each with its sizes. -/
def bothT (es : List Ent) (fs : List Fil) (h : ∀ p ∈ bothL es fs, SzE p.2) : List S2 := (bothL es fs).pmap (fun p hp => ⟨p, hp⟩) h
theorem bothT_val (es : List Ent) (fs : List Fil) (h : ∀ p ∈ bothL es fs, SzE p.2) : (bothT es fs h).map (·.1) = bothL es fs := by simp [bothT, List.map_pmap]
theorem both_sz {es : List Ent} {fs : List Fil} (h1 : ∀ e ∈ es, SzE e) (h2 : ∀ f ∈ fs, SzF f) : ∀ p ∈ bothL es fs, SzE p.2 := by
  intro p hp
  have hP := both_pair es fs p hp
  have hpath : p.2.path.size < 4294967281 := by
    rw [hP.path]
    rcases hP.was with h | ⟨h, h3⟩
    · exact (h1 _ h).1
    · have := (h2 _ (hP.is h3)).1
      rw [← hP.path]; exact this
  refine ⟨hpath, ?_⟩
  cases hh : p.2.has with
  | true => exact (h2 _ (hP.is hh)).2
  | false => rw [hP.none hh]; exact Nat.zero_le _
end Go.Proofs.YtaidggjnpnfdhaaDoor
namespace Go.Proofs.YtaidggjnpnfdhaaDoor
open Go.RowKit Go.Shelf

/-- append of one element, whose value is put into a box. -/
theorem app_gen {W : World} {n₀ B : Nat} {v : Value} {k : Nat} {xs : List Value} {T E : TypeId} {z : Value} {size bytes : Nat} (hT : Tryd.prog.underlying T = some (.slice E)) (hinf : (Tryd.prog.info? E).map (fun i => (i.zero, i.size, i.bytes)) = some (some z, size, bytes)) (hz : z.cells.size = size) (h0 : 0 < size) (hTE : T ≠ E)
    (hv : Boxed W B T v) (hrow : W.ownsRow n₀ E size v k xs) (hn : n₀ ≤ W.heap.size) (hB : n₀ ≤ B) (hk : (k + 1) * bytes ≤ 140737488355328) (hk2 : k + 1 ≤ maxLen) (cs : List Value) (hcs : cs.length = 1 * size) (hc1 : ∀ u ∈ cs, u.oneCell' = true) :
    ∃ A' c' w1, Hid ((Builtin.append_ #[T, T] T #[v, .slice (some ⟨W.heap.size, 0, none⟩) 1 1]).run Tryd.prog (W.alloc (.cells cs.toArray E)) = .ok (.slice A' (k + 1) c') w1) ∧
      w1.cell? ⟨B, 0, none⟩ = some v ∧ w1.frozen? ⟨B, 0, none⟩ = false ∧ Boxed (w1.setCell ⟨B, 0, none⟩ (.slice A' (k + 1) c')) B T (.slice A' (k + 1) c') ∧
      (w1.setCell ⟨B, 0, none⟩ (.slice A' (k + 1) c')).ownsRow n₀ E size (.slice A' (k + 1) c') (k + 1) (xs ++ cs) ∧ KeepsOthers W (w1.setCell ⟨B, 0, none⟩ (.slice A' (k + 1) c')) ∧ Below n₀ W (w1.setCell ⟨B, 0, none⟩ (.slice A' (k + 1) c')) ∧ (W.alloc (.cells cs.toArray E)).grownBy w1 v.ownBlock := by
  obtain ⟨i, hi, hz0, hz1, hz2⟩ := info_parts hinf
  obtain ⟨v', w1, h2, h3, h4, -⟩ := run_append_own (P := Tryd.prog) (W.alloc (.cells cs.toArray E)) n₀ T T E i z size bytes hT hi hz0 hz1 hz2 hz h0 v k xs (hrow.alloc _) ⟨W.heap.size, 0, none⟩ 1 1 cs hcs
    (new_cells W E cs) hc1 hk2 hk (by simp; omega)
  obtain ⟨g', cap', rfl⟩ := ownsRow_succ h3
  obtain ⟨a1, a2, a3, a4, a5⟩ := hv.appended hTE hrow hn hB h3 h4
  exact ⟨_, _, w1, h2, a1.cell, a1.frozen, a2, a3, a4, a5, h4⟩

/-- A tick, as the code tells it. -/
def tkc (l r a : Int) : Nat × Nat := if odd a then (cl l, up (cl r)) else (up (cl l), cl r)
theorem tkc_le (l r a : Int) : (tkc l r a).1 ≤ 1073741824 ∧ (tkc l r a).2 ≤ 1073741824 := by
  unfold tkc
  split
  · exact ⟨cl_le l, up_le _⟩
  · exact ⟨up_le _, cl_le r⟩
theorem tickL_eq (l r a : Int) : tickL l r a = (((tkc l r a).1 : Int), ((tkc l r a).2 : Int)) := by unfold tickL tkc; split <;> rfl
theorem boxed_kept {W W' : World} {row : Option Nat} {B : Nat} {t : TypeId} {v : Value} (h : Boxed W B t v) (hg : W.grownBy W' row) (hr : ∀ r, row = some r → ∃ o : Obj, W.heap[r]? = some o ∧ o.isCells = false) : Boxed W' B t v :=
  blk_kept (cs := [v]) h hg hr

theorem own_slice {W : World} {base : Nat} {e : TypeId} {sz : Nat} {v : Value} {k : Nat} {xs : List Value} (h : W.ownsRow base e sz v k xs) : ∃ A c, v = .slice A k c := by
  rcases h.2 with ⟨rfl, rfl⟩ | ⟨g, cap, cur, rfl, -⟩
  · exact ⟨none, 0, rfl⟩
  · exact ⟨_, cap, rfl⟩
/-- Rows of unlike elements lie apart. -/
theorem rows_apart {W : World} {b1 b2 : Nat} {e1 e2 : TypeId} {s1 s2 : Nat} {v1 v2 : Value} {k1 k2 : Nat} {xs1 xs2 : List Value} (h : W.ownsRow b1 e1 s1 v1 k1 xs1) (k : W.ownsRow b2 e2 s2 v2 k2 xs2) (hne : e1 ≠ e2) : v1.ownBlock = none ∨ v1.ownBlock ≠ v2.ownBlock := by
  rcases h.2 with ⟨rfl, -⟩ | ⟨g, cap, cur, rfl, -, hh, -⟩
  · exact .inl rfl
  · right
    intro e
    rcases k.2 with ⟨rfl, -⟩ | ⟨g', cap', cur', rfl, -, hh', -⟩
    · cases e
    · injection e with e
      obtain rfl : g = g' := e
      rw [hh] at hh'
      injection hh' with hh'
      injection hh' with _ hh'
      exact hne hh'
theorem boxed_one {W : World} {B : Nat} {t : TypeId} {v v' : Value} (h : Boxed W B t v) (k : Boxed W B t v') : v = v' := by have := k.cell; rw [h.cell] at this; injection this
theorem blk_row {W : World} {base : Nat} {e : TypeId} {sz : Nat} {v : Value} {k : Nat} {xs cs : List Value} {B : Nat} {t : TypeId} (h : W.ownsRow base e sz v k xs) (hB : Blk W B cs t) (hne : t ≠ e) : some B ≠ v.ownBlock := by
  intro e'
  rcases h.2 with ⟨rfl, -⟩ | ⟨g, cap, cur, rfl, -, hh, -⟩
  · cases e'
  · injection e' with e'
    obtain rfl : B = g := e'
    unfold Blk at hB
    rw [hB] at hh
    injection hh with hh
    injection hh with _ hh
    exact hne hh
/-- Three results in their cells. -/
theorem res3 {W : World} {b : Nat} {t6 t7 t8 : TypeId} {a6 a7 a8 : Value} (q6 : Boxed W (b + 1) t6 a6) (q7 : Boxed W (b + 1 + 1) t7 a7) (q8 : Boxed W (b + 1 + 1 + 1) t8 a8) (x y z : Value) :
    Boxed (((W.setCell ⟨b + 1, 0, none⟩ x).setCell ⟨b + 1 + 1, 0, none⟩ y).setCell ⟨b + 1 + 1 + 1, 0, none⟩ z) (b + 1) t6 x ∧ Boxed (((W.setCell ⟨b + 1, 0, none⟩ x).setCell ⟨b + 1 + 1, 0, none⟩ y).setCell ⟨b + 1 + 1 + 1, 0, none⟩ z) (b + 1 + 1) t7 y ∧ Boxed (((W.setCell ⟨b + 1, 0, none⟩ x).setCell ⟨b + 1 + 1, 0, none⟩ y).setCell ⟨b + 1 + 1 + 1, 0, none⟩ z) (b + 1 + 1 + 1) t8 z := by
  have k : ∀ {W : World} {B C : Nat} {t : TypeId} {v u : Value}, C ≠ B → Boxed W C t v → Boxed (W.setCell ⟨B, 0, none⟩ u) C t v := fun hC hb => hb.kept (grownBy_setCell' _ _ _) (fun e => hC (by injection e))
  exact ⟨k (by omega) (k (by omega) (q6.set x)), k (by omega) ((k (by omega) q7).set y), (k (by omega) (k (by omega) q8)).set z⟩
theorem res3_row {W : World} {b : Nat} {t6 t7 t8 : TypeId} {a6 a7 a8 : Value} (q6 : Boxed W (b + 1) t6 a6) (q7 : Boxed W (b + 1 + 1) t7 a7) (q8 : Boxed W (b + 1 + 1 + 1) t8 a8) (x y z : Value) {base : Nat} {e : TypeId} {sz k : Nat} {v : Value} {xs : List Value} (h : W.ownsRow base e sz v k xs) (h6 : t6 ≠ e) (h7 : t7 ≠ e) (h8 : t8 ≠ e) :
    (((W.setCell ⟨b + 1, 0, none⟩ x).setCell ⟨b + 1 + 1, 0, none⟩ y).setCell ⟨b + 1 + 1 + 1, 0, none⟩ z).ownsRow base e sz v k xs := by
  have kk : ∀ {W : World} {B C : Nat} {t : TypeId} {v u : Value}, C ≠ B → Boxed W C t v → Boxed (W.setCell ⟨B, 0, none⟩ u) C t v := fun hC hb => hb.kept (grownBy_setCell' _ _ _) (fun e => hC (by injection e))
  have r1 := h.kept (grownBy_setCell' W (b + 1) x) (.inr (Ne.symm (q6.not_row h6 h)))
  have r2 := r1.kept (grownBy_setCell' _ (b + 1 + 1) y) (.inr (Ne.symm (Boxed.not_row (kk (by omega) q7) h7 r1)))
  exact r2.kept (grownBy_setCell' _ (b + 1 + 1 + 1) z) (.inr (Ne.symm (Boxed.not_row (kk (by omega) (kk (by omega) q8)) h8 r2)))
end Go.Proofs.YtaidggjnpnfdhaaDoor
namespace Go.Proofs.YtaidggjnpnfdhaaDoor
open Go.RowKit Go.Shelf

attribute [local go_sem] Oper.semAt_some

end Go.Proofs.YtaidggjnpnfdhaaDoor
namespace Go.Proofs.YtaidggjnpnfdhaaDoor
open Go.RowKit Go.Shelf

attribute [local go_sem] Oper.semAt_some

theorem outP_more (a : Int) (ps : List (Ent × Ent)) (p : Ent × Ent) : outP a (ps ++ [p]) = outP a ps ++ [newE a p] := by simp [outP]
theorem chgP_more (ps : List (Ent × Ent)) (p : Ent × Ent) : chgP (ps ++ [p]) = chgP ps ++ (if p.2 = p.1 then [] else [p.2.path]) := by
  unfold chgP
  rw [List.filter_append, List.map_append, List.filter_cons, List.filter_nil]
  by_cases h : p.2 = p.1 <;> simp [h]
theorem chgP_len (ps : List (Ent × Ent)) : (chgP ps).length ≤ ps.length := by rw [chgP, List.length_map]; exact List.length_filter_le _ _
theorem okP_more (a : Int) (ps : List (Ent × Ent)) (p : Ent × Ent) (h : okP a ps = true) (hl : ps.length < 32) (hs : stuck a p = false) : okP a (ps ++ [p]) = true := by
  unfold okP at *
  rw [Bool.and_eq_true, decide_eq_true_eq] at *
  refine ⟨by simp; omega, ?_⟩
  rw [List.all_append, h.2]
  simp [hs]
theorem okP_len {a : Int} {ps : List (Ent × Ent)} (h : okP a ps = true) : ps.length ≤ 32 := by
  unfold okP at h
  rw [Bool.and_eq_true, decide_eq_true_eq] at h
  exact h.1
theorem okP_long {a : Int} {ps : List (Ent × Ent)} (h : 32 < ps.length) : okP a ps = false := not_true fun e => by have := okP_len e; omega
theorem okP_stuck {a : Int} {ps : List (Ent × Ent)} {p : Ent × Ent} (hp : p ∈ ps) (h : stuck a p = true) : okP a ps = false := not_true fun e => by
  unfold okP at e
  rw [Bool.and_eq_true, List.all_eq_true] at e
  have := e.2 p hp
  rw [h] at this
  cases this
theorem okP_pre {a : Int} {ps qs : List (Ent × Ent)} (h : ps <+: qs) (hb : okP a ps = false) : okP a qs = false := not_true fun e => by
  obtain ⟨r, rfl⟩ := h
  unfold okP at e hb
  rw [List.all_append, List.length_append, Bool.and_eq_true, Bool.and_eq_true, decide_eq_true_eq] at e
  rw [e.2.1, decide_eq_true (by omega)] at hb
  cases hb
theorem stuck_eq {a : Int} {p : Ent × Ent} {t1 t2 : Nat} (ht : tkc p.1.l p.1.r a = (t1, t2)) (hne : ¬ p.2 = p.1) : stuck a p = (decide ((t1 : Int) = p.1.l) && decide ((t2 : Int) = p.1.r)) := by
  unfold stuck
  rw [tickL_eq, ht, decide_eq_false hne]
  by_cases h1 : (t1 : Int) = p.1.l <;> by_cases h2 : (t2 : Int) = p.1.r <;> simp [h1, h2]
theorem newE_ne {a : Int} {p : Ent × Ent} {t1 t2 : Nat} (ht : tkc p.1.l p.1.r a = (t1, t2)) (hne : ¬ p.2 = p.1) : newE a p = ⟨p.2.path, p.2.has, p.2.data, (t1 : Int), (t2 : Int)⟩ := by unfold newE; rw [if_neg hne, tickL_eq, ht]
theorem newE_eq {a : Int} {p : Ent × Ent} (h : p.2 = p.1) : newE a p = p.2 := by unfold newE; rw [if_pos h]

end Go.Proofs.YtaidggjnpnfdhaaDoor
namespace Go.Proofs.YtaidggjnpnfdhaaDoor
open Go.RowKit

def fewF (f : Fil) : Bool := decide (f.1.size ≤ 100) && decide (f.2.size ≤ 1000)
def fewB (fs : List Fil) : Bool := decide (fs.length ≤ 40) && fs.all fewF
theorem few_sz {fs : List Fil} (h : fewB fs = true) : fs.length ≤ 40 ∧ ∀ f ∈ fs, f.1.size ≤ 100 ∧ f.2.size ≤ 1000 := by
  simp only [fewB, fewF, Bool.and_eq_true, decide_eq_true_eq, List.all_eq_true] at h
  exact h
theorem few_no {fs : List Fil} {j : Nat} (hj : j < fs.length) (h : fewF fs[j] = false) : false = fewB fs := by
  cases hf : fewB fs with
  | false => rfl
  | true =>
    rw [fewB, Bool.and_eq_true, List.all_eq_true] at hf
    rw [hf.2 _ (List.getElem_mem hj)] at h
    cases h

set_option maxHeartbeats 1000000 in
theorem few_any (A : Option Addr) (n c : Nat) (fs : List Fil) (w : World) (hl : fs.length = n) (hr : Rd w A (filV fs)) :
    Calls Tryd.prog 8 #[.slice A n c] w fun e w' => e = .returned (.bool (fewB fs)) ∧ w = w' := by
  have HL := hid hl
  clear hl
  by_cases h40 : (40 : Int) < n
  · go_enter Tryd.func8, Tryd.ntmps8
    go_wp2
    go_ret
    refine ⟨ret_bool ?_, rfl⟩
    symm
    refine not_true fun h => ?_
    have := (few_sz h).1
    have := HL.out
    omega
  · go_enter Tryd.func8, Tryd.ntmps8
    go_wp2_with fail
    go_loop [3] (fun i => ∃ j : Nat, j ≤ n ∧ i = .int .i64 j ∧ Hid ((fs.take j).all fewF = true)) (fun i => n - (intOf i).toNat)
    case atStart => exact ⟨0, by omega, rfl, by simp [Hid]⟩
    case round =>
      obtain ⟨j, hj, rfl, HO⟩ := hrel
      by_cases hjn : j < n
      · have hjl : j < fs.length := by rw [HL.out]; exact hjn
        obtain ⟨b, off, rfl, h1, h2, -⟩ := hr.fil hjl
        have HN := hid (@few_no fs j hjl)
        have HK := hid (all_take_more fewF fs j hjl)
        have hz : (0 : Int) ≤ j := by omega
        have hlt : (j : Int) < n := by omega
        generalize fs[j] = f at *
        obtain ⟨x, d⟩ := f
        simp only at h1 h2
        by_cases hx : (100 : Int) < x.size
        · go_wp2
          go_ret
          exact ⟨ret_bool (HN.out (by simp [fewF]; omega)), rfl⟩
        · have hxb : decide ((100 : Int) < x.size) = false := by simp; omega
          by_cases hd : (1000 : Int) < d.size
          · go_wp2
            go_ret
            exact ⟨ret_bool (HN.out (by simp [fewF]; omega)), rfl⟩
          · have hdb : decide ((1000 : Int) < d.size) = false := by simp; omega
            go_wp2
            go_round
            case rel => exact ⟨j + 1, by omega, by go_num, hid (by rw [HK.out, HO.out]; simp [fewF]; omega)⟩
            case measure => simp [intOf]; omega
      · have HE := hid (show j = n by omega)
        have hnlt : ¬ (j : Int) < n := by omega
        go_wp2
        go_ret
        refine ⟨ret_bool ?_, rfl⟩
        have ho := HO.out
        rw [HE.out, ← HL.out, List.take_length] at ho
        rw [fewB, ho, decide_eq_true (by rw [HL.out]; omega)]
        rfl
theorem few_ft {w : World} {A : Option Addr} {n c : Nat} {fs : List Fil} (hf : fewB fs = true) (hl : fs.length = n) (hr : Rd w A (filV fs)) (hc : n ≤ c) (hcm : c ≤ maxLen) : Ft w A n c fs := by
  obtain ⟨h1, h2⟩ := few_sz hf
  exact ⟨hl, hr, hc, by omega, hcm, fun f hm => by have := h2 f hm; omega⟩
theorem toList_ne {a b : ByteArray} (h : a ≠ b) : (a.toList == b.toList) = false := by
  rw [beq_eq_false_iff_ne, Lib.toList_data, Lib.toList_data]
  exact fun e => h (data_inj e)
theorem toList_eq {a b : ByteArray} (h : a = b) : (a.toList == b.toList) = true := by rw [h]; simp
end Go.Proofs.YtaidggjnpnfdhaaDoor
