/- Archives, and what changed: plain lists. -/
import Derived.Test.YtnkkjedckehoaaaDoorTa
import Derived.Test.YtnkkjedckehoaaaDoorCb
namespace Go.Proofs.YtnkkjedckehoaaaDoor
open Go.RowKit

structure Ent where
  path : ByteArray
  has : Bool
  data : ByteArray
  l : Int
  r : Int
theorem Ent.same {a b : Ent} (h1 : a.path = b.path) (h2 : a.has = b.has) (h3 : a.data = b.data) (h4 : a.l = b.l) (h5 : a.r = b.r) : a = b := by
  cases a; cases b; simp only at h1 h2 h3 h4 h5; subst h1 h2 h3 h4 h5; rfl
instance : DecidableEq Ent := fun a b =>
  decidable_of_iff (a.path = b.path ∧ a.has = b.has ∧ a.data = b.data ∧ a.l = b.l ∧ a.r = b.r)
    ⟨fun h => Ent.same h.1 h.2.1 h.2.2.1 h.2.2.2.1 h.2.2.2.2, fun h => by subst h; exact ⟨rfl, rfl, rfl, rfl, rfl⟩⟩

/-- The empty string. -/
abbrev noS : ByteArray := ⟨#[]⟩
def epth (e : Ent) : List UInt8 := e.path.data.toList
theorem epth_inj {a b : Ent} : epth a = epth b ↔ a.path = b.path := ⟨fun h => data_inj h, fun h => by unfold epth; rw [h]⟩

/-! ### Entries as cells -/
def eV (e : Ent) : List Value := [.string e.path, .bool e.has, .string e.data, .int .i64 e.l, .int .i64 e.r]
def entV (es : List Ent) : List Value := es.flatMap eV
theorem entV_nil : entV [] = [] := rfl
theorem entV_cons (e : Ent) (es : List Ent) : entV (e :: es) = eV e ++ entV es := rfl
theorem entV_append (a b : List Ent) : entV (a ++ b) = entV a ++ entV b := by simp [entV]
theorem entV_length (es : List Ent) : (entV es).length = es.length * 5 := by
  induction es with
  | nil => rfl
  | cons e r ih => rw [entV_cons, List.length_append, List.length_cons, ih]; simp only [eV, List.length_cons, List.length_nil]; omega
theorem entV_one (l : List Ent) : ∀ u ∈ entV l, u.oneCell' = true := by
  intro u hu
  simp only [entV, List.mem_flatMap] at hu
  obtain ⟨e, _, he⟩ := hu
  simp [eV] at he
  rcases he with rfl | rfl | rfl | rfl | rfl <;> rfl
theorem entV_at : ∀ (es : List Ent) (j : Nat) (h : j < es.length) (q : Nat), q < 5 → (entV es)[j * 5 + q]? = (eV es[j])[q]?
  | e :: es, 0, _, q, hq => by
    rw [entV_cons, List.getElem?_append_left (by simp only [eV, List.length_cons, List.length_nil]; omega), Nat.zero_mul, Nat.zero_add]; rfl
  | e :: es, j + 1, h, q, hq => by
    have e5 : (eV e).length = 5 := rfl
    rw [entV_cons, List.getElem?_append_right (by rw [e5]; omega), e5, show (j + 1) * 5 + q - 5 = j * 5 + q by omega, entV_at es j (by simpa using h) q hq]
    rfl
theorem entV_take (es : List Ent) (k : Nat) : entV (es.take k) = (entV es).take (k * 5) := by
  by_cases h : k ≤ es.length
  · have e : entV es = entV (es.take k) ++ entV (es.drop k) := by rw [← entV_append, List.take_append_drop]
    have l : (entV (es.take k)).length = k * 5 := by rw [entV_length, List.length_take]; omega
    rw [e, ← l, List.take_left]
  · rw [List.take_of_length_le (by omega), List.take_of_length_le (by rw [entV_length]; omega)]
theorem entV_drop (es : List Ent) (k : Nat) : entV (es.drop k) = (entV es).drop (k * 5) := by
  by_cases h : k ≤ es.length
  · have e : entV es = entV (es.take k) ++ entV (es.drop k) := by rw [← entV_append, List.take_append_drop]
    have l : (entV (es.take k)).length = k * 5 := by rw [entV_length, List.length_take]; omega
    rw [e, ← l, List.drop_left]
  · rw [List.drop_of_length_le (by omega), List.drop_of_length_le (by rw [entV_length]; omega)]
    rfl
theorem Rd.ent {w : World} {A : Option Addr} {es : List Ent} (h : Rd w A (entV es)) {j : Nat} (hj : j < es.length) :
    ∃ b off, A = some ⟨b, off, none⟩ ∧ w.cell? ⟨b, off + j * 5, none⟩ = some (.string es[j].path) ∧ w.cell? ⟨b, off + j * 5 + 1, none⟩ = some (.bool es[j].has) ∧ w.cell? ⟨b, off + j * 5 + 2, none⟩ = some (.string es[j].data) ∧
      w.cell? ⟨b, off + j * 5 + 3, none⟩ = some (.int .i64 es[j].l) ∧ w.cell? ⟨b, off + j * 5 + 4, none⟩ = some (.int .i64 es[j].r) ∧ b < w.heap.size := by
  have hl := entV_length es
  obtain ⟨b, off, rfl, -, hb⟩ := h.at_ (k := j * 5) (by omega)
  have g : ∀ q, q < 5 → w.cell? ⟨b, off + j * 5 + q, none⟩ = (eV es[j])[q]? := by
    intro q hq
    rw [Nat.add_assoc]
    obtain ⟨b', off', e, hc, -⟩ := h.at_ (k := j * 5 + q) (by omega)
    injection e with e; injection e with e1 e2; subst e1 e2
    rw [hc, ← List.getElem?_eq_getElem, entV_at es j hj q hq]
  exact ⟨b, off, rfl, g 0 (by omega), g 1 (by omega), g 2 (by omega), g 3 (by omega), g 4 (by omega), hb⟩

/-! ### Right archives -/
def filesOf (es : List Ent) : List Fil := (es.filter (·.has)).map fun e => (e.path, e.data)
theorem filesOf_cons (e : Ent) (es : List Ent) : filesOf (e :: es) = if e.has then (e.path, e.data) :: filesOf es else filesOf es := by
  unfold filesOf
  rw [List.filter_cons]
  split <;> rfl
theorem filesOf_append (a b : List Ent) : filesOf (a ++ b) = filesOf a ++ filesOf b := by simp [filesOf]
theorem filesOf_len (es : List Ent) : (filesOf es).length ≤ es.length := by rw [filesOf, List.length_map]; exact List.length_filter_le _ _
theorem mem_files {es : List Ent} {f : Fil} : f ∈ filesOf es ↔ ∃ e ∈ es, e.has = true ∧ f = (e.path, e.data) := by
  simp only [filesOf, List.mem_map, List.mem_filter]
  constructor
  · rintro ⟨e, ⟨h1, h2⟩, rfl⟩; exact ⟨e, h1, h2, rfl⟩
  · rintro ⟨e, h1, h2, rfl⟩; exact ⟨e, ⟨h1, h2⟩, rfl⟩
def fineE (e : Ent) : Bool := rt e.l e.r && !(decide (e.l = 0) && decide (e.r = 0)) && (e.has || decide (e.data = noS))
def archR (es : List Ent) : Bool := decide (es.length ≤ 32) && es.all fineE && sortedL (es.map epth) && treeR (filesOf es)
def SrtE (es : List Ent) : Prop := es.Pairwise fun a b => epth a < epth b
structure RightA (es : List Ent) : Prop where
  few : es.length ≤ 32
  srt : SrtE es
  paths : ∀ e ∈ es, rightL (epth e) = true
  fine : ∀ e ∈ es, fineE e = true
  tree : treeR (filesOf es) = true
theorem archR_iff (es : List Ent) : archR es = true ↔ RightA es := by
  unfold archR
  simp only [Bool.and_eq_true, decide_eq_true_eq, List.all_eq_true]
  constructor
  · rintro ⟨⟨⟨h1, h2⟩, h3⟩, h4⟩
    exact ⟨h1, List.pairwise_map.1 (srt_pair h3), fun e he => srt_right h3 _ (List.mem_map_of_mem he), h2, h4⟩
  · rintro ⟨h1, h2, h3, h4, h5⟩
    refine ⟨⟨⟨h1, h4⟩, srt_mk ?_ (List.pairwise_map.2 h2)⟩, h5⟩
    intro s hs
    obtain ⟨e, he, rfl⟩ := List.mem_map.1 hs
    exact h3 e he
theorem archR_no {es : List Ent} (h : ¬ RightA es) : archR es = false := not_true fun e => h ((archR_iff es).1 e)
theorem fineE_iff (e : Ent) : fineE e = true ↔ (0 ≤ e.l ∧ e.l ≤ 1073741824 ∧ 0 ≤ e.r ∧ e.r ≤ 1073741824) ∧ ¬ (e.l = 0 ∧ e.r = 0) ∧ (e.has = true ∨ e.data = noS) := by
  unfold fineE rt
  simp only [Bool.and_eq_true, decide_eq_true_eq, Bool.or_eq_true, Bool.not_eq_true', Bool.and_eq_false_iff, decide_eq_false_iff_not, and_assoc]
  constructor
  · rintro ⟨a, b, c, d, e, f⟩; exact ⟨a, b, c, d, by omega, f⟩
  · rintro ⟨a, b, c, d, e, f⟩; exact ⟨a, b, c, d, by omega, f⟩

/-- Where a path stands. -/
def idxE (es : List Ent) (p : ByteArray) : Int := if es.any (fun e => decide (e.path = p)) then (es.findIdx (fun e => decide (e.path = p)) : Int) else -1
theorem idxE_at {es : List Ent} {p : ByteArray} {j : Nat} (hj : j < es.length) (h : es[j].path = p) (hn : ∀ k (hk : k < es.length), k < j → es[k].path ≠ p) : idxE es p = j := by
  unfold idxE
  rw [if_pos (List.any_eq_true.2 ⟨_, List.getElem_mem hj, decide_eq_true h⟩)]
  rw [(List.findIdx_eq hj).2 ⟨decide_eq_true h, fun k hk => by simpa using hn k (by omega) hk⟩]
theorem idxE_no {es : List Ent} {p : ByteArray} (hn : ∀ e ∈ es, e.path ≠ p) : idxE es p = -1 := by
  unfold idxE
  rw [if_neg]
  simp only [List.any_eq_true, not_exists, not_and, decide_eq_true_eq]
  exact hn
theorem idxE_cases (es : List Ent) (p : ByteArray) : (idxE es p = -1 ∧ ∀ e ∈ es, e.path ≠ p) ∨ ∃ (j : Nat) (hj : j < es.length), idxE es p = j ∧ es[j].path = p := by
  by_cases h : es.any (fun e => decide (e.path = p)) = true
  · right
    obtain ⟨e, he, hp⟩ := List.any_eq_true.1 h
    have hl : es.findIdx (fun e => decide (e.path = p)) < es.length := List.findIdx_lt_length.2 ⟨e, he, hp⟩
    refine ⟨_, hl, by unfold idxE; rw [if_pos h], ?_⟩
    simpa using List.findIdx_getElem (w := hl)
  · left
    have hn : ∀ e ∈ es, e.path ≠ p := by
      intro e he hp
      exact h (List.any_eq_true.2 ⟨e, he, decide_eq_true hp⟩)
    exact ⟨idxE_no hn, hn⟩
theorem SrtE.inj {es : List Ent} (h : SrtE es) {i j : Nat} (hi : i < es.length) (hj : j < es.length) (e : es[i].path = es[j].path) : i = j := by
  have hp := List.pairwise_iff_getElem.1 h
  rcases Nat.lt_trichotomy i j with h1 | h1 | h1
  · have := hp i j hi hj h1; rw [epth, epth, e] at this; exact absurd this (List.lt_irrefl _)
  · exact h1
  · have := hp j i hj hi h1; rw [epth, epth, e] at this; exact absurd this (List.lt_irrefl _)
theorem idxE_srt {es : List Ent} (h : SrtE es) {j : Nat} (hj : j < es.length) : idxE es es[j].path = j :=
  idxE_at hj rfl fun _ hk hkj e => by have := h.inj hk hj e; omega

/-! ### Both, gone over -/
def gone (e : Ent) : Ent := ⟨e.path, false, noS, e.l, e.r⟩
def kept (e : Ent) (d : ByteArray) : Ent := ⟨e.path, true, d, e.l, e.r⟩
def fresh (p : ByteArray) : Ent := ⟨p, false, noS, 0, 0⟩
def bothL : List Ent → List Fil → List (Ent × Ent)
  | [], [] => []
  | e :: l, [] => (e, gone e) :: bothL l []
  | [], f :: t => (fresh f.1, kept (fresh f.1) f.2) :: bothL [] t
  | e :: l, f :: t =>
    if e.path = f.1 then (e, kept e f.2) :: bothL l t
    else if Op.bytesLess (pth f) (epth e) then (fresh f.1, kept (fresh f.1) f.2) :: bothL (e :: l) t
    else (e, gone e) :: bothL l (f :: t)
  termination_by l t => l.length + t.length
theorem bothL_nil : bothL [] [] = [] := by rw [bothL]
theorem bothL_l (e : Ent) (l : List Ent) : bothL (e :: l) [] = (e, gone e) :: bothL l [] := by rw [bothL]
theorem bothL_t (f : Fil) (t : List Fil) : bothL [] (f :: t) = (fresh f.1, kept (fresh f.1) f.2) :: bothL [] t := by rw [bothL]
theorem bothL_eq {e : Ent} {f : Fil} (h : e.path = f.1) (l : List Ent) (t : List Fil) : bothL (e :: l) (f :: t) = (e, kept e f.2) :: bothL l t := by rw [bothL, if_pos h]
theorem bothL_lt {e : Ent} {f : Fil} (h : ¬ e.path = f.1) (hl : Op.bytesLess (pth f) (epth e) = true) (l : List Ent) (t : List Fil) : bothL (e :: l) (f :: t) = (fresh f.1, kept (fresh f.1) f.2) :: bothL (e :: l) t := by rw [bothL, if_neg h, if_pos hl]
theorem bothL_gt {e : Ent} {f : Fil} (h : ¬ e.path = f.1) (hl : Op.bytesLess (pth f) (epth e) = false) (l : List Ent) (t : List Fil) : bothL (e :: l) (f :: t) = (e, gone e) :: bothL l (f :: t) := by rw [bothL, if_neg h, if_neg (by simp [hl])]

/-- What holds of each step holds of all. -/
theorem both_ind {motive : List Ent → List Fil → List (Ent × Ent) → Prop} (h0 : motive [] [] [])
    (h1 : ∀ e l, motive l [] (bothL l []) → motive (e :: l) [] ((e, gone e) :: bothL l []))
    (h2 : ∀ f t, motive [] t (bothL [] t) → motive [] (f :: t) ((fresh f.1, kept (fresh f.1) f.2) :: bothL [] t))
    (h3 : ∀ e l f t, e.path = f.1 → motive l t (bothL l t) → motive (e :: l) (f :: t) ((e, kept e f.2) :: bothL l t))
    (h4 : ∀ e l f t, pth f < epth e → motive (e :: l) t (bothL (e :: l) t) → motive (e :: l) (f :: t) ((fresh f.1, kept (fresh f.1) f.2) :: bothL (e :: l) t))
    (h5 : ∀ e l f t, epth e < pth f → motive l (f :: t) (bothL l (f :: t)) → motive (e :: l) (f :: t) ((e, gone e) :: bothL l (f :: t))) :
    ∀ (n : Nat) (l : List Ent) (t : List Fil), l.length + t.length ≤ n → motive l t (bothL l t)
  | _, [], [], _ => by rw [bothL_nil]; exact h0
  | n + 1, e :: l, [], hn => by rw [bothL_l]; exact h1 e l (both_ind h0 h1 h2 h3 h4 h5 n l [] (by simp at hn ⊢; omega))
  | n + 1, [], f :: t, hn => by rw [bothL_t]; exact h2 f t (both_ind h0 h1 h2 h3 h4 h5 n [] t (by simp at hn ⊢; omega))
  | n + 1, e :: l, f :: t, hn => by
    by_cases h : e.path = f.1
    · rw [bothL_eq h]; exact h3 e l f t h (both_ind h0 h1 h2 h3 h4 h5 n l t (by simp at hn ⊢; omega))
    · cases hl : Op.bytesLess (pth f) (epth e) with
      | true => rw [bothL_lt h hl]; exact h4 e l f t ((less_iff _ _).1 hl) (both_ind h0 h1 h2 h3 h4 h5 n (e :: l) t (by simp at hn ⊢; omega))
      | false =>
        have hlt : epth e < pth f := by
          rcases lt_tri (epth e) (pth f) with x | x | x
          · exact x
          · exact absurd (data_inj x) h
          · rw [(less_iff _ _).2 x] at hl; cases hl
        rw [bothL_gt h hl]; exact h5 e l f t hlt (both_ind h0 h1 h2 h3 h4 h5 n l (f :: t) (by simp at hn ⊢; omega))
  | 0, _ :: _, _, hn => by simp at hn
  | 0, [], _ :: _, hn => by simp at hn

theorem both_len (l : List Ent) (t : List Fil) : (bothL l t).length ≤ l.length + t.length :=
  both_ind (motive := fun l t ps => ps.length ≤ l.length + t.length) (by simp) (fun _ _ h => by simp at h ⊢; omega) (fun _ _ h => by simp at h ⊢; omega) (fun _ _ _ _ _ h => by simp at h ⊢; omega)
    (fun _ _ _ _ _ h => by simp at h ⊢; omega) (fun _ _ _ _ _ h => by simp at h ⊢; omega) _ l t (Nat.le_refl _)
/-- What a pair is. -/
structure PairE (l : List Ent) (t : List Fil) (p : Ent × Ent) : Prop where
  path : p.2.path = p.1.path
  cl : p.2.l = p.1.l
  cr : p.2.r = p.1.r
  none : p.2.has = false → p.2.data = noS
  was : p.1 ∈ l ∨ (p.1 = fresh p.1.path ∧ p.2.has = true)
  is : p.2.has = true → (p.2.path, p.2.data) ∈ t
theorem PairE.more {l l' : List Ent} {t t' : List Fil} {p : Ent × Ent} (h : PairE l t p) (hl : ∀ e ∈ l, e ∈ l') (ht : ∀ f ∈ t, f ∈ t') : PairE l' t' p :=
  ⟨h.path, h.cl, h.cr, h.none, h.was.imp (hl _) id, fun x => ht _ (h.is x)⟩
theorem both_pair (l : List Ent) (t : List Fil) : ∀ p ∈ bothL l t, PairE l t p := by
  refine both_ind (motive := fun l t ps => ∀ p ∈ ps, PairE l t p) (by simp) ?_ ?_ ?_ ?_ ?_ _ l t (Nat.le_refl _)
  · intro e l h p hp
    rcases List.mem_cons.1 hp with rfl | hp
    · exact ⟨rfl, rfl, rfl, fun _ => rfl, .inl (by simp), (fun x => by cases x)⟩
    · exact (h p hp).more (fun _ => List.mem_cons_of_mem _) (fun _ x => x)
  · intro f t h p hp
    rcases List.mem_cons.1 hp with rfl | hp
    · exact ⟨rfl, rfl, rfl, (fun x => by cases x), .inr ⟨rfl, rfl⟩, fun _ => by simp [kept, fresh]⟩
    · exact (h p hp).more (fun _ x => x) (fun _ => List.mem_cons_of_mem _)
  · intro e l f t he h p hp
    rcases List.mem_cons.1 hp with rfl | hp
    · exact ⟨rfl, rfl, rfl, (fun x => by cases x), .inl (by simp), fun _ => by simp [kept, he]⟩
    · exact (h p hp).more (fun _ => List.mem_cons_of_mem _) (fun _ => List.mem_cons_of_mem _)
  · intro e l f t he h p hp
    rcases List.mem_cons.1 hp with rfl | hp
    · exact ⟨rfl, rfl, rfl, (fun x => by cases x), .inr ⟨rfl, rfl⟩, fun _ => by simp [kept, fresh]⟩
    · exact (h p hp).more (fun _ x => x) (fun _ => List.mem_cons_of_mem _)
  · intro e l f t he h p hp
    rcases List.mem_cons.1 hp with rfl | hp
    · exact ⟨rfl, rfl, rfl, fun _ => rfl, .inl (by simp), (fun x => by cases x)⟩
    · exact (h p hp).more (fun _ => List.mem_cons_of_mem _) (fun _ x => x)
/-- The files of both are the tree's. -/
theorem both_files (l : List Ent) (t : List Fil) : filesOf ((bothL l t).map (·.2)) = t := by
  refine both_ind (motive := fun _ t ps => filesOf (ps.map (·.2)) = t) rfl ?_ ?_ ?_ ?_ ?_ _ l t (Nat.le_refl _)
  · intro e l h; rw [List.map_cons, filesOf_cons, h]; rfl
  · intro f t h; rw [List.map_cons, filesOf_cons, h]; rfl
  · intro e l f t he h; rw [List.map_cons, filesOf_cons, h]; simp [kept, he]
  · intro e l f t _ h; rw [List.map_cons, filesOf_cons, h]; rfl
  · intro e l f t _ h; rw [List.map_cons, filesOf_cons, h]; rfl
def newB (e : Ent) : Bool := decide (e.l = 0) && decide (e.r = 0)
/-- What was there is the archive. -/
theorem both_was (l : List Ent) (t : List Fil) (hl : ∀ e ∈ l, newB e = false) : ((bothL l t).map (·.1)).filter (fun e => !newB e) = l := by
  refine both_ind (motive := fun l _ ps => (∀ e ∈ l, newB e = false) → (ps.map (·.1)).filter (fun e => !newB e) = l) (by simp) ?_ ?_ ?_ ?_ ?_ _ l t (Nat.le_refl _) hl
  · intro e l h hl; rw [List.map_cons, List.filter_cons, h fun x hx => hl x (List.mem_cons_of_mem _ hx), hl e (by simp)]; rfl
  · intro f t h hl; rw [List.map_cons, List.filter_cons, h hl]; rfl
  · intro e l f t _ h hl; rw [List.map_cons, List.filter_cons, h fun x hx => hl x (List.mem_cons_of_mem _ hx), hl e (by simp)]; rfl
  · intro e l f t _ h hl; rw [List.map_cons, List.filter_cons, h hl]; rfl
  · intro e l f t _ h hl; rw [List.map_cons, List.filter_cons, h fun x hx => hl x (List.mem_cons_of_mem _ hx), hl e (by simp)]; rfl
/-- Each path is one of the archive's, or the tree's, and all of them are there. -/
theorem both_path {l : List Ent} {t : List Fil} {x : ByteArray} : x ∈ (bothL l t).map (·.2.path) ↔ x ∈ l.map (·.path) ∨ x ∈ t.map (·.1) := by
  refine both_ind (motive := fun l t ps => x ∈ ps.map (·.2.path) ↔ x ∈ l.map (·.path) ∨ x ∈ t.map (·.1)) (by simp) ?_ ?_ ?_ ?_ ?_ _ l t (Nat.le_refl _)
  · intro e l h; simp only [List.map_cons, List.mem_cons, h, gone, List.map_nil, List.not_mem_nil, or_false]
  · intro f t h; simp only [List.map_cons, List.mem_cons, h, kept, fresh, List.map_nil, List.not_mem_nil, false_or]
  · intro e l f t he h; simp only [List.map_cons, List.mem_cons, h, kept, he]
    constructor
    · rintro (h | h | h)
      · exact .inl (.inl h)
      · exact .inl (.inr h)
      · exact .inr (.inr h)
    · rintro ((h | h) | h | h)
      · exact .inl h
      · exact .inr (.inl h)
      · exact .inl h
      · exact .inr (.inr h)
  · intro e l f t _ h; simp only [List.map_cons, List.mem_cons, kept, fresh] at h ⊢
    rw [h]
    constructor
    · rintro (h | (h | h) | h)
      · exact .inr (.inl h)
      · exact .inl (.inl h)
      · exact .inl (.inr h)
      · exact .inr (.inr h)
    · rintro ((h | h) | h | h)
      · exact .inr (.inl (.inl h))
      · exact .inr (.inl (.inr h))
      · exact .inl h
      · exact .inr (.inr h)
  · intro e l f t _ h; simp only [List.map_cons, List.mem_cons, gone] at h ⊢
    rw [h]
    exact or_assoc.symm
def SrtP (ps : List (Ent × Ent)) : Prop := ps.Pairwise fun a b => epth a.2 < epth b.2
theorem both_srt (l : List Ent) (t : List Fil) (hl : SrtE l) (ht : Srt t) : SrtP (bothL l t) := by
  have low : ∀ (l : List Ent) (t : List Fil) (x : List UInt8), (∀ e ∈ l, x < epth e) → (∀ f ∈ t, x < pth f) → ∀ p ∈ bothL l t, x < epth p.2 := by
    intro l t x h1 h2 p hp
    have := (both_path (x := p.2.path)).1 (List.mem_map.2 ⟨p, hp, rfl⟩)
    rcases this with h | h
    · obtain ⟨e, he, h⟩ := List.mem_map.1 h
      have := h1 e he
      unfold epth at this ⊢
      rw [← h]; exact this
    · obtain ⟨f, hf, h⟩ := List.mem_map.1 h
      have := h2 f hf
      unfold pth at this
      unfold epth
      rw [← h]; exact this
  refine both_ind (motive := fun l t ps => SrtE l → Srt t → SrtP ps) (fun _ _ => List.Pairwise.nil) ?_ ?_ ?_ ?_ ?_ _ l t (Nat.le_refl _) hl ht
  · intro e l h h1 h2
    have h1' := List.pairwise_cons.1 h1
    exact List.pairwise_cons.2 ⟨low l [] _ h1'.1 (by simp), h h1'.2 h2⟩
  · intro f t h h1 h2
    have h2' := List.pairwise_cons.1 h2
    exact List.pairwise_cons.2 ⟨low [] t _ (by simp) h2'.1, h h1 h2'.2⟩
  · intro e l f t he h h1 h2
    have h1' := List.pairwise_cons.1 h1
    have h2' := List.pairwise_cons.1 h2
    have e1 : epth e = pth f := by unfold epth pth; rw [he]
    exact List.pairwise_cons.2 ⟨low l t _ h1'.1 (by intro g hg; show epth e < _; rw [e1]; exact h2'.1 g hg), h h1'.2 h2'.2⟩
  · intro e l f t he h h1 h2
    have h1' := List.pairwise_cons.1 h1
    have h2' := List.pairwise_cons.1 h2
    refine List.pairwise_cons.2 ⟨low (e :: l) t _ ?_ h2'.1, h h1 h2'.2⟩
    intro g hg
    rcases List.mem_cons.1 hg with rfl | hg
    · exact he
    · exact List.lt_trans he (h1'.1 g hg)
  · intro e l f t he h h1 h2
    have h1' := List.pairwise_cons.1 h1
    have h2' := List.pairwise_cons.1 h2
    refine List.pairwise_cons.2 ⟨low l (f :: t) _ h1'.1 ?_, h h1'.2 h2⟩
    intro g hg
    rcases List.mem_cons.1 hg with rfl | hg
    · exact he
    · exact List.lt_trans he (h2'.1 g hg)

/-! ### Scan -/
def tickL (l r a : Int) : Int × Int := if odd a then (((cl l : Nat) : Int), ((up (cl r) : Nat) : Int)) else (((up (cl l) : Nat) : Int), ((cl r : Nat) : Int))
def newE (a : Int) (p : Ent × Ent) : Ent := if p.2 = p.1 then p.2 else ⟨p.2.path, p.2.has, p.2.data, (tickL p.1.l p.1.r a).1, (tickL p.1.l p.1.r a).2⟩
def stuck (a : Int) (p : Ent × Ent) : Bool := !decide (p.2 = p.1) && decide (tickL p.1.l p.1.r a = (p.1.l, p.1.r))
def okP (a : Int) (ps : List (Ent × Ent)) : Bool := decide (ps.length ≤ 32) && ps.all fun p => !stuck a p
def outP (a : Int) (ps : List (Ent × Ent)) : List Ent := ps.map (newE a)
def chgP (ps : List (Ent × Ent)) : List ByteArray := (ps.filter fun p => !decide (p.2 = p.1)).map (·.2.path)
def scanN (l : List Ent) (t : List Fil) (a : Int) : Nat := if archR l && treeR t then (if okP a (bothL l t) then 0 else 2) else 1
def scanA (l : List Ent) (t : List Fil) (a : Int) : List Ent := if scanN l t a = 0 then outP a (bothL l t) else []
def scanC (l : List Ent) (t : List Fil) (a : Int) : List ByteArray := if scanN l t a = 0 then chgP (bothL l t) else []
theorem scanN_ok {l : List Ent} {t : List Fil} {a : Int} : scanN l t a = 0 ↔ RightA l ∧ RightT t ∧ okP a (bothL l t) = true := by
  unfold scanN
  rw [← archR_iff, ← treeR_iff]
  cases archR l <;> cases treeR t <;> cases okP a (bothL l t) <;> simp
theorem scanN_arg {l : List Ent} {t : List Fil} {a : Int} (h : (archR l && treeR t) = false) : scanN l t a = 1 := by unfold scanN; rw [h]; rfl
theorem scanN_two {l : List Ent} {t : List Fil} {a : Int} (h : (archR l && treeR t) = true) : scanN l t a = if okP a (bothL l t) then 0 else 2 := by unfold scanN; rw [h]; rfl
theorem newE_path (a : Int) (p : Ent × Ent) : (newE a p).path = p.2.path := by unfold newE; split <;> rfl
theorem newE_has (a : Int) (p : Ent × Ent) : (newE a p).has = p.2.has := by unfold newE; split <;> rfl
theorem newE_data (a : Int) (p : Ent × Ent) : (newE a p).data = p.2.data := by unfold newE; split <;> rfl
end Go.Proofs.YtnkkjedckehoaaaDoor
