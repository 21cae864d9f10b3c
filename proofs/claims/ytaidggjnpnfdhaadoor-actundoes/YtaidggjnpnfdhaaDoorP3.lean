/- The texts Na, Nb, Nc, Nd, Oa, Th, Ti, Tj, Oc, Od, Ob, Oe, in one. -/
import Derived.Test.YtaidggjnpnfdhaaDoorP2
import Derived.Deep.RegionHeld3
import Derived.Handy
import Derived.Deep.DeepCutAuto
import Derived.Maps.OwnSet
import Derived.Lib.OwnBridge
import Derived.Lib.AppendZeros
import Derived.Sort.Grow
namespace Go.Proofs.YtaidggjnpnfdhaaDoor
open Go.RowKit

/-! ### One action, and many -/
def actE (t : List Fil) (a : Ac) : Nat := if a.2.1 then putE t a.1 a.2.2 else dropE t a.1.data.toList
def actT (t : List Fil) (a : Ac) : List Fil := if a.2.1 then putL t a.1 a.2.2 else dropL t a.1.data.toList
def doE : List Fil → List Ac → Nat
  | _, [] => 0
  | t, a :: l => if actE t a = 0 then doE (actT t a) l else actE t a
def doL : List Fil → List Ac → List Fil
  | t, [] => t
  | t, a :: l => doL (actT t a) l
def doN (t : List Fil) (l : List Ac) (room : Int) : Nat := if treeR t then (if doE t l = 0 then (if room < (sizeT (doL t l) : Nat) then 2 else 0) else doE t l) else 1
def doT (t : List Fil) (l : List Ac) (room : Int) : List Fil := if doN t l room = 0 then doL t l else []
theorem doE_snoc : ∀ (t : List Fil) (l : List Ac) (a : Ac), doE t (l ++ [a]) = if doE t l = 0 then actE (doL t l) a else doE t l
  | t, [], a => by simp only [List.nil_append, doE, doL]; split <;> simp_all
  | t, b :: l, a => by
    rw [List.cons_append, doE, doE, doL]
    split
    · exact doE_snoc _ l a
    · rfl
theorem doL_snoc : ∀ (t : List Fil) (l : List Ac) (a : Ac), doL t (l ++ [a]) = actT (doL t l) a
  | t, [], a => rfl
  | t, b :: l, a => by rw [List.cons_append, doL, doL]; exact doL_snoc _ l a
theorem doE_app : ∀ (t : List Fil) (l m : List Ac), doE t (l ++ m) = if doE t l = 0 then doE (doL t l) m else doE t l
  | t, [], m => by simp only [List.nil_append, doE, doL, if_true]
  | t, b :: l, m => by
    rw [List.cons_append, doE, doE, doL]
    split
    · exact doE_app _ l m
    · rfl
theorem doL_app : ∀ (t : List Fil) (l m : List Ac), doL t (l ++ m) = doL (doL t l) m
  | t, [], m => rfl
  | t, b :: l, m => by rw [List.cons_append, doL, doL]; exact doL_app _ l m
theorem do_more (t : List Fil) (l : List Ac) (j : Nat) (h : j < l.length) : doE t (l.take (j + 1)) = (if doE t (l.take j) = 0 then actE (doL t (l.take j)) l[j] else doE t (l.take j)) ∧ doL t (l.take (j + 1)) = actT (doL t (l.take j)) l[j] := by
  rw [List.take_add_one, List.getElem?_eq_getElem h]
  exact ⟨doE_snoc _ _ _, doL_snoc _ _ _⟩
/-- Where one is told on the way, that one is told in the end. -/
theorem do_stop {t : List Fil} {l : List Ac} {j : Nat} (h : doE t (l.take j) ≠ 0) : doE t l = doE t (l.take j) := by
  conv => lhs; rw [← List.take_append_drop j l]
  rw [doE_app, if_neg h]
theorem act_right {t : List Fil} {a : Ac} (h : actE t a = 0) : RightT (actT t a) := by
  unfold actE at h
  unfold actT
  cases hp : a.2.1 with
  | true => rw [hp, if_pos rfl] at h; exact right_putT h
  | false => rw [hp, if_neg (by simp)] at h; exact right_drop (dropE_zero.1 h).1 _
theorem do_right : ∀ {t : List Fil} {l : List Ac}, RightT t → doE t l = 0 → RightT (doL t l)
  | t, [], h, _ => h
  | t, a :: l, h, k => by
    rw [doE] at k
    split at k
    · rename_i h0; exact do_right (t := actT t a) (act_right h0) k
    · rename_i h0; exact absurd k h0

/-! ### What a tree has, once an action is done -/
theorem getT_mem {t : List Fil} (h : RightT t) {p x : ByteArray} : getT t p.data.toList = some x ↔ (p, x) ∈ t := by
  unfold getT
  rw [(treeR_iff t).2 h, if_pos rfl]
  exact data_iff h.srt
theorem getT_ext {t u : List Fil} (ht : RightT t) (hu : RightT u) (h : ∀ p : ByteArray, getT t p.data.toList = getT u p.data.toList) : t = u :=
  Srt.unique ht.srt hu.srt fun f => by
    obtain ⟨p, x⟩ := f
    rw [← getT_mem ht, h, getT_mem hu]
theorem opt_ext {a b : Option ByteArray} (h : ∀ x, a = some x ↔ b = some x) : a = b := by
  cases a with
  | none => cases b with
    | none => rfl
    | some y => exact (by have := (h y).2 rfl; cases this)
  | some x => exact ((h x).1 rfl).symm
def lastV (a : Ac) : Option ByteArray := if a.2.1 then some a.2.2 else none
theorem act_get {t : List Fil} {a : Ac} (h : actE t a = 0) (q : ByteArray) : getT (actT t a) q.data.toList = if a.1 = q then lastV a else getT t q.data.toList := by
  have hR := act_right h
  have ht : RightT t := by
    unfold actE at h
    split at h
    · exact (putE_zero.1 h).1
    · exact (dropE_zero.1 h).1
  refine opt_ext fun x => ?_
  rw [getT_mem hR]
  unfold actT lastV
  cases hp : a.2.1 with
  | true =>
    simp only [if_true]
    rw [mem_put]
    by_cases e : a.1 = q
    · subst e
      rw [if_pos rfl]
      constructor
      · rintro (k | ⟨-, k⟩)
        · rw [(Prod.mk.inj k).2]
        · exact absurd rfl k
      · intro k; rw [Option.some.inj k]; exact .inl rfl
    · rw [if_neg e, getT_mem ht]
      constructor
      · rintro (k | ⟨k, -⟩)
        · exact absurd (Prod.mk.inj k).1.symm e
        · exact k
      · exact fun k => .inr ⟨k, fun k2 => e (data_inj k2.symm)⟩
  | false =>
    simp only [Bool.false_eq_true, if_false]
    rw [mem_drop]
    by_cases e : a.1 = q
    · subst e
      rw [if_pos rfl]
      exact ⟨fun k => absurd rfl k.2, fun k => by cases k⟩
    · rw [if_neg e, getT_mem ht]
      exact ⟨fun k => k.1, fun k => ⟨k, fun k2 => e (data_inj k2.symm)⟩⟩
/-- What the last one says of a path, or what was there. -/
def saysA (l : List Ac) (q : ByteArray) (g : Option ByteArray) : Option ByteArray := l.foldl (fun g a => if a.1 = q then lastV a else g) g
theorem do_get : ∀ {t : List Fil} {l : List Ac}, doE t l = 0 → ∀ q : ByteArray, getT (doL t l) q.data.toList = saysA l q (getT t q.data.toList)
  | t, [], _, q => rfl
  | t, a :: l, k, q => by
    rw [doE] at k
    split at k
    · rename_i h0
      rw [doL, do_get k q, act_get h0 q]; rfl
    · rename_i h0; exact absurd k h0
theorem says_more (l : List Ac) (q : ByteArray) (g : Option ByteArray) (j : Nat) (h : j < l.length) : saysA (l.take (j + 1)) q g = if l[j].1 = q then lastV l[j] else saysA (l.take j) q g := by
  unfold saysA
  rw [List.take_add_one, List.getElem?_eq_getElem h, List.foldl_append]; rfl
theorem says_no {l : List Ac} {q : ByteArray} {g : Option ByteArray} (h : ∀ a ∈ l, a.1 ≠ q) : saysA l q g = g := by
  induction l generalizing g with
  | nil => rfl
  | cons a l ih =>
    show saysA l q (if a.1 = q then lastV a else g) = g
    rw [if_neg (h a List.mem_cons_self)]
    exact ih fun b hb => h b (List.mem_cons_of_mem _ hb)
theorem size_le {t : List Fil} (h : RightT t) : sizeT t ≤ 9600 := by
  have key : ∀ l : List Fil, (∀ f ∈ l, f.2.size ≤ 600) → (l.map fun f => f.2.size).sum ≤ l.length * 600 := by
    intro l
    induction l with
    | nil => intro _; simp
    | cons a l ih =>
      intro hl
      have h1 := hl a List.mem_cons_self
      have h2 := ih fun f hf => hl f (List.mem_cons_of_mem _ hf)
      rw [List.map_cons, List.sum_cons, List.length_cons]
      omega
  have h1 := key t h.datas
  have h2 := h.few
  unfold sizeT
  omega
end Go.Proofs.YtaidggjnpnfdhaaDoor
namespace Go.Proofs.YtaidggjnpnfdhaaDoor
open Go.RowKit

theorem srt_len {a b : List ByteArray} (ha : SrtB a) (hb : SrtB b) (h : ∀ x ∈ a, x ∈ b) : a.length ≤ b.length := by
  have e : a = b.filter fun x => inB x a := srtB_one ha (hb.filter _) fun x => by
    rw [List.mem_filter, inB_iff]
    exact ⟨fun hx => ⟨h x hx, hx⟩, fun hx => hx.2⟩
  rw [e]
  exact List.length_filter_le _ _
theorem srt_paths {t : List Fil} (h : Srt t) : SrtB (t.map (·.1)) := List.pairwise_map.2 h
theorem drops_do : ∀ {t : List Fil} (ps : List Fil), RightT t → (ps.Pairwise fun a b => a.1 ≠ b.1) → (∀ f ∈ ps, thereT t f.1.data.toList = true) → doE t (ps.map fun f => (f.1, false, noS)) = 0
  | t, [], _, _, _ => rfl
  | t, f :: ps, h, hp, hx => by
    obtain ⟨h1, h2⟩ := List.pairwise_cons.1 hp
    have h0 : actE t (f.1, false, noS) = 0 := by
      unfold actE
      simp only [Bool.false_eq_true, if_false]
      exact dropE_zero.2 ⟨h, hx f List.mem_cons_self⟩
    rw [List.map_cons, doE, if_pos h0]
    refine drops_do ps (act_right h0) h2 fun g hg => ?_
    obtain ⟨e, he, hpe⟩ := there_iff.1 (hx g (List.mem_cons_of_mem _ hg))
    refine there_iff.2 ⟨e, ?_, hpe⟩
    unfold actT
    simp only [Bool.false_eq_true, if_false]
    refine mem_drop.2 ⟨he, fun k => h1 g hg ?_⟩
    exact data_inj (k.symm.trans hpe)
theorem puts_do {u : List Fil} (hu : RightT u) : ∀ {s : List Fil} (gs : List Fil), RightT s → (∀ f ∈ s, f.1 ∈ u.map (·.1)) → (∀ g ∈ gs, g ∈ u) → doE s (gs.map fun g => (g.1, true, g.2)) = 0
  | s, [], _, _, _ => rfl
  | s, g :: gs, h, hs, hg => by
    have hgu := hg g List.mem_cons_self
    have h0 : actE s (g.1, true, g.2) = 0 := by
      unfold actE
      simp only [if_true]
      refine putE_zero.2 ⟨h, hu.paths g hgu, clash_no.2 fun f hf => ?_, hu.datas g hgu, ?_⟩
      · obtain ⟨e, he, hp⟩ := List.mem_map.1 (hs f hf)
        have e1 : pth f = pth e := by unfold pth; rw [hp]
        rw [e1]
        exact ⟨hu.apart e he g hgu, hu.apart g hgu e he⟩
      · cases ht : thereT s g.1.data.toList with
        | true => exact .inl rfl
        | false =>
          refine .inr ?_
          have hno := there_no.1 ht
          have hl : (putL s g.1 g.2).length = s.length + 1 := by
            rcases split_tree g.1.data.toList h.srt with ⟨-, e⟩ | ⟨d, e, -⟩
            · have := congrArg List.length e
              rw [List.length_append] at this
              rw [putL, List.length_append, List.length_cons]
              omega
            · rw [ht] at e; cases e
          have h1 := srt_len (srt_paths (srt_put h.srt g.1 g.2)) (srt_paths hu.srt) fun x hx => by
            obtain ⟨f, hf, rfl⟩ := List.mem_map.1 hx
            rcases mem_put.1 hf with rfl | ⟨hf, -⟩
            · exact List.mem_map.2 ⟨g, hgu, rfl⟩
            · exact hs f hf
          rw [List.length_map, List.length_map, hl] at h1
          have := hu.few
          omega
    rw [List.map_cons, doE, if_pos h0]
    refine puts_do hu gs (act_right h0) (fun f hf => ?_) fun x hx => hg x (List.mem_cons_of_mem _ hx)
    unfold actT at hf
    simp only [if_true] at hf
    rcases mem_put.1 hf with rfl | ⟨hf, -⟩
    · exact List.mem_map.2 ⟨g, hgu, rfl⟩
    · exact hs f hf
theorem says_drops {ps : List Fil} {q : ByteArray} {g : Option ByteArray} : saysA (ps.map fun f => (f.1, false, noS)) q g = if inF ps q then none else g := by
  induction ps generalizing g with
  | nil => rfl
  | cons f ps ih =>
    show saysA (ps.map fun f => (f.1, false, noS)) q (if f.1 = q then none else g) = _
    rw [ih]
    unfold inF
    rw [List.any_cons]
    by_cases e : f.1 = q
    · simp [e]
    · rw [if_neg e, decide_eq_false e, Bool.false_or]
theorem says_puts : ∀ {ps : List Fil} {q : ByteArray} {g : Option ByteArray}, RightT ps → saysA (ps.map fun f => (f.1, true, f.2)) q g = if inF ps q then getT ps q.data.toList else g := by
  have key : ∀ (ps : List Fil) (q : ByteArray) (g : Option ByteArray) (x : ByteArray), (ps.Pairwise fun a b => a.1 ≠ b.1) → (q, x) ∈ ps → saysA (ps.map fun f => (f.1, true, f.2)) q g = some x := by
    intro ps
    induction ps with
    | nil => intro q g x _ h; cases h
    | cons f ps ih =>
      intro q g x hp hx
      obtain ⟨h1, h2⟩ := List.pairwise_cons.1 hp
      show saysA (ps.map fun f => (f.1, true, f.2)) q (if f.1 = q then some f.2 else g) = _
      rcases List.mem_cons.1 hx with e | e
      · subst e
        rw [if_pos rfl]
        exact says_no fun a ha k => by
          obtain ⟨b, hb, rfl⟩ := List.mem_map.1 ha
          exact h1 b hb k.symm
      · exact ih q _ x h2 e
  intro ps q g h
  have hne : ps.Pairwise fun a b => a.1 ≠ b.1 := h.srt.imp fun {a b} k e => by
    have k2 : pth a < pth b := k
    rw [show pth a = pth b by unfold pth; rw [e]] at k2
    exact List.lt_irrefl _ k2
  cases hi : inF ps q with
  | true =>
    obtain ⟨f, hf, rfl⟩ := inF_iff.1 hi
    rw [if_pos rfl, key ps f.1 g f.2 hne hf, (getT_mem h).2 hf]
  | false =>
    rw [if_neg (by simp)]
    refine says_no fun a ha k => ?_
    obtain ⟨b, hb, rfl⟩ := List.mem_map.1 ha
    rw [inF_iff.2 ⟨b, hb, k⟩] at hi
    cases hi
/-- A plan, done, leads there. -/
theorem plan_do {t u : List Fil} (ht : RightT t) (hu : RightT u) : doE t (planL t u) = 0 ∧ doL t (planL t u) = u := by
  have hd : doE t (dropsL t u) = 0 := by
    refine drops_do _ ht ((ht.srt.filter _).imp fun {a b} k e => ?_) fun f hf => there_iff.2 ⟨f, (List.mem_filter.1 hf).1, rfl⟩
    have k2 : pth a < pth b := k
    rw [show pth a = pth b by unfold pth; rw [e]] at k2
    exact List.lt_irrefl _ k2
  have hR := do_right ht hd
  have hin : ∀ q, inF (t.filter fun f => !(u.any fun g => decide (g.1 = f.1))) q = (inF t q && !inF u q) := fun q => by
    cases h1 : inF u q with
    | true =>
      rw [Bool.not_true, Bool.and_false]
      refine not_true fun k => ?_
      obtain ⟨f, hf, rfl⟩ := inF_iff.1 k
      have h2 := (List.mem_filter.1 hf).2
      rw [show (u.any fun g => decide (g.1 = f.1)) = true from h1] at h2
      cases h2
    | false =>
      rw [Bool.not_false, Bool.and_true]
      cases h2 : inF t q with
      | true =>
        obtain ⟨f, hf, rfl⟩ := inF_iff.1 h2
        refine inF_iff.2 ⟨f, List.mem_filter.2 ⟨hf, ?_⟩, rfl⟩
        rw [show (u.any fun g => decide (g.1 = f.1)) = false from h1]; rfl
      | false =>
        refine not_true fun k => ?_
        obtain ⟨f, hf, rfl⟩ := inF_iff.1 k
        rw [inF_iff.2 ⟨f, (List.mem_filter.1 hf).1, rfl⟩] at h2
        cases h2
  have hgd : ∀ q : ByteArray, getT (doL t (dropsL t u)) q.data.toList = if inF t q && !inF u q then none else getT t q.data.toList := fun q => by
    rw [do_get hd, dropsL, says_drops, hin]
  have hp : doE (doL t (dropsL t u)) (putsL t u) = 0 := by
    refine puts_do hu _ hR (fun f hf => ?_) fun g hg => (List.mem_filter.1 hg).1
    have h1 := (getT_mem hR).2 (show (f.1, f.2) ∈ doL t (dropsL t u) from hf)
    rw [hgd] at h1
    split at h1
    · cases h1
    · rename_i hc
      have h2 : inF t f.1 = true := inF_iff.2 ⟨(f.1, f.2), (getT_mem ht).1 h1, rfl⟩
      rw [h2, Bool.true_and, Bool.not_eq_true', Bool.not_eq_false] at hc
      obtain ⟨g, hg, e⟩ := inF_iff.1 hc
      exact List.mem_map.2 ⟨g, hg, e⟩
  have hE : doE t (planL t u) = 0 := by unfold planL; rw [doE_app, hd]; exact hp
  refine ⟨hE, getT_ext (do_right ht hE) hu fun q => ?_⟩
  have hpr : RightT (u.filter fun f => !(t.any fun g => decide (f = g))) := ⟨Nat.le_trans (List.length_filter_le _ _) hu.few, hu.srt.filter _, fun f hf => hu.paths f (List.mem_filter.1 hf).1, fun f hf => hu.datas f (List.mem_filter.1 hf).1, fun f hf g hg => hu.apart f (List.mem_filter.1 hf).1 g (List.mem_filter.1 hg).1⟩
  unfold planL
  rw [doL_app, do_get hp, hgd, putsL, says_puts hpr]
  refine opt_ext fun x => ?_
  constructor
  · intro h
    split at h
    · rw [getT_mem hpr] at h
      exact (getT_mem hu).2 (List.mem_filter.1 h).1
    · rename_i hn
      split at h
      · cases h
      · rename_i hc
        have hm := (getT_mem ht).1 h
        have h2 : inF t q = true := inF_iff.2 ⟨_, hm, rfl⟩
        rw [h2, Bool.true_and, Bool.not_eq_true', Bool.not_eq_false] at hc
        obtain ⟨g, hg, e⟩ := inF_iff.1 hc
        by_cases hgt : g ∈ t
        · have := srt_one ht.srt hm hgt e.symm
          rw [getT_mem hu, this]; exact hg
        · refine absurd (inF_iff.2 ⟨g, List.mem_filter.2 ⟨hg, ?_⟩, e⟩) hn
          rw [show (t.any fun f => decide (g = f)) = false from not_true fun k => hgt (hasF_iff.1 k)]; rfl
  · intro h
    have hm := (getT_mem hu).1 h
    by_cases hgt : (q, x) ∈ t
    · rw [if_neg, if_neg]
      · exact (getT_mem ht).2 hgt
      · rw [inF_iff.2 ⟨_, hm, rfl⟩]; simp
      · intro k
        obtain ⟨g, hg, e⟩ := inF_iff.1 k
        obtain ⟨h1, h2⟩ := List.mem_filter.1 hg
        have := srt_one hu.srt h1 hm e
        subst this
        rw [show (t.any fun f => decide ((q, x) = f)) = true from hasF_iff.2 hgt] at h2
        cases h2
    · have hmf : (q, x) ∈ u.filter fun f => !(t.any fun g => decide (f = g)) := List.mem_filter.2 ⟨hm, by
        rw [show (t.any fun f => decide ((q, x) = f)) = false from not_true fun k => hgt (hasF_iff.1 k)]; rfl⟩
      rw [if_pos (inF_iff.2 ⟨_, hmf, rfl⟩), getT_mem hpr]
      exact hmf
end Go.Proofs.YtaidggjnpnfdhaaDoor
namespace Go.Proofs.YtaidggjnpnfdhaaDoor
open Go.RowKit

def pathsA (l : List Ac) : List ByteArray := (l.map (·.1)).foldl insP []
def lastA (l : List Ac) (p : ByteArray) : Ac := l.foldl (fun b a => if a.1 = p then a else b) (noS, false, noS)
def pickA (l : List Ac) : List Ac := (pathsA l).map (lastA l)
def netL (l : List Ac) : List Ac := ((pickA l).filter fun a => !a.2.1) ++ (pickA l).filter fun a => a.2.1
def wasA (t : List Fil) (p : ByteArray) : Ac := (p, (getT t p.data.toList).isSome, (getT t p.data.toList).getD noS)
def undoL (t : List Fil) (l : List Ac) : List Ac := if treeR t then netL ((pathsA l).map (wasA t)) else []
theorem paths_srt (l : List Ac) : SrtB (pathsA l) := (fold_ins (l.map fun a : Ac => a.1) [] List.Pairwise.nil).1
theorem paths_mem {l : List Ac} {x : ByteArray} : x ∈ pathsA l ↔ ∃ a ∈ l, a.1 = x := by
  unfold pathsA
  rw [(fold_ins (l.map fun a : Ac => a.1) [] List.Pairwise.nil).2 x, List.mem_map]
  simp
theorem paths_len (l : List Ac) : (pathsA l).length ≤ l.length := by
  have := fold_len (l.map fun a : Ac => a.1) []
  rw [List.length_map, List.length_nil, Nat.zero_add] at this
  exact this
theorem last_more (l : List Ac) (p : ByteArray) (j : Nat) (h : j < l.length) : lastA (l.take (j + 1)) p = if l[j].1 = p then l[j] else lastA (l.take j) p := by
  unfold lastA
  rw [List.take_add_one, List.getElem?_eq_getElem h, List.foldl_append]; rfl
theorem last_go : ∀ (l : List Ac) (p : ByteArray) (b : Ac), (l.foldl (fun b a => if a.1 = p then a else b) b = b ∧ ∀ a ∈ l, a.1 ≠ p) ∨ (l.foldl (fun b a => if a.1 = p then a else b) b ∈ l ∧ (l.foldl (fun b a => if a.1 = p then a else b) b).1 = p)
  | [], p, b => .inl ⟨rfl, by simp⟩
  | x :: l, p, b => by
    rw [List.foldl_cons]
    by_cases e : x.1 = p
    · rw [if_pos e]
      rcases last_go l p x with ⟨h, -⟩ | ⟨h, k⟩
      · exact .inr ⟨by rw [h]; exact List.mem_cons_self, by rw [h]; exact e⟩
      · exact .inr ⟨List.mem_cons_of_mem _ h, k⟩
    · rw [if_neg e]
      rcases last_go l p b with ⟨h, k⟩ | ⟨h, k⟩
      · exact .inl ⟨h, fun a ha => (List.mem_cons.1 ha).elim (fun e2 => by rw [e2]; exact e) (k a)⟩
      · exact .inr ⟨List.mem_cons_of_mem _ h, k⟩
theorem last_in {l : List Ac} {p : ByteArray} (h : ∃ a ∈ l, a.1 = p) : lastA l p ∈ l ∧ (lastA l p).1 = p := by
  rcases last_go l p (noS, false, noS) with ⟨-, k⟩ | k
  · obtain ⟨a, ha, e⟩ := h; exact absurd e (k a ha)
  · exact k
/-- Each path once: the last one is the only one. -/
theorem ac_one {l : List Ac} (h : l.Pairwise fun a b => a.1 ≠ b.1) {a b : Ac} (ha : a ∈ l) (hb : b ∈ l) (e : a.1 = b.1) : a = b := by
  obtain ⟨i, hi, rfl⟩ := List.mem_iff_getElem.1 ha
  obtain ⟨j, hj, rfl⟩ := List.mem_iff_getElem.1 hb
  have hh := List.pairwise_iff_getElem.1 h
  rcases Nat.lt_trichotomy i j with k | k | k
  · exact absurd e (hh i j hi hj k)
  · subst k; rfl
  · exact absurd e.symm (hh j i hj hi k)
theorem pick_mem {l : List Ac} (h : l.Pairwise fun a b => a.1 ≠ b.1) {a : Ac} : a ∈ pickA l ↔ a ∈ l := by
  unfold pickA
  rw [List.mem_map]
  constructor
  · rintro ⟨p, hp, rfl⟩
    exact (last_in (paths_mem.1 hp)).1
  · intro ha
    have hx : ∃ b ∈ l, b.1 = a.1 := ⟨a, ha, rfl⟩
    exact ⟨a.1, paths_mem.2 hx, ac_one h (last_in hx).1 ha (last_in hx).2⟩
def SrtAc (l : List Ac) : Prop := l.Pairwise fun a b => a.1.data.toList < b.1.data.toList
theorem srtAc_ne {l : List Ac} (h : SrtAc l) : l.Pairwise fun a b => a.1 ≠ b.1 := h.imp fun {a b} k e => by rw [e] at k; exact List.lt_irrefl _ k
theorem pick_srt (l : List Ac) : SrtAc (pickA l) := by
  refine List.pairwise_map.2 ?_
  refine (paths_srt l).imp_of_mem fun {a b} ha hb k => ?_
  rw [(last_in (paths_mem.1 ha)).2, (last_in (paths_mem.1 hb)).2]
  exact k
theorem srtAc_one {a b : List Ac} (ha : SrtAc a) (hb : SrtAc b) (h : ∀ x, x ∈ a ↔ x ∈ b) : a = b :=
  pw_one (fun _ _ h1 h2 => absurd h2 (List.lt_asymm h1)) ha hb h
theorem pick_self {l : List Ac} (h : SrtAc l) : pickA l = l := srtAc_one (pick_srt l) h fun _ => pick_mem (srtAc_ne h)
theorem net_srt {l : List Ac} (h : SrtAc l) : netL l = (l.filter fun a => !a.2.1) ++ l.filter fun a => a.2.1 := by unfold netL; rw [pick_self h]
/-- What stands ahead, rising, of what stands behind, rising: the net is the same. -/
theorem net_self {l : List Ac} (h : l.Pairwise AhA) (hne : l.Pairwise fun a b => a.1 ≠ b.1) : netL l = l := by
  have hahead : ∀ (l : List Ac), l.Pairwise AhA → l = (l.filter fun a => !a.2.1) ++ l.filter fun a => a.2.1 := by
    intro l
    induction l with
    | nil => intro _; rfl
    | cons a l ih =>
      intro h
      obtain ⟨h1, h2⟩ := List.pairwise_cons.1 h
      cases ha : a.2.1 with
      | false =>
        rw [List.filter_cons_of_pos (by rw [ha]; rfl), List.filter_cons_of_neg (by rw [ha]; simp), List.cons_append, ← ih h2]
      | true =>
        have hall : ∀ b ∈ l, b.2.1 = true := fun b hb => by
          rcases h1 b hb with ⟨k, -⟩ | ⟨k, -⟩
          · rw [ha] at k; cases k
          · rw [← k]; exact ha
        have e1 : (l.filter fun a => !a.2.1) = [] := List.filter_eq_nil_iff.2 fun b hb => by rw [hall b hb]; simp
        have e2 : (l.filter fun a => a.2.1) = l := List.filter_eq_self.2 fun b hb => hall b hb
        rw [List.filter_cons_of_neg (by rw [ha]; simp), List.filter_cons_of_pos (by rw [ha]), e1, e2]; rfl
  have hpart : ∀ (v : Bool), ((pickA l).filter fun a => a.2.1 == v) = l.filter fun a => a.2.1 == v := fun v => by
    refine srtAc_one ((pick_srt l).filter _) ?_ fun x => by rw [List.mem_filter, List.mem_filter, pick_mem hne]
    have : (l.filter fun a => a.2.1 == v).Pairwise AhA := h.filter _
    refine this.imp_of_mem fun {a b} ha hb k => ?_
    have e1 := (List.mem_filter.1 ha).2
    have e2 := (List.mem_filter.1 hb).2
    rw [beq_iff_eq] at e1 e2
    rcases k with ⟨k1, k2⟩ | ⟨-, k⟩
    · rw [k1] at e1; rw [k2] at e2; rw [← e1] at e2; cases e2
    · exact k
  have hb1 : ∀ a : Ac, (a.2.1 == false) = !a.2.1 := fun a => by cases a.2.1 <;> rfl
  have hb2 : ∀ a : Ac, (a.2.1 == true) = a.2.1 := fun a => by cases a.2.1 <;> rfl
  have p1 := hpart false
  have p2 := hpart true
  simp only [hb1, hb2] at p1 p2
  unfold netL
  rw [p1, p2, ← hahead l h]
theorem plan_ne {t u : List Fil} (ht : Srt t) (hu : Srt u) : (planL t u).Pairwise fun a b => a.1 ≠ b.1 := by
  refine (plan_srt ht hu).imp_of_mem fun {a b} ha hb k e => ?_
  rcases k with ⟨k1, k2⟩ | ⟨-, k⟩
  · rcases plan_mem.1 ha with ⟨f, hf, hn, rfl⟩ | ⟨g, hg, hn, rfl⟩
    · rcases plan_mem.1 hb with ⟨f', hf', hn', rfl⟩ | ⟨g', hg', hn', rfl⟩
      · cases k2
      · exact hn g' hg' e.symm
    · cases k1
  · rw [e] at k; exact List.lt_irrefl _ k
theorem paths_once {l : List Ac} (h : l.Pairwise fun a b => a.1 ≠ b.1) : (pathsA l).length = l.length := by
  refine Nat.le_antisymm (paths_len l) ?_
  have key : ∀ (l : List Ac) (s : List ByteArray), (l.Pairwise fun a b => a.1 ≠ b.1) → SrtS s → (∀ a ∈ l, a.1 ∈ s) → l.length ≤ s.length := by
    intro l
    induction l with
    | nil => intro s _ _ _; simp
    | cons a l ih =>
      intro s hl hs hx
      obtain ⟨h1, h2⟩ := List.pairwise_cons.1 hl
      have hm := hx a List.mem_cons_self
      have := ih (s.filter fun x => decide (x ≠ a.1)) h2 (hs.filter _) fun b hb => List.mem_filter.2 ⟨hx b (List.mem_cons_of_mem _ hb), by simpa using (h1 b hb).symm⟩
      have hlt : (s.filter fun x => decide (x ≠ a.1)).length < s.length := by
        refine List.length_filter_lt_length_iff_exists.2 ⟨a.1, hm, by simp⟩
      rw [List.length_cons]
      omega
  exact key l (pathsA l) h (paths_srt l) fun a ha => paths_mem.2 ⟨a, ha, rfl⟩
end Go.Proofs.YtaidggjnpnfdhaaDoor
namespace Go.Proofs.YtaidggjnpnfdhaaDoor
open Go.RowKit

theorem dl_map {l : List Ac} (h : ∀ a ∈ l, a.2.1 = false ∧ a.2.2 = noS) : l = (l.map fun a => ((a.1, a.2.2) : Fil)).map fun f => (f.1, false, noS) := by
  rw [List.map_map]
  conv => lhs; rw [← List.map_id l]
  refine List.map_congr_left fun a ha => ?_
  obtain ⟨p, b, d⟩ := a
  obtain ⟨h1, h2⟩ := h _ ha
  dsimp only at h1 h2
  subst h1 h2
  rfl
theorem pl_map {l : List Ac} (h : ∀ a ∈ l, a.2.1 = true) : l = (l.map fun a => ((a.1, a.2.2) : Fil)).map fun f => (f.1, true, f.2) := by
  rw [List.map_map]
  conv => lhs; rw [← List.map_id l]
  refine List.map_congr_left fun a ha => ?_
  obtain ⟨p, b, d⟩ := a
  have h1 := h _ ha
  dsimp only at h1
  subst h1
  rfl
theorem says_one : ∀ {l : List Ac} {a : Ac} {g : Option ByteArray}, (l.Pairwise fun a b => a.1 ≠ b.1) → a ∈ l → saysA l a.1 g = lastV a
  | b :: l, a, g, h, ha => by
    obtain ⟨h1, h2⟩ := List.pairwise_cons.1 h
    show saysA l a.1 (if b.1 = a.1 then lastV b else g) = _
    rcases List.mem_cons.1 ha with e | e
    · subst e
      rw [if_pos rfl]
      exact says_no fun c hc k => h1 c hc k.symm
    · exact says_one h2 e
theorem was_last (t : List Fil) (p : ByteArray) : lastV (wasA t p) = getT t p.data.toList := by
  unfold lastV wasA
  dsimp only
  cases getT t p.data.toList <;> rfl
theorem getT_isSome {t : List Fil} (h : RightT t) (p : ByteArray) : (getT t p.data.toList).isSome = inF t p := gT_in h p
theorem getT_no {t : List Fil} (h : RightT t) {p : ByteArray} (k : inF t p = false) : getT t p.data.toList = none := by
  have := gT_in h p
  rw [k] at this
  exact Option.isSome_eq_false_iff.1 this |> Option.isNone_iff_eq_none.1
def backL (t x : List Fil) (l : List Ac) : List Ac := (undoL t l).filter fun a => a.2.1 || inF x a.1
theorem undo_mem {t : List Fil} (ht : RightT t) {l : List Ac} {a : Ac} : a ∈ undoL t l ↔ ∃ p ∈ pathsA l, a = wasA t p := by
  have hs : SrtAc ((pathsA l).map (wasA t)) := List.pairwise_map.2 (paths_srt l)
  unfold undoL
  rw [(treeR_iff t).2 ht, if_pos rfl, net_srt hs, List.mem_append, List.mem_filter, List.mem_filter, List.mem_map]
  constructor
  · rintro (⟨⟨p, hp, rfl⟩, -⟩ | ⟨⟨p, hp, rfl⟩, -⟩)
    · exact ⟨p, hp, rfl⟩
    · exact ⟨p, hp, rfl⟩
  · rintro ⟨p, hp, rfl⟩
    cases h : (wasA t p).2.1 with
    | true => exact .inr ⟨⟨p, hp, rfl⟩, rfl⟩
    | false => exact .inl ⟨⟨p, hp, rfl⟩, rfl⟩
theorem undo_split {t : List Fil} (ht : RightT t) (l : List Ac) : undoL t l = ((undoL t l).filter fun a => !a.2.1) ++ (undoL t l).filter fun a => a.2.1 := by
  have hs : SrtAc ((pathsA l).map (wasA t)) := List.pairwise_map.2 (paths_srt l)
  unfold undoL
  rw [(treeR_iff t).2 ht, if_pos rfl, net_srt hs]
  have e0 : List.filter (fun _ : Ac => false) ((pathsA l).map (wasA t)) = [] := List.filter_eq_nil_iff.2 (by simp)
  simp [List.filter_append, List.filter_filter, e0]
theorem undo_ne {t : List Fil} (ht : RightT t) (l : List Ac) : (undoL t l).Pairwise fun a b => a.1 ≠ b.1 := by
  have hs : SrtAc ((pathsA l).map (wasA t)) := List.pairwise_map.2 (paths_srt l)
  unfold undoL
  rw [(treeR_iff t).2 ht, if_pos rfl, net_srt hs]
  refine List.pairwise_append.2 ⟨srtAc_ne (hs.filter _), srtAc_ne (hs.filter _), fun a ha b hb e => ?_⟩
  obtain ⟨a1, a2⟩ := List.mem_filter.1 ha
  obtain ⟨b1, b2⟩ := List.mem_filter.1 hb
  have := ac_one (srtAc_ne hs) a1 b1 e
  subst this
  rw [b2] at a2
  cases a2
theorem undo_do {t : List Fil} {l : List Ac} (ht : RightT t) (h : doE t l = 0) : doE (doL t l) (backL t (doL t l) l) = 0 ∧ doL (doL t l) (backL t (doL t l) l) = t := by
  have hx := do_right ht h
  have hget := do_get h
  generalize doL t l = x at *
  have hne : (backL t x l).Pairwise fun a b => a.1 ≠ b.1 := (undo_ne ht l).filter _
  have hbm : ∀ a, a ∈ backL t x l ↔ (∃ p ∈ pathsA l, a = wasA t p) ∧ (a.2.1 || inF x a.1) = true := fun a => by unfold backL; rw [List.mem_filter, undo_mem ht]
  have hsplit : backL t x l = ((backL t x l).filter fun a => !a.2.1) ++ (backL t x l).filter fun a => a.2.1 := by
    unfold backL
    conv => lhs; rw [undo_split ht l]
    rw [List.filter_append, List.filter_filter, List.filter_filter, List.filter_filter, List.filter_filter]
    congr 1
    · refine List.filter_congr fun a _ => ?_; cases a.2.1 <;> cases inF x a.1 <;> rfl
    · refine List.filter_congr fun a _ => ?_; cases a.2.1 <;> cases inF x a.1 <;> rfl
  have hout : ∀ q : ByteArray, (∀ a ∈ backL t x l, a.1 ≠ q) → getT x q.data.toList = getT t q.data.toList := fun q hq => by
    by_cases hp : q ∈ pathsA l
    · have hn : ¬ wasA t q ∈ backL t x l := fun k => hq _ k rfl
      rw [hbm] at hn
      have hf : ((wasA t q).2.1 || inF x q) = false := not_true fun k => hn ⟨⟨q, hp, rfl⟩, k⟩
      rw [Bool.or_eq_false_iff] at hf
      have h1 : inF t q = false := by rw [← gT_in ht]; exact hf.1
      rw [getT_no ht h1, getT_no hx hf.2]
    · rw [hget]
      exact says_no fun a ha k => hp (paths_mem.2 ⟨a, ha, k⟩)
  have hdl : ∀ a ∈ (backL t x l).filter fun a => !a.2.1, a.2.1 = false ∧ a.2.2 = noS := fun a ha => by
    obtain ⟨h1, h2⟩ := List.mem_filter.1 ha
    rw [Bool.not_eq_true'] at h2
    refine ⟨h2, ?_⟩
    obtain ⟨⟨p, -, rfl⟩, -⟩ := (hbm a).1 h1
    unfold wasA at h2 ⊢
    dsimp only at h2 ⊢
    cases hg : getT t p.data.toList with
    | none => rfl
    | some y => rw [hg] at h2; cases h2
  have hpl : ∀ a ∈ (backL t x l).filter fun a => a.2.1, a.2.1 = true := fun a ha => (List.mem_filter.1 ha).2
  have hD : doE x ((backL t x l).filter fun a => !a.2.1) = 0 := by
    rw [dl_map hdl]
    refine drops_do _ hx (List.pairwise_map.2 (hne.filter _)) fun f hf => ?_
    obtain ⟨a, ha, rfl⟩ := List.mem_map.1 hf
    obtain ⟨h1, h2⟩ := List.mem_filter.1 ha
    have h3 := ((hbm a).1 h1).2
    rw [(hdl a ha).1, Bool.false_or] at h3
    obtain ⟨g, hg, e⟩ := inF_iff.1 h3
    exact there_iff.2 ⟨g, hg, by unfold pth; rw [e]⟩
  have hR := do_right hx hD
  have hP : doE (doL x ((backL t x l).filter fun a => !a.2.1)) ((backL t x l).filter fun a => a.2.1) = 0 := by
    rw [pl_map hpl]
    refine puts_do ht _ hR (fun f hf => ?_) fun g hg => ?_
    · have h1 := (getT_mem hR).2 (show (f.1, f.2) ∈ _ from hf)
      rw [do_get hD] at h1
      by_cases hd : ∃ a ∈ (backL t x l).filter (fun a => !a.2.1), a.1 = f.1
      · obtain ⟨a, ha, e⟩ := hd
        rw [← e, says_one (hne.filter _) ha] at h1
        unfold lastV at h1
        rw [(hdl a ha).1] at h1
        cases h1
      · rw [says_no fun a ha k => hd ⟨a, ha, k⟩] at h1
        by_cases hb : ∃ a ∈ backL t x l, a.1 = f.1
        · obtain ⟨a, ha, e⟩ := hb
          have hput : a.2.1 = true := by
            cases hp : a.2.1 with
            | true => rfl
            | false => exact absurd ⟨a, List.mem_filter.2 ⟨ha, by rw [hp]; rfl⟩, e⟩ hd
          obtain ⟨⟨p, -, rfl⟩, -⟩ := (hbm a).1 ha
          have h2 : inF t p = true := by rw [← gT_in ht]; exact hput
          obtain ⟨g, hg, e2⟩ := inF_iff.1 h2
          exact List.mem_map.2 ⟨g, hg, e2.trans e⟩
        · rw [hout f.1 fun a ha k => hb ⟨a, ha, k⟩] at h1
          exact List.mem_map.2 ⟨_, (getT_mem ht).1 h1, rfl⟩
    · obtain ⟨a, ha, rfl⟩ := List.mem_map.1 hg
      obtain ⟨h1, h2⟩ := List.mem_filter.1 ha
      obtain ⟨⟨p, -, rfl⟩, -⟩ := (hbm a).1 h1
      refine (getT_mem ht).1 ?_
      unfold wasA at h2 ⊢
      dsimp only at h2 ⊢
      cases hg : getT t p.data.toList with
      | none => rw [hg] at h2; cases h2
      | some y => rfl
  have hE : doE x (backL t x l) = 0 := by rw [hsplit, doE_app, hD]; exact hP
  refine ⟨hE, getT_ext (do_right hx hE) ht fun q => ?_⟩
  rw [do_get hE]
  by_cases hb : ∃ a ∈ backL t x l, a.1 = q
  · obtain ⟨a, ha, rfl⟩ := hb
    rw [says_one hne ha]
    obtain ⟨⟨p, -, rfl⟩, -⟩ := (hbm a).1 ha
    exact was_last t p
  · rw [says_no fun a ha k => hb ⟨a, ha, k⟩]
    exact hout q fun a ha k => hb ⟨a, ha, k⟩
end Go.Proofs.YtaidggjnpnfdhaaDoor
namespace Go.Proofs.YtaidggjnpnfdhaaDoor
open Go.RowKit

theorem act_P {P : Fil → Prop} {t : List Fil} {a : Ac} (ht : ∀ f ∈ t, P f) (ha : P (a.1, a.2.2)) : ∀ f ∈ actT t a, P f := by
  intro f hf
  unfold actT at hf
  split at hf
  · rcases mem_put.1 hf with rfl | ⟨hf, -⟩
    · exact ha
    · exact ht f hf
  · exact ht f (mem_drop.1 hf).1
theorem do_P {P : Fil → Prop} : ∀ {t : List Fil} {l : List Ac}, (∀ f ∈ t, P f) → (∀ a ∈ l, P (a.1, a.2.2)) → ∀ f ∈ doL t l, P f
  | _, [], ht, _ => ht
  | t, a :: _, ht, hl => do_P (t := actT t a) (act_P ht (hl a List.mem_cons_self)) fun b hb => hl b (List.mem_cons_of_mem _ hb)
theorem doT_P {P : Fil → Prop} {t : List Fil} {l : List Ac} {r : Int} (ht : ∀ f ∈ t, P f) (hl : ∀ a ∈ l, P (a.1, a.2.2)) : ∀ f ∈ doT t l r, P f := by
  unfold doT
  split
  · exact do_P ht hl
  · intro f hf; cases hf
theorem doN_zero {t : List Fil} {l : List Ac} {r : Int} : doN t l r = 0 ↔ RightT t ∧ doE t l = 0 ∧ ((sizeT (doL t l) : Nat) : Int) ≤ r := by
  unfold doN
  rw [← treeR_iff]
  by_cases h1 : treeR t = true
  · rw [if_pos h1]
    by_cases h2 : doE t l = 0
    · rw [if_pos h2]
      by_cases h3 : r < ((sizeT (doL t l) : Nat) : Int)
      · rw [if_pos h3]; constructor
        · intro h; cases h
        · rintro ⟨-, -, h⟩; omega
      · rw [if_neg h3]; exact ⟨fun _ => ⟨h1, h2, by omega⟩, fun _ => rfl⟩
    · rw [if_neg h2]; exact ⟨fun h => absurd h h2, fun h => absurd h.2.1 h2⟩
  · rw [if_neg h1]; constructor
    · intro h; cases h
    · exact fun h => absurd h.1 h1
theorem doT_zero {t : List Fil} {l : List Ac} {r : Int} (h : doN t l r = 0) : doT t l r = doL t l := by unfold doT; rw [if_pos h]
theorem doT_not {t : List Fil} {l : List Ac} {r : Int} (h : doN t l r ≠ 0) : doT t l r = [] := by unfold doT; rw [if_neg h]
theorem doT_right {t : List Fil} {l : List Ac} {r : Int} (h : doN t l r = 0) : RightT (doT t l r) := by
  rw [doT_zero h]
  obtain ⟨h1, h2, -⟩ := doN_zero.1 h
  exact do_right h1 h2
theorem doN_big (t : List Fil) (l : List Ac) {r : Int} (h : 9600 ≤ r) : doN t l r = if treeR t then doE t l else 1 := by
  unfold doN
  by_cases h1 : treeR t = true
  · rw [if_pos h1, if_pos h1]
    by_cases h2 : doE t l = 0
    · have := size_le (do_right ((treeR_iff t).1 h1) h2)
      rw [if_pos h2, if_neg (by omega), h2]
    · rw [if_neg h2]
  · rw [if_neg h1, if_neg h1]

/-! ### Room -/
theorem room_yes {t : List Fil} {l : List Ac} {r m : Int} (h : doN t l r = 0) (hm : 0 ≤ m) : doN t l (r + m) = 0 ∧ doT t l (r + m) = doT t l r ∧ ((sizeT (doT t l r) : Nat) : Int) ≤ r := by
  obtain ⟨h1, h2, h3⟩ := doN_zero.1 h
  have h4 : doN t l (r + m) = 0 := doN_zero.2 ⟨h1, h2, by omega⟩
  rw [doT_zero h4, doT_zero h]
  exact ⟨h4, rfl, h3⟩
theorem room_no {t : List Fil} {l : List Ac} {r m : Int} (h : doN t l r ≠ 0) : doN t l (r + m) = doN t l r ∨ (doN t l r = 2 ∧ doN t l (r + m) = 0 ∧ r < ((sizeT (doT t l (r + m)) : Nat) : Int)) := by
  by_cases h1 : treeR t = true
  · by_cases h2 : doE t l = 0
    · have h3 : r < ((sizeT (doL t l) : Nat) : Int) := by
        refine Int.not_le.1 fun k => h (doN_zero.2 ⟨(treeR_iff t).1 h1, h2, k⟩)
      have e1 : doN t l r = 2 := by unfold doN; rw [if_pos h1, if_pos h2, if_pos h3]
      by_cases h4 : doN t l (r + m) = 0
      · exact .inr ⟨e1, h4, by rw [doT_zero h4]; exact h3⟩
      · refine .inl ?_
        have h5 : r + m < ((sizeT (doL t l) : Nat) : Int) := by
          refine Int.not_le.1 fun k => h4 (doN_zero.2 ⟨(treeR_iff t).1 h1, h2, k⟩)
        rw [e1]; unfold doN; rw [if_pos h1, if_pos h2, if_pos h5]
    · refine .inl ?_
      unfold doN; rw [if_pos h1, if_neg h2, if_pos h1, if_neg h2]
  · refine .inl ?_
    unfold doN; rw [if_neg h1, if_neg h1]

/-! ### Two parts -/
theorem parts_no {t : List Fil} {l : List Ac} {k : Nat} {r : Int} (hr : 9600 ≤ r) (h : doN t (l.take k) r ≠ 0) : doN t l r = doN t (l.take k) r ∧ doT t l r = [] := by
  have e : doN t l r = doN t (l.take k) r := by
    rw [doN_big _ _ hr, doN_big _ _ hr] at *
    by_cases h1 : treeR t = true
    · rw [if_pos h1] at *
      rw [if_pos h1]
      exact do_stop h
    · rw [if_neg h1, if_neg h1]
  exact ⟨e, doT_not (by rw [e]; exact h)⟩
theorem parts_yes {t : List Fil} {l : List Ac} {k : Nat} {r : Int} (hr : 9600 ≤ r) (h : doN t (l.take k) r = 0) : doN (doT t (l.take k) r) (l.drop k) r = doN t l r ∧ doT (doT t (l.take k) r) (l.drop k) r = doT t l r := by
  have hR := doT_right h
  obtain ⟨h1, h2, -⟩ := doN_zero.1 h
  have e1 := doE_app t (l.take k) (l.drop k)
  have e2 := doL_app t (l.take k) (l.drop k)
  rw [List.take_append_drop] at e1 e2
  rw [if_pos h2] at e1
  have e3 : doN (doT t (l.take k) r) (l.drop k) r = doN t l r := by
    rw [doN_big _ _ hr, doN_big _ _ hr, (treeR_iff _).2 hR, (treeR_iff _).2 h1, if_pos rfl, if_pos rfl, doT_zero h, e1]
  refine ⟨e3, ?_⟩
  by_cases h0 : doN t l r = 0
  · rw [doT_zero h0, doT_zero (by rw [e3]; exact h0), doT_zero h, e2]
  · rw [doT_not h0, doT_not (by rw [e3]; exact h0)]

/-! ### A plan, done -/
theorem plan_self (u : List Fil) : planL u u = [] := by
  have h1 : dropsL u u = [] := by
    unfold dropsL
    rw [List.filter_eq_nil_iff.2 ?_]; rfl
    intro f hf
    have : (u.any fun g => decide (g.1 = f.1)) = true := List.any_eq_true.2 ⟨f, hf, by simp⟩
    rw [this]; simp
  have h2 : putsL u u = [] := by
    unfold putsL
    rw [List.filter_eq_nil_iff.2 ?_]; rfl
    intro f hf
    have : (u.any fun g => decide (f = g)) = true := List.any_eq_true.2 ⟨f, hf, by simp⟩
    rw [this]; simp
  unfold planL; rw [h1, h2]; rfl
theorem plan_zero {t : List Fil} {es : List Ent} (h : planN t es = 0) : RightT t ∧ archR es = true ∧ RightT (treeE es) := by
  unfold planN at h
  split at h
  · rename_i hk
    rw [Bool.and_eq_true] at hk
    refine ⟨(treeR_iff t).1 hk.1, hk.2, ?_⟩
    rw [treeE, hk.2, if_pos rfl]
    exact (treeR_iff _).1 ((archR_iff es).1 hk.2).tree
  · cases h
theorem plan_done {t : List Fil} {es : List Ent} {r : Int} (hr : 9600 ≤ r) (h : planN t es = 0) : doN t (planA t es) r = 0 ∧ doT t (planA t es) r = treeE es ∧ planN (treeE es) es = 0 ∧ planA (treeE es) es = [] ∧ (pathsA (planA t es)).length = (planA t es).length ∧ netL (planA t es) = planA t es := by
  obtain ⟨h1, h2, h3⟩ := plan_zero h
  have hA : planA t es = planL t (treeE es) := by unfold planA; rw [if_pos h]
  obtain ⟨p1, p2⟩ := plan_do h1 h3
  have h0 : doN t (planA t es) r = 0 := by rw [doN_big _ _ hr, (treeR_iff t).2 h1, if_pos rfl, hA]; exact p1
  have h4 : planN (treeE es) es = 0 := by unfold planN; rw [(treeR_iff _).2 h3, h2]; rfl
  have hne := plan_ne h1.srt h3.srt
  refine ⟨h0, ?_, h4, ?_, ?_, ?_⟩
  · rw [doT_zero h0, hA]; exact p2
  · unfold planA; rw [if_pos h4]; exact plan_self _
  · rw [hA]; exact paths_once hne
  · rw [hA]; exact net_self (plan_srt h1.srt h3.srt) hne

/-! ### Undone -/
theorem undone {t : List Fil} {l : List Ac} {r : Int} (hr : 9600 ≤ r) (h : doN t l r = 0) : doN (doT t l r) (backL t (doT t l r) l) r = 0 ∧ doT (doT t l r) (backL t (doT t l r) l) r = t := by
  obtain ⟨h1, h2, -⟩ := doN_zero.1 h
  obtain ⟨u1, u2⟩ := undo_do h1 h2
  have hR := doT_right h
  rw [doT_zero h] at hR ⊢
  have h0 : doN (doL t l) (backL t (doL t l) l) r = 0 := by rw [doN_big _ _ hr, (treeR_iff _).2 hR, if_pos rfl]; exact u1
  exact ⟨h0, by rw [doT_zero h0]; exact u2⟩
theorem act_path {t : List Fil} {a : Ac} (h : actE t a = 0) : rightL a.1.data.toList = true := by
  unfold actE at h
  split at h
  · exact (putE_zero.1 h).2.1
  · obtain ⟨h1, h2⟩ := dropE_zero.1 h
    obtain ⟨f, hf, e⟩ := there_iff.1 h2
    rw [← e]
    exact h1.paths f hf
theorem do_paths : ∀ {t : List Fil} {l : List Ac}, doE t l = 0 → ∀ a ∈ l, rightL a.1.data.toList = true
  | t, b :: l, h, a, ha => by
    rw [doE] at h
    split at h
    · rename_i h0
      rcases List.mem_cons.1 ha with rfl | ha
      · exact act_path h0
      · exact do_paths h a ha
    · rename_i h0; exact absurd h h0
theorem paths_sorted {t : List Fil} {l : List Ac} {r : Int} (h : doN t l r = 0) : sortedL (lst (pathsA l)) = true := by
  obtain ⟨h1, h2, -⟩ := doN_zero.1 h
  refine srt_mk ?_ ?_
  · intro s hs
    obtain ⟨c, hc, rfl⟩ := List.mem_map.1 hs
    obtain ⟨a, ha, rfl⟩ := paths_mem.1 hc
    exact do_paths h2 a ha
  · exact List.pairwise_map.2 (paths_srt l)
/-- Of those that lead back: the first j. -/
theorem back_more (u : List Ac) (x : List Fil) (j : Nat) (h : j < u.length) : (u.take (j + 1)).filter (fun a => a.2.1 || inF x a.1) = (u.take j).filter (fun a => a.2.1 || inF x a.1) ++ (if u[j].2.1 || inF x u[j].1 then [u[j]] else []) := by
  rw [List.take_add_one, List.getElem?_eq_getElem h, List.filter_append]
  congr 1
  simp only [Option.toList_some, List.filter_cons, List.filter_nil]
theorem findT_in {x : List Fil} (h : RightT x) (p : ByteArray) : decide ((0 : Int) ≤ findT x p.data.toList) = inF x p := by
  unfold findT
  rw [(treeR_iff x).2 h, Bool.true_and]
  cases ht : thereT x p.data.toList with
  | true =>
    rw [if_pos rfl]
    obtain ⟨f, hf, e⟩ := there_iff.1 ht
    rw [inF_iff.2 ⟨f, hf, data_inj e⟩]
    exact decide_eq_true (by omega)
  | false =>
    rw [if_neg (by simp)]
    have : inF x p = false := not_true fun k => by
      obtain ⟨f, hf, e⟩ := inF_iff.1 k
      have h2 : thereT x p.data.toList = true := there_iff.2 ⟨f, hf, by unfold pth; rw [e]⟩
      rw [ht] at h2; cases h2
    rw [this]; rfl
theorem undo_len (t : List Fil) (l : List Ac) : (undoL t l).length ≤ l.length := by
  unfold undoL
  split
  · unfold netL
    have e : ∀ (m : List Ac), (m.filter fun a => !a.2.1).length + (m.filter fun a => a.2.1).length = m.length := by
      intro m
      induction m with
      | nil => rfl
      | cons a m ih => cases h : a.2.1 <;> simp [h] <;> omega
    rw [List.length_append, e]
    unfold pickA
    rw [List.length_map]
    have h1 := paths_len ((pathsA l).map (wasA t))
    rw [List.length_map] at h1
    have h2 := paths_len l
    omega
  · simp
theorem net_len (l : List Ac) : (netL l).length ≤ l.length := by
  unfold netL
  have e : ∀ (m : List Ac), (m.filter fun a => !a.2.1).length + (m.filter fun a => a.2.1).length = m.length := by
    intro m
    induction m with
    | nil => rfl
    | cons a m ih => cases h : a.2.1 <;> simp [h] <;> omega
  rw [List.length_append, e]
  unfold pickA
  rw [List.length_map]
  exact paths_len l

/-! ### Kept -/
theorem keptA {t : List Fil} {l : List Ac} {r : Int} (h : doN t l r = 0) (p : ByteArray) : getT (doT t l r) p.data.toList = saysA l p (getT t p.data.toList) ∧ ((sizeT (doT t l r) : Nat) : Int) ≤ r := by
  obtain ⟨-, h2, h3⟩ := doN_zero.1 h
  rw [doT_zero h]
  exact ⟨do_get h2 p, h3⟩
end Go.Proofs.YtaidggjnpnfdhaaDoor
namespace Go.Proofs.YtaidggjnpnfdhaaDoor
open Go.RowKit

set_option maxHeartbeats 1000000 in
theorem anew_any (x d : ByteArray) (w : World) (hx : x.size ≤ 281474976710656) (hd : d.size ≤ 281474976710656) :
    Calls Tryd.prog 63 #[.agg #[.string x, .string d]] w fun e w' => e = .returned (.agg #[.string x, .string d]) ∧ Below w.heap.size w w' := by
  have p0 : Blk ((w.alloc (.cells #[.string x, .string d] 46)).alloc (.cells #[zS, zS] 46)) w.heap.size [.string x, .string d] 46 := (Blk.new w [.string x, .string d] 46).below ((Below.refl _ _).alloc (Nat.le_refl _) _)
  have q0 : Blk ((w.alloc (.cells #[.string x, .string d] 46)).alloc (.cells #[zS, zS] 46)) (w.heap.size + 1) [zS, zS] 46 := by
    have := Blk.new (w.alloc (.cells #[.string x, .string d] 46)) [zS, zS] 46
    simpa using this
  have b0 : Below w.heap.size w ((w.alloc (.cells #[.string x, .string d] 46)).alloc (.cells #[zS, zS] 46)) := ((Below.refl _ _).alloc (Nat.le_refl _) _).alloc (by simp) _
  go_enter Tryd.func63, Tryd.ntmps63
  go_upto_region 1 with (fail)
  generalize (w.alloc (.cells #[.string x, .string d] 46)).alloc (.cells #[zS, zS] 46) = W0 at *
  have d1 := p0.cell 0
  have d2 := p0.cell 1
  simp only [List.getElem?_cons_zero, List.getElem?_cons_succ] at d1 d2
  refine wp_region_held_drew (S := fun w' => w'.cell? ⟨w.heap.size, 0, none⟩ = some (.string x) ∧ w'.cell? ⟨w.heap.size, 1, none⟩ = some (.string d)) (by kernel_rfl) ⟨d1, d2⟩ (fun hHeld => ?_)
  refine wpAnyH_take (i := 0) (oi := ⟨_, _, _, _, _, _⟩) (v := ?_) rfl (by kernel_rfl) (by kernel_rfl) (by kernel_rfl) (fun _ _ _ h => h) (Or.inl ⟨by rfl, ?_⟩) (by assumption) ?_
  rotate_left
  · intro w hSw; (try dsimp only at hSw); go_simp; (try (with_reducible rfl))
  try simp only [Act.put, List.setIfInBounds_toArray, List.set_cons_zero, List.set_cons_succ]
  refine wpAnyH_take (i := 1) (oi := ⟨_, _, _, _, _, _⟩) (v := ?_) rfl (by kernel_rfl) (by kernel_rfl) (by kernel_rfl) (fun _ _ _ h => h) (Or.inl ⟨by rfl, ?_⟩) (by assumption) ?_
  rotate_left
  · intro w hSw; (try dsimp only at hSw); go_simp; (try (with_reducible rfl))
  try simp only [Act.put, List.setIfInBounds_toArray, List.set_cons_zero, List.set_cons_succ]
  refine wpAnyH_take (i := 3) (oi := ⟨_, _, _, _, _, _⟩) (v := ?_) rfl (by kernel_rfl) (by kernel_rfl) (by kernel_rfl) (fun _ _ _ h => h) (Or.inl ⟨by rfl, ?_⟩) (by assumption) ?_
  rotate_left
  · intro w hSw; (try dsimp only at hSw); go_simp; (try (with_reducible rfl))
  try simp only [Act.put, List.setIfInBounds_toArray, List.set_cons_zero, List.set_cons_succ]
  refine wpAnyH_take (i := 4) (oi := ⟨_, _, _, _, _, _⟩) (v := ?_) rfl (by kernel_rfl) (by kernel_rfl) (by kernel_rfl) (fun _ _ _ h => h) (Or.inl ⟨by rfl, ?_⟩) (by assumption) ?_
  rotate_left
  · intro w hSw; (try dsimp only at hSw); go_simp; (try (with_reducible rfl))
  try simp only [Act.put, List.setIfInBounds_toArray, List.set_cons_zero, List.set_cons_succ]
  refine wpAnyH_ready (rs := [2]) (by kernel_rfl) (by simp) ?_
  refine AllReadyH.cons (o := ⟨_, _, _, _, _, _⟩) rfl (fun K hK => ?_) AllReadyH.nil
  go_simp
  refine (clone_any x _ hx).mono ?_
  rintro e w1 ⟨rfl, hb1⟩
  have p1 := Blk.below (w := W0.drew) p0 hb1
  have q1 := Blk.below (w := W0.drew) q0 hb1
  have b1 := b0.drew.trans (hb1.mono b0.drew.size)
  have d3 := p1.cell 0
  have d4 := p1.cell 1
  simp only [List.getElem?_cons_zero, List.getElem?_cons_succ] at d3 d4
  refine hK.out _ _ ⟨d3, d4⟩ (fun hHeld => ?_)
  clear hK K
  try simp only [Act.put, List.setIfInBounds_toArray, List.set_cons_zero, List.set_cons_succ]
  refine wpAnyH_ready (rs := [5]) (by kernel_rfl) (by simp) ?_
  refine AllReadyH.cons (o := ⟨_, _, _, _, _, _⟩) rfl (fun K hK => ?_) AllReadyH.nil
  go_simp
  refine (clone_any d _ hd).mono ?_
  rintro e w2 ⟨rfl, hb2⟩
  have p2 := p1.below (hb2)
  have q2 := q1.below (hb2)
  have d5 := p2.cell 0
  have d6 := p2.cell 1
  simp only [List.getElem?_cons_zero, List.getElem?_cons_succ] at d5 d6
  have b2 := b1.trans (hb2.mono b1.size)
  refine hK.out _ _ ⟨d5, d6⟩ (fun hHeld => ?_)
  clear hK K
  try simp only [Act.put, List.setIfInBounds_toArray, List.set_cons_zero, List.set_cons_succ]
  refine wpAnyH_take (i := 6) (oi := ⟨_, _, _, _, _, _⟩) (v := ?_) rfl (by kernel_rfl) (by kernel_rfl) (by kernel_rfl) (fun _ _ _ h => h) (Or.inl ⟨by rfl, ?_⟩) (by assumption) ?_
  rotate_left
  · intro w hSw; (try dsimp only at hSw); go_simp; (try (with_reducible rfl))
  try simp only [Act.put, List.setIfInBounds_toArray, List.set_cons_zero, List.set_cons_succ]
  have z0 := q2.cell 0
  have z1 := q2.cell 1
  simp only [List.getElem?_cons_zero, List.getElem?_cons_succ] at z0 z1
  have f0 := q2.frozen 0
  have f1 := q2.frozen 1
  have P3 := (p2.other (show w.heap.size ≠ w.heap.size + 1 by omega) 0 (.string x)).other (show w.heap.size ≠ w.heap.size + 1 by omega) 1 (.string d)
  have Q3 := (q2.set_ 0 (.string x)).set_ 1 (.string d)
  have B3 := (b2.setCell (p := ⟨w.heap.size + 1, 0, none⟩) (by show w.heap.size ≤ w.heap.size + 1; omega) (.string x)).setCell (p := ⟨w.heap.size + 1, 1, none⟩) (by show w.heap.size ≤ w.heap.size + 1; omega) (.string d)
  have e1 := P3.cell 0
  have e2 := P3.cell 1
  have r1 := Q3.cell 0
  have r2 := Q3.cell 1
  simp only [List.set_cons_zero, List.set_cons_succ, List.getElem?_cons_zero, List.getElem?_cons_succ] at e1 e2 r1 r2
  refine wpAnyH_ready (rs := [7]) (by kernel_rfl) (by simp) ?_
  refine AllReadyH.cons (o := ⟨_, _, _, _, _, _⟩) rfl (fun K hK => ?_) AllReadyH.nil
  go_simp
  generalize (w2.setCell ⟨w.heap.size + 1, 0, none⟩ (.string x)).setCell ⟨w.heap.size + 1, 1, none⟩ (.string d) = w3 at *
  refine hK.out _ _ ⟨e1, e2⟩ (fun hHeld => ?_)
  clear hK K
  try simp only [Act.put, List.setIfInBounds_toArray, List.set_cons_zero, List.set_cons_succ]
  refine wpAnyH_done (by kernel_rfl) ?_ _
  clear hHeld P3 Q3 p2 q2 p1 q1 p0 q0
  go_wp2
  refine bodyPost_ret (v := .agg #[.string x, .string d]) (by simp [results, Tryd.results63, go_sem, r1, r2]) rfl ⟨rfl, B3⟩

theorem make_files (n : Nat) (hn : n ≤ 1000000) (w : World) : (Instr.makeSlice 22 (.int .i64 (n : Int)) (.int .i64 (n : Int))).run Tryd.prog w = .ok (.slice (some ⟨w.heap.size, 0, none⟩) n n) (w.alloc (.cells (List.replicate (n * 2) zS).toArray 46)) := by
  obtain ⟨i, hi, hz0, hz1, hz2⟩ := info_parts Tryd.infoF
  have h := run_make (P := Tryd.prog) w 22 46 i _ Tryd.underlying22 hi hz0 .i64 .i64 n n (by omega) (Int.le_refl _) (by rw [hz2]; omega) (by omega)
  rw [h, hz1, Int.toNat_natCast, ← made_two]
  rfl

set_option maxHeartbeats 1000000 in
theorem copied_any {w : World} {A : Option Addr} {n c : Nat} {fs : List Fil} (h : Ft w A n c fs) (hn : n ≤ 1000000) :
    Calls Tryd.prog 61 #[.slice A n c] w fun e w' => e = .returned (.slice (some ⟨w.heap.size, 0, none⟩) n n) ∧ Blk w' w.heap.size (filV fs) 46 ∧ Below w.heap.size w w' := by
  have hmk := make_files n hn
  have HL := hid h.len
  have HS := hid h.sz
  have hr := h.rd
  clear h
  go_enter Tryd.func61, Tryd.ntmps61
  go_upto_region 3 with (fail)
  go_loopw [11] (fun i wr => ∃ j : Nat, j ≤ n ∧ i = .int .i64 j ∧ Blk wr w.heap.size (fill (filV fs) zS (j * 2)) 46 ∧ Below w.heap.size w wr) (fun i _ => n - (intOf i).toNat)
  case atStart =>
    refine ⟨0, by omega, rfl, ?_, (Below.refl _ _).alloc (Nat.le_refl _) _⟩
    have := Blk.new w (List.replicate (n * 2) zS) 46
    rw [Nat.zero_mul, fill_zero, filV_length, HL.out]
    simpa using this
  case round =>
    obtain ⟨j, hj, rfl, hblk, hb⟩ := hrel
    by_cases hjn : j < n
    · have hjl : j < fs.length := by rw [HL.out]; exact hjn
      have hr1 := hr.below hb
      obtain ⟨b, off, rfl, h1, h2, -⟩ := hr1.fil hjl
      have hz : (0 : Int) ≤ j := by omega
      have hlt : (j : Int) < n := by omega
      have HX0 := hid (filV_at0 fs j hjl)
      have HX1 := hid (filV_at1 fs j hjl)
      have hsz := HS.out fs[j] (List.getElem_mem hjl)
      have hll := filV_length fs
      clear hr1
      go_upto_region 5 with (fail)
      have hblk2 := hblk.below ((Below.refl _ _).alloc (Nat.le_refl _) (.cells #[.string fs[j].1, .string fs[j].2] 46))
      have hb2 := hb.alloc hb.size (.cells #[.string fs[j].1, .string fs[j].2] 46)
      have k := Blk.new wr [.string fs[j].1, .string fs[j].2] 46
      have k1 := k.cell 0
      have k2 := k.cell 1
      simp only [List.getElem?_cons_zero, List.getElem?_cons_succ] at k1 k2
      clear k hblk hb h1 h2
      generalize fs[j] = f at *
      obtain ⟨x, d⟩ := f
      simp only at hsz k1 k2 HX0 HX1
      generalize wr.alloc (.cells #[.string x, .string d] 46) = wa at *
      generalize wr.heap.size = g at *
      go_wp2_with fail
      refine (anew_any x d _ (by omega) (by omega)).mono ?_
      rintro e w1 ⟨rfl, hb1⟩
      have hblk3 := hblk2.below hb1
      have hb3 := hb2.trans (hb1.mono hb2.size)
      have c0 := hblk3.cell (j * 2)
      have c1 := hblk3.cell (j * 2 + 1)
      have f0 := hblk3.frozen (j * 2)
      have f1 := hblk3.frozen (j * 2 + 1)
      have hblk4 := (hblk3.set_ (j * 2) (.string x)).set_ (j * 2 + 1) (.string d)
      rw [fill_set _ _ _ _ HX0.out, fill_set _ _ _ _ HX1.out] at hblk4
      rw [fill_at _ _ _ (by omega)] at c0
      rw [fill, List.getElem?_append_right (by rw [List.length_take]; omega), List.length_take, List.getElem?_replicate, if_pos (by omega)] at c1
      have hb4 := (hb3.setCell (p := ⟨w.heap.size, j * 2, none⟩) (Nat.le_refl _) (.string x)).setCell (p := ⟨w.heap.size, j * 2 + 1, none⟩) (Nat.le_refl _) (.string d)
      clear hblk2 hb1 hb2 hblk3 k1 k2
      go_wp2
      go_roundw
      case rel => exact ⟨j + 1, by omega, by go_num, by rw [show (j + 1) * 2 = j * 2 + 1 + 1 by omega]; exact hblk4, hb4⟩
      case measure => simp [intOf]; omega
    · have HE := hid (show j = n by omega)
      have hnlt : ¬ (j : Int) < n := by omega
      go_wp2
      go_ret
      refine ⟨rfl, ?_, hb⟩
      have := fill_all (filV fs) zS
      rw [filV_length, HL.out] at this
      rw [HE.out, this] at hblk
      exact hblk
end Go.Proofs.YtaidggjnpnfdhaaDoor
namespace Go.Proofs.YtaidggjnpnfdhaaDoor
open Go.RowKit

theorem copy_blk' {w : World} {g o dLen dCap : Nat} {cs : List Value} (hB : Blk w g cs 46) (a : Addr) (sLen sCap : Nat) (news : List Value) (hl : news.length = Nat.min sLen dLen * 2) (hfit : o + news.length ≤ cs.length)
    (hsrc : ∀ j v, news[j]? = some v → w.cell? (a.add j) = some v) (h1 : ∀ v ∈ news, v.oneCell' = true) :
    ∃ v w', Hid (∀ ty, (Builtin.copy_ #[22, 22] ty #[.slice (some ⟨g, o, none⟩) dLen dCap, .slice (some a) sLen sCap]).run Tryd.prog w = .ok v w') ∧
      Blk w' g (cs.take o ++ news ++ cs.drop (o + news.length)) 46 ∧ (∀ k cs', k ≠ g → Blk w k cs' 46 → Blk w' k cs' 46) ∧ ∀ B w0, B ≤ g → Below B w0 w → Below B w0 w' :=
  ⟨_, _, fun ty => copy_blk hB ty a sLen sCap news hl hfit hsrc h1, hB.row, fun _ _ hne hk => hk.rowOther hne _, fun _ _ hBg hb => below_setRow hb hBg _⟩

/-- Where a new slice of files lies: a block of the call's own, known whole. -/
def NewF (w : World) (n : Nat) (fs : List Fil) (e : Ending) (w' : World) : Prop :=
  ∃ g c rest, e = .returned (.slice (some ⟨g, 0, none⟩) n c) ∧ w.heap.size ≤ g ∧ n ≤ c ∧ c ≤ maxLen ∧ Blk w' g (filV fs ++ rest) 46 ∧ Below w.heap.size w w'

theorem app_end' {w : World} {g n : Nat} {fs : List Fil} (hB : Blk w g (filV fs) 46) (hl : fs.length = n) (hn : n ≤ 1000) (ty : TypeId) (k : Nat) (a b : Value) (hk : Blk w k [a, b] 46) (ha : a.oneCell' = true) (hb : b.oneCell' = true) :
    ∃ c' w', n + 1 ≤ c' ∧ c' ≤ maxLen ∧ Hid ((Builtin.append_ #[22, 22] ty #[.slice (some ⟨g, 0, none⟩) n n, .slice (some ⟨k, 0, none⟩) 1 1]).run Tryd.prog w = .ok (.slice (some ⟨w.heap.size, 0, none⟩) (n + 1) c') w') ∧
      Blk w' w.heap.size (filV fs ++ [a, b] ++ List.replicate ((c' - (n + 1)) * 2) zS) 46 ∧ Below w.heap.size w w' := by
  obtain ⟨c', h1, h2, h3⟩ := app_end hB hl hn ty k a b hk ha hb
  exact ⟨c', _, h1, h2, h3, Blk.new w.drew _ _, (Below.refl _ _).drew.alloc (Nat.le_refl _) _⟩
theorem app_zeros' {w : World} {g n i : Nat} {fs : List Fil} (hB : Blk w g (filV fs) 46) (hl : fs.length = n) (hn : n ≤ 1000) (hi : i < n) (ty : TypeId) :
    ∃ c' w', n + 1 ≤ c' ∧ c' ≤ maxLen ∧ Hid ((Builtin.append_ #[22, 3] ty #[.slice (some ⟨g, 0, none⟩) i n, .int .i64 ((n : Int) + 1 - i)]).run Tryd.prog w = .ok (.slice (some ⟨w.heap.size, 0, none⟩) (n + 1) c') w') ∧
      Blk w' w.heap.size (filV (fs.take i) ++ List.replicate ((c' - i) * 2) zS) 46 ∧ Below w.heap.size w w' := by
  obtain ⟨c', h1, h2, h3⟩ := app_zeros hB hl hn hi ty _ rfl
  exact ⟨c', _, h1, h2, h3, Blk.new w.drew _ _, (Below.refl _ _).drew.alloc (Nat.le_refl _) _⟩

set_option maxHeartbeats 2000000 in
set_option maxRecDepth 20000 in
theorem insert_any {w : World} {g k n i : Nat} {fs : List Fil} (hB : Blk w g (filV fs) 46) (hK : Blk w k [zS, zS] 46) (hl : fs.length = n) (hn : n ≤ 1000) (hi : i ≤ n) :
    Calls Tryd.prog 62 #[.slice (some ⟨g, 0, none⟩) n n, .int .i64 i, .slice (some ⟨k, 0, none⟩) 1 1] w (NewF w (n + 1) (fs.take i ++ (⟨#[]⟩, ⟨#[]⟩) :: fs.drop i)) := by
  have hz0 : (0 : Int) ≤ i := by omega
  have hzn : (i : Int) ≤ n := by omega
  by_cases hin : i = n
  · subst hin
    obtain ⟨c', w1, hc1, hc2, HR, hb1, hw1⟩ := app_end' hB hl hn 22 k zS zS hK rfl rfl
    go_enter Tryd.func62, Tryd.ntmps62
    go_wp2_with (at_builtin; refine Lib.wpList_append_run _ rfl _ _ _ _ rfl _ _ rfl rfl _ _ HR.out ?_)
    go_wp2
    go_ret
    refine ⟨w.heap.size, c', List.replicate ((c' - (i + 1)) * 2) zS, rfl, Nat.le_refl _, hc1, hc2, ?_, hw1⟩
    rw [List.take_of_length_le (by omega), List.drop_of_length_le (by omega), filV_append]
    exact hb1
  · have hin' : i < n := by omega
    have hne : ¬ (i : Int) = n := by omega
    obtain ⟨c', w1, hc1, hc2, HR, hb1, hw1⟩ := app_zeros' hB hl hn hin' 22
    have hlc : (n : Int) < (n : Int) + 1 := by omega
    have hnn : ¬ n = i := by omega
    have hB1 := hB.below hw1
    have hK1 := hK.below hw1
    have hci : ¬ c' = i := by omega
    have hci1 : ¬ c' = i + 1 := by omega
    go_enter Tryd.func62, Tryd.ntmps62
    go_upto_region 9 with (fail)
    go_upto_region 10 with (at_builtin; refine Lib.wpList_append_run _ rfl _ _ _ _ rfl _ _ rfl rfl _ _ HR.out ?_)
    obtain ⟨v2, w2, HR2, hb2, ho2, hw2⟩ := copy_blk' (o := i * 2) (dLen := n + 1 - i) (dCap := c' - i) hb1 ⟨k, 0, none⟩ 1 1 [zS, zS] (by rw [show Nat.min 1 (n + 1 - i) = 1 from Nat.min_eq_left (by omega)]; rfl) (by rw [List.length_append, filV_length, List.length_take, List.length_replicate]; simp; omega) (hK1.read 0 _ (fun j u hu => by rw [Nat.zero_add]; exact hu)) (by simp; rfl)
    have hgw : g < w.heap.size := hB.lt
    have hB2 := ho2 g _ (by omega) hB1
    have hw2' := hw2 _ _ (Nat.le_refl _) hw1
    have e2 : (filV (fs.take i) ++ List.replicate ((c' - i) * 2) zS).take (i * 2) = filV (fs.take i) := List.take_left' (by rw [filV_length, List.length_take]; omega)
    rw [e2] at hb2
    have hlen2 : (filV (fs.take i) ++ [zS, zS] ++ (filV (fs.take i) ++ List.replicate ((c' - i) * 2) zS).drop (i * 2 + [zS, zS].length)).length = c' * 2 := by
      simp only [List.length_append, List.length_drop, filV_length, List.length_take, List.length_replicate, List.length_cons, List.length_nil]
      omega
    generalize (filV (fs.take i) ++ List.replicate ((c' - i) * 2) zS).drop (i * 2 + [zS, zS].length) = r2 at *
    obtain ⟨v3, w3, HR3, hb3, ho3, hw3⟩ := copy_blk' (o := (i + 1) * 2) (dLen := n - i) (dCap := c' - (i + 1)) hb2.drew ⟨g, i * 2, none⟩ (n - i) (n - i) (filV (fs.drop i)) (by rw [filV_length, List.length_drop, hl]; simp) (by rw [hlen2, filV_length, List.length_drop]; omega) (hB2.drew.read (i * 2) _ (fun j u hu => by rw [filV_drop, List.getElem?_drop] at hu; exact hu)) (filV_one _)
    have hw3' := hw3 _ _ (Nat.le_refl _) hw2'.drew
    have e3 : (filV (fs.take i) ++ [zS, zS] ++ r2).take ((i + 1) * 2) = filV (fs.take i) ++ [zS, zS] := List.take_left' (by rw [List.length_append, filV_length, List.length_take]; simp; omega)
    rw [e3] at hb3
    generalize (filV (fs.take i) ++ [zS, zS] ++ r2).drop ((i + 1) * 2 + (filV (fs.drop i)).length) = r3 at *
    have HB3 := hid hb3
    clear hb1 hb2 hb3 hB1 hK1 hB2 ho2 ho3 hw2 hw3 e2 e3 hlen2 hB hK hw1 hw2' HR
    have hrun2 := HR2.out 3
    have hrun3 := HR3.out 3
    go_upto_region 11 with (fail)
    have hi0 : (0 : Int) ≤ (i : Int) + 1 := by omega
    have hi1 : (i : Int) + 1 ≤ (n : Int) + 1 := by omega
    have hwr : IntKind.i64.wrap ((i : Int) + 1) = (i : Int) + 1 := by rw [IntKind.wrap_i64]; omega
    refine wp_region_held_drew (S := fun _ => True) (by kernel_rfl) trivial (fun hHeld => ?_)
    refine wpAnyH_take (i := 0) (oi := ⟨_, _, _, _, _, _⟩) (v := ?_) rfl (by kernel_rfl) (by kernel_rfl) (by kernel_rfl) (fun _ _ _ h => h) (Or.inl ⟨by rfl, ?_⟩) (by assumption) ?_
    rotate_left
    · intro w hSw; (try dsimp only at hSw); go_simp; (try (with_reducible rfl))
    try simp only [Act.put, List.setIfInBounds_toArray, List.set_cons_zero, List.set_cons_succ]
    refine wpAnyH_take (i := 1) (oi := ⟨_, _, _, _, _, _⟩) (v := ?_) rfl (by kernel_rfl) (by kernel_rfl) (by kernel_rfl) (fun _ _ _ h => h) (Or.inl ⟨by rfl, ?_⟩) (by assumption) ?_
    rotate_left
    · intro w hSw; (try dsimp only at hSw); go_simp; (try (with_reducible rfl))
    try simp only [Act.put, List.setIfInBounds_toArray, List.set_cons_zero, List.set_cons_succ]
    refine wpAnyH_take (i := 2) (oi := ⟨_, _, _, _, _, _⟩) (v := ?_) rfl (by kernel_rfl) (by kernel_rfl) (by kernel_rfl) (fun _ _ _ h => h) (Or.inl ⟨by rfl, ?_⟩) (by assumption) ?_
    rotate_left
    · intro w hSw; (try dsimp only at hSw); go_simp; (try (with_reducible rfl))
    try simp only [Act.put, List.setIfInBounds_toArray, List.set_cons_zero, List.set_cons_succ]
    refine wpAnyH_take (i := 3) (oi := ⟨_, _, _, _, _, _⟩) (v := ?_) rfl (by kernel_rfl) (by kernel_rfl) (by kernel_rfl) (fun _ _ _ h => h) (Or.inl ⟨by rfl, ?_⟩) (by assumption) ?_
    rotate_left
    · intro w hSw; (try dsimp only at hSw); go_simp; (try (with_reducible rfl))
    try simp only [Act.put, List.setIfInBounds_toArray, List.set_cons_zero, List.set_cons_succ]
    refine wpAnyH_take (i := 4) (oi := ⟨_, _, _, _, _, _⟩) (v := ?_) rfl (by kernel_rfl) (by kernel_rfl) (by kernel_rfl) (fun _ _ _ h => h) (Or.inl ⟨by rfl, ?_⟩) (by assumption) ?_
    rotate_left
    · intro w hSw; (try dsimp only at hSw); go_simp; (try (with_reducible rfl))
    try simp only [Act.put, List.setIfInBounds_toArray, List.set_cons_zero, List.set_cons_succ]
    refine wpAnyH_take (i := 5) (oi := ⟨_, _, _, _, _, _⟩) (v := ?_) rfl (by kernel_rfl) (by kernel_rfl) (by kernel_rfl) (fun _ _ _ h => h) (Or.inl ⟨by rfl, ?_⟩) (by assumption) ?_
    rotate_left
    · intro w hSw; (try dsimp only at hSw); go_simp; (try (with_reducible rfl))
    try simp only [Act.put, List.setIfInBounds_toArray, List.set_cons_zero, List.set_cons_succ]
    refine wpAnyH_take (i := 6) (oi := ⟨_, _, _, _, _, _⟩) (v := ?_) rfl (by kernel_rfl) (by kernel_rfl) (by kernel_rfl) (fun _ _ _ h => h) (Or.inl ⟨by rfl, ?_⟩) (by assumption) ?_
    rotate_left
    · intro w hSw; (try dsimp only at hSw); go_simp; (try (with_reducible rfl))
    try simp only [Act.put, List.setIfInBounds_toArray, List.set_cons_zero, List.set_cons_succ]
    refine wpAnyH_take (i := 7) (oi := ⟨_, _, _, _, _, _⟩) (v := ?_) rfl (by kernel_rfl) (by kernel_rfl) (by kernel_rfl) (fun _ _ _ h => h) (Or.inl ⟨by rfl, ?_⟩) (by assumption) ?_
    rotate_left
    · intro w hSw; (try dsimp only at hSw); go_simp; (try (with_reducible rfl))
    try simp only [Act.put, List.setIfInBounds_toArray, List.set_cons_zero, List.set_cons_succ]
    refine wpAnyH_ready (rs := [8]) (by kernel_rfl) (by simp) ?_
    refine AllReadyH.cons (o := ⟨_, _, _, _, _, _⟩) rfl (fun K hK => ?_) AllReadyH.nil
    go_simp
    refine hK.out _ _ trivial (fun hHeld => ?_)
    clear hK K
    try simp only [Act.put, List.setIfInBounds_toArray, List.set_cons_zero, List.set_cons_succ]
    refine wpAnyH_done (by kernel_rfl) ?_ _
    go_wp2
    go_ret
    refine ⟨w.heap.size, c', r3, rfl, Nat.le_refl _, hc1, hc2, ?_, hw3'⟩
    rw [filV_append, filV_cons]
    have := HB3.out
    simpa using this


theorem app_room' {w : World} {g : Nat} {cs : List Value} (hB : Blk w g cs 46) (sLen sCap : Nat) (a : Addr) (m d : Nat) (news : List Value) (hl : news.length = m * 2) (hroom : sLen + m ≤ sCap) (hfit : sLen * 2 + news.length ≤ cs.length)
    (hsrc : ∀ j v, news[j]? = some v → w.cell? (a.add j) = some v) (h1 : ∀ v ∈ news, v.oneCell' = true) :
    ∃ w', Hid (∀ ty, (Builtin.append_ #[22, 22] ty #[.slice (some ⟨g, 0, none⟩) sLen sCap, .slice (some a) m d]).run Tryd.prog w = .ok (.slice (some ⟨g, 0, none⟩) (sLen + m) sCap) w') ∧
      Blk w' g (cs.take (sLen * 2) ++ news ++ cs.drop (sLen * 2 + news.length)) 46 ∧ ∀ B w0, B ≤ g → Below B w0 w → Below B w0 w' :=
  ⟨_, fun ty => app_room hB ty sLen sCap a m d news hl hroom hfit hsrc h1, hB.row, fun _ _ hBg hb => below_setRow hb hBg _⟩
theorem clear_one' {w : World} {g : Nat} {cs : List Value} (hB : Blk w g cs 46) (o c : Nat) (hfit : o + 2 ≤ cs.length) :
    ∃ w', Hid (∀ ty, (Builtin.clear_ #[22] ty #[.slice (some ⟨g, o, none⟩) 1 c]).run Tryd.prog w = .ok (.tuple #[]) w') ∧
      Blk w' g (cs.take o ++ [zS, zS] ++ cs.drop (o + 2)) 46 ∧ ∀ B w0, B ≤ g → Below B w0 w → Below B w0 w' :=
  ⟨_, fun ty => clear_one hB ty o c hfit, hB.row, fun _ _ hBg hb => below_setRow hb hBg _⟩

set_option maxHeartbeats 2000000 in
set_option maxRecDepth 20000 in
theorem delete_any {w : World} {g m k : Nat} {fs : List Fil} (hB : Blk w g (filV fs) 46) (hl : fs.length = m + 1) (hn : m ≤ 1000) (hk : k ≤ m) :
    Calls Tryd.prog 64 #[.slice (some ⟨g, 0, none⟩) (m + 1) (m + 1), .int .i64 k, .int .i64 ((k : Int) + 1)] w fun e w' =>
      e = .returned (.slice (some ⟨g, 0, none⟩) m (m + 1)) ∧ (∃ rest, Blk w' g (filV (fs.take k ++ fs.drop (k + 1)) ++ rest) 46) ∧ ∀ B w0, B ≤ g → Below B w0 w → Below B w0 w' := by
  have hz0 : (0 : Int) ≤ k := by omega
  have hz1 : (0 : Int) ≤ (k : Int) + 1 := by omega
  have hzm : (k : Int) ≤ (m : Int) + 1 := by omega
  have hzm1 : (k : Int) + 1 ≤ (m : Int) + 1 := by omega
  have hwr : IntKind.i64.wrap ((k : Int) + 1) = (k : Int) + 1 := by rw [IntKind.wrap_i64]; omega
  have hne : ¬ (k : Int) = (k : Int) + 1 := by omega
  have hnk : ¬ m + 1 = k := by omega
  have hll : (filV fs).length = (m + 1) * 2 := by rw [filV_length, hl]
  have key : ∀ (a : Addr) (hx : ∀ j v, (filV (fs.drop (k + 1)))[j]? = some v → w.drew.cell? (a.add j) = some v), ∃ w1 w2, Hid (∀ ty d, (Builtin.append_ #[22, 22] ty #[.slice (some ⟨g, 0, none⟩) k (m + 1), .slice (some a) (m - k) d]).run Tryd.prog w.drew = .ok (.slice (some ⟨g, 0, none⟩) m (m + 1)) w1) ∧
      Hid (∀ ty c, (Builtin.clear_ #[22] ty #[.slice (some ⟨g, m * 2, none⟩) 1 c]).run Tryd.prog w1 = .ok (.tuple #[]) w2) ∧ (∃ rest, Blk w2 g (filV (fs.take k ++ fs.drop (k + 1)) ++ rest) 46) ∧ ∀ B w0, B ≤ g → Below B w0 w → Below B w0 w2 := by
    intro a hx
    have hdl : (filV (fs.drop (k + 1))).length = (m - k) * 2 := by rw [filV_length, List.length_drop, hl]; congr 1; omega
    have h1 := fun ty d => app_room hB.drew ty k (m + 1) a (m - k) d (filV (fs.drop (k + 1))) hdl (by omega) (by rw [hdl, hll]; omega) hx (filV_one _)
    rw [show k + (m - k) = m by omega] at h1
    have e1 : (filV fs).take (k * 2) ++ filV (fs.drop (k + 1)) = filV (fs.take k ++ fs.drop (k + 1)) := by rw [filV_append, filV_take]
    rw [e1] at h1
    have hb1 : Blk (w.drew.setRow g (filV (fs.take k ++ fs.drop (k + 1)) ++ (filV fs).drop (k * 2 + (filV (fs.drop (k + 1))).length)).toArray) g (filV (fs.take k ++ fs.drop (k + 1)) ++ (filV fs).drop (k * 2 + (filV (fs.drop (k + 1))).length)) 46 := hB.drew.row
    have hpl : (filV (fs.take k ++ fs.drop (k + 1))).length = m * 2 := by rw [filV_length, List.length_append, List.length_take, List.length_drop, hl]; congr 1; omega
    have h2 := fun ty c => clear_one hb1 ty (m * 2) c (by rw [List.length_append, hpl, List.length_drop, hll, hdl]; omega)
    refine ⟨_, _, h1, h2, ⟨[zS, zS] ++ (filV (fs.take k ++ fs.drop (k + 1)) ++ (filV fs).drop (k * 2 + (filV (fs.drop (k + 1))).length)).drop (m * 2 + 2), ?_⟩, fun B w0 hBg hb => below_setRow (below_setRow hb.drew hBg _) hBg _⟩
    have hr := Blk.row (cs' := (filV (fs.take k ++ fs.drop (k + 1)) ++ (filV fs).drop (k * 2 + (filV (fs.drop (k + 1))).length)).take (m * 2) ++ [zS, zS] ++ (filV (fs.take k ++ fs.drop (k + 1)) ++ (filV fs).drop (k * 2 + (filV (fs.drop (k + 1))).length)).drop (m * 2 + 2)) hb1
    have e2 : (filV (fs.take k ++ fs.drop (k + 1)) ++ (filV fs).drop (k * 2 + (filV (fs.drop (k + 1))).length)).take (m * 2) = filV (fs.take k ++ fs.drop (k + 1)) := List.take_left' hpl
    rw [← List.append_assoc]
    rw [e2] at hr ⊢
    exact hr
  by_cases hkm : k = m
  · have hcap : m + 1 = k + 1 := by omega
    obtain ⟨w1, w2, HR1, HR2, hb2, hw2⟩ := key ⟨g, 0, none⟩ (by rw [List.drop_of_length_le (by omega)]; simp [filV])
    subst hkm
    rw [Nat.sub_self] at HR1
    have hrun2 := HR2.out
    have HB2 := hid hb2
    have HW2 := hid hw2
    have hmz : (k : Int) ≤ (k : Int) + 1 := by omega
    have hm0 : (0 : Int) ≤ k := by omega
    clear key HR2 hb2 hw2 hB
    go_enter Tryd.func64, Tryd.ntmps64
    go_upto_region 5 with (fail)
    refine wp_region_held_drew (S := fun _ => True) (by kernel_rfl) trivial (fun hHeld => ?_)
    refine wpAnyH_take (i := 0) (oi := ⟨_, _, _, _, _, _⟩) (v := ?_) rfl (by kernel_rfl) (by kernel_rfl) (by kernel_rfl) (fun _ _ _ h => h) (Or.inl ⟨by rfl, ?_⟩) (by assumption) ?_
    rotate_left
    · intro w hSw; (try dsimp only at hSw); go_simp; (try (with_reducible rfl))
    try simp only [Act.put, List.setIfInBounds_toArray, List.set_cons_zero, List.set_cons_succ]
    refine wpAnyH_take (i := 1) (oi := ⟨_, _, _, _, _, _⟩) (v := ?_) rfl (by kernel_rfl) (by kernel_rfl) (by kernel_rfl) (fun _ _ _ h => h) (Or.inl ⟨by rfl, ?_⟩) (by assumption) ?_
    rotate_left
    · intro w hSw; (try dsimp only at hSw); go_simp; (try (with_reducible rfl))
    try simp only [Act.put, List.setIfInBounds_toArray, List.set_cons_zero, List.set_cons_succ]
    refine wpAnyH_take (i := 2) (oi := ⟨_, _, _, _, _, _⟩) (v := ?_) rfl (by kernel_rfl) (by kernel_rfl) (by kernel_rfl) (fun _ _ _ h => h) (Or.inl ⟨by rfl, ?_⟩) (by assumption) ?_
    rotate_left
    · intro w hSw; (try dsimp only at hSw); go_simp; (try (with_reducible rfl))
    try simp only [Act.put, List.setIfInBounds_toArray, List.set_cons_zero, List.set_cons_succ]
    refine wpAnyH_take (i := 3) (oi := ⟨_, _, _, _, _, _⟩) (v := ?_) rfl (by kernel_rfl) (by kernel_rfl) (by kernel_rfl) (fun _ _ _ h => h) (Or.inl ⟨by rfl, ?_⟩) (by assumption) ?_
    rotate_left
    · intro w hSw; (try dsimp only at hSw); go_simp; (try (with_reducible rfl))
    try simp only [Act.put, List.setIfInBounds_toArray, List.set_cons_zero, List.set_cons_succ]
    refine wpAnyH_take (i := 4) (oi := ⟨_, _, _, _, _, _⟩) (v := ?_) rfl (by kernel_rfl) (by kernel_rfl) (by kernel_rfl) (fun _ _ _ h => h) (Or.inl ⟨by rfl, ?_⟩) (by assumption) ?_
    rotate_left
    · intro w hSw; (try dsimp only at hSw); go_simp; (try (with_reducible rfl))
    try simp only [Act.put, List.setIfInBounds_toArray, List.set_cons_zero, List.set_cons_succ]
    refine wpAnyH_take (i := 5) (oi := ⟨_, _, _, _, _, _⟩) (v := ?_) rfl (by kernel_rfl) (by kernel_rfl) (by kernel_rfl) (fun _ _ _ h => h) (Or.inl ⟨by rfl, ?_⟩) (by assumption) ?_
    rotate_left
    · intro w hSw; (try dsimp only at hSw); go_simp; (try (with_reducible rfl))
    try simp only [Act.put, List.setIfInBounds_toArray, List.set_cons_zero, List.set_cons_succ]
    refine wpAnyH_ready (rs := [6]) (by kernel_rfl) (by simp) ?_
    refine AllReadyH.cons (o := ⟨_, _, _, _, _, _⟩) rfl (fun K hK => ?_) (AllReadyH.nil)
    refine stepApp2 (by rfl) (.tmp 22) (.tmp 25) 22 rfl _ _ _ rfl rfl (HR1.out _ _) ?_
    try simp only [Act.put, List.setIfInBounds_toArray, List.set_cons_zero, List.set_cons_succ]
    refine hK.out _ _ trivial (fun hHeld => ?_)
    clear hK K
    try simp only [Act.put, List.setIfInBounds_toArray, List.set_cons_zero, List.set_cons_succ]
    refine wpAnyH_take (i := 7) (oi := ⟨_, _, _, _, _, _⟩) (v := ?_) rfl (by kernel_rfl) (by kernel_rfl) (by kernel_rfl) (fun _ _ _ h => h) (Or.inl ⟨by rfl, ?_⟩) (by assumption) ?_
    rotate_left
    · intro w hSw; (try dsimp only at hSw); go_simp; (try (with_reducible rfl))
    try simp only [Act.put, List.setIfInBounds_toArray, List.set_cons_zero]
    refine wpAnyH_done (by kernel_rfl) ?_ _
    go_wp2
    go_ret
    exact ⟨rfl, HB2.out, HW2.out⟩
  · have hcap : ¬ m + 1 = k + 1 := by omega
    have hkm' : ¬ m = k := by omega
    obtain ⟨w1, w2, HR1, HR2, hb2, hw2⟩ := key ⟨g, (k + 1) * 2, none⟩ (hB.drew.read _ _ (fun j u hu => by rw [filV_drop, List.getElem?_drop] at hu; exact hu))
    have hrun2 := HR2.out
    have HB2 := hid hb2
    have HW2 := hid hw2
    have hmz : (m : Int) ≤ (m : Int) + 1 := by omega
    have hm0 : (0 : Int) ≤ m := by omega
    clear key HR2 hb2 hw2 hB
    go_enter Tryd.func64, Tryd.ntmps64
    go_upto_region 5 with (fail)
    refine wp_region_held_drew (S := fun _ => True) (by kernel_rfl) trivial (fun hHeld => ?_)
    refine wpAnyH_take (i := 0) (oi := ⟨_, _, _, _, _, _⟩) (v := ?_) rfl (by kernel_rfl) (by kernel_rfl) (by kernel_rfl) (fun _ _ _ h => h) (Or.inl ⟨by rfl, ?_⟩) (by assumption) ?_
    rotate_left
    · intro w hSw; (try dsimp only at hSw); go_simp; (try (with_reducible rfl))
    try simp only [Act.put, List.setIfInBounds_toArray, List.set_cons_zero, List.set_cons_succ]
    refine wpAnyH_take (i := 1) (oi := ⟨_, _, _, _, _, _⟩) (v := ?_) rfl (by kernel_rfl) (by kernel_rfl) (by kernel_rfl) (fun _ _ _ h => h) (Or.inl ⟨by rfl, ?_⟩) (by assumption) ?_
    rotate_left
    · intro w hSw; (try dsimp only at hSw); go_simp; (try (with_reducible rfl))
    try simp only [Act.put, List.setIfInBounds_toArray, List.set_cons_zero, List.set_cons_succ]
    refine wpAnyH_take (i := 2) (oi := ⟨_, _, _, _, _, _⟩) (v := ?_) rfl (by kernel_rfl) (by kernel_rfl) (by kernel_rfl) (fun _ _ _ h => h) (Or.inl ⟨by rfl, ?_⟩) (by assumption) ?_
    rotate_left
    · intro w hSw; (try dsimp only at hSw); go_simp; (try (with_reducible rfl))
    try simp only [Act.put, List.setIfInBounds_toArray, List.set_cons_zero, List.set_cons_succ]
    refine wpAnyH_take (i := 3) (oi := ⟨_, _, _, _, _, _⟩) (v := ?_) rfl (by kernel_rfl) (by kernel_rfl) (by kernel_rfl) (fun _ _ _ h => h) (Or.inl ⟨by rfl, ?_⟩) (by assumption) ?_
    rotate_left
    · intro w hSw; (try dsimp only at hSw); go_simp; (try (with_reducible rfl))
    try simp only [Act.put, List.setIfInBounds_toArray, List.set_cons_zero, List.set_cons_succ]
    refine wpAnyH_take (i := 4) (oi := ⟨_, _, _, _, _, _⟩) (v := ?_) rfl (by kernel_rfl) (by kernel_rfl) (by kernel_rfl) (fun _ _ _ h => h) (Or.inl ⟨by rfl, ?_⟩) (by assumption) ?_
    rotate_left
    · intro w hSw; (try dsimp only at hSw); go_simp; (try (with_reducible rfl))
    try simp only [Act.put, List.setIfInBounds_toArray, List.set_cons_zero, List.set_cons_succ]
    refine wpAnyH_take (i := 5) (oi := ⟨_, _, _, _, _, _⟩) (v := ?_) rfl (by kernel_rfl) (by kernel_rfl) (by kernel_rfl) (fun _ _ _ h => h) (Or.inl ⟨by rfl, ?_⟩) (by assumption) ?_
    rotate_left
    · intro w hSw; (try dsimp only at hSw); go_simp; (try (with_reducible rfl))
    try simp only [Act.put, List.setIfInBounds_toArray, List.set_cons_zero, List.set_cons_succ]
    refine wpAnyH_ready (rs := [6]) (by kernel_rfl) (by simp) ?_
    refine AllReadyH.cons (o := ⟨_, _, _, _, _, _⟩) rfl (fun K hK => ?_) (AllReadyH.nil)
    refine stepApp2 (by rfl) (.tmp 22) (.tmp 25) 22 rfl _ _ _ rfl rfl (HR1.out _ _) ?_
    try simp only [Act.put, List.setIfInBounds_toArray, List.set_cons_zero, List.set_cons_succ]
    refine hK.out _ _ trivial (fun hHeld => ?_)
    clear hK K
    try simp only [Act.put, List.setIfInBounds_toArray, List.set_cons_zero, List.set_cons_succ]
    refine wpAnyH_take (i := 7) (oi := ⟨_, _, _, _, _, _⟩) (v := ?_) rfl (by kernel_rfl) (by kernel_rfl) (by kernel_rfl) (fun _ _ _ h => h) (Or.inl ⟨by rfl, ?_⟩) (by assumption) ?_
    rotate_left
    · intro w hSw; (try dsimp only at hSw); go_simp; (try (with_reducible rfl))
    try simp only [Act.put, List.setIfInBounds_toArray, List.set_cons_zero]
    refine wpAnyH_done (by kernel_rfl) ?_ _
    go_wp2
    go_ret
    exact ⟨rfl, HB2.out, HW2.out⟩
end Go.Proofs.YtaidggjnpnfdhaaDoor
namespace Go.Proofs.YtaidggjnpnfdhaaDoor
open Go.RowKit

/-- A slice of files in memory of the call's own. -/
def OwnF (base : Nat) (w : World) (A : Option Addr) (n c : Nat) (fs : List Fil) : Prop :=
  fs.length = n ∧ n ≤ c ∧ c ≤ 9223372036854775807 ∧ (fs = [] ∨ ∃ g rest, A = some ⟨g, 0, none⟩ ∧ base ≤ g ∧ Blk w g (filV fs ++ rest) 46)
theorem OwnF.rd {base : Nat} {w : World} {A : Option Addr} {n c : Nat} {fs : List Fil} (h : OwnF base w A n c fs) : Rd w A (filV fs) := by
  rcases h.2.2.2 with rfl | ⟨g, rest, rfl, _, hB⟩
  · exact .inl rfl
  · exact .inr ⟨_, rfl, hB.read 0 _ (fun j u hu => by rw [Nat.zero_add, List.getElem?_append_left (List.getElem?_eq_some_iff.1 hu).1]; exact hu)⟩
theorem OwnF.ft {base : Nat} {w : World} {A : Option Addr} {n c : Nat} {fs : List Fil} (h : OwnF base w A n c fs) (hn : n ≤ 140737488355328) (hs : ∀ f ∈ fs, f.1.size < 4294967281 ∧ f.2.size ≤ 140737488355328) : Ft w A n c fs := ⟨h.1, h.rd, h.2.1, hn, h.2.2.1, hs⟩
theorem OwnF.below {base : Nat} {w w' : World} {A : Option Addr} {n c : Nat} {fs : List Fil} (h : OwnF base w A n c fs) (hb : Below w.heap.size w w') : OwnF base w' A n c fs := by
  obtain ⟨h1, h2, h3, h4⟩ := h
  refine ⟨h1, h2, h3, ?_⟩
  rcases h4 with h4 | ⟨g, rest, ha, hg, hB⟩
  · exact .inl h4
  · exact .inr ⟨g, rest, ha, hg, hB.below hb⟩
theorem OwnF.nil (base : Nat) (w : World) : OwnF base w none 0 0 [] := ⟨rfl, Nat.le_refl _, by omega, .inl rfl⟩

/-- Files, and an error's number, were answered. -/
def OutF (w : World) (out : List Fil) (er : Nat) (e : Ending) (w' : World) : Prop :=
  ∃ A n c, e = .returned (.tuple #[.slice A n c, .int .i64 er]) ∧ OwnF w.heap.size w' A n c out ∧ Below w.heap.size w w'

theorem filV_put (a b : List Fil) (x : Fil) (p d : ByteArray) (r : List Value) (k : Nat) (hk : a.length = k) : ((filV (a ++ x :: b) ++ r).set (k * 2) (.string p)).set (k * 2 + 1) (.string d) = filV (a ++ (p, d) :: b) ++ r := by
  have hl : (filV a).length = k * 2 := by rw [filV_length, hk]
  rw [filV_append, filV_append, filV_cons, filV_cons, List.append_assoc, List.append_assoc, List.set_append_right _ _ (by omega), List.set_append_right _ _ (by omega), hl, Nat.sub_self, show k * 2 + 1 - k * 2 = 1 by omega]
  rfl
theorem filV_mid (a b : List Fil) (x : Fil) (r : List Value) (k : Nat) (hk : a.length = k) : (filV (a ++ x :: b) ++ r)[k * 2]? = some (.string x.1) ∧ (filV (a ++ x :: b) ++ r)[k * 2 + 1]? = some (.string x.2) := by
  have hl : (filV a).length = k * 2 := by rw [filV_length, hk]
  rw [filV_append, filV_cons, List.append_assoc]
  constructor
  · rw [List.getElem?_append_right (by omega), hl, Nat.sub_self]; rfl
  · rw [List.getElem?_append_right (by omega), hl, show k * 2 + 1 - k * 2 = 1 by omega]; rfl
theorem putE_arg {fs : List Fil} {p d : ByteArray} (h : treeR fs = false) : putE fs p d = 1 := by simp [putE, h]
theorem putE_name {fs : List Fil} {p d : ByteArray} (h : treeR fs = true) (h2 : rightL p.data.toList = false ∨ clashT fs p.data.toList = true) : putE fs p d = 6 := by
  rcases h2 with h2 | h2 <;> simp [putE, h, h2]
theorem putE_full {fs : List Fil} {p d : ByteArray} (h : treeR fs = true) (h2 : rightL p.data.toList = true) (h3 : clashT fs p.data.toList = false) (h4 : 600 < d.size ∨ (thereT fs p.data.toList = false ∧ fs.length = 16)) : putE fs p d = 2 := by
  rcases h4 with h4 | ⟨h4, h5⟩
  · simp [putE, h, h2, h3, h4]
  · simp [putE, h, h2, h3, h4, h5]
theorem putT_err {fs : List Fil} {p d : ByteArray} {e : Nat} (h : putE fs p d = e) (he : e ≠ 0) : putT fs p d = [] := by rw [putT, if_neg (by rw [h]; exact he)]
theorem putT_ok {fs : List Fil} {p d : ByteArray} (h : putE fs p d = 0) : putT fs p d = putL fs p d := by rw [putT, if_pos h]
theorem out_err {w w' : World} {out : List Fil} {er e : Nat} (h : er = e) (ho : out = []) (hb : Below w.heap.size w w') : OutF w out er (.returned (.tuple #[.slice none 0 0, .int .i64 (e : Int)])) w' := by
  subst h ho
  exact ⟨none, 0, 0, rfl, OwnF.nil _ _, hb⟩
theorem low_split {fs : List Fil} {p : List UInt8} (h : Srt fs) (ht : thereT fs p = false) : fs.take (lowT fs p).length = lowT fs p ∧ fs.drop (lowT fs p).length = highT fs p := by
  rcases split_tree p h with ⟨_, b⟩ | ⟨d, a, _⟩
  · generalize lowT fs p = l at *
    generalize highT fs p = r at *
    subst b
    simp
  · rw [ht] at a; cases a

set_option maxHeartbeats 2000000 in
theorem put_any {w : World} {A : Option Addr} {n c : Nat} {fs : List Fil} (h : Ft w A n c fs) (p d : ByteArray) (hp : p.size < 4294967281) (hd : d.size ≤ 140737488355328) :
    Calls Tryd.prog 44 #[.slice A n c, .string p, .string d] w (OutF w (putT fs p d) (putE fs p d)) := by
  go_enter Tryd.func44, Tryd.ntmps44
  go_wp2_with fail
  refine (tree_any h).mono ?_
  rintro e w1 ⟨rfl, hb1⟩
  cases hR : treeR fs
  · have HE := hid (putE_arg (p := p) (d := d) hR)
    clear hR
    go_wp2
    go_ret2
    exact out_err HE.out (putT_err HE.out (by decide)) hb1
  · have HR := hid hR
    have hT := (treeR_iff fs).1 hR
    have h1 := h.below hb1
    clear hR h
    go_wp2_with fail
    refine (right_any p _ hp).mono ?_
    rintro e w2 ⟨rfl, hb2⟩
    have h2 := h1.below hb2
    have b2 := below2 hb1 hb2
    clear h1 hb1 hb2
    cases hr : rightL p.data.toList
    · have HE := hid (putE_name (p := p) (d := d) HR.out (.inl hr))
      clear hr
      go_wp2
      go_ret2
      exact out_err HE.out (putT_err HE.out (by decide)) b2
    · have HP := hid hr
      clear hr
      go_wp2_with fail
      refine (clashes_any A n c fs p _ h2.len h2.rd h2.big h2.sz1 hp).mono ?_
      rintro e w3 ⟨rfl, hb3⟩
      have h3 := h2.below hb3
      have b3 := below2 b2 hb3
      clear h2 b2 hb3
      cases hc : clashT fs p.data.toList
      · have HC := hid hc
        clear hc
        go_wp2_with fail
        refine (place_any A n c fs p _ h3.len hT.srt h3.rd h3.big).mono ?_
        rintro e w4 ⟨rfl, hb4⟩
        have h4 := h3.below hb4
        have b4 := below2 b3 hb4
        clear h3 b3 hb4
        have hn16 : n ≤ 16 := by have := hT.few; have := h4.len; omega
        have HZ := hid (@putE_zero fs p d)
        have HF := hid (@putE_full fs p d)
        by_cases h600 : (600 : Int) < d.size
        · have HE := hid (HF.out HR.out HP.out HC.out (.inl (by omega)))
          clear HF HZ
          go_wp2
          go_ret2
          exact out_err HE.out (putT_err HE.out (by decide)) b4
        · have h6b : decide ((600 : Int) < d.size) = false := by simp; omega
          cases ht : thereT fs p.data.toList
          · have HT := hid ht
            clear ht
            by_cases h16 : (n : Int) = 16
            · have HE := hid (HF.out HR.out HP.out HC.out (.inr ⟨HT.out, by rw [h4.len]; omega⟩))
              clear HF HZ
              go_wp2
              go_ret2
              exact out_err HE.out (putT_err HE.out (by decide)) b4
            · have HE := hid (HZ.out.2 ⟨hT, HP.out, HC.out, by omega, .inr (by rw [h4.len]; omega)⟩)
              have h16b : ((n : Int) == 16) = false := by simp; omega
              obtain ⟨hlo, hhi⟩ := low_split hT.srt HT.out
              have hkl : (lowT fs p.data.toList).length ≤ n := by rw [← h4.len]; exact low_len _
              have HPL := hid (show putL fs p d = lowT fs p.data.toList ++ (p, d) :: highT fs p.data.toList from rfl)
              have HPN := hid (put_len hT.srt p d)
              rw [HT.out, h4.len] at HPN
              clear HF HZ
              generalize hkk : (lowT fs p.data.toList).length = k at *
              have HKK := hid hkk
              have HLO := hid hlo
              have HHI := hid hhi
              clear hkk hlo hhi
              have hz0 : (0 : Int) ≤ k := by omega
              have hzn : (k : Int) < (n : Int) + 1 := by omega
              go_wp2_with fail
              refine (copied_any h4 (by omega)).mono ?_
              rintro e w5 ⟨rfl, hB5, hb5⟩
              have b5 := below2 b4 hb5
              go_wp2_with fail
              have hK5 := Blk.new w5 [zS, zS] 46
              have hB5' := hB5.below ((Below.refl _ _).alloc (Nat.le_refl _) (.cells #[zS, zS] 46))
              have b5' := b5.alloc b5.size (.cells #[zS, zS] 46)
              clear hB5 b5 hb5
              generalize w5.alloc (.cells #[zS, zS] 46) = w5a at *
              generalize w5.heap.size = g5 at *
              have HLN := hid h4.len
              clear h4 b4
              refine (insert_any hB5' hK5 HLN.out (by omega) hkl).mono ?_
              rintro e w6 ⟨G, c6, rest, rfl, hG, hc6, hcm, hB6, hb6⟩
              rw [HLO.out, HHI.out] at hB6
              have b6 := b5'.trans (hb6.mono b5'.size)
              have hGw : w.heap.size ≤ G := by have := b5'.size; omega
              clear hB5' hK5 b5' hb6 hG
              go_wp2_with fail
              refine (anew_any p d _ (by omega) (by omega)).mono ?_
              rintro e w7 ⟨rfl, hb7⟩
              have hB7 := hB6.below hb7
              have b7 := b6.trans (hb7.mono b6.size)
              obtain ⟨m0, m1⟩ := filV_mid (lowT fs p.data.toList) (highT fs p.data.toList) (⟨#[]⟩, ⟨#[]⟩) rest k HKK.out
              have c0 := (hB7.cell (k * 2)).trans m0
              have c1 := (hB7.cell (k * 2 + 1)).trans m1
              have f0 := hB7.frozen (k * 2)
              have f1 := hB7.frozen (k * 2 + 1)
              have hB8 := (hB7.set_ (k * 2) (.string p)).set_ (k * 2 + 1) (.string d)
              rw [filV_put _ _ _ _ _ _ _ HKK.out] at hB8
              have b8 := (b7.setCell (p := ⟨G, k * 2, none⟩) hGw (.string p)).setCell (p := ⟨G, k * 2 + 1, none⟩) hGw (.string d)
              have HB8 := hid hB8
              have HW8 := hid b8
              clear m0 m1 hB6 b6 hb7 hB7 b7 hB8 b8
              go_wp2
              go_ret2
              refine ⟨some ⟨G, 0, none⟩, n + 1, c6, by rw [HE.out]; rfl, ?_, HW8.out⟩
              rw [putT_ok HE.out]
              refine ⟨HPN.out, hc6, hcm, .inr ⟨G, rest, rfl, hGw, ?_⟩⟩
              rw [HPL.out]
              exact HB8.out
          · have HT := hid ht
            clear ht
            have HE := hid (HZ.out.2 ⟨hT, HP.out, HC.out, by omega, .inl HT.out⟩)
            have HPL := hid (show putL fs p d = lowT fs p.data.toList ++ (p, d) :: highT fs p.data.toList from rfl)
            have HPN := hid (put_len hT.srt p d)
            rw [HT.out, h4.len] at HPN
            obtain ⟨d0, hfs⟩ : ∃ d0, fs = lowT fs p.data.toList ++ (mkS p.data.toList, d0) :: highT fs p.data.toList := by
              rcases split_tree p.data.toList hT.srt with ⟨a, _⟩ | ⟨d0, _, b⟩
              · rw [HT.out] at a; cases a
              · exact ⟨d0, b⟩
            have hkl : (lowT fs p.data.toList).length < n := by
              have := congrArg List.length hfs
              rw [h4.len, List.length_append, List.length_cons] at this
              omega
            clear HF HZ
            have HFS := hid (congrArg filV hfs)
            clear hfs
            generalize hkk : (lowT fs p.data.toList).length = k at *
            have HKK := hid hkk
            clear hkk
            have hz0 : (0 : Int) ≤ k := by omega
            have hzn : (k : Int) < n := by omega
            go_wp2_with fail
            refine (copied_any h4 (by omega)).mono ?_
            rintro e w5 ⟨rfl, hB5, hb5⟩
            have b5 := below2 b4 hb5
            rw [HFS.out, ← List.append_nil (filV _)] at hB5
            go_wp2_with fail
            refine (anew_any p d _ (by omega) (by omega)).mono ?_
            rintro e w7 ⟨rfl, hb7⟩
            have hB7 := hB5.below hb7
            have b7 := b5.trans (hb7.mono b5.size)
            have hGw : w.heap.size ≤ w4.heap.size := b4.size
            obtain ⟨m0, m1⟩ := filV_mid (lowT fs p.data.toList) (highT fs p.data.toList) (mkS p.data.toList, d0) [] k HKK.out
            have c0 := (hB7.cell (k * 2)).trans m0
            have c1 := (hB7.cell (k * 2 + 1)).trans m1
            have f0 := hB7.frozen (k * 2)
            have f1 := hB7.frozen (k * 2 + 1)
            have hB8 := (hB7.set_ (k * 2) (.string p)).set_ (k * 2 + 1) (.string d)
            rw [filV_put _ _ _ _ _ _ _ HKK.out] at hB8
            have b8 := (b7.setCell (p := ⟨w4.heap.size, k * 2, none⟩) hGw (.string p)).setCell (p := ⟨w4.heap.size, k * 2 + 1, none⟩) hGw (.string d)
            have HB8 := hid hB8
            have HW8 := hid b8
            clear m0 m1 hB5 b5 hb5 hb7 hB7 b7 hB8 b8 h4 b4
            go_wp2
            go_ret2
            refine ⟨some ⟨w4.heap.size, 0, none⟩, n, n, by rw [HE.out]; rfl, ?_, HW8.out⟩
            rw [putT_ok HE.out]
            refine ⟨HPN.out, Nat.le_refl _, by omega, .inr ⟨w4.heap.size, [], rfl, hGw, ?_⟩⟩
            rw [HPL.out]
            exact HB8.out
      · have HE := hid (putE_name (p := p) (d := d) HR.out (.inr hc))
        clear hc
        go_wp2
        go_ret2
        exact out_err HE.out (putT_err HE.out (by decide)) b3

theorem dropE_arg {fs : List Fil} {p : List UInt8} (h : treeR fs = false) : dropE fs p = 1 := by simp [dropE, h]
theorem dropE_none {fs : List Fil} {p : List UInt8} (h : treeR fs = true) (h2 : thereT fs p = false) : dropE fs p = 3 := by simp [dropE, h, h2]
theorem dropE_ok {fs : List Fil} {p : List UInt8} (h : treeR fs = true) (h2 : thereT fs p = true) : dropE fs p = 0 := by simp [dropE, h, h2]
theorem dropT_err {fs : List Fil} {p : List UInt8} {e : Nat} (h : dropE fs p = e) (he : e ≠ 0) : dropT fs p = [] := by rw [dropT, if_neg (by rw [h]; exact he)]
theorem dropT_ok {fs : List Fil} {p : List UInt8} (h : dropE fs p = 0) : dropT fs p = dropL fs p := by rw [dropT, if_pos h]

set_option maxHeartbeats 1000000 in
theorem drop_any {w : World} {A : Option Addr} {n c : Nat} {fs : List Fil} (h : Ft w A n c fs) (p : ByteArray) :
    Calls Tryd.prog 45 #[.slice A n c, .string p] w (OutF w (dropT fs p.data.toList) (dropE fs p.data.toList)) := by
  go_enter Tryd.func45, Tryd.ntmps45
  go_wp2_with fail
  refine (tree_any h).mono ?_
  rintro e w1 ⟨rfl, hb1⟩
  cases hR : treeR fs
  · have HE := hid (dropE_arg (p := p.data.toList) hR)
    clear hR
    go_wp2
    go_ret2
    exact out_err HE.out (dropT_err HE.out (by decide)) hb1
  · have HR := hid hR
    have hT := (treeR_iff fs).1 hR
    have h1 := h.below hb1
    clear hR h
    go_wp2_with fail
    refine (place_any A n c fs p _ h1.len hT.srt h1.rd h1.big).mono ?_
    rintro e w4 ⟨rfl, hb4⟩
    have h4 := h1.below hb4
    have b4 := below2 hb1 hb4
    clear h1 hb1 hb4
    have hn16 : n ≤ 16 := by have := hT.few; have := h4.len; omega
    cases ht : thereT fs p.data.toList
    · have HE := hid (dropE_none HR.out ht)
      clear ht
      go_wp2
      go_ret2
      exact out_err HE.out (dropT_err HE.out (by decide)) b4
    · have HE := hid (dropE_ok HR.out ht)
      have HPN := hid (drop_len hT.srt p.data.toList)
      rw [ht, h4.len] at HPN
      obtain ⟨d0, hfs⟩ : ∃ d0, fs = lowT fs p.data.toList ++ (mkS p.data.toList, d0) :: highT fs p.data.toList := by
        rcases split_tree p.data.toList hT.srt with ⟨a, _⟩ | ⟨d0, _, b⟩
        · rw [ht] at a; cases a
        · exact ⟨d0, b⟩
      have HDL := hid (show fs.take (lowT fs p.data.toList).length ++ fs.drop ((lowT fs p.data.toList).length + 1) = dropL fs p.data.toList by
        rw [dropL]
        generalize lowT fs p.data.toList = l at *
        generalize highT fs p.data.toList = r at *
        subst hfs
        rw [List.take_left, List.drop_append, List.drop_of_length_le (by omega), show l.length + 1 - l.length = 1 by omega]
        rfl)
      have hkl : (lowT fs p.data.toList).length < n := by
        have := congrArg List.length hfs
        rw [h4.len, List.length_append, List.length_cons] at this
        omega
      clear hfs ht
      generalize (lowT fs p.data.toList).length = k at *
      obtain ⟨m, rfl⟩ : ∃ m, n = m + 1 := ⟨n - 1, by omega⟩
      go_wp2_with fail
      refine (copied_any h4 (by omega)).mono ?_
      rintro e w5 ⟨rfl, hB5, hb5⟩
      have b5 := below2 b4 hb5
      have hGw : w.heap.size ≤ w4.heap.size := b4.size
      have HLN := hid h4.len
      clear h4 hb5 b4
      go_wp2_with fail
      refine (delete_any hB5 HLN.out (by omega) (by omega)).mono ?_
      rintro e w6 ⟨rfl, ⟨rest, hB6⟩, hb6⟩
      have b6 := hb6 _ _ hGw b5
      rw [HDL.out] at hB6
      clear hB5 b5 hb6
      go_wp2
      go_ret2
      refine ⟨some ⟨w4.heap.size, 0, none⟩, m, m + 1, by rw [HE.out]; rfl, ?_, b6⟩
      rw [dropT_ok HE.out]
      exact ⟨HPN.out, by omega, by omega, .inr ⟨w4.heap.size, rest, rfl, hGw, hB6⟩⟩
end Go.Proofs.YtaidggjnpnfdhaaDoor
namespace Go.Proofs.YtaidggjnpnfdhaaDoor
open Go.RowKit

/-- A slice of n actions: what is read, and the bounds. -/
structure At (w : World) (A : Option Addr) (n c : Nat) (l : List Ac) : Prop where
  len : l.length = n
  rd : Rd w A (actV l)
  cap : n ≤ c
  big : n ≤ 100000
  capm : c ≤ 9223372036854775807
  sz : ∀ a ∈ l, a.1.size < 4294967281 ∧ a.2.2.size ≤ 140737488355328
theorem At.below {w w' : World} {A : Option Addr} {n c : Nat} {l : List Ac} (h : At w A n c l) (hb : Below w.heap.size w w') : At w' A n c l := ⟨h.len, h.rd.below hb, h.cap, h.big, h.capm, h.sz⟩
theorem OwnF.mono {base base' : Nat} {w : World} {A : Option Addr} {n c : Nat} {fs : List Fil} (h : OwnF base w A n c fs) (hb : base' ≤ base) : OwnF base' w A n c fs := by
  obtain ⟨h1, h2, h3, h4⟩ := h
  refine ⟨h1, h2, h3, ?_⟩
  rcases h4 with h4 | ⟨g, rest, ha, hg, hB⟩
  · exact .inl h4
  · exact .inr ⟨g, rest, ha, by omega, hB⟩

set_option maxHeartbeats 1000000 in
theorem acopied_any {w : World} {A : Option Addr} {n c : Nat} {fs : List Fil} (h : Ft w A n c fs) (hn : n ≤ 1000000) :
    Calls Tryd.prog 20 #[.slice A n c] w fun e w' => e = .returned (.slice (some ⟨w.heap.size, 0, none⟩) n n) ∧ Blk w' w.heap.size (filV fs) 46 ∧ Below w.heap.size w w' := by
  have hmk := make_files n hn
  have HL := hid h.len
  have HS := hid h.sz
  have hr := h.rd
  clear h
  go_enter Tryd.func20, Tryd.ntmps20
  go_upto_region 3 with (fail)
  go_loopw [11] (fun i wr => ∃ j : Nat, j ≤ n ∧ i = .int .i64 j ∧ Blk wr w.heap.size (fill (filV fs) zS (j * 2)) 46 ∧ Below w.heap.size w wr) (fun i _ => n - (intOf i).toNat)
  case atStart =>
    refine ⟨0, by omega, rfl, ?_, (Below.refl _ _).alloc (Nat.le_refl _) _⟩
    have := Blk.new w (List.replicate (n * 2) zS) 46
    rw [Nat.zero_mul, fill_zero, filV_length, HL.out]
    simpa using this
  case round =>
    obtain ⟨j, hj, rfl, hblk, hb⟩ := hrel
    by_cases hjn : j < n
    · have hjl : j < fs.length := by rw [HL.out]; exact hjn
      have hr1 := hr.below hb
      obtain ⟨b, off, rfl, h1, h2, -⟩ := hr1.fil hjl
      have hz : (0 : Int) ≤ j := by omega
      have hlt : (j : Int) < n := by omega
      have HX0 := hid (filV_at0 fs j hjl)
      have HX1 := hid (filV_at1 fs j hjl)
      have hsz := HS.out fs[j] (List.getElem_mem hjl)
      have hll := filV_length fs
      have hgw := hblk.lt
      clear hr1
      go_upto_region 5 with (fail)
      have hblk2 := hblk.below ((Below.refl _ _).alloc (Nat.le_refl _) (.cells #[.string fs[j].1, .string fs[j].2] 46))
      have hb2 := hb.alloc hb.size (.cells #[.string fs[j].1, .string fs[j].2] 46)
      have k := Blk.new wr [.string fs[j].1, .string fs[j].2] 46
      have k1 := k.cell 0
      have k2 := k.cell 1
      simp only [List.getElem?_cons_zero, List.getElem?_cons_succ] at k1 k2
      clear hblk hb h1 h2
      generalize fs[j] = f at *
      obtain ⟨x, d⟩ := f
      simp only at hsz k1 k2 HX0 HX1
      generalize wr.alloc (.cells #[.string x, .string d] 46) = wa at *
      generalize wr.heap.size = g at *
      have hne : g ≠ w.heap.size := by omega
      refine wp_region_held_drew (S := fun w' => w'.cell? ⟨g, 0, none⟩ = some (.string x) ∧ w'.cell? ⟨g, 1, none⟩ = some (.string d)) (by kernel_rfl) ⟨k1, k2⟩ (fun hHeld => ?_)
      refine wpAnyH_take (i := 0) (oi := ⟨_, _, _, _, _, _⟩) (v := ?_) rfl (by kernel_rfl) (by kernel_rfl) (by kernel_rfl) (fun _ _ _ h => h) (Or.inl ⟨by rfl, ?_⟩) (by assumption) ?_
      rotate_left
      · intro w hSw; (try dsimp only at hSw); go_simp; (try (with_reducible rfl))
      try simp only [Act.put, List.setIfInBounds_toArray, List.set_cons_zero, List.set_cons_succ]
      refine wpAnyH_take (i := 1) (oi := ⟨_, _, _, _, _, _⟩) (v := ?_) rfl (by kernel_rfl) (by kernel_rfl) (by kernel_rfl) (fun _ _ _ h => h) (Or.inl ⟨by rfl, ?_⟩) (by assumption) ?_
      rotate_left
      · intro w hSw; (try dsimp only at hSw); go_simp; (try (with_reducible rfl))
      try simp only [Act.put, List.setIfInBounds_toArray, List.set_cons_zero, List.set_cons_succ]
      refine wpAnyH_take (i := 2) (oi := ⟨_, _, _, _, _, _⟩) (v := ?_) rfl (by kernel_rfl) (by kernel_rfl) (by kernel_rfl) (fun _ _ _ h => h) (Or.inl ⟨by rfl, ?_⟩) (by assumption) ?_
      rotate_left
      · intro w hSw; (try dsimp only at hSw); go_simp; (try (with_reducible rfl))
      try simp only [Act.put, List.setIfInBounds_toArray, List.set_cons_zero, List.set_cons_succ]
      refine wpAnyH_take (i := 3) (oi := ⟨_, _, _, _, _, _⟩) (v := ?_) rfl (by kernel_rfl) (by kernel_rfl) (by kernel_rfl) (fun _ _ _ h => h) (Or.inl ⟨by rfl, ?_⟩) (by assumption) ?_
      rotate_left
      · intro w hSw; (try dsimp only at hSw); go_simp; (try (with_reducible rfl))
      try simp only [Act.put, List.setIfInBounds_toArray, List.set_cons_zero, List.set_cons_succ]
      refine wpAnyH_take (i := 5) (oi := ⟨_, _, _, _, _, _⟩) (v := ?_) rfl (by kernel_rfl) (by kernel_rfl) (by kernel_rfl) (fun _ _ _ h => h) (Or.inl ⟨by rfl, ?_⟩) (by assumption) ?_
      rotate_left
      · intro w hSw; (try dsimp only at hSw); go_simp; (try (with_reducible rfl))
      try simp only [Act.put, List.setIfInBounds_toArray, List.set_cons_zero, List.set_cons_succ]
      refine wpAnyH_take (i := 6) (oi := ⟨_, _, _, _, _, _⟩) (v := ?_) rfl (by kernel_rfl) (by kernel_rfl) (by kernel_rfl) (fun _ _ _ h => h) (Or.inl ⟨by rfl, ?_⟩) (by assumption) ?_
      rotate_left
      · intro w hSw; (try dsimp only at hSw); go_simp; (try (with_reducible rfl))
      try simp only [Act.put, List.setIfInBounds_toArray, List.set_cons_zero, List.set_cons_succ]
      refine wpAnyH_ready (rs := [4]) (by kernel_rfl) (by simp) ?_
      refine AllReadyH.cons (o := ⟨_, _, _, _, _, _⟩) rfl (fun K hK => ?_) AllReadyH.nil
      go_simp
      refine (clone_any x _ (by omega)).mono ?_
      rintro e w1 ⟨rfl, hb1⟩
      have p1 := Blk.below (w := wa.drew) k hb1
      have q1 := Blk.below (w := wa.drew) hblk2 hb1
      have b1 := hb2.drew.trans (hb1.mono hb2.drew.size)
      have d1 := p1.cell 0
      have d2 := p1.cell 1
      simp only [List.getElem?_cons_zero, List.getElem?_cons_succ] at d1 d2
      refine hK.out _ _ ⟨d1, d2⟩ (fun hHeld => ?_)
      clear hK K
      try simp only [Act.put, List.setIfInBounds_toArray, List.set_cons_zero, List.set_cons_succ]
      refine wpAnyH_ready (rs := [7]) (by kernel_rfl) (by simp) ?_
      refine AllReadyH.cons (o := ⟨_, _, _, _, _, _⟩) rfl (fun K hK => ?_) AllReadyH.nil
      go_simp
      refine (clone_any d _ (by omega)).mono ?_
      rintro e w2 ⟨rfl, hb2'⟩
      have p2 := p1.below hb2'
      have q2 := q1.below hb2'
      have b2 := b1.trans (hb2'.mono b1.size)
      have d3 := p2.cell 0
      have d4 := p2.cell 1
      simp only [List.getElem?_cons_zero, List.getElem?_cons_succ] at d3 d4
      refine hK.out _ _ ⟨d3, d4⟩ (fun hHeld => ?_)
      clear hK K
      try simp only [Act.put, List.setIfInBounds_toArray, List.set_cons_zero, List.set_cons_succ]
      refine wpAnyH_take (i := 8) (oi := ⟨_, _, _, _, _, _⟩) (v := ?_) rfl (by kernel_rfl) (by kernel_rfl) (by kernel_rfl) (fun _ _ _ h => h) (Or.inl ⟨by rfl, ?_⟩) (by assumption) ?_
      rotate_left
      · intro w hSw; (try dsimp only at hSw); go_simp; (try (with_reducible rfl))
      try simp only [Act.put, List.setIfInBounds_toArray, List.set_cons_zero, List.set_cons_succ]
      refine wpAnyH_take (i := 9) (oi := ⟨_, _, _, _, _, _⟩) (v := ?_) rfl (by kernel_rfl) (by kernel_rfl) (by kernel_rfl) (fun _ _ _ h => h) (Or.inl ⟨by rfl, ?_⟩) (by assumption) ?_
      rotate_left
      · intro w hSw; (try dsimp only at hSw); go_simp; (try (with_reducible rfl))
      try simp only [Act.put, List.setIfInBounds_toArray, List.set_cons_zero, List.set_cons_succ]
      have c0 := q2.cell (j * 2)
      have c1 := q2.cell (j * 2 + 1)
      have f0 := q2.frozen (j * 2)
      have f1 := q2.frozen (j * 2 + 1)
      have hblk4 := (q2.set_ (j * 2) (.string x)).set_ (j * 2 + 1) (.string d)
      rw [fill_set _ _ _ _ HX0.out, fill_set _ _ _ _ HX1.out] at hblk4
      rw [fill_at _ _ _ (by omega)] at c0
      rw [fill, List.getElem?_append_right (by rw [List.length_take]; omega), List.length_take, List.getElem?_replicate, if_pos (by omega)] at c1
      have hb4 := (b2.setCell (p := ⟨w.heap.size, j * 2, none⟩) (Nat.le_refl _) (.string x)).setCell (p := ⟨w.heap.size, j * 2 + 1, none⟩) (Nat.le_refl _) (.string d)
      have P3 := (p2.other hne (j * 2) (.string x)).other hne (j * 2 + 1) (.string d)
      have e1 := P3.cell 0
      have e2 := P3.cell 1
      simp only [List.getElem?_cons_zero, List.getElem?_cons_succ] at e1 e2
      refine wpAnyH_ready (rs := [10]) (by kernel_rfl) (by simp) ?_
      refine AllReadyH.cons (o := ⟨_, _, _, _, _, _⟩) rfl (fun K hK => ?_) AllReadyH.nil
      go_simp
      generalize (w2.setCell ⟨w.heap.size, j * 2, none⟩ (.string x)).setCell ⟨w.heap.size, j * 2 + 1, none⟩ (.string d) = w3 at *
      refine hK.out _ _ ⟨e1, e2⟩ (fun hHeld => ?_)
      clear hK K
      try simp only [Act.put, List.setIfInBounds_toArray, List.set_cons_zero, List.set_cons_succ]
      refine wpAnyH_done (by kernel_rfl) ?_ _
      clear hHeld hblk2 hb1 hb2 k k1 k2 p1 q1 b1 d1 d2 p2 q2 b2 d3 d4 c0 c1 f0 f1 P3 e1 e2
      go_wp2
      go_roundw
      case rel => exact ⟨j + 1, by omega, by go_num, by rw [show (j + 1) * 2 = j * 2 + 1 + 1 by omega]; exact hblk4, hb4⟩
      case measure => simp [intOf]; omega
    · have HE := hid (show j = n by omega)
      have hnlt : ¬ (j : Int) < n := by omega
      go_wp2
      go_ret
      refine ⟨rfl, ?_, hb⟩
      have := fill_all (filV fs) zS
      rw [filV_length, HL.out] at this
      rw [HE.out, this] at hblk
      exact hblk

/-! ### One action -/
theorem sput_any {w : World} {A : Option Addr} {n c : Nat} {fs : List Fil} (h : Ft w A n c fs) (p d : ByteArray) (q : Bool) (hp : p.size < 4294967281) (hd : d.size ≤ 140737488355328) :
    Calls Tryd.prog 32 #[.agg #[.string p, .bool q, .string d], .slice A n c] w (OutF w (putT fs p d) (putE fs p d)) := by
  have cc := put_any (h.below ((Below.refl _ _).alloc (Nat.le_refl _) (.cells #[.string p, .bool q, .string d] 61))) p d hp hd
  have hw := w.size_alloc (.cells #[.string p, .bool q, .string d] 61)
  clear h
  go_enter Tryd.func32, Tryd.ntmps32
  go_wp2_with fail
  refine cc.mono ?_
  rintro e w1 ⟨A1, n1, c1, rfl, o1, b1⟩
  clear cc
  have o2 := o1.mono (base' := w.heap.size) (by omega)
  have b2 := below_al _ b1
  clear o1 b1
  generalize putE fs p d = z at *
  go_wp2
  go_ret2
  exact ⟨A1, n1, c1, rfl, o2, b2⟩
theorem sdrop_any {w : World} {A : Option Addr} {n c : Nat} {fs : List Fil} (h : Ft w A n c fs) (p d : ByteArray) (q : Bool) :
    Calls Tryd.prog 33 #[.agg #[.string p, .bool q, .string d], .slice A n c] w (OutF w (dropT fs p.data.toList) (dropE fs p.data.toList)) := by
  have cc := drop_any (h.below ((Below.refl _ _).alloc (Nat.le_refl _) (.cells #[.string p, .bool q, .string d] 61))) p
  have hw := w.size_alloc (.cells #[.string p, .bool q, .string d] 61)
  clear h
  go_enter Tryd.func33, Tryd.ntmps33
  go_wp2_with fail
  refine cc.mono ?_
  rintro e w1 ⟨A1, n1, c1, rfl, o1, b1⟩
  clear cc
  have o2 := o1.mono (base' := w.heap.size) (by omega)
  have b2 := below_al _ b1
  clear o1 b1
  generalize dropE fs p.data.toList = z at *
  go_wp2
  go_ret2
  exact ⟨A1, n1, c1, rfl, o2, b2⟩
theorem doing_put (p d : ByteArray) (w : World) :
    Calls Tryd.prog 21 #[.agg #[.string p, .bool true, .string d]] w fun e w' => e = .returned (.func (.func 32) #[.agg #[.string p, .bool true, .string d]] #[]) ∧ Below w.heap.size w w' := by
  have hmf : ∀ (fn : Fn) (first cap : Array Value) (w : World), (Instr.makeFunc fn first cap).run Tryd.prog w = .ok (.func fn first cap) w := fun _ _ _ _ => rfl
  go_enter Tryd.func21, Tryd.ntmps21
  go_wp2
  go_ret
  exact ⟨rfl, by go_grown⟩
theorem doing_drop (p d : ByteArray) (w : World) :
    Calls Tryd.prog 21 #[.agg #[.string p, .bool false, .string d]] w fun e w' => e = .returned (.func (.func 33) #[.agg #[.string p, .bool false, .string d]] #[]) ∧ Below w.heap.size w w' := by
  have hmf : ∀ (fn : Fn) (first cap : Array Value) (w : World), (Instr.makeFunc fn first cap).run Tryd.prog w = .ok (.func fn first cap) w := fun _ _ _ _ => rfl
  go_enter Tryd.func21, Tryd.ntmps21
  go_wp2
  go_ret
  exact ⟨rfl, by go_grown⟩
end Go.Proofs.YtaidggjnpnfdhaaDoor
namespace Go.Proofs.YtaidggjnpnfdhaaDoor
open Go.RowKit

set_option maxHeartbeats 4000000 in
theorem do_any {w : World} {A B : Option Addr} {n c m d : Nat} {t : List Fil} {l : List Ac} (h : Ft w A n c t) (k : At w B m d l) (room : Int) :
    Calls Tryd.prog 10 #[.slice A n c, .slice B m d, .int .i64 room] w (OutF w (doT t l room) (doN t l room)) := by
  have ep := enters_of Tryd.func32 (by kernel_rfl) rfl
  have ed := enters_of Tryd.func33 (by kernel_rfl) rfl
  have hal : ∀ (W : World) (o : Obj), Below W.heap.size W (W.alloc o) := fun W o => (Below.refl _ _).alloc (Nat.le_refl _) o
  go_enter Tryd.func10, Tryd.ntmps10
  go_wp2_with fail
  refine (tree_any h).mono ?_
  rintro e w1 ⟨rfl, b1⟩
  have h1 := h.below b1
  have k1 := k.below b1
  clear h k
  cases hR : treeR t with
  | false =>
    have HN : Hid (doN t l room = 1) := by show _ = _; unfold doN; rw [hR]; rfl
    clear hR
    go_wp2
    go_ret2
    exact out_err HN.out (doT_not (by rw [HN.out]; decide)) b1
  | true =>
    have hT := (treeR_iff t).1 hR
    have HTR := hid hT
    have hfew := hT.few
    have HSZ : Hid (∀ j, ∀ f ∈ doL t (l.take j), f.1.size < 4294967281 ∧ f.2.size ≤ 140737488355328) := fun j => do_P (P := fun f => f.1.size < 4294967281 ∧ f.2.size ≤ 140737488355328) h1.sz fun a ha => k1.sz a (List.mem_of_mem_take ha)
    have HR := hid hR
    have hl1 := h1.len
    clear hR hT
    go_wp2_with fail
    refine (acopied_any h1 (by omega)).mono ?_
    rintro e w2 ⟨rfl, B2, hb2⟩
    have b2 := below2 b1 hb2
    have k2 := k1.below hb2
    have hw1 := b1.size
    have O2 : OwnF w.heap.size w2 (some ⟨w1.heap.size, 0, none⟩) n n t := ⟨hl1, Nat.le_refl _, by omega, .inr ⟨w1.heap.size, [], rfl, hw1, by rw [List.append_nil]; exact B2⟩⟩
    have HL := hid k2.len
    have HKS := hid k2.sz
    have hm := k2.big
    clear B2 hb2 b1 h1 k1
    go_wp2_with fail
    go_loopw [8, 19] (fun v i wr => ∃ (j : Nat) (A' : Option Addr) (n' c' : Nat), j ≤ m ∧ i = .int .i64 j ∧ v = .slice A' n' c' ∧ Hid (doE t (l.take j) = 0) ∧ OwnF w.heap.size wr A' n' c' (doL t (l.take j)) ∧ Below w.heap.size w wr ∧ Below w2.heap.size w2 wr) (fun _ i _ => m - (intOf i).toNat)
    case atStart => exact ⟨0, _, _, _, by omega, rfl, rfl, rfl, O2, b2, Below.refl _ _⟩
    case round =>
      clear O2 b2
      obtain ⟨j, A', n', c', hj, rfl, rfl, HE0, o, b, bk⟩ := hrel
      have hRj : RightT (doL t (l.take j)) := do_right HTR.out HE0.out
      have hlen := o.1
      have hn16 := hRj.few
      by_cases hjm : j < m
      · have hjl : j < l.length := by rw [HL.out]; exact hjm
        have hz : (0 : Int) ≤ j := by omega
        have hlt : (j : Int) < m := by omega
        obtain ⟨g, og, rfl, x0, x1, x2, -⟩ := (k2.rd.below bk).act hjl
        obtain ⟨HM1, HM2⟩ := do_more t l j hjl
        have hs := HKS.out _ (List.getElem_mem hjl)
        have HSJ := hid (HSZ.out j)
        rw [HE0.out, if_pos rfl] at HM1
        have HST := hid (@do_stop t l (j + 1))
        have HM1 := hid HM1
        have HM2 := hid HM2
        generalize doL t (l.take j) = u at *
        generalize l[j] = a at *
        obtain ⟨p, q, dd⟩ := a
        dsimp only at x0 x1 x2 hs
        have hal2 := hal wr (.cells #[.string p, .bool q, .string dd] 33)
        have o2 := o.below hal2
        have bb2 := b.trans (hal2.mono b.size)
        have bk2 := bk.trans (hal2.mono bk.size)
        clear o b bk hal2
        cases q with
        | true =>
          have E1 : Hid (actE u (p, true, dd) = putE u p dd) := rfl
          have E2 : Hid (actT u (p, true, dd) = putL u p dd) := rfl
          go_wp2_with fail
          refine (doing_put p dd _).mono ?_
          rintro e w4 ⟨rfl, hb4⟩
          have o4 := o2.below hb4
          have b4 := bb2.trans (hb4.mono bb2.size)
          have bk4 := bk2.trans (hb4.mono bk2.size)
          clear o2 bb2 bk2 hb4
          have cc := sput_any (o4.ft (by omega) HSJ.out) p dd true hs.1 hs.2
          go_wp2_with fail
          refine cc.mono ?_
          rintro e w5 ⟨A5, n5, c5, rfl, o5, hb5⟩
          have o6 := o5.mono b4.size
          have b6 := b4.trans (hb5.mono b4.size)
          have bk6 := bk4.trans (hb5.mono bk4.size)
          clear cc o4 b4 bk4 o5 hb5
          by_cases he : putE u p dd = 0
          · have HO : Hid (putT u p dd = doL t (l.take (j + 1))) := by show _ = _; rw [putT_ok he, HM2.out, E2.out]
            have HE1 : Hid (doE t (l.take (j + 1)) = 0) := by show _ = _; rw [HM1.out, E1.out, he]
            rw [he]
            rw [HO.out] at o6
            clear he E1 E2 HM1 HM2 HO
            go_wp2
            go_roundw
            case rel => exact ⟨j + 1, A5, n5, c5, by omega, by go_num, rfl, HE1, o6, b6, bk6⟩
            case measure => simp [intOf]; omega
          · have HE1 : Hid (doE t l = putE u p dd) := by show _ = _; rw [HST.out (by rw [HM1.out, E1.out]; exact he), HM1.out, E1.out]
            have HN : Hid (doN t l room = putE u p dd) := by show _ = _; unfold doN; rw [HR.out, if_pos rfl, HE1.out, if_neg he]
            have hT0 := doT_not (t := t) (l := l) (r := room) (by rw [HN.out]; exact he)
            have hne : ¬ ((putE u p dd : Nat) : Int) = 0 := by omega
            clear E1 E2 HM1 HM2 HE1 HST o6 he
            generalize putE u p dd = z at *
            go_wp2
            go_ret2
            exact out_err HN.out hT0 b6
        | false =>
          have E1 : Hid (actE u (p, false, dd) = dropE u p.data.toList) := rfl
          have E2 : Hid (actT u (p, false, dd) = dropL u p.data.toList) := rfl
          go_wp2_with fail
          refine (doing_drop p dd _).mono ?_
          rintro e w4 ⟨rfl, hb4⟩
          have o4 := o2.below hb4
          have b4 := bb2.trans (hb4.mono bb2.size)
          have bk4 := bk2.trans (hb4.mono bk2.size)
          clear o2 bb2 bk2 hb4
          have cc := sdrop_any (o4.ft (by omega) HSJ.out) p dd false
          go_wp2_with fail
          refine cc.mono ?_
          rintro e w5 ⟨A5, n5, c5, rfl, o5, hb5⟩
          have o6 := o5.mono b4.size
          have b6 := b4.trans (hb5.mono b4.size)
          have bk6 := bk4.trans (hb5.mono bk4.size)
          clear cc o4 b4 bk4 o5 hb5
          by_cases he : dropE u p.data.toList = 0
          · have HO : Hid (dropT u p.data.toList = doL t (l.take (j + 1))) := by show _ = _; rw [dropT_ok he, HM2.out, E2.out]
            have HE1 : Hid (doE t (l.take (j + 1)) = 0) := by show _ = _; rw [HM1.out, E1.out, he]
            rw [he]
            rw [HO.out] at o6
            clear he E1 E2 HM1 HM2 HO
            go_wp2
            go_roundw
            case rel => exact ⟨j + 1, A5, n5, c5, by omega, by go_num, rfl, HE1, o6, b6, bk6⟩
            case measure => simp [intOf]; omega
          · have HE1 : Hid (doE t l = dropE u p.data.toList) := by show _ = _; rw [HST.out (by rw [HM1.out, E1.out]; exact he), HM1.out, E1.out]
            have HN : Hid (doN t l room = dropE u p.data.toList) := by show _ = _; unfold doN; rw [HR.out, if_pos rfl, HE1.out, if_neg he]
            have hT0 := doT_not (t := t) (l := l) (r := room) (by rw [HN.out]; exact he)
            have hne : ¬ ((dropE u p.data.toList : Nat) : Int) = 0 := by omega
            clear E1 E2 HM1 HM2 HE1 HST o6 he
            generalize dropE u p.data.toList = z at *
            go_wp2
            go_ret2
            exact out_err HN.out hT0 b6
      · have HJ := hid (show j = m by omega)
        have hnlt : ¬ (j : Int) < m := by omega
        rw [HJ.out, ← HL.out, List.take_length] at HE0 o hRj hlen hn16
        have hsz := size_le hRj
        have HSJ : Hid (∀ f ∈ doL t l, f.1.size < 4294967281 ∧ f.2.size ≤ 140737488355328) := by
          have := HSZ.out l.length
          rw [List.take_length] at this
          exact this
        have cs := size_any (o.ft (by omega) HSJ.out) (by omega)
        have HDN : Hid (doN t l room = if room < ((sizeT (doL t l) : Nat) : Int) then 2 else 0) := by show _ = _; unfold doN; rw [HR.out, if_pos rfl, HE0.out, if_pos rfl]
        generalize hu : doL t l = u at *
        have HU := hid hu
        clear hu
        go_wp2_with fail
        refine cs.mono ?_
        rintro e w6 ⟨rfl, hb6⟩
        have o6 := o.below hb6
        have b6 := b.trans (hb6.mono b.size)
        clear cs o b hb6
        by_cases hr : room < ((sizeT u : Nat) : Int)
        · have HN : Hid (doN t l room = 2) := by show _ = _; rw [HDN.out, if_pos hr]
          have hT0 := doT_not (t := t) (l := l) (r := room) (by rw [HN.out]; decide)
          clear HDN
          go_wp2
          go_ret2
          exact out_err HN.out hT0 b6
        · have HN : Hid (doN t l room = 0) := by show _ = _; rw [HDN.out, if_neg hr]
          have HT0 : Hid (doT t l room = u) := (doT_zero HN.out).trans HU.out
          clear HDN
          go_wp2
          go_ret2
          exact ⟨A', n', c', by rw [HN.out]; rfl, by rw [HT0.out]; exact o6, b6⟩
end Go.Proofs.YtaidggjnpnfdhaaDoor
namespace Go.Proofs.YtaidggjnpnfdhaaDoor
open Go.RowKit Go.Maps

theorem key_lit (l : List UInt8) : WideAt.IsKeyLit (.string l) := trivial
theorem str_ne {s t : ByteArray} (h : t ≠ s) : Lit.string t.data.toList ≠ .string s.data.toList := by
  intro e
  injection e with e
  exact h (data_inj e)
theorem Tryd.zeroI (w : World) : (zeroValue 3).run Tryd.prog w = .ok (.int .i64 0) w := by kernel_rfl
theorem Tryd.keyS : Keyed Tryd.prog 9 := string_keyed Tryd.underlying9
/-- The map tells, of each path, the place of its last action. -/
def Lasts (D : DataW Unit) (l : List Ac) : Prop := ∀ s : ByteArray, s.size ≤ maxLen → (∃ a ∈ l, a.1 = s) → ∃ i, ∃ hi : i < l.length, lastA l s = l[i] ∧ D.atKey (.string s.data.toList) (.lit (.int .i64 0)) = .lit (.int .i64 (i : Int))
theorem lasts_nil (D : DataW Unit) : Lasts D [] := fun s _ ⟨a, ha, _⟩ => by cases ha
theorem lasts_put {D : DataW Unit} {l : List Ac} {j : Nat} (h : Lasts D (l.take j)) (hm : Maps.IsMap D) (hj : j < l.length) : Lasts (D.put (.string l[j].1.data.toList) (.lit (.int .i64 (j : Int)))) (l.take (j + 1)) := by
  intro s hs hx
  rw [last_more l s j hj]
  by_cases e : l[j].1 = s
  · rw [if_pos e]
    refine ⟨j, by rw [List.length_take]; omega, by rw [List.getElem_take], ?_⟩
    subst e
    rw [Maps.atKey_put_same hm (key_lit _)]
  · rw [if_neg e]
    obtain ⟨a, ha, rfl⟩ := hx
    have ha2 : a ∈ l.take j := by
      rw [List.take_add_one, List.getElem?_eq_getElem hj, List.mem_append] at ha
      rcases ha with ha | ha
      · exact ha
      · have : a = l[j] := by simpa using ha
        exact absurd (by rw [this]) e
    obtain ⟨i, hi, h1, h2⟩ := h a.1 hs ⟨a, ha2, rfl⟩
    refine ⟨i, by rw [List.length_take] at *; omega, by rw [h1, List.getElem_take, List.getElem_take], ?_⟩
    rw [Maps.atKey_put_other (str_ne fun k => e k.symm)]
    exact h2
theorem last_look {w : World} {bm n : Nat} {D : DataW Unit} {l : List Ac} (hm : w.ownsMap Tryd.prog 9 (plainElem (H := Unit) Tryd.prog 3) bm n D) (hk : Lasts D l) {s : ByteArray} (hs : s.size ≤ maxLen) (hx : ∃ a ∈ l, a.1 = s) :
    ∃ i, ∃ hi : i < l.length, lastA l s = l[i] ∧ (Instr.lookup 59 (.map (some bm)) (.string s) false).run Tryd.prog w = .ok (.int .i64 (i : Int)) w := by
  obtain ⟨c, hrun, hat, -⟩ := hm.lookup_int Tryd.keyS Tryd.underlying59 Tryd.underlying3 (Tryd.zeroI _) (WideMaps.keyOf_string_mk Tryd.underlying9 hs)
  obtain ⟨i, hi, h1, h2⟩ := hk s hs hx
  rw [h2] at hat
  injection hat with hat
  injection hat with _ hat
  subst hat
  exact ⟨i, hi, h1, hrun⟩

/-! ### A net, path by path -/
def dropsA (l : List Ac) (j : Nat) : List Ac := ((pickA l).take j).filter fun a => !a.2.1
def putsA (l : List Ac) (j : Nat) : List Ac := ((pickA l).take j).filter fun a => a.2.1
theorem pick_len (l : List Ac) : (pickA l).length = (pathsA l).length := by unfold pickA; rw [List.length_map]
theorem net_end (l : List Ac) : netL l = dropsA l (pathsA l).length ++ putsA l (pathsA l).length := by
  unfold netL dropsA putsA
  rw [← pick_len, List.take_length]
theorem net_more {l : List Ac} {j : Nat} (h : j < (pathsA l).length) : dropsA l (j + 1) = dropsA l j ++ (if (lastA l (pathsA l)[j]).2.1 then [] else [lastA l (pathsA l)[j]]) ∧ putsA l (j + 1) = putsA l j ++ (if (lastA l (pathsA l)[j]).2.1 then [lastA l (pathsA l)[j]] else []) := by
  have hl : j < (pickA l).length := by rw [pick_len]; exact h
  have e : (pickA l)[j] = lastA l (pathsA l)[j] := by simp [pickA]
  unfold dropsA putsA
  rw [List.take_add_one, List.getElem?_eq_getElem hl, List.filter_append, List.filter_append, e]
  generalize lastA l (pathsA l)[j] = a
  constructor <;> congr 1 <;> cases h : a.2.1 <;> simp [h]
theorem netA_len (l : List Ac) (j : Nat) : (dropsA l j).length ≤ l.length ∧ (putsA l j).length ≤ l.length := by
  have h1 := paths_len l
  have h2 := pick_len l
  have h3 : ((pickA l).take j).length ≤ (pickA l).length := by rw [List.length_take]; omega
  have h4 : (dropsA l j).length ≤ ((pickA l).take j).length := List.length_filter_le _ _
  have h5 : (putsA l j).length ≤ ((pickA l).take j).length := List.length_filter_le _ _
  omega
theorem path_last {l : List Ac} {j : Nat} (h : j < (pathsA l).length) : (∃ a ∈ l, a.1 = (pathsA l)[j]) ∧ (lastA l (pathsA l)[j]).1 = (pathsA l)[j] := by
  have hm := paths_mem.1 (List.getElem_mem h)
  exact ⟨hm, (last_in hm).2⟩
end Go.Proofs.YtaidggjnpnfdhaaDoor
namespace Go.Proofs.YtaidggjnpnfdhaaDoor
open Go.RowKit Go.Sort

abbrev zAc : Value := .agg #[zS, .bool false, zS]

set_option maxHeartbeats 1000000 in
set_option maxRecDepth 100000 in
theorem agrow_any (k : Nat) (hk : k ≤ 1000000) (w : World) :
    Calls Tryd.prog 43 #[.slice none 0 0, .int .i64 (k : Int)] w fun e w' => ∃ v, e = .returned v ∧ w'.ownsRow w.heap.size 33 3 v 0 [] ∧ Below w.heap.size w w' := by
  by_cases h0 : k = 0
  · subst h0
    go_enter Tryd.func43, Tryd.ntmps43
    go_wp2
    go_ret
    exact ⟨_, rfl, ⟨rfl, .inl ⟨rfl, rfl⟩⟩, Below.refl _ _⟩
  · obtain ⟨i, hi, hz0, hz1, hz2⟩ := info_parts Tryd.infoA
    have HRUN := hid (Lib.run_append_nil_zeros (P := Tryd.prog) w 23 3 23 33 i zAc .i64 .i64 Tryd.underlying23 Tryd.underlying3 hi hz0 k (by omega) (by rw [hz1]; decide) (by omega) (by rw [hz2]; omega))
    have hc1 := grownCap_ge w k 0 33
    have hc2 := grownCap_le_maxLen w k 0 33 (by unfold maxLen; omega)
    have HO := hid (World.ownsRow_made (base := w.heap.size) (e := 33) (size := 3) w.drew (Builtin.zeroCells zAc.cells k ++ Builtin.zeroCells zAc.cells (grownCap w k 0 33 - k)) (grownCap w k 0 33) (Nat.le_refl _) hc2 (by
      have h5 : zAc.cells.size = 3 := rfl
      simp only [Array.size_append, size_zeroCells, h5]
      omega))
    have hb : Below w.heap.size w (w.drew.alloc (.cells (Builtin.zeroCells zAc.cells k ++ Builtin.zeroCells zAc.cells (grownCap w k 0 33 - k)) 33)) := (Below.refl _ _).drew.alloc (Nat.le_refl _) _
    generalize w.drew.alloc (.cells (Builtin.zeroCells zAc.cells k ++ Builtin.zeroCells zAc.cells (grownCap w k 0 33 - k)) 33) = W at *
    generalize grownCap w k 0 33 = q at *
    have hkz : (0 : Int) < k := by omega
    have hkn : ¬ (k : Int) < 0 := by omega
    clear hi hz0 hz1 hz2 h0
    unfold maxLen at hc2
    go_enter Tryd.func43, Tryd.ntmps43
    go_wp2_with (at_builtin; refine Lib.wpList_append_run _ rfl _ _ _ _ rfl _ _ rfl rfl _ _ HRUN.out ?_)
    go_ret
    exact ⟨_, rfl, HO.out, hb⟩

/-- append of entries onto a row of the call's own. -/
theorem app_acs {W : World} {n₀ : Nat} {v : Value} {xs : List Ac} (hrow : W.ownsRow n₀ 33 3 v xs.length (actV xs)) (hn : n₀ ≤ W.heap.size) {B : Option Addr} {m d : Nat} {ys : List Ac} (hl : ys.length = m) (hr : Rd W B (actV ys)) (hk : xs.length + m ≤ 1000000) :
    ∃ v' w1, Hid ((Builtin.append_ #[23, 23] 23 #[v, .slice B m d]).run Tryd.prog W = .ok v' w1) ∧ w1.ownsRow n₀ 33 3 v' (xs ++ ys).length (actV (xs ++ ys)) ∧ Below n₀ W w1 := by
  obtain ⟨i, hi, hz0, hz1, hz2⟩ := info_parts Tryd.infoA
  have own : ∀ ad : Addr, (∀ j u, (actV ys)[j]? = some u → W.cell? (ad.add j) = some u) → ∃ v' w1, Hid ((Builtin.append_ #[23, 23] 23 #[v, .slice (some ad) m d]).run Tryd.prog W = .ok v' w1) ∧ w1.ownsRow n₀ 33 3 v' (xs ++ ys).length (actV (xs ++ ys)) ∧ Below n₀ W w1 := by
    intro ad hc
    obtain ⟨v', w', h2, h3, h4, -⟩ := run_append_own (P := Tryd.prog) W n₀ 23 23 33 i zAc 3 40 Tryd.underlying23 hi hz0 hz1 hz2 rfl (by decide) v xs.length (actV xs) hrow ad m d (actV ys) (by rw [actV_length, hl]) hc (actV_one _) (by unfold maxLen; omega) (by omega) hn
    refine ⟨v', w', h2, ?_, (Below.refl n₀ W).grown h4 hn fun j ej => (hrow.lt j ej).1⟩
    rw [actV_append, List.length_append, hl]
    exact h3
  rcases hr with hr | ⟨ad, rfl, hc⟩
  · have hy : ys = [] := by
      have := actV_length ys
      rw [hr] at this
      exact List.eq_nil_of_length_eq_zero (by simp at this; omega)
    subst hy
    subst hl
    cases B with
    | none =>
      refine ⟨v, W, ?_, by rw [List.append_nil]; exact hrow, Below.refl _ _⟩
      show _ = _
      rcases hrow.2 with ⟨e1, e0⟩ | ⟨g, cap, cur, e1, _, _, hnc, _⟩
      · rw [e1]
        simp [Builtin.append_, run_underlying Tryd.underlying23, sizeOf, typeInfo, hi, Builtin.lenOf, Builtin.firstCells]
      · rw [e1]
        simp [Builtin.append_, run_underlying Tryd.underlying23, sizeOf, typeInfo, hi, Builtin.lenOf, Builtin.firstCells, hnc, storeCells]
    | some ad => exact own ad (by simp [actV])
  · exact own ad hc

set_option maxHeartbeats 2000000 in
set_option maxRecDepth 100000 in
theorem aconcat_any {w : World} {A B : Option Addr} {n c m d g : Nat} {es fs : List Ac} (hr : Rd w A (actV es)) (hr2 : Rd w B (actV fs)) (hl : es.length = n) (hl2 : fs.length = m) (hn : n ≤ 100000) (hm : m ≤ 100000) (hg : Blk w g [.slice A n c, .slice B m d] 23) :
    Calls Tryd.prog 31 #[.slice (some ⟨g, 0, none⟩) 2 2] w fun e w' => ∃ v, e = .returned v ∧ w'.ownsRow w.heap.size 33 3 v (es ++ fs).length (actV (es ++ fs)) ∧ Below w.heap.size w w' := by
  have HL := hid hl
  have HL2 := hid hl2
  have g0 := hg.cell 0
  have g1 := hg.cell 1
  have lg := hg.lt
  simp only [List.getElem?_cons_zero, List.getElem?_cons_succ] at g0 g1
  clear hl hl2 hg
  go_enter Tryd.func31, Tryd.ntmps31
  go_wp2_with fail
  go_loop [3, 11] (fun s i => (i = .int .i64 0 ∧ s = .int .i64 0) ∨ (i = .int .i64 1 ∧ s = .int .i64 (n : Int)) ∨ (i = .int .i64 2 ∧ s = .int .i64 ((n + m : Nat) : Int))) (fun _ i => 2 - (intOf i).toNat)
  case atStart => exact .inl ⟨rfl, rfl⟩
  case round =>
    have hnz : ¬ (n : Int) < 0 := by omega
    have hnm : ¬ (n : Int) + m < 0 := by omega
    rcases hrel with ⟨rfl, rfl⟩ | ⟨rfl, rfl⟩ | ⟨rfl, rfl⟩
    · go_wp2
      go_round
      case rel => exact .inr (.inl ⟨rfl, rfl⟩)
      case measure => decide
    · go_wp2
      go_round
      case rel => exact .inr (.inr ⟨rfl, by simp⟩)
      case measure => decide
    · go_wp2_with fail
      refine (agrow_any (n + m) (by omega) w).mono ?_
      rintro e w1 ⟨v1, rfl, o1, b1⟩
      go_wp2_with fail
      go_loopw [6, 27] (fun v i wr => ∃ xs : List Ac, ((i = .int .i64 0 ∧ xs = []) ∨ (i = .int .i64 1 ∧ xs = es) ∨ (i = .int .i64 2 ∧ xs = es ++ fs)) ∧ wr.ownsRow w.heap.size 33 3 v xs.length (actV xs) ∧ Below w.heap.size w wr) (fun _ i _ => 2 - (intOf i).toNat)
      case atStart => exact ⟨[], .inl ⟨rfl, rfl⟩, o1, b1⟩
      case round =>
        obtain ⟨xs, hx, o, b⟩ := hrel
        have y0 := (b.cell (p := ⟨g, 0, none⟩) lg).trans g0
        have y1 := (b.cell (p := ⟨g, 1, none⟩) lg).trans g1
        rcases hx with ⟨rfl, rfl⟩ | ⟨rfl, rfl⟩ | ⟨rfl, rfl⟩
        · obtain ⟨v', w2, HRUN, o2, b2⟩ := app_acs (W := wr) o b.size (d := c) HL.out (hr.below b) (by simp; omega)
          have b3 := b.trans b2
          clear o b2
          go_wp2_with (at_builtin; refine Lib.wpList_append_run _ rfl _ _ _ _ rfl _ _ rfl rfl _ _ HRUN.out ?_)
          go_roundw
          case rel => exact ⟨es, .inr (.inl ⟨rfl, rfl⟩), o2, b3⟩
          case measure => decide
        · obtain ⟨v', w2, HRUN, o2, b2⟩ := app_acs (W := wr) o b.size (d := d) HL2.out (hr2.below b) (by have := HL.out; omega)
          have b3 := b.trans b2
          clear o b2
          go_wp2_with (at_builtin; refine Lib.wpList_append_run _ rfl _ _ _ _ rfl _ _ rfl rfl _ _ HRUN.out ?_)
          go_roundw
          case rel => exact ⟨_, .inr (.inr ⟨rfl, rfl⟩), o2, b3⟩
          case measure => decide
        · go_wp2
          go_ret
          exact ⟨_, rfl, o, b⟩
end Go.Proofs.YtaidggjnpnfdhaaDoor
