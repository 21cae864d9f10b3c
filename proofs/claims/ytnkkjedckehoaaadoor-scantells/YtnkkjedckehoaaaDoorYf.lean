/- Sm, So, Su, Xe, Xf: in one text. -/
import Derived.Test.YtnkkjedckehoaaaDoorSk
import Derived.Test.YtnkkjedckehoaaaDoorCc
import Derived.Test.YtnkkjedckehoaaaDoorYd
namespace Go.Proofs.YtnkkjedckehoaaaDoor
open Go.RowKit

theorem gone_same {e : Ent} (h1 : e.has = false) (h2 : e.data = noS) : gone e = e := Ent.same rfl h1.symm h2.symm rfl rfl
theorem kept_same {e : Ent} (h1 : e.has = true) : kept e e.data = e := Ent.same rfl h1.symm rfl rfl rfl
theorem both_same : ∀ {es : List Ent}, SrtE es → (∀ e ∈ es, e.has = true ∨ e.data = noS) → bothL es (filesOf es) = es.map fun e => (e, e)
  | [], _, _ => bothL_nil
  | e :: es, hs, hd => by
    have hs' := List.pairwise_cons.1 hs
    have ih := both_same hs'.2 fun x hx => hd x (List.mem_cons_of_mem _ hx)
    rw [filesOf_cons, List.map_cons]
    cases hh : e.has with
    | true => rw [if_pos rfl, bothL_eq rfl, ih, kept_same hh]
    | false =>
      have hg : gone e = e := gone_same hh ((hd e (by simp)).resolve_left (by simp [hh]))
      rw [if_neg (by simp)]
      cases hf : filesOf es with
      | nil => rw [hf] at ih; rw [bothL_l, ih, hg]
      | cons f t =>
        have hm : f ∈ filesOf es := by rw [hf]; simp
        obtain ⟨x, hx, -, rfl⟩ := mem_files.1 hm
        have hlt := hs'.1 x hx
        rw [hf] at ih
        have h1 : ¬ e.path = ((x.path, x.data) : Fil).1 := fun h => by
          have e1 : epth e = epth x := epth_inj.2 h
          rw [e1] at hlt; exact List.lt_irrefl _ hlt
        have h2 : Op.bytesLess (pth (x.path, x.data)) (epth e) = false := less_no fun h => List.lt_asymm hlt h
        rw [bothL_gt h1 h2, ih, hg]
theorem fine_data {es : List Ent} (h : RightA es) : ∀ e ∈ es, e.has = true ∨ e.data = noS := fun e he => ((fineE_iff e).1 (h.fine e he)).2.2
theorem scan_self {es : List Ent} (h : RightA es) (a : Int) : scanN es (filesOf es) a = 0 ∧ scanA es (filesOf es) a = es ∧ scanC es (filesOf es) a = [] := by
  have hb := both_same h.srt (fine_data h)
  have hn : scanN es (filesOf es) a = 0 := by
    refine scanN_ok.2 ⟨h, (treeR_iff _).1 h.tree, ?_⟩
    rw [hb, okP, List.length_map, decide_eq_true h.few, Bool.true_and, List.all_eq_true]
    intro p hp
    obtain ⟨e, -, rfl⟩ := List.mem_map.1 hp
    simp [stuck]
  refine ⟨hn, ?_, ?_⟩
  · rw [scanA, if_pos hn, hb, outP, List.map_map]
    conv => rhs; rw [← List.map_id es]
    refine List.map_congr_left fun e _ => ?_
    simp [newE]
  · rw [scanC, if_pos hn, hb, chgP, List.map_eq_nil_iff, List.filter_eq_nil_iff]
    intro p hp
    obtain ⟨e, -, rfl⟩ := List.mem_map.1 hp
    simp

/-! ### What was scanned is right -/
theorem newE_files (a : Int) (ps : List (Ent × Ent)) : filesOf (outP a ps) = filesOf (ps.map (·.2)) := by
  induction ps with
  | nil => rfl
  | cons p ps ih =>
    rw [outP, List.map_cons, List.map_cons, filesOf_cons, filesOf_cons, newE_has, newE_path, newE_data]
    rw [outP] at ih
    rw [ih]
theorem tick_rt (l r a : Int) : 0 ≤ (tickL l r a).1 ∧ (tickL l r a).1 ≤ 1073741824 ∧ 0 ≤ (tickL l r a).2 ∧ (tickL l r a).2 ≤ 1073741824 := by
  have := tkc_le l r a
  rw [tickL_eq]
  simp only
  omega
theorem tick_pos (l r a : Int) : ¬ ((tickL l r a).1 = 0 ∧ (tickL l r a).2 = 0) := by
  unfold tickL up
  split <;> simp only <;> omega
/-- What a pair is, of a right archive and a right tree. -/
theorem pair_right {es : List Ent} {fs : List Fil} (h : RightA es) (k : RightT fs) {p : Ent × Ent} (hp : p ∈ bothL es fs) : rightL (epth p.2) = true := by
  have hP := both_pair es fs p hp
  have hpath := (both_path (x := p.2.path)).1 (List.mem_map.2 ⟨p, hp, rfl⟩)
  rcases hpath with h1 | h1
  · obtain ⟨e, he, h2⟩ := List.mem_map.1 h1
    have := h.paths e he
    unfold epth at this ⊢
    rw [← h2]; exact this
  · obtain ⟨f, hf, h2⟩ := List.mem_map.1 h1
    have := k.paths f hf
    unfold pth at this
    unfold epth
    rw [← h2]; exact this
theorem pair_new {es : List Ent} {fs : List Fil} {p : Ent × Ent} (hp : p ∈ bothL es fs) (he : p.2 = p.1) : p.1 ∈ es := by
  have hP := both_pair es fs p hp
  rcases hP.was with h | ⟨h, h2⟩
  · exact h
  · rw [he, h] at h2; cases h2
theorem scan_right {es : List Ent} {fs : List Fil} {a : Int} (hn : scanN es fs a = 0) : RightA (scanA es fs a) := by
  obtain ⟨h, k, ho⟩ := scanN_ok.1 hn
  rw [scanA, if_pos hn]
  have hsrt := both_srt es fs h.srt k.srt
  refine ⟨?_, ?_, ?_, ?_, ?_⟩
  · rw [outP, List.length_map]; exact okP_len ho
  · refine List.pairwise_map.2 (hsrt.imp fun {p q} hpq => ?_)
    unfold epth
    rw [newE_path, newE_path]; exact hpq
  · intro e he
    obtain ⟨p, hp, rfl⟩ := List.mem_map.1 he
    have := pair_right h k hp
    unfold epth at this ⊢
    rw [newE_path]; exact this
  · intro e he
    obtain ⟨p, hp, rfl⟩ := List.mem_map.1 he
    have hP := both_pair es fs p hp
    by_cases heq : p.2 = p.1
    · rw [newE_eq heq, heq]
      exact h.fine _ (pair_new hp heq)
    · rw [fineE_iff]
      have h1 := tick_rt p.1.l p.1.r a
      have h2 := tick_pos p.1.l p.1.r a
      unfold newE
      rw [if_neg heq]
      refine ⟨h1, h2, ?_⟩
      cases hh : p.2.has with
      | true => exact .inl rfl
      | false => exact .inr (hP.none hh)
  · rw [newE_files, both_files]
    exact (treeR_iff _).2 k
theorem scan_files {es : List Ent} {fs : List Fil} {a : Int} (hn : scanN es fs a = 0) : filesOf (scanA es fs a) = fs := by rw [scanA, if_pos hn, newE_files, both_files]
theorem scan_tree {es : List Ent} {fs : List Fil} {a : Int} (hn : scanN es fs a = 0) : treeE (scanA es fs a) = fs := by rw [treeE, (archR_iff _).2 (scan_right hn), if_pos rfl, scan_files hn]
/-- Scanned again nothing changed. -/
theorem scan_again {es : List Ent} {fs : List Fil} {a : Int} (hn : scanN es fs a = 0) (b : Int) : scanN (scanA es fs a) fs b = 0 ∧ scanA (scanA es fs a) fs b = scanA es fs a ∧ scanC (scanA es fs a) fs b = [] := by
  have := scan_self (scan_right hn) b
  rw [scan_files hn] at this
  exact this
theorem scan_none {es : List Ent} {fs : List Fil} {a : Int} (hn : scanN es fs a ≠ 0) : scanA es fs a = [] ∧ scanC es fs a = [] := ⟨by rw [scanA, if_neg hn], by rw [scanC, if_neg hn]⟩
end Go.Proofs.YtnkkjedckehoaaaDoor
namespace Go.Proofs.YtnkkjedckehoaaaDoor
open Go.RowKit

theorem odd_succ (a : Int) : odd (wrap64 (a + 1)) = !odd a := by
  rw [Bool.eq_iff_iff]
  unfold odd wrap64
  simp only [bne_iff_ne, Bool.not_eq_true', bne_eq_false_iff_eq]
  omega
def mineE (au : Int) (e : Ent) : Int := mineI (cl e.l) (cl e.r) au
def sumM (au : Int) (es : List Ent) : Int := es.foldr (fun e s => mineE au e + s) 0
theorem sumM_cons (au : Int) (e : Ent) (es : List Ent) : sumM au (e :: es) = mineE au e + sumM au es := rfl
theorem sumM_append (au : Int) (a b : List Ent) : sumM au (a ++ b) = sumM au a + sumM au b := by
  induction a with
  | nil => simp [sumM]
  | cons e a ih => rw [List.cons_append, sumM_cons, sumM_cons, ih]; omega
theorem sumM_more (au : Int) (es : List Ent) (j : Nat) (h : j < es.length) : sumM au (es.take (j + 1)) = sumM au (es.take j) + mineE au es[j] := by
  rw [List.take_add_one, List.getElem?_eq_getElem h, sumM_append]
  simp [sumM]
theorem mineE_le (au : Int) (e : Ent) : 0 ≤ mineE au e ∧ mineE au e ≤ 1073741824 := by
  unfold mineE mineI
  have := cl_le e.l
  have := cl_le e.r
  split <;> omega
theorem sumM_le (au : Int) (es : List Ent) : 0 ≤ sumM au es ∧ sumM au es ≤ es.length * 1073741824 := by
  induction es with
  | nil => simp [sumM]
  | cons e es ih => rw [sumM_cons]; have := mineE_le au e; simp only [List.length_cons]; omega
theorem mine_new {a au : Int} {p : Ent × Ent} (h4 : 0 ≤ p.1.l ∧ p.1.l ≤ 1073741824 ∧ 0 ≤ p.1.r ∧ p.1.r ≤ 1073741824) (hs : stuck a p = false) :
    mineE au (newE a p) = mineE au p.1 + (if p.2 = p.1 then 0 else if odd au = odd a then 1 else 0) := by
  by_cases he : p.2 = p.1
  · rw [newE_eq he, he, if_pos rfl]; omega
  · rw [if_neg he]
    unfold stuck at hs
    rw [decide_eq_false he] at hs
    simp only [Bool.not_false, Bool.true_and, decide_eq_false_iff_not] at hs
    have hs' : (tickL p.1.l p.1.r a).1 = p.1.l → (tickL p.1.l p.1.r a).2 ≠ p.1.r := fun h1 h2 => hs (Prod.ext h1 h2)
    clear hs
    unfold newE mineE mineI
    rw [if_neg he]
    unfold tickL at hs' ⊢
    generalize odd a = oa at *
    generalize odd au = ob at *
    cases oa <;> cases ob <;> simp only [if_true, if_false, Bool.false_eq_true, reduceCtorEq] at hs' ⊢ <;> unfold up cl at * <;> omega
theorem sum_new {a au : Int} {ps : List (Ent × Ent)} (h4 : ∀ p ∈ ps, 0 ≤ p.1.l ∧ p.1.l ≤ 1073741824 ∧ 0 ≤ p.1.r ∧ p.1.r ≤ 1073741824) (hs : ∀ p ∈ ps, stuck a p = false) :
    sumM au (outP a ps) = sumM au (ps.map (·.1)) + (if odd au = odd a then ((chgP ps).length : Int) else 0) := by
  induction ps with
  | nil => simp [outP, chgP, sumM]
  | cons p ps ih =>
    have ih := ih (fun x hx => h4 x (List.mem_cons_of_mem _ hx)) (fun x hx => hs x (List.mem_cons_of_mem _ hx))
    have h1 := mine_new (au := au) (h4 p (by simp)) (hs p (by simp))
    have e1 : outP a (p :: ps) = newE a p :: outP a ps := rfl
    have e2 : ((chgP (p :: ps)).length : Int) = (if p.2 = p.1 then 0 else 1) + ((chgP ps).length : Int) := by
      unfold chgP
      rw [List.filter_cons]
      by_cases he : p.2 = p.1
      · simp [he]
      · simp [he]; omega
    rw [e1, sumM_cons, ih, h1, List.map_cons, sumM_cons, e2]
    by_cases he : p.2 = p.1 <;> by_cases ho : odd au = odd a <;> simp only [he, ho, if_true, if_false] <;> omega
theorem sum_old (au : Int) (es : List Ent) : sumM au (es.filter fun e => !newB e) = sumM au es := by
  induction es with
  | nil => rfl
  | cons e es ih =>
    rw [List.filter_cons]
    cases hn : newB e with
    | false => simp only [Bool.not_false, if_true]; rw [sumM_cons, sumM_cons, ih]
    | true =>
      simp only [Bool.not_true, Bool.false_eq_true, if_false]
      rw [sumM_cons, ih]
      unfold newB at hn
      rw [Bool.and_eq_true, decide_eq_true_eq, decide_eq_true_eq] at hn
      unfold mineE mineI
      rw [hn.1, hn.2, show cl 0 = 0 from rfl]
      split <;> omega
theorem fine_new {e : Ent} (h : fineE e = true) : newB e = false := by
  have := ((fineE_iff e).1 h).2.1
  unfold newB
  rw [Bool.and_eq_false_iff, decide_eq_false_iff_not, decide_eq_false_iff_not]
  omega
theorem pair_range {es : List Ent} {fs : List Fil} (h : RightA es) {p : Ent × Ent} (hp : p ∈ bothL es fs) : 0 ≤ p.1.l ∧ p.1.l ≤ 1073741824 ∧ 0 ≤ p.1.r ∧ p.1.r ≤ 1073741824 := by
  rcases (both_pair es fs p hp).was with h1 | ⟨h1, -⟩
  · exact ((fineE_iff _).1 (h.fine _ h1)).1
  · rw [h1]; simp [fresh]
theorem okP_free {a : Int} {ps : List (Ent × Ent)} (h : okP a ps = true) : ∀ p ∈ ps, stuck a p = false := by
  unfold okP at h
  rw [Bool.and_eq_true, List.all_eq_true] at h
  intro p hp
  simpa using h.2 p hp
theorem scan_sums {es : List Ent} {fs : List Fil} {a : Int} (hn : scanN es fs a = 0) (au : Int) : sumM au (scanA es fs a) - sumM au es = if odd au = odd a then ((scanC es fs a).length : Int) else 0 := by
  obtain ⟨h, k, ho⟩ := scanN_ok.1 hn
  have h1 := sum_new (au := au) (fun p hp => pair_range h hp) (okP_free ho)
  have h2 := both_was es fs fun e he => fine_new (h.fine e he)
  have h3 := sum_old au ((bothL es fs).map (·.1))
  rw [h2] at h3
  rw [scanA, scanC, if_pos hn, if_pos hn, h1, h3]
  omega
end Go.Proofs.YtnkkjedckehoaaaDoor
namespace Go.Proofs.YtnkkjedckehoaaaDoor
open Go.RowKit

theorem SrtP.one {ps : List (Ent × Ent)} (h : SrtP ps) {p q : Ent × Ent} (hp : p ∈ ps) (hq : q ∈ ps) (e : p.2.path = q.2.path) : p = q := by
  obtain ⟨i, hi, rfl⟩ := List.mem_iff_getElem.1 hp
  obtain ⟨k, hk, rfl⟩ := List.mem_iff_getElem.1 hq
  have hh := List.pairwise_iff_getElem.1 h
  rcases Nat.lt_trichotomy i k with h1 | h1 | h1
  · have := hh i k hi hk h1
    unfold epth at this
    rw [e] at this; exact absurd this (List.lt_irrefl _)
  · subst h1; rfl
  · have := hh k i hk hi h1
    unfold epth at this
    rw [e] at this; exact absurd this (List.lt_irrefl _)
theorem mem_chg {ps : List (Ent × Ent)} (h : SrtP ps) {p : Ent × Ent} (hp : p ∈ ps) : p.2.path ∈ chgP ps ↔ ¬ p.2 = p.1 := by
  unfold chgP
  rw [List.mem_map]
  constructor
  · rintro ⟨q, hq, e⟩
    rw [List.mem_filter] at hq
    obtain rfl := h.one hq.1 hp e
    simpa using hq.2
  · intro hne
    exact ⟨p, List.mem_filter.2 ⟨hp, by simpa using hne⟩, rfl⟩
theorem up_lt {x : Nat} (h : x < 1073741824) : up x = x + 1 := by unfold up; omega
theorem up_max {x : Nat} (h : ¬ x < 1073741824) (h2 : x ≤ 1073741824) : up x = x := by unfold up; omega
theorem ord_tick {l r a : Int} (h : 0 ≤ l ∧ l ≤ 1073741824 ∧ 0 ≤ r ∧ r ≤ 1073741824) (hs : (tickL l r a).1 = l → (tickL l r a).2 ≠ r) : ordI (cl l) (cl r) (cl (tickL l r a).1) (cl (tickL l r a).2) = 1 := by
  obtain ⟨x, rfl⟩ : ∃ x : Nat, l = x := ⟨l.toNat, by omega⟩
  obtain ⟨y, rfl⟩ : ∃ y : Nat, r = y := ⟨r.toNat, by omega⟩
  have hx : x ≤ 1073741824 := by omega
  have hy : y ≤ 1073741824 := by omega
  unfold tickL at hs ⊢
  rw [cl_nat hx, cl_nat hy] at *
  cases ho : odd a with
  | true =>
    rw [ho] at hs
    simp only [if_true] at hs ⊢
    rw [cl_nat hx, cl_nat (up_le y)]
    by_cases hlt : y < 1073741824
    · rw [up_lt hlt]; unfold ordI; rw [if_neg (by omega), if_pos (by omega)]
    · rw [up_max hlt hy] at hs; exact absurd rfl (hs trivial)
  | false =>
    rw [ho] at hs
    simp only [Bool.false_eq_true, if_false] at hs ⊢
    rw [cl_nat hy, cl_nat (up_le x)]
    by_cases hlt : x < 1073741824
    · rw [up_lt hlt]; unfold ordI; rw [if_neg (by omega), if_pos (by omega)]
    · rw [up_max hlt hx] at hs; exact absurd rfl (hs rfl)
def inC (p : ByteArray) (l : List ByteArray) : Bool := l.any fun s => decide (s = p)
theorem inC_iff {p : ByteArray} {l : List ByteArray} : inC p l = true ↔ p ∈ l := by
  unfold inC
  rw [List.any_eq_true]
  constructor
  · rintro ⟨s, hs, h⟩
    rw [decide_eq_true_eq] at h
    rw [← h]; exact hs
  · exact fun h => ⟨p, h, decide_eq_true rfl⟩
theorem inC_no {p : ByteArray} {l : List ByteArray} (h : ¬ p ∈ l) : inC p l = false := not_true fun e => h (inC_iff.1 e)
/-- What a scan did at the i-th path. -/
inductive KeepsAt (es : List Ent) (e : Ent) (ch : Bool) (k : Int) : Prop
  | same (hc : ch = false) (j : Nat) (hj : j < es.length) (hk : k = j) (he : es[j] = e)
  | fresh (hc : ch = true) (hk : k = -1)
  | turned (hc : ch = true) (j : Nat) (hj : j < es.length) (hk : k = j) (hd : ¬ (es[j].has = e.has ∧ es[j].data = e.data)) (ho : ordI (cl es[j].l) (cl es[j].r) (cl e.l) (cl e.r) = 1)
theorem scan_at {es : List Ent} {fs : List Fil} {a : Int} (hn : scanN es fs a = 0) {i : Nat} (hi : i < (scanA es fs a).length) :
    KeepsAt es (scanA es fs a)[i] (inC (scanA es fs a)[i].path (scanC es fs a)) (findE es (scanA es fs a)[i].path) := by
  obtain ⟨h, k, ho⟩ := scanN_ok.1 hn
  have hsrt := both_srt es fs h.srt k.srt
  have hA : scanA es fs a = (bothL es fs).map (newE a) := by rw [scanA, if_pos hn]; rfl
  have hC : scanC es fs a = chgP (bothL es fs) := by rw [scanC, if_pos hn]
  have hi' : i < (bothL es fs).length := by rw [hA, List.length_map] at hi; exact hi
  obtain ⟨p, hpe⟩ : ∃ p, (bothL es fs)[i] = p := ⟨_, rfl⟩
  have hp : p ∈ bothL es fs := by rw [← hpe]; exact List.getElem_mem hi'
  have he : (scanA es fs a)[i] = newE a p := by
    simp only [hA, List.getElem_map, hpe]
  rw [he, hC, newE_path]
  have hP := both_pair es fs p hp
  have hF : findE es p.2.path = idxE es p.2.path := by unfold findE; rw [(archR_iff es).2 h]; rfl
  rw [hF]
  -- whatever the archive has at that path was there
  have hwas : ∀ (j : Nat) (hj : j < es.length), es[j].path = p.2.path → es[j] = p.1 := by
    intro j hj hpj
    have hm : es[j] ∈ ((bothL es fs).map (·.1)).filter (fun e => !newB e) := by
      rw [both_was es fs fun e he => fine_new (h.fine e he)]; exact List.getElem_mem hj
    obtain ⟨q, hq, e⟩ := List.mem_map.1 (List.mem_filter.1 hm).1
    have hQ := both_pair es fs q hq
    have : q = p := hsrt.one hq hp (by rw [hQ.path, e]; exact hpj)
    rw [← e, this]
  by_cases heq : p.2 = p.1
  · have hin := pair_new hp heq
    obtain ⟨j, hj, hje⟩ := List.mem_iff_getElem.1 hin
    have hk := idxE_srt h.srt hj
    rw [hje, ← hP.path] at hk
    exact .same (inC_no fun hm => (mem_chg hsrt hp).1 hm heq) j hj hk (by rw [newE_eq heq, hje, heq])
  · have hch : inC p.2.path (chgP (bothL es fs)) = true := inC_iff.2 ((mem_chg hsrt hp).2 heq)
    rcases idxE_cases es p.2.path with ⟨h1, -⟩ | ⟨j, hj, h1, h2⟩
    · exact .fresh hch h1
    · have hjp := hwas j hj h2
      refine .turned hch j hj h1 ?_ ?_
      · rw [hjp, newE_has, newE_data]
        rintro ⟨x1, x2⟩
        exact heq (Ent.same hP.path x1.symm x2.symm hP.cl hP.cr)
      · rw [hjp]
        have hr := pair_range h hp
        have hs := okP_free ho p hp
        unfold stuck at hs
        rw [decide_eq_false heq] at hs
        simp only [Bool.not_false, Bool.true_and, decide_eq_false_iff_not] at hs
        have hs' : (tickL p.1.l p.1.r a).1 = p.1.l → (tickL p.1.l p.1.r a).2 ≠ p.1.r := fun h1 h2 => hs (Prod.ext h1 h2)
        clear hs
        unfold newE
        rw [if_neg heq]
        exact ord_tick hr hs'
theorem scan_more {es : List Ent} {fs : List Fil} {a : Int} (hn : scanN es fs a = 0) : es.length ≤ (scanA es fs a).length := by
  obtain ⟨h, -, -⟩ := scanN_ok.1 hn
  have := both_was es fs fun e he => fine_new (h.fine e he)
  rw [scanA, if_pos hn, outP, List.length_map]
  have h1 : (((bothL es fs).map (·.1)).filter (fun e => !newB e)).length ≤ ((bothL es fs).map (·.1)).length := List.length_filter_le _ _
  rw [this, List.length_map] at h1
  exact h1
theorem scan_chgs {es : List Ent} {fs : List Fil} {a : Int} (hn : scanN es fs a = 0) : sortedL (lst (scanC es fs a)) = true := by
  obtain ⟨h, k, ho⟩ := scanN_ok.1 hn
  have hsrt := both_srt es fs h.srt k.srt
  rw [scanC, if_pos hn]
  have e : lst (chgP (bothL es fs)) = ((bothL es fs).filter fun p => !decide (p.2 = p.1)).map fun p => epth p.2 := by
    unfold lst chgP
    rw [List.map_map]
    rfl
  rw [e]
  refine srt_mk ?_ ?_
  · intro s hs
    obtain ⟨p, hp, rfl⟩ := List.mem_map.1 hs
    exact pair_right h k (List.mem_filter.1 hp).1
  · exact List.pairwise_map.2 (List.Pairwise.filter _ hsrt)
theorem scanC_sz {es : List Ent} {fs : List Fil} (a : Int) (h1 : ∀ e ∈ es, SzE e) (h2 : ∀ f ∈ fs, SzF f) : ∀ s ∈ scanC es fs a, s.size < 4294967281 := by
  intro s hs
  unfold scanC at hs
  split at hs
  · unfold chgP at hs
    obtain ⟨p, hp, rfl⟩ := List.mem_map.1 hs
    exact (both_sz h1 h2 p (List.mem_filter.1 hp).1).1
  · cases hs
end Go.Proofs.YtnkkjedckehoaaaDoor
namespace Go.Proofs.YtnkkjedckehoaaaDoor
open Go.RowKit

/-- What the archive, and the tree, have at a path. -/
def wasP (es : List Ent) (p : ByteArray) : Ent := match es.find? (fun e => decide (e.path = p)) with
  | some e => e
  | none => fresh p
theorem getT_some {fs : List Fil} (h : RightT fs) {f : Fil} (hf : f ∈ fs) : getT fs f.1.data.toList = some f.2 := by
  have ht : thereT fs f.1.data.toList = true := there_iff.2 ⟨f, hf, rfl⟩
  obtain ⟨hl, e⟩ := get_of (p := f.1) ((treeR_iff fs).2 h) ht
  rw [e]
  obtain ⟨hl2, e2⟩ := (there_at h.srt).1 ht
  have : fs[(lowT fs f.1.data.toList).length] = f := h.srt.inj (List.getElem_mem _) hf e2
  rw [this]
theorem getT_none {fs : List Fil} {p : ByteArray} (h : ∀ f ∈ fs, f.1 ≠ p) : getT fs p.data.toList = none := by
  have ht : thereT fs p.data.toList = false := there_no.2 fun f hf e => h f hf (data_inj e)
  exact get_none (by rw [ht, Bool.and_false])
/-- The i-th pair, as the document tells it. -/
structure PairAt9 (es : List Ent) (fs : List Fil) (p : Ent × Ent) : Prop where
  get : getT fs p.2.path.data.toList = if p.2.has then some p.2.data else none
  was : (idxE es p.2.path = -1 ∧ p.1 = fresh p.2.path ∧ ¬ p.2 = p.1) ∨ ∃ (j : Nat) (hj : j < es.length), idxE es p.2.path = j ∧ es[j] = p.1
  is : p.2 = ⟨p.2.path, p.2.has, if p.2.has then p.2.data else noS, p.1.l, p.1.r⟩
  path : p.1.path = p.2.path
theorem pair_at9 {es : List Ent} {fs : List Fil} (h : RightA es) (k : RightT fs) {p : Ent × Ent} (hp : p ∈ bothL es fs) : PairAt9 es fs p := by
  have hP := both_pair es fs p hp
  have hsrt := both_srt es fs h.srt k.srt
  have hwas : ∀ (j : Nat) (hj : j < es.length), es[j].path = p.2.path → es[j] = p.1 := by
    intro j hj hpj
    have hm : es[j] ∈ ((bothL es fs).map (·.1)).filter (fun e => !newB e) := by
      rw [both_was es fs fun e he => fine_new (h.fine e he)]; exact List.getElem_mem hj
    obtain ⟨q, hq, e⟩ := List.mem_map.1 (List.mem_filter.1 hm).1
    have hQ := both_pair es fs q hq
    have : q = p := hsrt.one hq hp (by rw [hQ.path, e]; exact hpj)
    rw [← e, this]
  refine ⟨?_, ?_, ?_, hP.path.symm⟩
  · cases hh : p.2.has with
    | true =>
      rw [if_pos rfl]
      exact getT_some k (f := (p.2.path, p.2.data)) (hP.is hh)
    | false =>
      rw [if_neg (by simp)]
      refine getT_none fun f hf e => ?_
      have hf' := hf
      rw [← both_files es fs] at hf'
      obtain ⟨x, hx, hxh, rfl⟩ := mem_files.1 hf'
      obtain ⟨q, hq, rfl⟩ := List.mem_map.1 hx
      have : q = p := hsrt.one hq hp e
      rw [this, hh] at hxh
      cases hxh
  · rcases hP.was with hm | ⟨hf, hh⟩
    · obtain ⟨j, hj, e⟩ := List.mem_iff_getElem.1 hm
      have hk := idxE_srt h.srt hj
      rw [e, ← hP.path] at hk
      exact .inr ⟨j, hj, hk, e⟩
    · rcases idxE_cases es p.2.path with ⟨h1, -⟩ | ⟨j, hj, h1, h2⟩
      · refine .inl ⟨h1, by rw [hP.path]; exact hf, fun e => ?_⟩
        have := congrArg Ent.has e
        rw [hf, hh] at this
        cases this
      · exact .inr ⟨j, hj, h1, hwas j hj h2⟩
  · refine Ent.same rfl rfl ?_ hP.cl hP.cr
    cases hh : p.2.has with
    | true => rfl
    | false => exact hP.none hh
end Go.Proofs.YtnkkjedckehoaaaDoor
namespace Go.Proofs.YtnkkjedckehoaaaDoor
open Go.RowKit

/-- Two rows of the call's own: what is out, what changed. -/
structure RSt (base : Nat) (v u : Value) (out : List Ent) (ch : List ByteArray) (W : World) : Prop where
  o : W.ownsRow base 37 5 v out.length (entV out)
  c : W.ownsRow base 9 1 u ch.length (strV ch)
theorem RSt.below {base : Nat} {v u : Value} {out : List Ent} {ch : List ByteArray} {W W' : World} (h : RSt base v u out ch W) (hb : Below W.heap.size W W') : RSt base v u out ch W' := ⟨own_below h.o hb, own_below h.c hb⟩
theorem RSt.set {base : Nat} {v u : Value} {out : List Ent} {ch : List ByteArray} {W : World} (h : RSt base v u out ch W) {g : Nat} (hv : some g ≠ v.ownBlock) (hu : some g ≠ u.ownBlock) (i : Nat) (x : Value) : RSt base v u out ch (W.setCell ⟨g, i, none⟩ x) := ⟨h.o.kept (grown_set i x) (.inr (Ne.symm hv)), h.c.kept (grown_set i x) (.inr (Ne.symm hu))⟩
theorem RSt.apart {base : Nat} {v u : Value} {out : List Ent} {ch : List ByteArray} {W : World} (h : RSt base v u out ch W) {g : Nat} (hg : W.heap.size ≤ g) : some g ≠ v.ownBlock ∧ some g ≠ u.ownBlock := ⟨fun e => by have := (h.o.lt g e.symm).2; omega, fun e => by have := (h.c.lt g e.symm).2; omega⟩
/-- One more is out. -/
theorem RSt.app {base : Nat} {v u : Value} {out : List Ent} {ch : List ByteArray} {W : World} (h : RSt base v u out ch W) (hn : base ≤ W.heap.size) (hk : out.length ≤ 1000000) (z : Ent) :
    ∃ A' c' w1, Hid ((Builtin.append_ #[22, 22] 22 #[v, .slice (some ⟨W.heap.size, 0, none⟩) 1 1]).run Tryd.prog (W.alloc (.cells #[.string z.path, .bool z.has, .string z.data, .int .i64 z.l, .int .i64 z.r] 37)) = .ok (.slice A' (out.length + 1) c') w1) ∧ RSt base (.slice A' (out.length + 1) c') u (out ++ [z]) ch w1 ∧ Below base W w1 := by
  obtain ⟨A', c', w1, h1, h2, h3, h4⟩ := app_own2 (n₀ := base) Tryd.underlying22 Tryd.infoE rfl (by decide) h.o hn (by omega) (by unfold maxLen; omega) (eV z) rfl (by intro u hu; exact entV_one [z] u (by simpa [entV] using hu))
  refine ⟨A', c', w1, h1, ⟨by simpa [entV] using h2, ?_⟩, h4⟩
  exact (h.c.alloc (.cells (eV z).toArray 37)).kept h3 ((rows_apart h.c h.o (by decide)).imp id id)
/-- One more changed. -/
theorem RSt.appS {base : Nat} {v u : Value} {out : List Ent} {ch : List ByteArray} {W : World} (h : RSt base v u out ch W) (hn : base ≤ W.heap.size) (hk : ch.length ≤ 1000000) (z : ByteArray) :
    ∃ A' c' w1, Hid ((Builtin.append_ #[27, 27] 27 #[u, .slice (some ⟨W.heap.size, 0, none⟩) 1 1]).run Tryd.prog (W.alloc (.cells #[.string z] 9)) = .ok (.slice A' (ch.length + 1) c') w1) ∧ RSt base v (.slice A' (ch.length + 1) c') out (ch ++ [z]) w1 ∧ Below base W w1 ∧ (∀ g cs t, t ≠ 9 → Blk W g cs t → Blk w1 g cs t) := by
  obtain ⟨A', c', w1, h1, h2, h3, h4⟩ := app_own2 (n₀ := base) Tryd.underlying27 Tryd.infoS rfl (by decide) h.c hn (by omega) (by unfold maxLen; omega) [.string z] rfl (by simp [Value.oneCell'])
  refine ⟨A', c', w1, h1, ⟨?_, by simpa [strV] using h2⟩, h4, fun g cs t ht hb => ?_⟩
  · exact (h.o.alloc (.cells [Value.string z].toArray 9)).kept h3 ((rows_apart h.o h.c (by decide)).imp id id)
  · exact (h3.block g (by have := hb.lt; simp; omega) (blk_row h.c hb ht)).trans (Blk.below hb ((Below.refl _ _).alloc (Nat.le_refl _) _))
theorem rtick_any (l r a : Int) (w : World) :
    Calls Tryd.prog 40 #[.agg #[.int .i64 l, .int .i64 r], .int .i64 a] w fun e w' => e = .returned (.agg #[.int .i64 ((tkc l r a).1 : Nat), .int .i64 ((tkc l r a).2 : Nat)]) ∧ Below w.heap.size w w' := by
  unfold tkc
  cases ho : odd a with
  | true => exact rtick_odd l r a w ho
  | false => exact rtick_even l r a w ho
theorem getV_is {fs : List Fil} {es : List Ent} {p : Ent × Ent} (h : PairAt9 es fs p) : getV (getT fs p.2.path.data.toList) = .tuple #[.string p.2.data, .bool p.2.has] := by
  have hd := congrArg Ent.data h.is
  simp only at hd
  rw [h.get]
  cases hh : p.2.has with
  | true => rfl
  | false =>
    rw [hh, if_neg (by simp)] at hd
    rw [hd]
    rfl

set_option maxRecDepth 20000 in
set_option maxHeartbeats 8000000 in
theorem rscan_any {w : World} {A B : Option Addr} {n c m d : Nat} {es : List Ent} {fs : List Fil} (h : Et w A n c es) (k : Ft w B m d fs) (a : Int) (hm : m ≤ 100000) (hn : n ≤ 100000) :
    Calls Tryd.prog 13 #[.slice A n c, .slice B m d, .int .i64 a] w (ScanPost w es fs a) := by
  have serr : ∀ (q : Nat) (w' : World), scanN es fs a = q → q ≠ 0 → Below w.heap.size w w' → ScanPost w es fs a (.returned (.tuple #[.slice none 0 0, .slice none 0 0, .int .i64 (q : Nat)])) w' := fun q w' hq h0 hb => by
    have e1 : scanA es fs a = [] := by unfold scanA; rw [hq, if_neg h0]
    have e2 : scanC es fs a = [] := by unfold scanC; rw [hq, if_neg h0]
    refine ⟨none, 0, none, 0, ?_, ?_, ?_, hb⟩
    · rw [e1, e2, hq]; rfl
    · rw [e1]; exact World.ownsRow_nil _ _ _ _
    · rw [e2]; exact World.ownsRow_nil _ _ _ _
  have SERR := hid serr
  clear serr
  go_enter Tryd.func13, Tryd.ntmps13
  have k1 := refTree k
  cases hT : treeR fs with
  | false =>
    rw [hT] at k1
    have HN := hid (scanN_arg (l := es) (t := fs) (a := a) (by rw [hT, Bool.and_false]))
    clear hT
    go_wp2_with fail
    refine k1.mono ?_
    rintro e w1 ⟨rfl, b1⟩
    go_wp2
    refine bodyPost_ret (v := .tuple #[.slice none 0 0, .slice none 0 0, .int .i64 1]) (by simp [results, Tryd.results13, go_sem]) rfl (SERR.out 1 _ HN.out (by decide) b1)
  | true =>
    rw [hT] at k1
    go_wp2_with fail
    refine k1.mono ?_
    rintro e w1 ⟨rfl, b1⟩
    have h1 := h.below b1
    have kk1 := k.below b1
    clear k1 h k
    have k2 := rright9_any h1
    cases hA : archR es with
    | false =>
      rw [hA] at k2
      have HN := hid (scanN_arg (l := es) (t := fs) (a := a) (by rw [hA, Bool.false_and]))
      clear hT hA
      go_wp2_with fail
      refine k2.mono ?_
      rintro e w2 ⟨rfl, hb2⟩
      have b2 := below2 b1 hb2
      go_wp2
      refine bodyPost_ret (v := .tuple #[.slice none 0 0, .slice none 0 0, .int .i64 1]) (by simp [results, Tryd.results13, go_sem]) rfl (SERR.out 1 _ HN.out (by decide) b2)
    | true =>
      rw [hA] at k2
      have hRA := (archR_iff es).1 hA
      have hRT := (treeR_iff fs).1 hT
      have HN := hid (scanN_two (a := a) (show (archR es && treeR fs) = true by rw [hA, hT]; rfl))
      have HALL := hid (all_both hRA.srt hRT.srt)
      have HAT : Hid (∀ p ∈ bothL es fs, PairAt9 es fs p) := fun p hp => pair_at9 hRA hRT hp
      clear hT hA hRA hRT
      go_wp2_with fail
      refine k2.mono ?_
      rintro e w2 ⟨rfl, hb2⟩
      have h2 := h1.below hb2
      have kk2 := kk1.below hb2
      have b2 := below2 b1 hb2
      clear hb2 k2 h1 kk1 b1
      have k3 := rpaths_any h2 kk2 hm hn
      rw [HALL.out] at k3
      go_wp2_with fail
      refine k3.mono ?_
      rintro e w3 ⟨C, q, rfl, hCq, hrC, hb3⟩
      have h3 := h2.below hb3
      have kk3 := kk2.below hb3
      have b3 := below2 b2 hb3
      clear hb3 k3 h2 kk2 b2 HALL
      have HSA : Hid (okP a (bothL es fs) = true → scanN es fs a = 0 ∧ scanA es fs a = outP a (bothL es fs) ∧ scanC es fs a = chgP (bothL es fs)) := fun ho => by
        have h0 : scanN es fs a = 0 := by rw [HN.out, ho]; rfl
        exact ⟨h0, by rw [scanA, if_pos h0], by rw [scanC, if_pos h0]⟩
      have HSB : Hid (okP a (bothL es fs) = false → scanN es fs a = 2) := fun ho => by rw [HN.out, ho]; rfl
      have HLEN : Hid (((bothL es fs).map (·.2.path)).length = (bothL es fs).length) := List.length_map ..
      rw [HLEN.out] at hCq ⊢
      generalize bothL es fs = ps at *
      generalize hnp : ps.length = np at *
      have HNP := hid hnp
      clear hnp HN
      by_cases h32 : (32 : Int) < np
      · have HB := hid (HSB.out (okP_long (by rw [HNP.out]; omega)))
        go_wp2
        refine bodyPost_ret (v := .tuple #[.slice none 0 0, .slice none 0 0, .int .i64 2]) (by simp [results, Tryd.results13, go_sem]) rfl (SERR.out 2 _ HB.out (by decide) b3)
      · have rl := h3.rd
        have HLE := hid h3.len
        go_wp2_with fail
        go_loopw [11, 12, 13] (fun x y i wr => ∃ (j : Nat) (A1 : Option Addr) (c1 : Nat) (A2 : Option Addr) (c2 : Nat) (out : List Ent) (ch : List ByteArray), j ≤ np ∧ i = .int .i64 j ∧ x = .slice A1 out.length c1 ∧ y = .slice A2 ch.length c2 ∧ Hid (out.length = j) ∧ Hid (ch.length ≤ j) ∧ Hid (out = outP a (ps.take j)) ∧ Hid (ch = chgP (ps.take j)) ∧ Hid (okP a (ps.take j) = true) ∧ RSt w3.heap.size (.slice A1 out.length c1) (.slice A2 ch.length c2) out ch wr ∧ Below w3.heap.size w3 wr) (fun _ _ i _ => np - (intOf i).toNat)
        case atStart => exact ⟨0, none, 0, none, 0, [], [], by omega, rfl, rfl, rfl, hid rfl, hid (Nat.le_refl _), by simp [Hid, outP], by simp [Hid, chgP], by simp [Hid, okP], ⟨World.ownsRow_nil _ _ _ _, World.ownsRow_nil _ _ _ _⟩, Below.refl _ _⟩
        case round =>
          obtain ⟨j, A1, c1, A2, c2, out, ch, hj, rfl, rfl, rfl, hol, hcl, HOUT, HCH, HOK, hS, hb⟩ := hrel
          by_cases hjn : j < np
          · have hjl : j < ps.length := by rw [HNP.out]; exact hjn
            have hz : (0 : Int) ≤ j := by omega
            have hlt : (j : Int) < np := by omega
            obtain ⟨gC, oC, rfl, y0, -⟩ := (hrC.below hb).at_ (k := j) (by rw [strV_length, List.length_map]; exact hjl)
            rw [show (strV (ps.map (·.2.path)))[j]'(by rw [strV_length, List.length_map]; exact hjl) = .string ps[j].2.path by simp [strV]] at y0
            have HP := hid (HAT.out ps[j] (List.getElem_mem hjl))
            have HM : Hid (ps.take (j + 1) = ps.take j ++ [ps[j]]) := by show _ = _; rw [List.take_add_one, List.getElem?_eq_getElem hjl]; rfl
            have HPRE : Hid (ps.take (j + 1) <+: ps) := List.take_prefix _ _
            have HTL : Hid ((ps.take j).length < 32) := by show _ < _; rw [List.length_take]; omega
            generalize ps[j] = pr at *
            obtain ⟨was, is⟩ := pr
            have k4 := refGet (kk3.below hb) is.path
            rw [getV_is HP.out] at k4
            have HO1 : Hid (outP a (ps.take (j + 1)) = out ++ [newE a (was, is)]) := by show _ = _; rw [HM.out, outP_more, HOUT.out]
            have HC1 : Hid (chgP (ps.take (j + 1)) = ch ++ (if is = was then [] else [is.path])) := by show _ = _; rw [HM.out, chgP_more, HCH.out]
            have HK1 : Hid (stuck a (was, is) = false → okP a (ps.take (j + 1)) = true) := fun hs => by rw [HM.out]; exact okP_more a _ _ HOK.out HTL.out hs
            have HK2 : Hid (stuck a (was, is) = true → scanN es fs a = 2) := fun hs => HSB.out (okP_pre HPRE.out (okP_stuck (p := (was, is)) (by rw [HM.out]; simp) hs))
            clear HM HPRE HTL HOUT HCH HOK
            go_wp2_with fail
            refine k4.mono ?_
            rintro e w5 ⟨rfl, hb5⟩
            have S5 := hS.below hb5
            have bl5 := hb.trans (hb5.mono hb.size)
            clear k4 hS hb hb5 y0
            have S6 := S5.below ((Below.refl _ _).alloc (Nat.le_refl _) (.cells #[.string is.path, .bool false, .string ⟨#[]⟩, .int .i64 0, .int .i64 0] 37))
            have bl6 := bl5.alloc bl5.size (.cells #[.string is.path, .bool false, .string ⟨#[]⟩, .int .i64 0, .int .i64 0] 37)
            have q6 := Blk.new w5 [.string is.path, .bool false, .string ⟨#[]⟩, .int .i64 0, .int .i64 0] 37
            have ap := S5.apart (Nat.le_refl _)
            have hge : w3.heap.size ≤ w5.heap.size := bl5.size
            have k5 := rpos_any A n c es is.path (w5.alloc (.cells #[.string is.path, .bool false, .string ⟨#[]⟩, .int .i64 0, .int .i64 0] 37)) HLE.out (rl.below bl6) h3.big
            go_wp2_with fail
            refine k5.mono ?_
            rintro e w6 ⟨rfl, rfl⟩
            clear k5 S5 bl5
            generalize w5.alloc (.cells #[.string is.path, .bool false, .string ⟨#[]⟩, .int .i64 0, .int .i64 0] 37) = X at *
            generalize w5.heap.size = g at *
            rcases HP.out.was with ⟨hi, hw, hneq⟩ | ⟨i, hil, hi, hw⟩
            · rw [hi]
              have hw0 : was = fresh is.path := hw
              have hneq' : ¬ is = was := hneq
              have Bq : Blk X g [.string was.path, .bool was.has, .string was.data, .int .i64 was.l, .int .i64 was.r] 37 := by rw [hw0]; exact q6
              have SY := S6
              have blY := bl6
              obtain ⟨Y, rfl⟩ : ∃ Y, Y = X := ⟨_, rfl⟩
              clear hi hw hw0 hneq q6 S6 bl6 HP
              obtain ⟨t1, t2, ht⟩ : ∃ t1 t2, tkc was.l was.r a = (t1, t2) := ⟨_, _, rfl⟩
              have kt := rtick_any was.l was.r a
              rw [ht] at kt
              have HSTK := hid (stuck_eq (p := (was, is)) ht hneq')
              have HNEW := hid (newE_ne (p := (was, is)) ht hneq')
              have HC2 : Hid (chgP (ps.take (j + 1)) = ch ++ [is.path]) := by show _ = _; rw [HC1.out, if_neg hneq']
              have p3 := Bq.cell 3
              have p4 := Bq.cell 4
              simp only [List.getElem?_cons_zero, List.getElem?_cons_succ] at p3 p4
              clear ht hneq' HC1
              go_wp2_with fail
              refine (kt _).mono ?_
              rintro e wt ⟨rfl, hbt⟩
              have Su := (SY.below hbt).below ((Below.refl _ _).alloc (Nat.le_refl _) (.cells #[.int .i64 (t1 : Int), .int .i64 (t2 : Int)] 35))
              have bt := blY.trans (hbt.mono blY.size)
              have bu := bt.alloc bt.size (.cells #[.int .i64 (t1 : Int), .int .i64 (t2 : Int)] 35)
              have qt := Bq.below hbt
              have hgt := qt.lt
              have qu := qt.below ((Below.refl _ _).alloc (Nat.le_refl _) (.cells #[.int .i64 (t1 : Int), .int .i64 (t2 : Int)] 35))
              have cc := Blk.new wt [.int .i64 (t1 : Int), .int .i64 (t2 : Int)] 35
              have hgc : wt.heap.size ≠ g := by omega
              clear kt hbt SY blY Bq bt qt p3 p4
              generalize HU : wt.alloc (.cells #[.int .i64 (t1 : Int), .int .i64 (t2 : Int)] 35) = U at Su bu qu cc
              have v0 := cc.cell 0
              have v1 := cc.cell 1
              have u0 := qu.cell 0
              have u1 := qu.cell 1
              have u2 := qu.cell 2
              have u3 := qu.cell 3
              have u4 := qu.cell 4
              simp only [List.getElem?_cons_zero, List.getElem?_cons_succ] at v0 v1 u0 u1 u2 u3 u4
              have hep := eqP (t1 : Int) (t2 : Int) was.l was.r
              by_cases hst : (t1 : Int) = was.l ∧ (t2 : Int) = was.r
              · rw [decide_eq_true hst.1, decide_eq_true hst.2] at hep HSTK
                have HB := hid (HK2.out HSTK.out)
                have bz := below2 b3 bu
                clear hst
                go_wp2
                refine bodyPost_ret (v := .tuple #[.slice none 0 0, .slice none 0 0, .int .i64 2]) (by simp [results, Tryd.results13, go_sem]) rfl (SERR.out 2 _ HB.out (by decide) bz)
              · have hstb : (decide ((t1 : Int) = was.l) && decide ((t2 : Int) = was.r)) = false := by by_cases h1 : (t1 : Int) = was.l <;> by_cases h2 : (t2 : Int) = was.r <;> simp [h1, h2] <;> exact hst ⟨h1, h2⟩
                rw [hstb] at hep HSTK
                have HOK2 := hid (HK1.out HSTK.out)
                clear hst hstb
                have n0 := qu.frozen 0
                have n1 := qu.frozen 1
                have n2 := qu.frozen 2
                have n3 := qu.frozen 3
                have n4 := qu.frozen 4
                have Bz : Blk (((((U.setCell ⟨g, 0, none⟩ (.string is.path)).setCell ⟨g, 1, none⟩ (.bool is.has)).setCell ⟨g, 2, none⟩ (.string is.data)).setCell ⟨g, 3, none⟩ (.int .i64 (t1 : Int))).setCell ⟨g, 4, none⟩ (.int .i64 (t2 : Int))) g [.string is.path, .bool is.has, .string is.data, .int .i64 (t1 : Int), .int .i64 (t2 : Int)] 37 := ((((qu.set_ 0 (.string is.path)).set_ 1 (.bool is.has)).set_ 2 (.string is.data)).set_ 3 (.int .i64 (t1 : Int))).set_ 4 (.int .i64 (t2 : Int))
                have SZ := ((((Su.set ap.1 ap.2 0 (.string is.path)).set ap.1 ap.2 1 (.bool is.has)).set ap.1 ap.2 2 (.string is.data)).set ap.1 ap.2 3 (.int .i64 (t1 : Int))).set ap.1 ap.2 4 (.int .i64 (t2 : Int))
                have blZ := ((((bu.setCell (p := ⟨g, 0, none⟩) hge (.string is.path)).setCell (p := ⟨g, 1, none⟩) hge (.bool is.has)).setCell (p := ⟨g, 2, none⟩) hge (.string is.data)).setCell (p := ⟨g, 3, none⟩) hge (.int .i64 (t1 : Int))).setCell (p := ⟨g, 4, none⟩) hge (.int .i64 (t2 : Int))
                generalize HZ : ((((U.setCell ⟨g, 0, none⟩ (.string is.path)).setCell ⟨g, 1, none⟩ (.bool is.has)).setCell ⟨g, 2, none⟩ (.string is.data)).setCell ⟨g, 3, none⟩ (.int .i64 (t1 : Int))).setCell ⟨g, 4, none⟩ (.int .i64 (t2 : Int)) = Z at Bz SZ blZ
                obtain ⟨A8, c8, w8, HRUN8, S8, e8, kb⟩ := SZ.appS (by exact blZ.size) (by have := hcl.out; omega) is.path
                have B8 := kb g _ _ (by decide) Bz
                have bl8 := blZ.trans e8
                have HO2 : Hid (outP a (ps.take (j + 1)) = out ++ [⟨is.path, is.has, is.data, (t1 : Int), (t2 : Int)⟩]) := by show _ = _; rw [HO1.out, HNEW.out]
                obtain ⟨A9, c9, w9, HRUN9, S9, e9⟩ := S8.app (by exact bl8.size) (by have := hol.out; omega) ⟨is.path, is.has, is.data, (t1 : Int), (t2 : Int)⟩
                have bl9 := bl8.trans e9
                have s0 := B8.cell 0
                have s1 := B8.cell 1
                have s2 := B8.cell 2
                have s3 := B8.cell 3
                have s4 := B8.cell 4
                simp only [List.getElem?_cons_zero, List.getElem?_cons_succ] at s0 s1 s2 s3 s4
                clear Su SZ S8 kb B8 Bz blZ bl8 e8 e9 HK1 HK2 HO1 HNEW HSTK
                go_wp2_with (at_builtin; first | refine Lib.wpList_append_run _ rfl _ _ _ _ rfl _ _ rfl rfl _ _ HRUN8.out ?_ | refine Lib.wpList_append_run _ rfl _ _ _ _ rfl _ _ rfl rfl _ _ HRUN9.out ?_)
                go_roundw
                case rel => exact ⟨j + 1, A9, c9, A8, c8, out ++ [⟨is.path, is.has, is.data, (t1 : Int), (t2 : Int)⟩], ch ++ [is.path], by omega, by go_num, by simp, by simp, hid (by have := hol.out; simp; omega), hid (by have := hcl.out; simp; omega), hid HO2.out.symm, hid HC2.out.symm, HOK2, by simpa using S9, bl9⟩
                case measure => simp [intOf]; omega
            · rw [hi]
              have hw' : es[i] = was := hw
              obtain ⟨gl, ol, rfl, l0, l1, l2, l3, l4, hgl⟩ := (rl.below bl6).ent hil
              rw [hw'] at l0 l1 l2 l3 l4
              have hin : (i : Int) < n := by have := HLE.out; omega
              have hiz : (0 : Int) ≤ i := by omega
              have hib : decide ((0 : Int) ≤ (i : Int)) = true := by simp
              have hib2 : decide ((i : Int) < 0) = false := by simp
              have x0 := q6.cell 0
              have x1 := q6.cell 1
              have x2 := q6.cell 2
              have x3 := q6.cell 3
              have x4 := q6.cell 4
              simp only [List.getElem?_cons_zero, List.getElem?_cons_succ] at x0 x1 x2 x3 x4
              have f0 := q6.frozen 0
              have f1 := q6.frozen 1
              have f2 := q6.frozen 2
              have f3 := q6.frozen 3
              have f4 := q6.frozen 4
              have Bq : Blk (((((X.setCell ⟨g, 0, none⟩ (.string was.path)).setCell ⟨g, 1, none⟩ (.bool was.has)).setCell ⟨g, 2, none⟩ (.string was.data)).setCell ⟨g, 3, none⟩ (.int .i64 was.l)).setCell ⟨g, 4, none⟩ (.int .i64 was.r)) g [.string was.path, .bool was.has, .string was.data, .int .i64 was.l, .int .i64 was.r] 37 := ((((q6.set_ 0 (.string was.path)).set_ 1 (.bool was.has)).set_ 2 (.string was.data)).set_ 3 (.int .i64 was.l)).set_ 4 (.int .i64 was.r)
              have SY := ((((S6.set ap.1 ap.2 0 (.string was.path)).set ap.1 ap.2 1 (.bool was.has)).set ap.1 ap.2 2 (.string was.data)).set ap.1 ap.2 3 (.int .i64 was.l)).set ap.1 ap.2 4 (.int .i64 was.r)
              have blY := ((((bl6.setCell (p := ⟨g, 0, none⟩) hge (.string was.path)).setCell (p := ⟨g, 1, none⟩) hge (.bool was.has)).setCell (p := ⟨g, 2, none⟩) hge (.string was.data)).setCell (p := ⟨g, 3, none⟩) hge (.int .i64 was.l)).setCell (p := ⟨g, 4, none⟩) hge (.int .i64 was.r)
              generalize HY : ((((X.setCell ⟨g, 0, none⟩ (.string was.path)).setCell ⟨g, 1, none⟩ (.bool was.has)).setCell ⟨g, 2, none⟩ (.string was.data)).setCell ⟨g, 3, none⟩ (.int .i64 was.l)).setCell ⟨g, 4, none⟩ (.int .i64 was.r) = Y at Bq SY blY
              have HIS := hid HP.out.is
              have HPA := hid HP.out.path
              clear hi hw hw' S6 bl6 HP
              have y1 := Bq.cell 1
              have y2 := Bq.cell 2
              simp only [List.getElem?_cons_zero, List.getElem?_cons_succ] at y1 y2
              have hsq := str_eqb was.data is.data
              by_cases hh : was.has = is.has
              · have hhb : (was.has == is.has) = true := by simp [hh]
                by_cases hd : was.data = is.data
                · rw [decide_eq_true hd] at hsq
                  have heq : is = was := by
                    have h1 := HIS.out
                    have e2 := congrArg Ent.l h1
                    have e3 := congrArg Ent.r h1
                    exact Ent.same HPA.out.symm hh.symm hd.symm e2 e3
                  have HNEW := hid (newE_eq (a := a) (p := (was, is)) heq)
                  have HST : Hid (stuck a (was, is) = false) := by show _ = _; unfold stuck; rw [decide_eq_true heq]; rfl
                  have HC2 : Hid (chgP (ps.take (j + 1)) = ch) := by show _ = _; rw [HC1.out, if_pos heq, List.append_nil]
                  have HO2 : Hid (outP a (ps.take (j + 1)) = out ++ [was]) := by show _ = _; rw [HO1.out, HNEW.out]; simp only [heq]
                  have HOK2 := hid (HK1.out HST.out)
                  clear heq hd hh HC1 HO1 HK1 HK2 HNEW HST
                  have c0 := Bq.cell 0
                  have c3 := Bq.cell 3
                  have c4 := Bq.cell 4
                  simp only [List.getElem?_cons_zero, List.getElem?_cons_succ] at c0 c3 c4
                  obtain ⟨A9, c9, w9, HRUN, S9, e9⟩ := SY.app (by exact blY.size) (by have := hol.out; omega) was
                  have bl9 := blY.trans e9
                  clear SY blY e9
                  go_wp2_with (at_builtin; refine Lib.wpList_append_run _ rfl _ _ _ _ rfl _ _ rfl rfl _ _ HRUN.out ?_)
                  go_roundw
                  case rel => exact ⟨j + 1, A9, c9, A2, c2, out ++ [was], ch, by omega, by go_num, by simp, rfl, hid (by have := hol.out; simp; omega), hid (by have := hcl.out; omega), hid HO2.out.symm, hid HC2.out.symm, HOK2, by simpa using S9, bl9⟩
                  case measure => simp [intOf]; omega
                · have hneq' : ¬ is = was := fun e => hd (by rw [e])
                  rw [decide_eq_false hd] at hsq
                  clear hd hh
                  obtain ⟨t1, t2, ht⟩ : ∃ t1 t2, tkc was.l was.r a = (t1, t2) := ⟨_, _, rfl⟩
                  have kt := rtick_any was.l was.r a
                  rw [ht] at kt
                  have HSTK := hid (stuck_eq (p := (was, is)) ht hneq')
                  have HNEW := hid (newE_ne (p := (was, is)) ht hneq')
                  have HC2 : Hid (chgP (ps.take (j + 1)) = ch ++ [is.path]) := by show _ = _; rw [HC1.out, if_neg hneq']
                  have p3 := Bq.cell 3
                  have p4 := Bq.cell 4
                  simp only [List.getElem?_cons_zero, List.getElem?_cons_succ] at p3 p4
                  clear ht hneq' HC1
                  go_wp2_with fail
                  refine (kt _).mono ?_
                  rintro e wt ⟨rfl, hbt⟩
                  have Su := (SY.below hbt).below ((Below.refl _ _).alloc (Nat.le_refl _) (.cells #[.int .i64 (t1 : Int), .int .i64 (t2 : Int)] 35))
                  have bt := blY.trans (hbt.mono blY.size)
                  have bu := bt.alloc bt.size (.cells #[.int .i64 (t1 : Int), .int .i64 (t2 : Int)] 35)
                  have qt := Bq.below hbt
                  have hgt := qt.lt
                  have qu := qt.below ((Below.refl _ _).alloc (Nat.le_refl _) (.cells #[.int .i64 (t1 : Int), .int .i64 (t2 : Int)] 35))
                  have cc := Blk.new wt [.int .i64 (t1 : Int), .int .i64 (t2 : Int)] 35
                  have hgc : wt.heap.size ≠ g := by omega
                  clear kt hbt SY blY Bq bt qt p3 p4
                  generalize HU : wt.alloc (.cells #[.int .i64 (t1 : Int), .int .i64 (t2 : Int)] 35) = U at Su bu qu cc
                  have v0 := cc.cell 0
                  have v1 := cc.cell 1
                  have u0 := qu.cell 0
                  have u1 := qu.cell 1
                  have u2 := qu.cell 2
                  have u3 := qu.cell 3
                  have u4 := qu.cell 4
                  simp only [List.getElem?_cons_zero, List.getElem?_cons_succ] at v0 v1 u0 u1 u2 u3 u4
                  have hep := eqP (t1 : Int) (t2 : Int) was.l was.r
                  by_cases hst : (t1 : Int) = was.l ∧ (t2 : Int) = was.r
                  · rw [decide_eq_true hst.1, decide_eq_true hst.2] at hep HSTK
                    have HB := hid (HK2.out HSTK.out)
                    have bz := below2 b3 bu
                    clear hst
                    go_wp2
                    refine bodyPost_ret (v := .tuple #[.slice none 0 0, .slice none 0 0, .int .i64 2]) (by simp [results, Tryd.results13, go_sem]) rfl (SERR.out 2 _ HB.out (by decide) bz)
                  · have hstb : (decide ((t1 : Int) = was.l) && decide ((t2 : Int) = was.r)) = false := by by_cases h1 : (t1 : Int) = was.l <;> by_cases h2 : (t2 : Int) = was.r <;> simp [h1, h2] <;> exact hst ⟨h1, h2⟩
                    rw [hstb] at hep HSTK
                    have HOK2 := hid (HK1.out HSTK.out)
                    clear hst hstb
                    have n0 := qu.frozen 0
                    have n1 := qu.frozen 1
                    have n2 := qu.frozen 2
                    have n3 := qu.frozen 3
                    have n4 := qu.frozen 4
                    have Bz : Blk (((((U.setCell ⟨g, 0, none⟩ (.string is.path)).setCell ⟨g, 1, none⟩ (.bool is.has)).setCell ⟨g, 2, none⟩ (.string is.data)).setCell ⟨g, 3, none⟩ (.int .i64 (t1 : Int))).setCell ⟨g, 4, none⟩ (.int .i64 (t2 : Int))) g [.string is.path, .bool is.has, .string is.data, .int .i64 (t1 : Int), .int .i64 (t2 : Int)] 37 := ((((qu.set_ 0 (.string is.path)).set_ 1 (.bool is.has)).set_ 2 (.string is.data)).set_ 3 (.int .i64 (t1 : Int))).set_ 4 (.int .i64 (t2 : Int))
                    have SZ := ((((Su.set ap.1 ap.2 0 (.string is.path)).set ap.1 ap.2 1 (.bool is.has)).set ap.1 ap.2 2 (.string is.data)).set ap.1 ap.2 3 (.int .i64 (t1 : Int))).set ap.1 ap.2 4 (.int .i64 (t2 : Int))
                    have blZ := ((((bu.setCell (p := ⟨g, 0, none⟩) hge (.string is.path)).setCell (p := ⟨g, 1, none⟩) hge (.bool is.has)).setCell (p := ⟨g, 2, none⟩) hge (.string is.data)).setCell (p := ⟨g, 3, none⟩) hge (.int .i64 (t1 : Int))).setCell (p := ⟨g, 4, none⟩) hge (.int .i64 (t2 : Int))
                    generalize HZ : ((((U.setCell ⟨g, 0, none⟩ (.string is.path)).setCell ⟨g, 1, none⟩ (.bool is.has)).setCell ⟨g, 2, none⟩ (.string is.data)).setCell ⟨g, 3, none⟩ (.int .i64 (t1 : Int))).setCell ⟨g, 4, none⟩ (.int .i64 (t2 : Int)) = Z at Bz SZ blZ
                    obtain ⟨A8, c8, w8, HRUN8, S8, e8, kb⟩ := SZ.appS (by exact blZ.size) (by have := hcl.out; omega) is.path
                    have B8 := kb g _ _ (by decide) Bz
                    have bl8 := blZ.trans e8
                    have HO2 : Hid (outP a (ps.take (j + 1)) = out ++ [⟨is.path, is.has, is.data, (t1 : Int), (t2 : Int)⟩]) := by show _ = _; rw [HO1.out, HNEW.out]
                    obtain ⟨A9, c9, w9, HRUN9, S9, e9⟩ := S8.app (by exact bl8.size) (by have := hol.out; omega) ⟨is.path, is.has, is.data, (t1 : Int), (t2 : Int)⟩
                    have bl9 := bl8.trans e9
                    have s0 := B8.cell 0
                    have s1 := B8.cell 1
                    have s2 := B8.cell 2
                    have s3 := B8.cell 3
                    have s4 := B8.cell 4
                    simp only [List.getElem?_cons_zero, List.getElem?_cons_succ] at s0 s1 s2 s3 s4
                    clear Su SZ S8 kb B8 Bz blZ bl8 e8 e9 HK1 HK2 HO1 HNEW HSTK
                    go_wp2_with (at_builtin; first | refine Lib.wpList_append_run _ rfl _ _ _ _ rfl _ _ rfl rfl _ _ HRUN8.out ?_ | refine Lib.wpList_append_run _ rfl _ _ _ _ rfl _ _ rfl rfl _ _ HRUN9.out ?_)
                    go_roundw
                    case rel => exact ⟨j + 1, A9, c9, A8, c8, out ++ [⟨is.path, is.has, is.data, (t1 : Int), (t2 : Int)⟩], ch ++ [is.path], by omega, by go_num, by simp, by simp, hid (by have := hol.out; simp; omega), hid (by have := hcl.out; simp; omega), hid HO2.out.symm, hid HC2.out.symm, HOK2, by simpa using S9, bl9⟩
                    case measure => simp [intOf]; omega
              · have hhb : (was.has == is.has) = false := by simp [hh]
                have hneq' : ¬ is = was := fun e => hh (by rw [e])
                clear hh
                obtain ⟨t1, t2, ht⟩ : ∃ t1 t2, tkc was.l was.r a = (t1, t2) := ⟨_, _, rfl⟩
                have kt := rtick_any was.l was.r a
                rw [ht] at kt
                have HSTK := hid (stuck_eq (p := (was, is)) ht hneq')
                have HNEW := hid (newE_ne (p := (was, is)) ht hneq')
                have HC2 : Hid (chgP (ps.take (j + 1)) = ch ++ [is.path]) := by show _ = _; rw [HC1.out, if_neg hneq']
                have p3 := Bq.cell 3
                have p4 := Bq.cell 4
                simp only [List.getElem?_cons_zero, List.getElem?_cons_succ] at p3 p4
                clear ht hneq' HC1
                go_wp2_with fail
                refine (kt _).mono ?_
                rintro e wt ⟨rfl, hbt⟩
                have Su := (SY.below hbt).below ((Below.refl _ _).alloc (Nat.le_refl _) (.cells #[.int .i64 (t1 : Int), .int .i64 (t2 : Int)] 35))
                have bt := blY.trans (hbt.mono blY.size)
                have bu := bt.alloc bt.size (.cells #[.int .i64 (t1 : Int), .int .i64 (t2 : Int)] 35)
                have qt := Bq.below hbt
                have hgt := qt.lt
                have qu := qt.below ((Below.refl _ _).alloc (Nat.le_refl _) (.cells #[.int .i64 (t1 : Int), .int .i64 (t2 : Int)] 35))
                have cc := Blk.new wt [.int .i64 (t1 : Int), .int .i64 (t2 : Int)] 35
                have hgc : wt.heap.size ≠ g := by omega
                clear kt hbt SY blY Bq bt qt p3 p4
                generalize HU : wt.alloc (.cells #[.int .i64 (t1 : Int), .int .i64 (t2 : Int)] 35) = U at Su bu qu cc
                have v0 := cc.cell 0
                have v1 := cc.cell 1
                have u0 := qu.cell 0
                have u1 := qu.cell 1
                have u2 := qu.cell 2
                have u3 := qu.cell 3
                have u4 := qu.cell 4
                simp only [List.getElem?_cons_zero, List.getElem?_cons_succ] at v0 v1 u0 u1 u2 u3 u4
                have hep := eqP (t1 : Int) (t2 : Int) was.l was.r
                by_cases hst : (t1 : Int) = was.l ∧ (t2 : Int) = was.r
                · rw [decide_eq_true hst.1, decide_eq_true hst.2] at hep HSTK
                  have HB := hid (HK2.out HSTK.out)
                  have bz := below2 b3 bu
                  clear hst
                  go_wp2
                  refine bodyPost_ret (v := .tuple #[.slice none 0 0, .slice none 0 0, .int .i64 2]) (by simp [results, Tryd.results13, go_sem]) rfl (SERR.out 2 _ HB.out (by decide) bz)
                · have hstb : (decide ((t1 : Int) = was.l) && decide ((t2 : Int) = was.r)) = false := by by_cases h1 : (t1 : Int) = was.l <;> by_cases h2 : (t2 : Int) = was.r <;> simp [h1, h2] <;> exact hst ⟨h1, h2⟩
                  rw [hstb] at hep HSTK
                  have HOK2 := hid (HK1.out HSTK.out)
                  clear hst hstb
                  have n0 := qu.frozen 0
                  have n1 := qu.frozen 1
                  have n2 := qu.frozen 2
                  have n3 := qu.frozen 3
                  have n4 := qu.frozen 4
                  have Bz : Blk (((((U.setCell ⟨g, 0, none⟩ (.string is.path)).setCell ⟨g, 1, none⟩ (.bool is.has)).setCell ⟨g, 2, none⟩ (.string is.data)).setCell ⟨g, 3, none⟩ (.int .i64 (t1 : Int))).setCell ⟨g, 4, none⟩ (.int .i64 (t2 : Int))) g [.string is.path, .bool is.has, .string is.data, .int .i64 (t1 : Int), .int .i64 (t2 : Int)] 37 := ((((qu.set_ 0 (.string is.path)).set_ 1 (.bool is.has)).set_ 2 (.string is.data)).set_ 3 (.int .i64 (t1 : Int))).set_ 4 (.int .i64 (t2 : Int))
                  have SZ := ((((Su.set ap.1 ap.2 0 (.string is.path)).set ap.1 ap.2 1 (.bool is.has)).set ap.1 ap.2 2 (.string is.data)).set ap.1 ap.2 3 (.int .i64 (t1 : Int))).set ap.1 ap.2 4 (.int .i64 (t2 : Int))
                  have blZ := ((((bu.setCell (p := ⟨g, 0, none⟩) hge (.string is.path)).setCell (p := ⟨g, 1, none⟩) hge (.bool is.has)).setCell (p := ⟨g, 2, none⟩) hge (.string is.data)).setCell (p := ⟨g, 3, none⟩) hge (.int .i64 (t1 : Int))).setCell (p := ⟨g, 4, none⟩) hge (.int .i64 (t2 : Int))
                  generalize HZ : ((((U.setCell ⟨g, 0, none⟩ (.string is.path)).setCell ⟨g, 1, none⟩ (.bool is.has)).setCell ⟨g, 2, none⟩ (.string is.data)).setCell ⟨g, 3, none⟩ (.int .i64 (t1 : Int))).setCell ⟨g, 4, none⟩ (.int .i64 (t2 : Int)) = Z at Bz SZ blZ
                  obtain ⟨A8, c8, w8, HRUN8, S8, e8, kb⟩ := SZ.appS (by exact blZ.size) (by have := hcl.out; omega) is.path
                  have B8 := kb g _ _ (by decide) Bz
                  have bl8 := blZ.trans e8
                  have HO2 : Hid (outP a (ps.take (j + 1)) = out ++ [⟨is.path, is.has, is.data, (t1 : Int), (t2 : Int)⟩]) := by show _ = _; rw [HO1.out, HNEW.out]
                  obtain ⟨A9, c9, w9, HRUN9, S9, e9⟩ := S8.app (by exact bl8.size) (by have := hol.out; omega) ⟨is.path, is.has, is.data, (t1 : Int), (t2 : Int)⟩
                  have bl9 := bl8.trans e9
                  have s0 := B8.cell 0
                  have s1 := B8.cell 1
                  have s2 := B8.cell 2
                  have s3 := B8.cell 3
                  have s4 := B8.cell 4
                  simp only [List.getElem?_cons_zero, List.getElem?_cons_succ] at s0 s1 s2 s3 s4
                  clear Su SZ S8 kb B8 Bz blZ bl8 e8 e9 HK1 HK2 HO1 HNEW HSTK
                  go_wp2_with (at_builtin; first | refine Lib.wpList_append_run _ rfl _ _ _ _ rfl _ _ rfl rfl _ _ HRUN8.out ?_ | refine Lib.wpList_append_run _ rfl _ _ _ _ rfl _ _ rfl rfl _ _ HRUN9.out ?_)
                  go_roundw
                  case rel => exact ⟨j + 1, A9, c9, A8, c8, out ++ [⟨is.path, is.has, is.data, (t1 : Int), (t2 : Int)⟩], ch ++ [is.path], by omega, by go_num, by simp, by simp, hid (by have := hol.out; simp; omega), hid (by have := hcl.out; simp; omega), hid HO2.out.symm, hid HC2.out.symm, HOK2, by simpa using S9, bl9⟩
                  case measure => simp [intOf]; omega
          · have hnlt : ¬ (j : Int) < np := by omega
            have hps : ps.take j = ps := List.take_of_length_le (by rw [HNP.out]; omega)
            rw [hps] at HOUT HCH HOK
            obtain ⟨e0, e1, e2⟩ := HSA.out HOK.out
            have HE0 := hid e0
            have HE1 : Hid (scanA es fs a = out) := by show _ = _; rw [e1, HOUT.out]
            have HE2 : Hid (scanC es fs a = ch) := by show _ = _; rw [e2, HCH.out]
            have hE := own_low hS.o b3.size
            have hR := own_low hS.c b3.size
            have b4 := below2 b3 hb
            clear e0 e1 e2 hps
            go_wp2
            refine bodyPost_ret (v := .tuple #[.slice A1 out.length c1, .slice A2 ch.length c2, .int .i64 0]) (by simp [results, Tryd.results13, go_sem]) rfl ⟨A1, c1, A2, c2, ?_, ?_, ?_, b4⟩
            · rw [HE0.out, HE1.out, HE2.out]; rfl
            · rw [HE1.out]; exact hE
            · rw [HE2.out]; exact hR
end Go.Proofs.YtnkkjedckehoaaaDoor
