/- Counts of what was scanned: plain lists. -/
import Derived.Test.YtnkkjedckehoaaaDoorSm
import Derived.Test.YtnkkjedckehoaaaDoorCc
namespace Go.Proofs.YtnkkjedckehoaaaDoor
open Go.RowKit

theorem odd_succ (a : Int) : odd (wrap64 (a + 1)) = !odd a := by
  rw [Bool.eq_iff_iff]
  unfold odd wrap64
  simp only [bne_iff_ne, Bool.not_eq_true', bne_eq_false_iff_eq]
  omega
def mineE (au : Int) (e : Ent) : Int := mineI (cl e.l) (cl e.r) au
def sumM (au : Int) (es : List Ent) : Int := es.foldr (fun e s => mineE au e + s) 0
theorem sumM_cons (au : Int) (e : Ent) (es : List Ent) : sumM au (e :: es) = mineE au e + sumM au es := rfl
theorem sumM_append (au : Int) (a b : List Ent) : sumM au (a ++ b) = sumM au a + sumM au b := by
  induction a with
  | nil => simp [sumM]
  | cons e a ih => rw [List.cons_append, sumM_cons, sumM_cons, ih]; omega
theorem sumM_more (au : Int) (es : List Ent) (j : Nat) (h : j < es.length) : sumM au (es.take (j + 1)) = sumM au (es.take j) + mineE au es[j] := by
  rw [List.take_add_one, List.getElem?_eq_getElem h, sumM_append]
  simp [sumM]
theorem mineE_le (au : Int) (e : Ent) : 0 ≤ mineE au e ∧ mineE au e ≤ 1073741824 := by
  unfold mineE mineI
  have := cl_le e.l
  have := cl_le e.r
  split <;> omega
theorem sumM_le (au : Int) (es : List Ent) : 0 ≤ sumM au es ∧ sumM au es ≤ es.length * 1073741824 := by
  induction es with
  | nil => simp [sumM]
  | cons e es ih => rw [sumM_cons]; have := mineE_le au e; simp only [List.length_cons]; omega
theorem mine_new {a au : Int} {p : Ent × Ent} (h4 : 0 ≤ p.1.l ∧ p.1.l ≤ 1073741824 ∧ 0 ≤ p.1.r ∧ p.1.r ≤ 1073741824) (hs : stuck a p = false) :
    mineE au (newE a p) = mineE au p.1 + (if p.2 = p.1 then 0 else if odd au = odd a then 1 else 0) := by
  by_cases he : p.2 = p.1
  · rw [newE_eq he, he, if_pos rfl]; omega
  · rw [if_neg he]
    unfold stuck at hs
    rw [decide_eq_false he] at hs
    simp only [Bool.not_false, Bool.true_and, decide_eq_false_iff_not] at hs
    have hs' : (tickL p.1.l p.1.r a).1 = p.1.l → (tickL p.1.l p.1.r a).2 ≠ p.1.r := fun h1 h2 => hs (Prod.ext h1 h2)
    clear hs
    unfold newE mineE mineI
    rw [if_neg he]
    unfold tickL at hs' ⊢
    generalize odd a = oa at *
    generalize odd au = ob at *
    cases oa <;> cases ob <;> simp only [if_true, if_false, Bool.false_eq_true, reduceCtorEq] at hs' ⊢ <;> unfold up cl at * <;> omega
theorem sum_new {a au : Int} {ps : List (Ent × Ent)} (h4 : ∀ p ∈ ps, 0 ≤ p.1.l ∧ p.1.l ≤ 1073741824 ∧ 0 ≤ p.1.r ∧ p.1.r ≤ 1073741824) (hs : ∀ p ∈ ps, stuck a p = false) :
    sumM au (outP a ps) = sumM au (ps.map (·.1)) + (if odd au = odd a then ((chgP ps).length : Int) else 0) := by
  induction ps with
  | nil => simp [outP, chgP, sumM]
  | cons p ps ih =>
    have ih := ih (fun x hx => h4 x (List.mem_cons_of_mem _ hx)) (fun x hx => hs x (List.mem_cons_of_mem _ hx))
    have h1 := mine_new (au := au) (h4 p (by simp)) (hs p (by simp))
    have e1 : outP a (p :: ps) = newE a p :: outP a ps := rfl
    have e2 : ((chgP (p :: ps)).length : Int) = (if p.2 = p.1 then 0 else 1) + ((chgP ps).length : Int) := by
      unfold chgP
      rw [List.filter_cons]
      by_cases he : p.2 = p.1
      · simp [he]
      · simp [he]; omega
    rw [e1, sumM_cons, ih, h1, List.map_cons, sumM_cons, e2]
    by_cases he : p.2 = p.1 <;> by_cases ho : odd au = odd a <;> simp only [he, ho, if_true, if_false] <;> omega
theorem sum_old (au : Int) (es : List Ent) : sumM au (es.filter fun e => !newB e) = sumM au es := by
  induction es with
  | nil => rfl
  | cons e es ih =>
    rw [List.filter_cons]
    cases hn : newB e with
    | false => simp only [Bool.not_false, if_true]; rw [sumM_cons, sumM_cons, ih]
    | true =>
      simp only [Bool.not_true, Bool.false_eq_true, if_false]
      rw [sumM_cons, ih]
      unfold newB at hn
      rw [Bool.and_eq_true, decide_eq_true_eq, decide_eq_true_eq] at hn
      unfold mineE mineI
      rw [hn.1, hn.2, show cl 0 = 0 from rfl]
      split <;> omega
theorem fine_new {e : Ent} (h : fineE e = true) : newB e = false := by
  have := ((fineE_iff e).1 h).2.1
  unfold newB
  rw [Bool.and_eq_false_iff, decide_eq_false_iff_not, decide_eq_false_iff_not]
  omega
theorem pair_range {es : List Ent} {fs : List Fil} (h : RightA es) {p : Ent × Ent} (hp : p ∈ bothL es fs) : 0 ≤ p.1.l ∧ p.1.l ≤ 1073741824 ∧ 0 ≤ p.1.r ∧ p.1.r ≤ 1073741824 := by
  rcases (both_pair es fs p hp).was with h1 | ⟨h1, -⟩
  · exact ((fineE_iff _).1 (h.fine _ h1)).1
  · rw [h1]; simp [fresh]
theorem okP_free {a : Int} {ps : List (Ent × Ent)} (h : okP a ps = true) : ∀ p ∈ ps, stuck a p = false := by
  unfold okP at h
  rw [Bool.and_eq_true, List.all_eq_true] at h
  intro p hp
  simpa using h.2 p hp
theorem scan_sums {es : List Ent} {fs : List Fil} {a : Int} (hn : scanN es fs a = 0) (au : Int) : sumM au (scanA es fs a) - sumM au es = if odd au = odd a then ((scanC es fs a).length : Int) else 0 := by
  obtain ⟨h, k, ho⟩ := scanN_ok.1 hn
  have h1 := sum_new (au := au) (fun p hp => pair_range h hp) (okP_free ho)
  have h2 := both_was es fs fun e he => fine_new (h.fine e he)
  have h3 := sum_old au ((bothL es fs).map (·.1))
  rw [h2] at h3
  rw [scanA, scanC, if_pos hn, if_pos hn, h1, h3]
  omega
end Go.Proofs.YtnkkjedckehoaaaDoor
