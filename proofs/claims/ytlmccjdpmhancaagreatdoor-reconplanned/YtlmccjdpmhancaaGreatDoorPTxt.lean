/- The text Txt. -/
import Derived.Test.YtlmccjdpmhancaaGreatDoorP7
import Derived.Test.YtlmccjdpmhancaaGreatDoorProg
import Derived.Deep.RegionHeld3
namespace Go.Proofs.YtlmccjdpmhancaaGreatDoor
open Go

/-- The first k have come up. -/
def upTo (n k : Nat) : Array Bool := Array.ofFn fun j : Fin n => decide (j.val < k)
theorem upTo_size (n k : Nat) : (upTo n k).size = n := Array.size_ofFn
theorem upTo_get {n k j : Nat} (h : j < n) : (upTo n k)[j]? = some (decide (j < k)) := by
  unfold upTo
  rw [Array.getElem?_ofFn, dif_pos h]
theorem upTo_none {n k j : Nat} (h : n ≤ j) : (upTo n k)[j]? = none := Array.getElem?_eq_none (by rw [upTo_size]; exact h)
theorem upTo_zero (n : Nat) : Array.replicate n false = upTo n 0 := by
  apply Array.ext
  · rw [upTo_size, Array.size_replicate]
  · intro i h1 h2
    simp [upTo]
theorem upTo_set {n k : Nat} (h : k < n) : (upTo n k).setIfInBounds k true = upTo n (k + 1) := by
  apply Array.ext_getElem?
  intro i
  rw [Array.getElem?_setIfInBounds, upTo_size]
  by_cases e : k = i
  · subst e
    rw [if_pos rfl, if_pos h, upTo_get h, decide_eq_true (by omega)]
  · rw [if_neg e]
    by_cases hi : i < n
    · rw [upTo_get hi, upTo_get hi]
      congr 1
      exact decide_eq_decide.2 (by omega)
    · rw [upTo_none (by omega), upTo_none (by omega)]
theorem upTo_getD {n k j : Nat} (d : Bool) (h : j < n) : (upTo n k).getD j d = decide (j < k) := by
  rw [Array.getD_eq_getD_getElem?, upTo_get h]; rfl
/-- Each of the first m may come up once the ones ahead have, and each one behind it waits for it, or is apart from it. -/
def txtOK (md : Region.Mode) (ops : Array Oper) (m : Nat) : Bool :=
  Region.noSelect ops && (List.range m).all fun i => match ops[i]? with
    | none => false
    | some oi => oi.after.all (fun e => !Region.binds md e || decide (e.on < i)) && (List.range' (i + 1) (ops.size - (i + 1))).all fun j => match ops[j]? with
      | some oj => oj.after.any (fun e => Region.binds md e && e.on == i) || oi.apart ops oj
      | none => true

section
variable {P : Program} {ops : Array Oper} {Q : Exit → Act → World → Prop} {md : Region.Mode} {S : World → Prop} {m : Nat}

theorem txt_spec (h : txtOK md ops m = true) {i : Nat} {oi : Oper} (hi : ops[i]? = some oi) (him : i < m) :
    (∀ e ∈ oi.after, Region.binds md e = true → e.on < i) ∧ ∀ j oj, ops[j]? = some oj → i < j → (∀ e ∈ oj.after, Region.binds md e = true → e.on ≠ i) → oi.apart ops oj = true := by
  unfold txtOK at h
  rw [Bool.and_eq_true, List.all_eq_true] at h
  have h1 := h.2 i (List.mem_range.2 him)
  simp only [hi, Bool.and_eq_true] at h1
  refine ⟨fun e he hb => ?_, fun j oj hj hij hno => ?_⟩
  · have := Array.all_eq_true_iff_forall_mem.1 h1.1 e he
    simpa [hb] using this
  · have hjn := (Array.getElem?_eq_some_iff.1 hj).1
    have h2 := List.all_eq_true.1 h1.2 j (List.mem_range'_1.2 ⟨by omega, by omega⟩)
    simp only [hj, Bool.or_eq_true] at h2
    rcases h2 with h2 | h2
    · obtain ⟨e, he, hb⟩ := Array.any_eq_true'.1 h2
      simp only [Bool.and_eq_true, beq_iff_eq] at hb
      exact absurd hb.2 (hno e he hb.1)
    · exact h2
/-- The first k have come up, in the order of the text. -/
def wpTxt (P : Program) (md : Region.Mode) (ops : Array Oper) (Q : Exit → Act → World → Prop) (S : World → Prop) (m fuel k : Nat) (a : Act) (w : World) : Prop :=
  txtOK md ops m = true → wpAnyH P md ops Q S fuel (upTo ops.size k) a w
theorem wpTxt_take {i : Nat} {oi : Oper} {v : Value} {fuel : Nat} {a : Act} {w : World} (hi : ops[i]? = some oi) (him : i < m)
    (hQ : ∀ c a w, Q (.panic c) (a.put oi.dst v) w → Q (.panic c) a w) (hy : YieldsIf P ops S oi v a) (hS : S w)
    (h : wpTxt P md ops Q S m fuel (i + 1) (a.put oi.dst v) w) : wpTxt P md ops Q S m (fuel + 1) i a w := fun hT => by
  have hlt := (Array.getElem?_eq_some_iff.1 hi).1
  obtain ⟨h1, h2⟩ := txt_spec hT hi him
  have hn : Region.noSelect ops = true := by unfold txtOK at hT; rw [Bool.and_eq_true] at hT; exact hT.1
  refine wpAnyH_first hi (Region.noSelect_spec hn) hQ fuel _ a w (fun j oj hj hne hun hno => ?_) ?_ hy hS (by rw [upTo_set hlt]; exact h hT)
  · have hjn := (Array.getElem?_eq_some_iff.1 hj).1
    rw [upTo_getD _ hjn, decide_eq_false_iff_not] at hun
    exact h2 j oj hj (by omega) hno
  · rw [mem_ready]
    refine ⟨by rw [upTo_getD _ hlt]; simp, oi, hi, fun e he hb => ?_⟩
    have h3 := h1 e he hb
    rw [upTo_getD _ (by omega)]
    exact decide_eq_true h3
theorem wpTxt_done {k fuel : Nat} {a : Act} {w : World} (hk : ops.size ≤ k) (h : Q .normal a w) : wpTxt P md ops Q S m fuel k a w := fun _ => by
  have hr : Region.ready md ops (upTo ops.size k) = [] := by
    refine List.eq_nil_iff_forall_not_mem.2 fun j hj => ?_
    rw [mem_ready] at hj
    obtain ⟨h0, o, ho, -⟩ := hj
    have hjn := (Array.getElem?_eq_some_iff.1 ho).1
    rw [upTo_getD _ hjn, decide_eq_false_iff_not] at h0
    omega
  exact wpAnyH_done hr h fuel
theorem wp_region_txt {id : Nat} {a : Act} {w : World} (hm : P.follows .mixedOrders = true) (hT : txtOK .any ops m = true) (hS : S w.drew)
    (h : S w.drew → wpTxt P .any ops Q S m ops.size 0 a w.drew) : (Code.region id ops true).wp P Q a w :=
  wp_region_held_drew hm hS fun hs => by rw [upTo_zero]; exact h hs hT
end
end Go.Proofs.YtlmccjdpmhancaaGreatDoor
