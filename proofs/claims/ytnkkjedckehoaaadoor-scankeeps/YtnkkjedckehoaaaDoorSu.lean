/- What a scan keeps: plain lists. -/
import Derived.Test.YtnkkjedckehoaaaDoorSo
namespace Go.Proofs.YtnkkjedckehoaaaDoor
open Go.RowKit

theorem SrtP.one {ps : List (Ent × Ent)} (h : SrtP ps) {p q : Ent × Ent} (hp : p ∈ ps) (hq : q ∈ ps) (e : p.2.path = q.2.path) : p = q := by
  obtain ⟨i, hi, rfl⟩ := List.mem_iff_getElem.1 hp
  obtain ⟨k, hk, rfl⟩ := List.mem_iff_getElem.1 hq
  have hh := List.pairwise_iff_getElem.1 h
  rcases Nat.lt_trichotomy i k with h1 | h1 | h1
  · have := hh i k hi hk h1
    unfold epth at this
    rw [e] at this; exact absurd this (List.lt_irrefl _)
  · subst h1; rfl
  · have := hh k i hk hi h1
    unfold epth at this
    rw [e] at this; exact absurd this (List.lt_irrefl _)
theorem mem_chg {ps : List (Ent × Ent)} (h : SrtP ps) {p : Ent × Ent} (hp : p ∈ ps) : p.2.path ∈ chgP ps ↔ ¬ p.2 = p.1 := by
  unfold chgP
  rw [List.mem_map]
  constructor
  · rintro ⟨q, hq, e⟩
    rw [List.mem_filter] at hq
    obtain rfl := h.one hq.1 hp e
    simpa using hq.2
  · intro hne
    exact ⟨p, List.mem_filter.2 ⟨hp, by simpa using hne⟩, rfl⟩
theorem up_lt {x : Nat} (h : x < 1073741824) : up x = x + 1 := by unfold up; omega
theorem up_max {x : Nat} (h : ¬ x < 1073741824) (h2 : x ≤ 1073741824) : up x = x := by unfold up; omega
theorem ord_tick {l r a : Int} (h : 0 ≤ l ∧ l ≤ 1073741824 ∧ 0 ≤ r ∧ r ≤ 1073741824) (hs : (tickL l r a).1 = l → (tickL l r a).2 ≠ r) : ordI (cl l) (cl r) (cl (tickL l r a).1) (cl (tickL l r a).2) = 1 := by
  obtain ⟨x, rfl⟩ : ∃ x : Nat, l = x := ⟨l.toNat, by omega⟩
  obtain ⟨y, rfl⟩ : ∃ y : Nat, r = y := ⟨r.toNat, by omega⟩
  have hx : x ≤ 1073741824 := by omega
  have hy : y ≤ 1073741824 := by omega
  unfold tickL at hs ⊢
  rw [cl_nat hx, cl_nat hy] at *
  cases ho : odd a with
  | true =>
    rw [ho] at hs
    simp only [if_true] at hs ⊢
    rw [cl_nat hx, cl_nat (up_le y)]
    by_cases hlt : y < 1073741824
    · rw [up_lt hlt]; unfold ordI; rw [if_neg (by omega), if_pos (by omega)]
    · rw [up_max hlt hy] at hs; exact absurd rfl (hs trivial)
  | false =>
    rw [ho] at hs
    simp only [Bool.false_eq_true, if_false] at hs ⊢
    rw [cl_nat hy, cl_nat (up_le x)]
    by_cases hlt : x < 1073741824
    · rw [up_lt hlt]; unfold ordI; rw [if_neg (by omega), if_pos (by omega)]
    · rw [up_max hlt hx] at hs; exact absurd rfl (hs rfl)
def inC (p : ByteArray) (l : List ByteArray) : Bool := l.any fun s => decide (s = p)
theorem inC_iff {p : ByteArray} {l : List ByteArray} : inC p l = true ↔ p ∈ l := by
  unfold inC
  rw [List.any_eq_true]
  constructor
  · rintro ⟨s, hs, h⟩
    rw [decide_eq_true_eq] at h
    rw [← h]; exact hs
  · exact fun h => ⟨p, h, decide_eq_true rfl⟩
theorem inC_no {p : ByteArray} {l : List ByteArray} (h : ¬ p ∈ l) : inC p l = false := not_true fun e => h (inC_iff.1 e)
/-- What a scan did at the i-th path. -/
inductive KeepsAt (es : List Ent) (e : Ent) (ch : Bool) (k : Int) : Prop
  | same (hc : ch = false) (j : Nat) (hj : j < es.length) (hk : k = j) (he : es[j] = e)
  | fresh (hc : ch = true) (hk : k = -1)
  | turned (hc : ch = true) (j : Nat) (hj : j < es.length) (hk : k = j) (hd : ¬ (es[j].has = e.has ∧ es[j].data = e.data)) (ho : ordI (cl es[j].l) (cl es[j].r) (cl e.l) (cl e.r) = 1)
theorem scan_at {es : List Ent} {fs : List Fil} {a : Int} (hn : scanN es fs a = 0) {i : Nat} (hi : i < (scanA es fs a).length) :
    KeepsAt es (scanA es fs a)[i] (inC (scanA es fs a)[i].path (scanC es fs a)) (findE es (scanA es fs a)[i].path) := by
  obtain ⟨h, k, ho⟩ := scanN_ok.1 hn
  have hsrt := both_srt es fs h.srt k.srt
  have hA : scanA es fs a = (bothL es fs).map (newE a) := by rw [scanA, if_pos hn]; rfl
  have hC : scanC es fs a = chgP (bothL es fs) := by rw [scanC, if_pos hn]
  have hi' : i < (bothL es fs).length := by rw [hA, List.length_map] at hi; exact hi
  obtain ⟨p, hpe⟩ : ∃ p, (bothL es fs)[i] = p := ⟨_, rfl⟩
  have hp : p ∈ bothL es fs := by rw [← hpe]; exact List.getElem_mem hi'
  have he : (scanA es fs a)[i] = newE a p := by
    simp only [hA, List.getElem_map, hpe]
  rw [he, hC, newE_path]
  have hP := both_pair es fs p hp
  have hF : findE es p.2.path = idxE es p.2.path := by unfold findE; rw [(archR_iff es).2 h]; rfl
  rw [hF]
  -- whatever the archive has at that path was there
  have hwas : ∀ (j : Nat) (hj : j < es.length), es[j].path = p.2.path → es[j] = p.1 := by
    intro j hj hpj
    have hm : es[j] ∈ ((bothL es fs).map (·.1)).filter (fun e => !newB e) := by
      rw [both_was es fs fun e he => fine_new (h.fine e he)]; exact List.getElem_mem hj
    obtain ⟨q, hq, e⟩ := List.mem_map.1 (List.mem_filter.1 hm).1
    have hQ := both_pair es fs q hq
    have : q = p := hsrt.one hq hp (by rw [hQ.path, e]; exact hpj)
    rw [← e, this]
  by_cases heq : p.2 = p.1
  · have hin := pair_new hp heq
    obtain ⟨j, hj, hje⟩ := List.mem_iff_getElem.1 hin
    have hk := idxE_srt h.srt hj
    rw [hje, ← hP.path] at hk
    exact .same (inC_no fun hm => (mem_chg hsrt hp).1 hm heq) j hj hk (by rw [newE_eq heq, hje, heq])
  · have hch : inC p.2.path (chgP (bothL es fs)) = true := inC_iff.2 ((mem_chg hsrt hp).2 heq)
    rcases idxE_cases es p.2.path with ⟨h1, -⟩ | ⟨j, hj, h1, h2⟩
    · exact .fresh hch h1
    · have hjp := hwas j hj h2
      refine .turned hch j hj h1 ?_ ?_
      · rw [hjp, newE_has, newE_data]
        rintro ⟨x1, x2⟩
        exact heq (Ent.same hP.path x1.symm x2.symm hP.cl hP.cr)
      · rw [hjp]
        have hr := pair_range h hp
        have hs := okP_free ho p hp
        unfold stuck at hs
        rw [decide_eq_false heq] at hs
        simp only [Bool.not_false, Bool.true_and, decide_eq_false_iff_not] at hs
        have hs' : (tickL p.1.l p.1.r a).1 = p.1.l → (tickL p.1.l p.1.r a).2 ≠ p.1.r := fun h1 h2 => hs (Prod.ext h1 h2)
        clear hs
        unfold newE
        rw [if_neg heq]
        exact ord_tick hr hs'
theorem scan_more {es : List Ent} {fs : List Fil} {a : Int} (hn : scanN es fs a = 0) : es.length ≤ (scanA es fs a).length := by
  obtain ⟨h, -, -⟩ := scanN_ok.1 hn
  have := both_was es fs fun e he => fine_new (h.fine e he)
  rw [scanA, if_pos hn, outP, List.length_map]
  have h1 : (((bothL es fs).map (·.1)).filter (fun e => !newB e)).length ≤ ((bothL es fs).map (·.1)).length := List.length_filter_le _ _
  rw [this, List.length_map] at h1
  exact h1
theorem scan_chgs {es : List Ent} {fs : List Fil} {a : Int} (hn : scanN es fs a = 0) : sortedL (lst (scanC es fs a)) = true := by
  obtain ⟨h, k, ho⟩ := scanN_ok.1 hn
  have hsrt := both_srt es fs h.srt k.srt
  rw [scanC, if_pos hn]
  have e : lst (chgP (bothL es fs)) = ((bothL es fs).filter fun p => !decide (p.2 = p.1)).map fun p => epth p.2 := by
    unfold lst chgP
    rw [List.map_map]
    rfl
  rw [e]
  refine srt_mk ?_ ?_
  · intro s hs
    obtain ⟨p, hp, rfl⟩ := List.mem_map.1 hs
    exact pair_right h k (List.mem_filter.1 hp).1
  · exact List.pairwise_map.2 (List.Pairwise.filter _ hsrt)
theorem scanC_sz {es : List Ent} {fs : List Fil} (a : Int) (h1 : ∀ e ∈ es, SzE e) (h2 : ∀ f ∈ fs, SzF f) : ∀ s ∈ scanC es fs a, s.size < 4294967281 := by
  intro s hs
  unfold scanC at hs
  split at hs
  · unfold chgP at hs
    obtain ⟨p, hp, rfl⟩ := List.mem_map.1 hs
    exact (both_sz h1 h2 p (List.mem_filter.1 hp).1).1
  · cases hs
end Go.Proofs.YtnkkjedckehoaaaDoor
