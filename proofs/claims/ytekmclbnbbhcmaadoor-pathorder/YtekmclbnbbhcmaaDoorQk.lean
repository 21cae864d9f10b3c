/- Paths that rise, as lists; append where the order is open. -/
import Derived.Test.YtekmclbnbbhcmaaDoorQh
namespace Go.Proofs.YtekmclbnbbhcmaaDoor
open Go.RowKit

/-- append(v, x...), v the call's own, elements of one cell. -/
theorem run_app {P : Program} (w : World) (base : Nat) (t ty e : TypeId) (z : Value) (bytes : Nat) (ht : P.underlying t = some (.slice e)) (hinf : (P.info? e).map (fun i => (i.zero, i.size, i.bytes)) = some (some z, 1, bytes)) (hz : z.cells.size = 1)
    (A : Option Addr) (n c : Nat) (xs : List Value) (hown : w.ownsRow base e 1 (.slice A n c) n xs)
    (B : Option Addr) (m d : Nat) (news : List Value) (hl : news.length = m) (hr : Rd w B news) (h1 : ∀ u ∈ news, u.oneCell' = true)
    (hbytes : (n + m) * bytes ≤ 140737488355328) (hbase : base ≤ w.heap.size) (h63 : n + m ≤ maxLen) :
    ∃ A' c' w', (Builtin.append_ #[t, t] ty #[.slice A n c, .slice B m d]).run P w = .ok (.slice A' (n + m) c') w' ∧ w'.ownsRow base e 1 (.slice A' (n + m) c') (n + m) (xs ++ news) ∧ w.grownBy w' (Value.slice A n c).ownBlock := by
  obtain ⟨i, hi, hz0, hz1, hz2⟩ := info_parts hinf
  have own : ∀ ad, (∀ j u, news[j]? = some u → w.cell? (ad.add j) = some u) → ∃ A' c' w', (Builtin.append_ #[t, t] ty #[.slice A n c, .slice (some ad) m d]).run P w = .ok (.slice A' (n + m) c') w' ∧ w'.ownsRow base e 1 (.slice A' (n + m) c') (n + m) (xs ++ news) ∧ w.grownBy w' (Value.slice A n c).ownBlock := by
    intro ad hc
    obtain ⟨v', w', h2, h3, h4, _⟩ := run_append_own (P := P) w base t ty e i z 1 bytes ht hi hz0 hz1 hz2 hz (by decide) _ n xs hown ad m d news (by omega) hc h1 h63 hbytes hbase
    obtain ⟨_, A', c', rfl, _⟩ := own_form h3
    exact ⟨A', c', w', h2, h3, h4⟩
  rcases hr with rfl | ⟨ad, rfl, hc⟩
  · have hm : m = 0 := by simpa using hl.symm
    subst hm
    cases B with
    | none => exact ⟨A, c, w, run_app_nil (P := P) w base t ty e i ht hi _ n xs hown d, by simpa using hown, World.grownBy.refl _ _⟩
    | some ad => exact own ad (by simp)
  · exact own ad hc

/-- append where the order is open: its run is known. -/
theorem stepApp {P : Program} {w w' : World} {ops : Array Oper} {o : Oper} {a : Act} {K : Act → World → Prop} {Q : Exit → Act → World → Prop} {E : Prop} (hw : Region.wanted o (yielded ops a.tmps) = true) (s x : Operand) (t : TypeId)
    (ho : o.op = .call { callee := .builtin .append, args := #[s, x], argTypes := #[t, t] }) (v1 v2 v : Value) (hs : a.eval s = v1) (hx : a.eval x = v2)
    (hrun : (Builtin.append_ #[t, t] o.type #[v1, v2]).run P w = .ok v w') (h : K (a.put o.dst v) w') : if Region.wanted o (yielded ops a.tmps) = true then Oper.wp P o a w K Q else E := by
  rw [if_pos hw]
  unfold Oper.wp
  simp [execOp, ho, resolve, invoke, builtin, hs, hx, hrun, Result.andThen]
  exact h

theorem less_iff (a b : List UInt8) : Op.bytesLess a b = true ↔ a < b := by rw [less_eq]; simp
theorem srt_at {L : List (List UInt8)} (h : sortedL L = true) {i : Nat} (hi : i < L.length) : rightL L[i] = true ∧ ∀ h0 : 0 < i, L[i - 1] < L[i] := by
  have h1 := List.all_eq_true.1 h i (List.mem_range.2 hi)
  unfold srtAt at h1
  rw [Bool.and_eq_true, Bool.or_eq_true] at h1
  have e1 : L.getD i [] = L[i] := by simp [List.getD, hi]
  have e2 : L.getD (i - 1) [] = L[i - 1]'(by omega) := by simp [List.getD, show i - 1 < L.length by omega]
  rw [e1, e2] at h1
  refine ⟨h1.1, fun h0 => ?_⟩
  rcases h1.2 with h2 | h2
  · have : i = 0 := by simpa using h2
    omega
  · exact (less_iff _ _).1 h2
theorem srt_lt {L : List (List UInt8)} (h : sortedL L = true) : ∀ (d i : Nat) (hi : i + d + 1 < L.length), L[i] < L[i + d + 1]
  | 0, i, hi => (srt_at h hi).2 (by omega)
  | d + 1, i, hi => List.lt_trans (srt_lt h d i (by omega)) ((srt_at h hi).2 (by omega))
theorem srt_pair {L : List (List UInt8)} (h : sortedL L = true) : L.Pairwise (· < ·) := by
  rw [List.pairwise_iff_getElem]
  intro i j hi hj hij
  have := srt_lt h (j - i - 1) i (by omega)
  have e : i + (j - i - 1) + 1 = j := by omega
  simpa only [e] using this
theorem srt_mk {L : List (List UInt8)} (h1 : ∀ s ∈ L, rightL s = true) (h2 : L.Pairwise (· < ·)) : sortedL L = true := by
  refine List.all_eq_true.2 fun i hi => ?_
  have hi' := List.mem_range.1 hi
  unfold srtAt
  have e1 : L.getD i [] = L[i] := by simp [List.getD, hi']
  have e2 : L.getD (i - 1) [] = L[i - 1]'(by omega) := by simp [List.getD, show i - 1 < L.length by omega]
  rw [e1, e2, h1 _ (List.getElem_mem hi'), Bool.true_and, Bool.or_eq_true]
  by_cases h0 : i = 0
  · left; simp [h0]
  · right
    rw [less_iff]
    exact (List.pairwise_iff_getElem.1 h2) (i - 1) i (by omega) hi' (by omega)
theorem srt_right {L : List (List UInt8)} (h : sortedL L = true) : ∀ s ∈ L, rightL s = true := by
  intro s hs
  obtain ⟨i, hi, rfl⟩ := List.mem_iff_getElem.1 hs
  exact (srt_at h hi).1
theorem srt_less {L : List (List UInt8)} (h : sortedL L = true) {i k : Nat} (hi : i < L.length) (hk : k < i) : L[i] ≠ L[k] := by
  have := (List.pairwise_iff_getElem.1 (srt_pair h)) k i (by omega) hi hk
  intro e
  rw [e] at this
  exact List.lt_irrefl _ this
theorem srt_erase {L : List (List UInt8)} (h : sortedL L = true) (k : Nat) : sortedL (L.take k ++ L.drop (k + 1)) = true := by
  have hs : (L.take k ++ L.drop (k + 1)).Sublist L := by
    rw [← List.eraseIdx_eq_take_drop_succ]
    exact List.eraseIdx_sublist L k
  exact srt_mk (fun s hm => srt_right h s (hs.mem hm)) ((srt_pair h).sublist hs)
theorem srt_twice {L : List (List UInt8)} {k : Nat} (hk : k < L.length) : sortedL (L ++ [L[k]]) = false := by
  cases h : sortedL (L ++ [L[k]]) with
  | false => rfl
  | true =>
    have := List.pairwise_append.1 (srt_pair h)
    exact absurd (this.2.2 L[k] (List.getElem_mem hk) L[k] (by simp)) (List.lt_irrefl _)
end Go.Proofs.YtekmclbnbbhcmaaDoor
