/- Calls of a vault: five cells each. -/
import Derived.Test.YtdejhpinmkbngaaVh
namespace Go.Proofs.Ytdejhpinmkbngaa
open Go.RowKit

structure Cal where
  which : Int
  key : Int
  num : Int
  ad : ByteArray
  plain : ByteArray
def CalOk (x : Cal) : Prop := I64 x.which ∧ I64 x.key ∧ I64 x.num ∧ x.ad.size ≤ maxLen ∧ x.plain.size ≤ maxLen
def callV (x : Cal) : List Value := [.int .i64 x.which, .int .i64 x.key, .int .i64 x.num, .string x.ad, .string x.plain]
def calV (l : List Cal) : List Value := l.flatMap callV
theorem calV_cons (x : Cal) (l : List Cal) : calV (x :: l) = callV x ++ calV l := rfl
theorem calV_append (a b : List Cal) : calV (a ++ b) = calV a ++ calV b := by simp [calV]
theorem calV_length : ∀ l : List Cal, (calV l).length = l.length * 5
  | [] => rfl
  | x :: l => by
    rw [calV_cons, List.length_append, calV_length l, List.length_cons]
    simp [callV]
    omega
theorem calV_one (l : List Cal) : ∀ u ∈ calV l, u.oneCell' = true := by
  intro u hu
  obtain ⟨x, _, hx⟩ := List.mem_flatMap.1 hu
  simp only [callV, List.mem_cons, List.not_mem_nil, or_false] at hx
  rcases hx with rfl | rfl | rfl | rfl | rfl <;> rfl
theorem calV_at : ∀ (l : List Cal) (j : Nat) (hj : j < l.length) (i : Nat), i < 5 → (calV l)[j * 5 + i]? = (callV l[j])[i]?
  | [], _, hj, _, _ => by simp at hj
  | x :: l, 0, _, i, hi => by
    rw [calV_cons, Nat.zero_mul, Nat.zero_add, List.getElem?_append_left (by simpa [callV] using hi)]
    rfl
  | x :: l, j + 1, hj, i, hi => by
    have h5 : (callV x).length = 5 := rfl
    rw [calV_cons, List.getElem?_append_right (by omega), h5, show (j + 1) * 5 + i - 5 = j * 5 + i by omega, calV_at l j (by simpa using hj) i hi]
    rfl
/-- A call's cells, where it lies. -/
theorem Rd.call {w : World} {A : Option Addr} {l : List Cal} (h : Rd w A (calV l)) {j : Nat} (hj : j < l.length) :
    ∃ b off, A = some ⟨b, off, none⟩ ∧ b < w.heap.size ∧ w.cell? ⟨b, off + j * 5, none⟩ = some (.int .i64 l[j].which) ∧ w.cell? ⟨b, off + j * 5 + 1, none⟩ = some (.int .i64 l[j].key) ∧ w.cell? ⟨b, off + j * 5 + 2, none⟩ = some (.int .i64 l[j].num) ∧
      w.cell? ⟨b, off + j * 5 + 3, none⟩ = some (.string l[j].ad) ∧ w.cell? ⟨b, off + j * 5 + 4, none⟩ = some (.string l[j].plain) := by
  have hk : ∀ i, i < 5 → j * 5 + i < (calV l).length := fun i hi => by rw [calV_length]; omega
  obtain ⟨b, off, rfl, -, hb⟩ := h.at_ (hk 0 (by omega))
  have one : ∀ i (hi : i < 5), w.cell? ⟨b, off + j * 5 + i, none⟩ = (callV l[j])[i]? := fun i hi => by
    obtain ⟨b', off', e, hc, -⟩ := h.at_ (hk i hi)
    injection e with e
    injection e with e1 e2
    subst e1 e2
    rw [Nat.add_assoc, hc, ← calV_at l j hj i hi, List.getElem?_eq_getElem (hk i hi)]
  exact ⟨b, off, rfl, hb, one 0 (by omega), one 1 (by omega), one 2 (by omega), one 3 (by omega), one 4 (by omega)⟩

/-! ### few -/
def fewB (l : List Cal) : Bool := decide (l.length ≤ 100 ∧ ∀ x ∈ l, x.ad.size ≤ 200 ∧ x.plain.size ≤ 6000)
theorem few_at {l : List Cal} {n : Nat} (hn : l.length = n) (h : ∀ i (hi : i < l.length), i < n → l[i].ad.size ≤ 200 ∧ l[i].plain.size ≤ 6000) (h2 : n ≤ 100) : fewB l = true :=
  decide_eq_true ⟨by omega, fun s hs => by
    obtain ⟨i, hi, rfl⟩ := List.mem_iff_getElem.1 hs
    exact h i hi (by omega)⟩
theorem few_len {l : List Cal} (h : fewB l = true) : l.length ≤ 100 := (of_decide_eq_true h).1
theorem few_size {l : List Cal} (h : fewB l = true) {j : Nat} (hj : j < l.length) : l[j].ad.size ≤ 200 ∧ l[j].plain.size ≤ 6000 := (of_decide_eq_true h).2 _ (List.getElem_mem hj)
set_option maxHeartbeats 1000000 in
theorem few_any (A : Option Addr) (n c : Nat) (ls : List Cal) (w : World) (hl : ls.length = n) (hn : n ≤ 140737488355328) (ha : Rd w A (calV ls)) :
    Calls Try.prog 11 #[.slice A n c] w fun e w' => e = .returned (.bool (fewB ls)) ∧ w' = w := by
  have HL := hid hl
  clear hl
  go_enter Try.func11, Try.ntmps11
  go_wp2
  go_loop [3] (fun i => ∃ j : Nat, j ≤ n ∧ i = .int .i64 j ∧ Hid (∀ i (hi : i < ls.length), i < j → ls[i].ad.size ≤ 200 ∧ ls[i].plain.size ≤ 6000)) (fun i => n - (intOf i).toNat)
  case atStart => exact ⟨0, by omega, rfl, hid (fun i _ h => absurd h (by omega))⟩
  case round =>
    obtain ⟨j, hj, rfl, HO⟩ := hrel
    by_cases hjn : j < n
    · have hjl : j < ls.length := by rw [HL.out]; exact hjn
      obtain ⟨b, off, rfl, -, -, -, -, h3, h4⟩ := ha.call hjl
      by_cases hs : ls[j].ad.size ≤ 200 ∧ ls[j].plain.size ≤ 6000
      · have HS := hid hs
        obtain ⟨x, hx⟩ : ∃ x, ls[j] = x := ⟨_, rfl⟩
        rw [hx] at hs h3 h4
        clear hx
        have hs1 : ¬ (200 : Int) < x.ad.size := by omega
        have hs2 : ¬ (6000 : Int) < x.plain.size := by omega
        clear hs
        go_wp2
        go_round
        case rel =>
          refine ⟨j + 1, by omega, by go_num, hid (fun i hi hij => ?_)⟩
          by_cases e : i = j
          · subst e
            exact HS.out
          · exact HO.out i hi (by omega)
        case measure => simp [intOf]; omega
      · have HF : Hid (fewB ls = false) := hid (decide_eq_false (fun h => hs (h.2 _ (List.getElem_mem hjl))))
        obtain ⟨x, hx⟩ : ∃ x, ls[j] = x := ⟨_, rfl⟩
        rw [hx] at hs h3 h4
        clear hx
        by_cases hs1 : (200 : Int) < x.ad.size
        · clear hs
          go_wp2
          go_ret
          exact ⟨ret_bool HF.out.symm, rfl⟩
        · have hs2 : (6000 : Int) < x.plain.size := by omega
          clear hs
          go_wp2
          go_ret
          exact ⟨ret_bool HF.out.symm, rfl⟩
    · have e : n = j := by omega
      subst e
      by_cases h100 : n ≤ 100
      · have HF := hid (few_at HL.out HO.out h100)
        have h100' : (n : Int) ≤ 100 := by omega
        go_wp2
        go_ret
        exact ⟨ret_bool HF.out.symm, rfl⟩
      · have HF : Hid (fewB ls = false) := hid (decide_eq_false (fun h => h100 (by have := h.1; have := HL.out; omega)))
        have h100' : ¬ (n : Int) ≤ 100 := by omega
        go_wp2
        go_ret
        exact ⟨ret_bool HF.out.symm, rfl⟩
end Go.Proofs.Ytdejhpinmkbngaa
