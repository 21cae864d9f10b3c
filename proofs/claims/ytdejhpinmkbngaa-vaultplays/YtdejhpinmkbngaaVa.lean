/- Numbers that are drawn: plain lists. -/
import Derived.Test.YtdejhpinmkbngaaFr
import Derived.Test.YtdejhpinmkbngaaKp
namespace Go.Proofs.Ytdejhpinmkbngaa

/-! ### What the document draws -/
/-- n, or the next ones, and round: the first that is not in u, of f + 1. -/
def drawF (u : List Int) : Nat → Int → Int
  | 0, n => n
  | f + 1, n => if n ∈ u then drawF u f ((n + 1) % 4294967296) else n
def draw (u : List Int) (x : Int) : Int := drawF u (u.length + 1) (x % 4294967296)

theorem drawF_eq (u : List Int) : ∀ (k f : Nat) (n : Int), 0 ≤ n → n < 4294967296 → (∀ j : Nat, j < k → (n + j) % 4294967296 ∈ u) → (n + k) % 4294967296 ∉ u → k ≤ f → drawF u f n = (n + k) % 4294967296
  | 0, 0, n, h0, h1, _, _, _ => by
    show n = _
    omega
  | 0, f + 1, n, h0, h1, _, hk, _ => by
    have e : (n + ((0 : Nat) : Int)) % 4294967296 = n := by omega
    rw [e] at hk ⊢
    rw [drawF, if_neg hk]
  | k + 1, 0, n, _, _, _, _, h => by omega
  | k + 1, f + 1, n, h0, h1, hj, hk, hf => by
    have e : (n + ((0 : Nat) : Int)) % 4294967296 = n := by omega
    have h := hj 0 (by omega)
    rw [e] at h
    rw [drawF, if_pos h]
    have e2 : ∀ j : Nat, ((n + 1) % 4294967296 + (j : Int)) % 4294967296 = (n + ((j + 1 : Nat) : Int)) % 4294967296 := fun j => by omega
    rw [drawF_eq u k f ((n + 1) % 4294967296) (by omega) (by omega) (fun j hjk => by rw [e2]; exact hj (j + 1) (by omega)) (by rw [e2]; exact hk) (by omega), e2]

theorem pigeon (f : Nat → Int) : ∀ (k : Nat) (u : List Int), (∀ i j, i < j → j < k → f i ≠ f j) → (∀ j, j < k → f j ∈ u) → k ≤ u.length
  | 0, _, _, _ => Nat.zero_le _
  | k + 1, u, h, hu => by
    have hk := hu k (by omega)
    have h1 := pigeon f k (u.erase (f k)) (fun i j hij hj => h i j hij (by omega)) (fun j hj => (List.mem_erase_of_ne (h j k hj (by omega))).2 (hu j (by omega)))
    rw [List.length_erase_of_mem hk] at h1
    have := List.length_pos_of_mem hk
    omega

theorem first_free (u : List Int) (hu : u.length < 4294967296) (n : Int) : ∃ k : Nat, k ≤ u.length ∧ (n + k) % 4294967296 ∉ u ∧ ∀ j : Nat, j < k → (n + j) % 4294967296 ∈ u := by
  have step : ∀ m : Nat, (∃ k : Nat, k < m ∧ (n + k) % 4294967296 ∉ u ∧ ∀ j : Nat, j < k → (n + j) % 4294967296 ∈ u) ∨ ∀ j : Nat, j < m → (n + j) % 4294967296 ∈ u := by
    intro m
    induction m with
    | zero => exact .inr (fun j hj => by omega)
    | succ m ih =>
      rcases ih with ⟨k, hk, h⟩ | h
      · exact .inl ⟨k, by omega, h⟩
      · by_cases hm : (n + m) % 4294967296 ∈ u
        · refine .inr (fun j hj => ?_)
          by_cases e : j = m
          · rw [e]; exact hm
          · exact h j (by omega)
        · exact .inl ⟨m, by omega, hm, h⟩
  rcases step (u.length + 1) with ⟨k, hk, h⟩ | h
  · exact ⟨k, by omega, h⟩
  · have := pigeon (fun j => (n + j) % 4294967296) (u.length + 1) u (fun i j hij hj => by show (n + i) % 4294967296 ≠ (n + j) % 4294967296; omega) h
    omega

theorem draw_is {u : List Int} (hu : u.length < 4294967296) {x : Int} {k : Nat} (hj : ∀ j : Nat, j < k → (x % 4294967296 + j) % 4294967296 ∈ u) (hk : (x % 4294967296 + k) % 4294967296 ∉ u) : draw u x = (x % 4294967296 + k) % 4294967296 := by
  obtain ⟨k', h1, h2, h3⟩ := first_free u hu (x % 4294967296)
  have e : k = k' := by
    rcases Nat.lt_trichotomy k k' with h | h | h
    · exact absurd (h3 k h) hk
    · exact h
    · exact absurd (hj k' h) h2
  subst e
  exact drawF_eq u k _ _ (by omega) (by omega) hj hk (by omega)
theorem draw_spec (u : List Int) (hu : u.length < 4294967296) (x : Int) : ∃ k : Nat, k ≤ u.length ∧ draw u x = (x % 4294967296 + k) % 4294967296 ∧ draw u x ∉ u ∧ ∀ j : Nat, j < k → (x % 4294967296 + j) % 4294967296 ∈ u := by
  obtain ⟨k, h1, h2, h3⟩ := first_free u hu (x % 4294967296)
  have e := draw_is hu h3 h2
  exact ⟨k, h1, e, by rw [e]; exact h2, h3⟩
theorem draw_free (u : List Int) (hu : u.length < 4294967296) (x : Int) : draw u x ∉ u := by
  obtain ⟨_, _, _, h, _⟩ := draw_spec u hu x
  exact h
theorem draw_range (u : List Int) (hu : u.length < 4294967296) (x : Int) : 0 ≤ draw u x ∧ draw u x < 4294967296 := by
  obtain ⟨k, _, h, _⟩ := draw_spec u hu x
  omega
theorem draw_congr {u v : List Int} (hu : u.length < 4294967296) (hv : v.length < 4294967296) (h : ∀ y, y ∈ u ↔ y ∈ v) (x : Int) : draw u x = draw v x := by
  obtain ⟨k, _, e, hk, hj⟩ := draw_spec v hv x
  rw [e]
  exact draw_is hu (fun j hjk => (h _).2 (hj j hjk)) (fun hm => hk (by rw [e]; exact (h _).1 hm))

/-! ### What the code draws, of numbers that rise -/
abbrev Rises (h : List Int) : Prop := h.Pairwise (· < ·)
/-- r is the first from s on that is not among them. -/
def FreeAt (h : List Int) (s r : Int) : Prop := s ≤ r ∧ r ∉ h ∧ (∀ y, s ≤ y → y < r → y ∈ h) ∧ r ≤ s + h.length
/-- The first i are below x, the others are not. -/
def Cut (h : List Int) (x : Int) (i : Nat) : Prop := i ≤ h.length ∧ (∀ j (hj : j < h.length), j < i → h[j] < x) ∧ ∀ j (hj : j < h.length), i ≤ j → x ≤ h[j]
theorem cut_take {h : List Int} {x : Int} {i : Nat} (c : Cut h x i) : ∀ y ∈ h.take i, y < x := by
  intro y hy
  obtain ⟨j, hj, rfl⟩ := List.mem_iff_getElem.1 hy
  rw [List.length_take] at hj
  rw [List.getElem_take]
  exact c.2.1 j (by omega) (by omega)
theorem cut_drop {h : List Int} {x : Int} {i : Nat} (c : Cut h x i) : ∀ y ∈ h.drop i, x ≤ y := by
  intro y hy
  obtain ⟨j, hj, rfl⟩ := List.mem_iff_getElem.1 hy
  rw [List.length_drop] at hj
  rw [List.getElem_drop]
  exact c.2.2 _ (by omega) (by omega)
theorem rises_far : ∀ (r : List Int) (s : Int), Rises r → (∀ y ∈ r, s ≤ y) → ∀ i (hi : i < r.length), s + i ≤ r[i]
  | [], _, _, _, i, hi => by simp at hi
  | x :: r, s, hr, hs, 0, hi => by
    have := hs x (by simp)
    simpa using this
  | x :: r, s, hr, hs, i + 1, hi => by
    obtain ⟨h1, h2⟩ := List.pairwise_cons.1 hr
    have hx := hs x (by simp)
    have := rises_far r (s + 1) h2 (fun y hy => by have := h1 y hy; omega) i (by simpa using hi)
    simp only [List.getElem_cons_succ]
    omega
theorem run_spec : ∀ (r : List Int) (s : Int), Rises r → (∀ y ∈ r, s ≤ y) →
    ∃ k : Nat, k ≤ r.length ∧ (∀ i (hi : i < r.length), (s + i < r[i] ↔ k ≤ i)) ∧ s + k ∉ r ∧ ∀ j : Nat, j < k → s + j ∈ r
  | [], s, _, _ => ⟨0, by simp, by simp, by simp, by simp⟩
  | x :: r, s, hr, hs => by
    obtain ⟨h1, h2⟩ := List.pairwise_cons.1 hr
    have hx := hs x (by simp)
    by_cases e : x = s
    · subst e
      obtain ⟨k, k1, k2, k3, k4⟩ := run_spec r (x + 1) h2 (fun y hy => by have := h1 y hy; omega)
      refine ⟨k + 1, by simp; omega, fun i hi => ?_, ?_, fun j hj => ?_⟩
      · cases i with
        | zero => simp
        | succ i =>
          have := k2 i (by simpa using hi)
          simp only [List.getElem_cons_succ]
          rw [show x + ((i + 1 : Nat) : Int) = x + 1 + i by omega, this]
          omega
      · rw [show x + ((k + 1 : Nat) : Int) = x + 1 + k by omega]
        intro hm
        rcases List.mem_cons.1 hm with h | h
        · omega
        · exact k3 h
      · cases j with
        | zero => simp
        | succ j =>
          rw [show x + ((j + 1 : Nat) : Int) = x + 1 + j by omega]
          exact List.mem_cons_of_mem _ (k4 j (by omega))
    · refine ⟨0, by simp, fun i hi => ?_, ?_, by simp⟩
      · have := rises_far (x :: r) x hr (fun y hy => by
          rcases List.mem_cons.1 hy with h | h
          · omega
          · have := h1 y h; omega) i hi
        constructor
        · intro _; omega
        · intro _; omega
      · intro hm
        rcases List.mem_cons.1 hm with h | h
        · omega
        · have := h1 _ h; omega
theorem free_of {h : List Int} {s : Int} {i k : Nat} (c : Cut h s i) (k1 : k ≤ (h.drop i).length) (k3 : s + k ∉ h.drop i) (k4 : ∀ j : Nat, j < k → s + j ∈ h.drop i) : FreeAt h s (s + k) := by
  refine ⟨by omega, fun hm => ?_, fun y h1 h2 => ?_, ?_⟩
  · rw [← List.take_append_drop i h] at hm
    rcases List.mem_append.1 hm with hm | hm
    · have := cut_take c _ hm
      omega
    · exact k3 hm
  · have := k4 (y - s).toNat (by omega)
    rw [show s + ((y - s).toNat : Int) = y by omega] at this
    exact List.mem_of_mem_drop this
  · rw [List.length_drop] at k1
    omega
/-- The code's number is the document's. -/
theorem draw_low {h : List Int} (hl : h.length < 4294967296) {x r : Int} (hf : FreeAt h (x % 4294967296) r) (hr : r < 4294967296) : draw h x = r := by
  obtain ⟨f1, f2, f3, f4⟩ := hf
  have e : (x % 4294967296 + ((r - x % 4294967296).toNat : Int)) % 4294967296 = r := by omega
  have := draw_is hl (x := x) (k := (r - x % 4294967296).toNat) (fun j hj => by
    rw [show (x % 4294967296 + (j : Int)) % 4294967296 = x % 4294967296 + j by omega]
    exact f3 _ (by omega) (by omega)) (by rw [e]; exact f2)
  rw [this, e]
theorem draw_round {h : List Int} (hl : h.length < 4294967296) {x r q : Int} (hf : FreeAt h (x % 4294967296) r) (hr : 4294967296 ≤ r) (hq : FreeAt h 0 q) : draw h x = q := by
  obtain ⟨f1, f2, f3, f4⟩ := hf
  obtain ⟨q1, q2, q3, q4⟩ := hq
  have e : (x % 4294967296 + ((4294967296 - x % 4294967296 + q).toNat : Int)) % 4294967296 = q := by omega
  have := draw_is hl (x := x) (k := (4294967296 - x % 4294967296 + q).toNat) (fun j hj => by
    by_cases hj2 : x % 4294967296 + (j : Int) < 4294967296
    · rw [show (x % 4294967296 + (j : Int)) % 4294967296 = x % 4294967296 + j by omega]
      exact f3 _ (by omega) (by omega)
    · exact q3 _ (by omega) (by omega)) (by rw [e]; exact q2)
  rw [this, e]

/-! ### Putting a number in -/
def putAt (h : List Int) (i : Nat) (x : Int) : List Int := h.take i ++ x :: h.drop i
theorem putAt_length {h : List Int} {i : Nat} (x : Int) (hi : i ≤ h.length) : (putAt h i x).length = h.length + 1 := by
  simp [putAt]
  omega
theorem mem_putAt {h : List Int} {i : Nat} {x y : Int} : y ∈ putAt h i x ↔ y ∈ h ∨ y = x := by
  unfold putAt
  rw [List.mem_append, List.mem_cons]
  constructor
  · rintro (h1 | h1 | h1)
    · exact .inl (List.mem_of_mem_take h1)
    · exact .inr h1
    · exact .inl (List.mem_of_mem_drop h1)
  · rintro (h1 | h1)
    · rw [← List.take_append_drop i h] at h1
      rcases List.mem_append.1 h1 with h2 | h2
      · exact .inl h2
      · exact .inr (.inr h2)
    · exact .inr (.inl h1)
theorem rises_putAt {h : List Int} {i : Nat} {x : Int} (hr : Rises h) (c : Cut h x i) (hx : x ∉ h) : Rises (putAt h i x) := by
  unfold putAt
  refine List.pairwise_append.2 ⟨hr.sublist (List.take_sublist _ _), List.pairwise_cons.2 ⟨fun y hy => ?_, hr.sublist (List.drop_sublist _ _)⟩, fun a ha b hb => ?_⟩
  · have h1 := cut_drop c y hy
    have h2 : y ≠ x := fun e => hx (e ▸ List.mem_of_mem_drop hy)
    omega
  · have h1 := cut_take c a ha
    rcases List.mem_cons.1 hb with h2 | h2
    · omega
    · have := cut_drop c b h2
      omega
end Go.Proofs.Ytdejhpinmkbngaa
