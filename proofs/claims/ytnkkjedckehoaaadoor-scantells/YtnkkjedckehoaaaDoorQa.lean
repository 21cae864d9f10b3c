/- Names, paths, and what is made of them: plain lists of bytes. -/
import Derived.Test.YtnkkjedckehoaaaDoorMem
import Derived.Lib.SplitLaws
import Derived.Lib.IndexBytes
import Derived.Lib.Join
namespace Go.Proofs.YtnkkjedckehoaaaDoor
open Go.RowKit

/-- A string of these bytes. -/
def mkS (l : List UInt8) : ByteArray := ⟨l.toArray⟩
theorem mkS_data (l : List UInt8) : (mkS l).data.toList = l := rfl
theorem mkS_of (s : ByteArray) : mkS s.data.toList = s := by cases s; simp [mkS]
theorem mkS_inj {a b : List UInt8} (h : mkS a = mkS b) : a = b := by rw [← mkS_data a, h, mkS_data]
theorem mkS_map (ls : List ByteArray) : (ls.map (·.data.toList)).map mkS = ls := by
  rw [List.map_map]
  have : ∀ s ∈ ls, (mkS ∘ fun s : ByteArray => s.data.toList) s = s := fun s _ => mkS_of s
  rw [List.map_congr_left this, List.map_id']
theorem map_mkS (L : List (List UInt8)) : (L.map mkS).map (fun s : ByteArray => s.data.toList) = L := by
  rw [List.map_map]
  have : ∀ s ∈ L, ((fun s : ByteArray => s.data.toList) ∘ mkS) s = s := fun s _ => mkS_data s
  rw [List.map_congr_left this, List.map_id']

def okB (b : UInt8) : Bool := (decide (97 ≤ b.toNat) && decide (b.toNat ≤ 122)) || (decide (48 ≤ b.toNat) && decide (b.toNat ≤ 57)) || b.toNat == 46 || b.toNat == 45
def nameL (l : List UInt8) : Bool := decide (1 ≤ l.length ∧ l.length ≤ 12 ∧ l ≠ [46] ∧ l ≠ [46, 46]) && l.all okB
def fineL (ls : List (List UInt8)) : Bool := decide (1 ≤ ls.length ∧ ls.length ≤ 4) && ls.all nameL

/-- What stands between the strokes. -/
def pieces : List UInt8 → List (List UInt8)
  | [] => [[]]
  | b :: l => if b = 47 then [] :: pieces l else (b :: (pieces l).headD []) :: (pieces l).tail
def joinL (ls : List (List UInt8)) : List UInt8 := Lib.join ls [47]
def rightL (s : List UInt8) : Bool := fineL (pieces s)
def namesL (s : List UInt8) : List (List UInt8) := if rightL s then pieces s else []
def joinN (ls : List (List UInt8)) : List UInt8 := if fineL ls then joinL ls else []
def parentL (s : List UInt8) : List UInt8 := joinN (namesL s).dropLast
def underL (s d : List UInt8) : Bool := rightL s && rightL d && Lib.hasPrefix s (d ++ [47])
def clashL (a b : List UInt8) : Bool := underL a b || underL b a
/-- All are paths, each greater than the one ahead. -/
def srtAt (L : List (List UInt8)) (i : Nat) : Bool := rightL (L.getD i []) && (i == 0 || Op.bytesLess (L.getD (i - 1) []) (L.getD i []))
def sortedL (L : List (List UInt8)) : Bool := (List.range L.length).all (srtAt L)

theorem fine_nil : fineL [] = false := rfl
theorem joinN_nil : joinN [] = [] := rfl

theorem pieces_none : ∀ (p : List UInt8), 47 ∉ p → pieces p = [p]
  | [], _ => rfl
  | b :: p, h => by
    have hb : b ≠ 47 := fun e => h (by simp [e])
    have := pieces_none p (fun e => h (by simp [e]))
    rw [pieces, if_neg hb, this]
    rfl
theorem pieces_ne : ∀ (s : List UInt8), pieces s ≠ []
  | [] => by simp [pieces]
  | b :: p => by unfold pieces; split <;> simp
theorem pieces_app : ∀ (a r : List UInt8), pieces (a ++ 47 :: r) = pieces a ++ pieces r
  | [], r => by simp [pieces]
  | b :: a, r => by
    have ih := pieces_app a r
    have hne := pieces_ne a
    rw [List.cons_append, pieces, pieces, ih]
    split
    · rfl
    · cases h : pieces a with
      | nil => exact absurd h hne
      | cons x xs => rfl
theorem pieces_len : ∀ (s : List UInt8), (pieces s).length ≤ s.length + 1
  | [] => by simp [pieces]
  | b :: p => by
    have ih := pieces_len p
    have hne := pieces_ne p
    unfold pieces
    split
    · simp only [List.length_cons]; omega
    · simp only [List.length_cons, List.length_tail]; omega
theorem split_at (s : List UInt8) : 47 ∉ s ∨ ∃ p r, s = p ++ 47 :: r ∧ 47 ∉ p := by
  by_cases h : (47 : UInt8) ∈ s
  · obtain ⟨p, r, h1, h2⟩ := List.eq_append_cons_of_mem h
    exact .inr ⟨p, r, h1, h2⟩
  · exact .inl h
theorem idx_none : ∀ (s : List UInt8), 47 ∉ s → Lib.index s [47] = -1 := by
  intro s h
  rw [Lib.index_one]
  induction s with
  | nil => rfl
  | cons b l ih =>
    have hb : b ≠ 47 := fun e => h (by simp [e])
    have := ih (fun e => h (by simp [e]))
    simp [Lib.indexByte, hb, this]
theorem idx_some : ∀ (p r : List UInt8), 47 ∉ p → Lib.index (p ++ 47 :: r) [47] = (p.length : Int) := by
  intro p r h
  rw [Lib.index_one]
  induction p with
  | nil => simp [Lib.indexByte]
  | cons b l ih =>
    have hb : b ≠ 47 := fun e => h (by simp [e])
    have := ih (fun e => h (by simp [e]))
    have hne : ((l.length : Int) == -1) = false := by simp
    simp [Lib.indexByte, hb, this]
theorem splitK_pieces : ∀ (k : Nat) (s : List UInt8), (pieces s).length ≤ k + 1 → Lib.splitK [47] 0 k s = pieces s
  | 0, s, h => by
    rcases split_at s with h1 | ⟨p, r, rfl, hp⟩
    · rw [pieces_none s h1]; rfl
    · rw [pieces_app, pieces_none p hp, List.length_append] at h
      have := List.length_pos_iff.2 (pieces_ne r)
      simp only [List.length_cons, List.length_nil] at h
      omega
  | k + 1, s, h => by
    rcases split_at s with h1 | ⟨p, r, rfl, hp⟩
    · rw [pieces_none s h1, Lib.splitK, idx_none s h1]; rfl
    · rw [pieces_app, pieces_none p hp, List.length_append] at h
      simp only [List.length_cons, List.length_nil] at h
      have ih := splitK_pieces k r (by omega)
      have hne : ((p.length : Int) == -1) = false := by simp
      rw [Lib.splitK, idx_some p r hp, hne, pieces_app, pieces_none p hp]
      simp [ih]
theorem splitK_long : ∀ (k : Nat) (s : List UInt8), k + 1 < (pieces s).length → (Lib.splitK [47] 0 k s).length = k + 1
  | 0, s, h => rfl
  | k + 1, s, h => by
    rcases split_at s with h1 | ⟨p, r, rfl, hp⟩
    · rw [pieces_none s h1] at h; simp at h
    · rw [pieces_app, pieces_none p hp, List.length_append] at h
      simp only [List.length_cons, List.length_nil] at h
      have ih := splitK_long k r (by omega)
      have hne : ((p.length : Int) == -1) = false := by simp
      rw [Lib.splitK, idx_some p r hp, hne]
      simp [ih]
theorem fine_len {ls : List (List UInt8)} (h : fineL ls = true) : 1 ≤ ls.length ∧ ls.length ≤ 4 := by
  simp only [fineL, Bool.and_eq_true, decide_eq_true_eq] at h
  exact h.1
theorem fine_all {ls : List (List UInt8)} (h : fineL ls = true) : ∀ p ∈ ls, nameL p = true := by
  simp only [fineL, Bool.and_eq_true, List.all_eq_true] at h
  exact h.2
theorem fine_mk {ls : List (List UInt8)} (h1 : 1 ≤ ls.length) (h2 : ls.length ≤ 4) (h : ∀ p ∈ ls, nameL p = true) : fineL ls = true := by
  simp only [fineL, Bool.and_eq_true, decide_eq_true_eq, List.all_eq_true]
  exact ⟨⟨h1, h2⟩, h⟩
theorem fine_long {ls : List (List UInt8)} (h : 4 < ls.length) : fineL ls = false := by
  cases h1 : fineL ls with
  | false => rfl
  | true => have := fine_len h1; omega
/-- What the program cuts is a path's names just where s is a path. -/
theorem split_fine (s : List UInt8) : fineL (Lib.splitK [47] 0 (min 5 (s.length + 1) - 1) s) = rightL s := by
  have hl := pieces_len s
  by_cases h : (pieces s).length ≤ min 5 (s.length + 1) - 1 + 1
  · rw [splitK_pieces _ _ h, rightL]
  · have h2 := splitK_long (min 5 (s.length + 1) - 1) s (by omega)
    rw [fine_long (by omega), rightL, fine_long (by omega)]
theorem split_names (s : List UInt8) (h : rightL s = true) : Lib.splitK [47] 0 (min 5 (s.length + 1) - 1) s = pieces s := by
  have hl := pieces_len s
  have := fine_len h
  exact splitK_pieces _ _ (by omega)

/-! ### Joined -/
theorem joinL_one (p : List UInt8) : joinL [p] = p := Lib.join_one _ _
theorem joinL_cons (p q : List UInt8) (r : List (List UInt8)) : joinL (p :: q :: r) = p ++ 47 :: joinL (q :: r) := by
  simp [joinL, Lib.join_cons, Lib.joinTail]
theorem joinL_app : ∀ (a b : List (List UInt8)), a ≠ [] → b ≠ [] → joinL (a ++ b) = joinL a ++ 47 :: joinL b
  | [], _, h, _ => absurd rfl h
  | [p], b, _, hb => by
    cases b with
    | nil => exact absurd rfl hb
    | cons q r => rw [List.singleton_append, joinL_cons, joinL_one]
  | p :: q :: r, b, _, hb => by
    have ih := joinL_app (q :: r) b (by simp) hb
    rw [List.cons_append, List.cons_append, joinL_cons, ← List.cons_append, ih, joinL_cons]
    simp
theorem pieces_join : ∀ (ls : List (List UInt8)), ls ≠ [] → (∀ p ∈ ls, 47 ∉ p) → pieces (joinL ls) = ls
  | [], h, _ => absurd rfl h
  | [p], _, h => by rw [joinL_one, pieces_none p (h p (by simp))]
  | p :: q :: r, _, h => by
    have ih := pieces_join (q :: r) (by simp) (fun x hx => h x (List.mem_cons_of_mem _ hx))
    rw [joinL_cons, pieces_app, ih, pieces_none p (h p (by simp))]
    rfl
theorem join_pieces (s : List UInt8) : joinL (pieces s) = s := by
  generalize hn : s.length = n
  induction n using Nat.strongRecOn generalizing s with
  | ind n ih =>
    rcases split_at s with h1 | ⟨p, r, rfl, hp⟩
    · rw [pieces_none s h1, joinL_one]
    · have h := ih r.length (by simp at hn; omega) r rfl
      rw [pieces_app, pieces_none p hp, joinL_app _ _ (by simp) (pieces_ne r), h, joinL_one]
theorem pieces_free (s : List UInt8) : ∀ p ∈ pieces s, 47 ∉ p := by
  generalize hn : s.length = n
  induction n using Nat.strongRecOn generalizing s with
  | ind n ih =>
    rcases split_at s with h1 | ⟨p, r, rfl, hp⟩
    · rw [pieces_none s h1]
      intro q hq
      rw [List.mem_singleton.1 hq]
      exact h1
    · have h := ih r.length (by simp at hn; omega) r rfl
      rw [pieces_app, pieces_none p hp]
      intro q hq
      rcases List.mem_append.1 hq with hq | hq
      · rw [List.mem_singleton.1 hq]
        exact hp
      · exact h q hq
theorem name_free {p : List UInt8} (h : nameL p = true) : 47 ∉ p := by
  intro hm
  simp only [nameL, Bool.and_eq_true, List.all_eq_true] at h
  exact absurd (h.2 47 hm) (by decide)
theorem name_ne {p : List UInt8} (h : nameL p = true) : p ≠ [] := by
  intro hm
  subst hm
  exact absurd h (by decide)
theorem fine_ne {ls : List (List UInt8)} (h : fineL ls = true) : ls ≠ [] := by
  intro hm
  subst hm
  exact absurd h (by decide)
theorem fine_pieces {ls : List (List UInt8)} (h : fineL ls = true) : pieces (joinL ls) = ls :=
  pieces_join ls (fine_ne h) (fun p hp => name_free (fine_all h p hp))
theorem right_join {ls : List (List UInt8)} (h : fineL ls = true) : rightL (joinL ls) = true := by rw [rightL, fine_pieces h, h]
theorem joinL_ne : ∀ (ls : List (List UInt8)), ls ≠ [] → (∀ p ∈ ls, p ≠ []) → joinL ls ≠ []
  | [], h, _ => absurd rfl h
  | [p], _, h => by rw [joinL_one]; exact h p (by simp)
  | p :: q :: r, _, h => by rw [joinL_cons]; simp
theorem right_ne {s : List UInt8} (h : rightL s = true) : s ≠ [] := by
  rw [← join_pieces s]
  exact joinL_ne _ (pieces_ne s) (fun p hp => name_ne (fine_all h p hp))
theorem right_nil : rightL [] = false := rfl
theorem joinN_right (ls : List (List UInt8)) : rightL (joinN ls) = fineL ls := by
  unfold joinN
  split
  · rename_i h
    rw [right_join h, h]
  · rename_i h
    simp only [Bool.not_eq_true] at h
    rw [h, right_nil]
theorem names_right {s : List UInt8} (h : rightL s = true) : namesL s = pieces s := by rw [namesL, if_pos h]
theorem names_wrong {s : List UInt8} (h : rightL s = false) : namesL s = [] := by rw [namesL, if_neg (by simp [h])]
theorem names_len (s : List UInt8) : (namesL s).length ≤ 4 := by
  unfold namesL
  split
  · rename_i h
    exact (fine_len h).2
  · simp
theorem name_len {p : List UInt8} (h : nameL p = true) : p.length ≤ 12 := by
  simp only [nameL, Bool.and_eq_true, decide_eq_true_eq] at h
  exact h.1.2.1
theorem join_len : ∀ (ls : List (List UInt8)), (∀ p ∈ ls, nameL p = true) → (joinL ls).length ≤ 13 * ls.length
  | [], _ => by simp [joinL, Lib.join_nil]
  | [p], h => by
    have := name_len (h p (by simp))
    rw [joinL_one]
    simp only [List.length_cons, List.length_nil]
    omega
  | p :: q :: r, h => by
    have := name_len (h p (by simp))
    have ih := join_len (q :: r) (fun x hx => h x (List.mem_cons_of_mem _ hx))
    rw [joinL_cons]
    simp only [List.length_append, List.length_cons] at ih ⊢
    omega
theorem joinN_len (ls : List (List UInt8)) : (joinN ls).length ≤ 52 := by
  unfold joinN
  split
  · rename_i h
    have := join_len ls (fine_all h)
    have := fine_len h
    omega
  · simp
end Go.Proofs.YtnkkjedckehoaaaDoor
