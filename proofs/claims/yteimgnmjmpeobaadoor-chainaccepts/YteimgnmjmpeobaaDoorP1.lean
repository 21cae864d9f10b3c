/- The texts Qa, Shelf, Fr, Qb, Qc, Qd, Qs, Ta, in one. -/
import Derived.Test.YteimgnmjmpeobaaDoorP0
import Derived.Lib.SplitLaws
import Derived.Lib.IndexBytes
import Derived.Lib.Join
import Derived.Shelf.Strings.OnBuilder
import Derived.Shelf.LaysM
import Derived.Shelf.Strconv.Clone
import Derived.Shelf.Strings.Prefix
import Derived.Shelf.Strings.Split
import Derived.Test.YteimgnmjmpeobaaDoorProg
import Derived.Maps.OwnSet
import Derived.Maps.AppendAt
import Derived.Handy
import Derived.Deep.QuietTactic
import Derived.BigQuiet
import Derived.Deep.RegionHeld3
namespace Go.Proofs.YteimgnmjmpeobaaDoor
open Go.RowKit

/-- A string of these bytes. -/
def mkS (l : List UInt8) : ByteArray := ⟨l.toArray⟩
theorem mkS_data (l : List UInt8) : (mkS l).data.toList = l := rfl
theorem mkS_of (s : ByteArray) : mkS s.data.toList = s := by cases s; simp [mkS]
theorem mkS_inj {a b : List UInt8} (h : mkS a = mkS b) : a = b := by rw [← mkS_data a, h, mkS_data]
theorem mkS_map (ls : List ByteArray) : (ls.map (·.data.toList)).map mkS = ls := by
  rw [List.map_map]
  have : ∀ s ∈ ls, (mkS ∘ fun s : ByteArray => s.data.toList) s = s := fun s _ => mkS_of s
  rw [List.map_congr_left this, List.map_id']
theorem map_mkS (L : List (List UInt8)) : (L.map mkS).map (fun s : ByteArray => s.data.toList) = L := by
  rw [List.map_map]
  have : ∀ s ∈ L, ((fun s : ByteArray => s.data.toList) ∘ mkS) s = s := fun s _ => mkS_data s
  rw [List.map_congr_left this, List.map_id']

def okB (b : UInt8) : Bool := (decide (97 ≤ b.toNat) && decide (b.toNat ≤ 122)) || (decide (48 ≤ b.toNat) && decide (b.toNat ≤ 57)) || b.toNat == 46 || b.toNat == 45
def nameL (l : List UInt8) : Bool := decide (1 ≤ l.length ∧ l.length ≤ 12 ∧ l ≠ [46] ∧ l ≠ [46, 46]) && l.all okB
def fineL (ls : List (List UInt8)) : Bool := decide (1 ≤ ls.length ∧ ls.length ≤ 4) && ls.all nameL

/-- What stands between the strokes. -/
def pieces : List UInt8 → List (List UInt8)
  | [] => [[]]
  | b :: l => if b = 47 then [] :: pieces l else (b :: (pieces l).headD []) :: (pieces l).tail
def joinL (ls : List (List UInt8)) : List UInt8 := Lib.join ls [47]
def rightL (s : List UInt8) : Bool := fineL (pieces s)
def namesL (s : List UInt8) : List (List UInt8) := if rightL s then pieces s else []
def joinN (ls : List (List UInt8)) : List UInt8 := if fineL ls then joinL ls else []
def parentL (s : List UInt8) : List UInt8 := joinN (namesL s).dropLast
def underL (s d : List UInt8) : Bool := rightL s && rightL d && Lib.hasPrefix s (d ++ [47])
def clashL (a b : List UInt8) : Bool := underL a b || underL b a
/-- All are paths, each greater than the one ahead. -/
def srtAt (L : List (List UInt8)) (i : Nat) : Bool := rightL (L.getD i []) && (i == 0 || Op.bytesLess (L.getD (i - 1) []) (L.getD i []))
def sortedL (L : List (List UInt8)) : Bool := (List.range L.length).all (srtAt L)

theorem fine_nil : fineL [] = false := rfl
theorem joinN_nil : joinN [] = [] := rfl

theorem pieces_none : ∀ (p : List UInt8), 47 ∉ p → pieces p = [p]
  | [], _ => rfl
  | b :: p, h => by
    have hb : b ≠ 47 := fun e => h (by simp [e])
    have := pieces_none p (fun e => h (by simp [e]))
    rw [pieces, if_neg hb, this]
    rfl
theorem pieces_ne : ∀ (s : List UInt8), pieces s ≠ []
  | [] => by simp [pieces]
  | b :: p => by unfold pieces; split <;> simp
theorem pieces_app : ∀ (a r : List UInt8), pieces (a ++ 47 :: r) = pieces a ++ pieces r
  | [], r => by simp [pieces]
  | b :: a, r => by
    have ih := pieces_app a r
    have hne := pieces_ne a
    rw [List.cons_append, pieces, pieces, ih]
    split
    · rfl
    · cases h : pieces a with
      | nil => exact absurd h hne
      | cons x xs => rfl
theorem pieces_len : ∀ (s : List UInt8), (pieces s).length ≤ s.length + 1
  | [] => by simp [pieces]
  | b :: p => by
    have ih := pieces_len p
    have hne := pieces_ne p
    unfold pieces
    split
    · simp only [List.length_cons]; omega
    · simp only [List.length_cons, List.length_tail]; omega
theorem split_at (s : List UInt8) : 47 ∉ s ∨ ∃ p r, s = p ++ 47 :: r ∧ 47 ∉ p := by
  by_cases h : (47 : UInt8) ∈ s
  · obtain ⟨p, r, h1, h2⟩ := List.eq_append_cons_of_mem h
    exact .inr ⟨p, r, h1, h2⟩
  · exact .inl h
theorem idx_none : ∀ (s : List UInt8), 47 ∉ s → Lib.index s [47] = -1 := by
  intro s h
  rw [Lib.index_one]
  induction s with
  | nil => rfl
  | cons b l ih =>
    have hb : b ≠ 47 := fun e => h (by simp [e])
    have := ih (fun e => h (by simp [e]))
    simp [Lib.indexByte, hb, this]
theorem idx_some : ∀ (p r : List UInt8), 47 ∉ p → Lib.index (p ++ 47 :: r) [47] = (p.length : Int) := by
  intro p r h
  rw [Lib.index_one]
  induction p with
  | nil => simp [Lib.indexByte]
  | cons b l ih =>
    have hb : b ≠ 47 := fun e => h (by simp [e])
    have := ih (fun e => h (by simp [e]))
    have hne : ((l.length : Int) == -1) = false := by simp
    simp [Lib.indexByte, hb, this]
theorem splitK_pieces : ∀ (k : Nat) (s : List UInt8), (pieces s).length ≤ k + 1 → Lib.splitK [47] 0 k s = pieces s
  | 0, s, h => by
    rcases split_at s with h1 | ⟨p, r, rfl, hp⟩
    · rw [pieces_none s h1]; rfl
    · rw [pieces_app, pieces_none p hp, List.length_append] at h
      have := List.length_pos_iff.2 (pieces_ne r)
      simp only [List.length_cons, List.length_nil] at h
      omega
  | k + 1, s, h => by
    rcases split_at s with h1 | ⟨p, r, rfl, hp⟩
    · rw [pieces_none s h1, Lib.splitK, idx_none s h1]; rfl
    · rw [pieces_app, pieces_none p hp, List.length_append] at h
      simp only [List.length_cons, List.length_nil] at h
      have ih := splitK_pieces k r (by omega)
      have hne : ((p.length : Int) == -1) = false := by simp
      rw [Lib.splitK, idx_some p r hp, hne, pieces_app, pieces_none p hp]
      simp [ih]
theorem splitK_long : ∀ (k : Nat) (s : List UInt8), k + 1 < (pieces s).length → (Lib.splitK [47] 0 k s).length = k + 1
  | 0, s, h => rfl
  | k + 1, s, h => by
    rcases split_at s with h1 | ⟨p, r, rfl, hp⟩
    · rw [pieces_none s h1] at h; simp at h
    · rw [pieces_app, pieces_none p hp, List.length_append] at h
      simp only [List.length_cons, List.length_nil] at h
      have ih := splitK_long k r (by omega)
      have hne : ((p.length : Int) == -1) = false := by simp
      rw [Lib.splitK, idx_some p r hp, hne]
      simp [ih]
theorem fine_len {ls : List (List UInt8)} (h : fineL ls = true) : 1 ≤ ls.length ∧ ls.length ≤ 4 := by
  simp only [fineL, Bool.and_eq_true, decide_eq_true_eq] at h
  exact h.1
theorem fine_all {ls : List (List UInt8)} (h : fineL ls = true) : ∀ p ∈ ls, nameL p = true := by
  simp only [fineL, Bool.and_eq_true, List.all_eq_true] at h
  exact h.2
theorem fine_mk {ls : List (List UInt8)} (h1 : 1 ≤ ls.length) (h2 : ls.length ≤ 4) (h : ∀ p ∈ ls, nameL p = true) : fineL ls = true := by
  simp only [fineL, Bool.and_eq_true, decide_eq_true_eq, List.all_eq_true]
  exact ⟨⟨h1, h2⟩, h⟩
theorem fine_long {ls : List (List UInt8)} (h : 4 < ls.length) : fineL ls = false := by
  cases h1 : fineL ls with
  | false => rfl
  | true => have := fine_len h1; omega
/-- What the program cuts is a path's names just where s is a path. -/
theorem split_fine (s : List UInt8) : fineL (Lib.splitK [47] 0 (min 5 (s.length + 1) - 1) s) = rightL s := by
  have hl := pieces_len s
  by_cases h : (pieces s).length ≤ min 5 (s.length + 1) - 1 + 1
  · rw [splitK_pieces _ _ h, rightL]
  · have h2 := splitK_long (min 5 (s.length + 1) - 1) s (by omega)
    rw [fine_long (by omega), rightL, fine_long (by omega)]
theorem split_names (s : List UInt8) (h : rightL s = true) : Lib.splitK [47] 0 (min 5 (s.length + 1) - 1) s = pieces s := by
  have hl := pieces_len s
  have := fine_len h
  exact splitK_pieces _ _ (by omega)

/-! ### Joined -/
theorem joinL_one (p : List UInt8) : joinL [p] = p := Lib.join_one _ _
theorem joinL_cons (p q : List UInt8) (r : List (List UInt8)) : joinL (p :: q :: r) = p ++ 47 :: joinL (q :: r) := by
  simp [joinL, Lib.join_cons, Lib.joinTail]
theorem joinL_app : ∀ (a b : List (List UInt8)), a ≠ [] → b ≠ [] → joinL (a ++ b) = joinL a ++ 47 :: joinL b
  | [], _, h, _ => absurd rfl h
  | [p], b, _, hb => by
    cases b with
    | nil => exact absurd rfl hb
    | cons q r => rw [List.singleton_append, joinL_cons, joinL_one]
  | p :: q :: r, b, _, hb => by
    have ih := joinL_app (q :: r) b (by simp) hb
    rw [List.cons_append, List.cons_append, joinL_cons, ← List.cons_append, ih, joinL_cons]
    simp
theorem pieces_join : ∀ (ls : List (List UInt8)), ls ≠ [] → (∀ p ∈ ls, 47 ∉ p) → pieces (joinL ls) = ls
  | [], h, _ => absurd rfl h
  | [p], _, h => by rw [joinL_one, pieces_none p (h p (by simp))]
  | p :: q :: r, _, h => by
    have ih := pieces_join (q :: r) (by simp) (fun x hx => h x (List.mem_cons_of_mem _ hx))
    rw [joinL_cons, pieces_app, ih, pieces_none p (h p (by simp))]
    rfl
theorem join_pieces (s : List UInt8) : joinL (pieces s) = s := by
  generalize hn : s.length = n
  induction n using Nat.strongRecOn generalizing s with
  | ind n ih =>
    rcases split_at s with h1 | ⟨p, r, rfl, hp⟩
    · rw [pieces_none s h1, joinL_one]
    · have h := ih r.length (by simp at hn; omega) r rfl
      rw [pieces_app, pieces_none p hp, joinL_app _ _ (by simp) (pieces_ne r), h, joinL_one]
theorem pieces_free (s : List UInt8) : ∀ p ∈ pieces s, 47 ∉ p := by
  generalize hn : s.length = n
  induction n using Nat.strongRecOn generalizing s with
  | ind n ih =>
    rcases split_at s with h1 | ⟨p, r, rfl, hp⟩
    · rw [pieces_none s h1]
      intro q hq
      rw [List.mem_singleton.1 hq]
      exact h1
    · have h := ih r.length (by simp at hn; omega) r rfl
      rw [pieces_app, pieces_none p hp]
      intro q hq
      rcases List.mem_append.1 hq with hq | hq
      · rw [List.mem_singleton.1 hq]
        exact hp
      · exact h q hq
theorem name_free {p : List UInt8} (h : nameL p = true) : 47 ∉ p := by
  intro hm
  simp only [nameL, Bool.and_eq_true, List.all_eq_true] at h
  exact absurd (h.2 47 hm) (by decide)
theorem name_ne {p : List UInt8} (h : nameL p = true) : p ≠ [] := by
  intro hm
  subst hm
  exact absurd h (by decide)
theorem fine_ne {ls : List (List UInt8)} (h : fineL ls = true) : ls ≠ [] := by
  intro hm
  subst hm
  exact absurd h (by decide)
theorem fine_pieces {ls : List (List UInt8)} (h : fineL ls = true) : pieces (joinL ls) = ls :=
  pieces_join ls (fine_ne h) (fun p hp => name_free (fine_all h p hp))
theorem right_join {ls : List (List UInt8)} (h : fineL ls = true) : rightL (joinL ls) = true := by rw [rightL, fine_pieces h, h]
theorem joinL_ne : ∀ (ls : List (List UInt8)), ls ≠ [] → (∀ p ∈ ls, p ≠ []) → joinL ls ≠ []
  | [], h, _ => absurd rfl h
  | [p], _, h => by rw [joinL_one]; exact h p (by simp)
  | p :: q :: r, _, h => by rw [joinL_cons]; simp
theorem right_ne {s : List UInt8} (h : rightL s = true) : s ≠ [] := by
  rw [← join_pieces s]
  exact joinL_ne _ (pieces_ne s) (fun p hp => name_ne (fine_all h p hp))
theorem right_nil : rightL [] = false := rfl
theorem joinN_right (ls : List (List UInt8)) : rightL (joinN ls) = fineL ls := by
  unfold joinN
  split
  · rename_i h
    rw [right_join h, h]
  · rename_i h
    simp only [Bool.not_eq_true] at h
    rw [h, right_nil]
theorem names_right {s : List UInt8} (h : rightL s = true) : namesL s = pieces s := by rw [namesL, if_pos h]
theorem names_wrong {s : List UInt8} (h : rightL s = false) : namesL s = [] := by rw [namesL, if_neg (by simp [h])]
theorem names_len (s : List UInt8) : (namesL s).length ≤ 4 := by
  unfold namesL
  split
  · rename_i h
    exact (fine_len h).2
  · simp
theorem name_len {p : List UInt8} (h : nameL p = true) : p.length ≤ 12 := by
  simp only [nameL, Bool.and_eq_true, decide_eq_true_eq] at h
  exact h.1.2.1
theorem join_len : ∀ (ls : List (List UInt8)), (∀ p ∈ ls, nameL p = true) → (joinL ls).length ≤ 13 * ls.length
  | [], _ => by simp [joinL, Lib.join_nil]
  | [p], h => by
    have := name_len (h p (by simp))
    rw [joinL_one]
    simp only [List.length_cons, List.length_nil]
    omega
  | p :: q :: r, h => by
    have := name_len (h p (by simp))
    have ih := join_len (q :: r) (fun x hx => h x (List.mem_cons_of_mem _ hx))
    rw [joinL_cons]
    simp only [List.length_append, List.length_cons] at ih ⊢
    omega
theorem joinN_len (ls : List (List UInt8)) : (joinN ls).length ≤ 52 := by
  unfold joinN
  split
  · rename_i h
    have := join_len ls (fine_all h)
    have := fine_len h
    omega
  · simp
end Go.Proofs.YteimgnmjmpeobaaDoor
namespace Go.Proofs
open Go.Shelf
def Tryd.laysM316_ren : Go.Shelf.Ren := ⟨fun | 316 => 48 | n => n, fun | 9 => 9 | 3 => 3 | 4 => 4 | 37 => 72 | 0 => 0 | 127 => 73 | 5 => 5 | n => n, fun | n => n⟩
theorem Tryd.laysM316 : Go.Proofs.LaysM.n316 Tryd.prog Tryd.laysM316_ren := {
  mixed := by kernel_rfl
  f316 := Tryd.func48.trans (congrArg some (by kernel_rfl))
  t0 := Tryd.underlying0
  a0 := Tryd.isAgg0
  z0 := Tryd.sizeOf0
  v0 := Tryd.zeroValue0
  t3 := Tryd.underlying3
  a3 := Tryd.isAgg3
  z3 := Tryd.sizeOf3
  v3 := Tryd.zeroValue3
  t4 := Tryd.underlying4
  a4 := Tryd.isAgg4
  z4 := Tryd.sizeOf4
  v4 := Tryd.zeroValue4
  t9 := Tryd.underlying9
  a9 := Tryd.isAgg9
  z9 := Tryd.sizeOf9
  v9 := Tryd.zeroValue9
  t37 := Tryd.underlying72
  a37 := Tryd.isAgg72
  z37 := Tryd.sizeOf72
  v37 := Tryd.zeroValue72
  t127 := Tryd.underlying73
  a127 := Tryd.isAgg73
  z127 := Tryd.sizeOf73
  v127 := Tryd.zeroValue73
  t5 := Tryd.underlying5
  a5 := Tryd.isAgg5
  z5 := Tryd.sizeOf5
  v5 := Tryd.zeroValue5
  i0 := by kernel_rfl
  i3 := by kernel_rfl
  i4 := by kernel_rfl
  i5 := by kernel_rfl
  i9 := by kernel_rfl
  i37 := by kernel_rfl
  i127 := by kernel_rfl }
open Go.RowKit in
theorem Tryd.stringslite_Clone (s : ByteArray) (w : World) (hlim : s.size ≤ 281474976710656) :
    Calls Tryd.prog 48 #[.string s] w fun e w' => e = .returned (.string s) ∧ Below w.heap.size w w' := Any.stringslite_Clone Tryd.laysM316 s w hlim
def Tryd.lays143_ren : Go.Shelf.Ren := ⟨fun | 143 => 60 | 219 => 64 | 217 => 66 | 225 => 67 | 224 => 68 | 267 => 69 | 266 => 70 | 314 => 71 | n => n, fun | 9 => 9 | 3 => 3 | 4 => 4 | 5 => 5 | 46 => 83 | 146 => 89 | 51 => 88 | n => n, fun | 1 => 0 | n => n⟩
theorem Tryd.lays143 : Go.Proofs.Lays.n143 Tryd.prog Tryd.lays143_ren := {
  mixed := by kernel_rfl
  f143 := Tryd.func60.trans (congrArg some (by kernel_rfl))
  f217 := Tryd.func66.trans (congrArg some (by kernel_rfl))
  f219 := Tryd.func64.trans (congrArg some (by kernel_rfl))
  f224 := Tryd.func68.trans (congrArg some (by kernel_rfl))
  f225 := Tryd.func67.trans (congrArg some (by kernel_rfl))
  f266 := Tryd.func70.trans (congrArg some (by kernel_rfl))
  f267 := Tryd.func69.trans (congrArg some (by kernel_rfl))
  f314 := Tryd.func71.trans (congrArg some (by kernel_rfl))
  t3 := Tryd.underlying3
  a3 := Tryd.isAgg3
  z3 := Tryd.sizeOf3
  v3 := Tryd.zeroValue3
  t4 := Tryd.underlying4
  a4 := Tryd.isAgg4
  z4 := Tryd.sizeOf4
  v4 := Tryd.zeroValue4
  t5 := Tryd.underlying5
  a5 := Tryd.isAgg5
  z5 := Tryd.sizeOf5
  v5 := Tryd.zeroValue5
  t9 := Tryd.underlying9
  a9 := Tryd.isAgg9
  z9 := Tryd.sizeOf9
  v9 := Tryd.zeroValue9
  t46 := Tryd.underlying83
  a46 := Tryd.isAgg83
  z46 := Tryd.sizeOf83
  v46 := Tryd.zeroValue83
  t51 := Tryd.underlying88
  a51 := Tryd.isAgg88
  z51 := Tryd.sizeOf88
  v51 := Tryd.zeroValue88
  t146 := Tryd.underlying89
  a146 := Tryd.isAgg89
  z146 := Tryd.sizeOf89
  v146 := Tryd.zeroValue89
  g1 := by kernel_rfl }
open Go.RowKit Go.Lib in
theorem Tryd.strings_Index_one (s : ByteArray) (c : UInt8) (w : World) :
    Calls Tryd.prog 60 #[.string s, .string ⟨#[c]⟩] w fun e w' => e = .returned (.int .i64 (Lib.indexByte s.data.toList c)) ∧ w' = w := Any.strings_Index_one Tryd.lays143 s c w
open Go.RowKit Go.Lib in
theorem Tryd.strings_Index (s sub : ByteArray) (m : Int) (w : World) (hs : s.size < 4294967281) (hm : w.cell? ⟨0, 0, none⟩ = some (.int .i64 m)) :
    Calls Tryd.prog 60 #[.string s, .string sub] w fun e w' => e = .returned (.int .i64 (Lib.index s.data.toList sub.data.toList)) ∧ w' = w := Any.strings_Index Tryd.lays143 s sub m w hs hm
def Tryd.lays138_ren : Go.Shelf.Ren := ⟨fun | 138 => 59 | 195 => 61 | 218 => 63 | 143 => 60 | 219 => 64 | 217 => 66 | 225 => 67 | 224 => 68 | 267 => 69 | 266 => 70 | 314 => 71 | n => n, fun | 9 => 9 | 3 => 3 | 4 => 4 | 5 => 5 | 0 => 0 | 46 => 83 | 146 => 89 | 51 => 88 | n => n, fun | 1 => 0 | n => n⟩
theorem Tryd.lays138 : Go.Proofs.Lays.n138 Tryd.prog Tryd.lays138_ren := {
  mixed := by kernel_rfl
  f138 := Tryd.func59.trans (congrArg some (by kernel_rfl))
  f143 := Tryd.func60.trans (congrArg some (by kernel_rfl))
  f195 := Tryd.func61.trans (congrArg some (by kernel_rfl))
  f217 := Tryd.func66.trans (congrArg some (by kernel_rfl))
  f218 := Tryd.func63.trans (congrArg some (by kernel_rfl))
  f219 := Tryd.func64.trans (congrArg some (by kernel_rfl))
  f224 := Tryd.func68.trans (congrArg some (by kernel_rfl))
  f225 := Tryd.func67.trans (congrArg some (by kernel_rfl))
  f266 := Tryd.func70.trans (congrArg some (by kernel_rfl))
  f267 := Tryd.func69.trans (congrArg some (by kernel_rfl))
  f314 := Tryd.func71.trans (congrArg some (by kernel_rfl))
  t0 := Tryd.underlying0
  a0 := Tryd.isAgg0
  z0 := Tryd.sizeOf0
  v0 := Tryd.zeroValue0
  t3 := Tryd.underlying3
  a3 := Tryd.isAgg3
  z3 := Tryd.sizeOf3
  v3 := Tryd.zeroValue3
  t4 := Tryd.underlying4
  a4 := Tryd.isAgg4
  z4 := Tryd.sizeOf4
  v4 := Tryd.zeroValue4
  t5 := Tryd.underlying5
  a5 := Tryd.isAgg5
  z5 := Tryd.sizeOf5
  v5 := Tryd.zeroValue5
  t9 := Tryd.underlying9
  a9 := Tryd.isAgg9
  z9 := Tryd.sizeOf9
  v9 := Tryd.zeroValue9
  t46 := Tryd.underlying83
  a46 := Tryd.isAgg83
  z46 := Tryd.sizeOf83
  v46 := Tryd.zeroValue83
  t51 := Tryd.underlying88
  a51 := Tryd.isAgg88
  z51 := Tryd.sizeOf88
  v51 := Tryd.zeroValue88
  t146 := Tryd.underlying89
  a146 := Tryd.isAgg89
  z146 := Tryd.sizeOf89
  v146 := Tryd.zeroValue89
  g1 := by kernel_rfl }
def Tryd.lays221_ren : Go.Shelf.Ren := ⟨fun | 221 => 57 | 268 => 58 | 138 => 59 | 143 => 60 | 195 => 61 | 197 => 62 | 218 => 63 | 219 => 64 | 260 => 65 | 217 => 66 | 225 => 67 | 224 => 68 | 267 => 69 | 266 => 70 | 314 => 71 | n => n, fun | 9 => 9 | 3 => 3 | 31 => 59 | 4 => 4 | 0 => 0 | 105 => 80 | 21 => 21 | 5 => 5 | 46 => 83 | 119 => 84 | 139 => 87 | 138 => 86 | 146 => 89 | 51 => 88 | n => n, fun | 1 => 0 | 3 => 1 | 4 => 2 | n => n⟩
theorem Tryd.lays221 : Go.Proofs.Lays.n221 Tryd.prog Tryd.lays221_ren := {
  mixed := by kernel_rfl
  f138 := Tryd.func59.trans (congrArg some (by kernel_rfl))
  f143 := Tryd.func60.trans (congrArg some (by kernel_rfl))
  f195 := Tryd.func61.trans (congrArg some (by kernel_rfl))
  f197 := Tryd.func62.trans (congrArg some (by kernel_rfl))
  f217 := Tryd.func66.trans (congrArg some (by kernel_rfl))
  f218 := Tryd.func63.trans (congrArg some (by kernel_rfl))
  f219 := Tryd.func64.trans (congrArg some (by kernel_rfl))
  f221 := Tryd.func57.trans (congrArg some (by kernel_rfl))
  f224 := Tryd.func68.trans (congrArg some (by kernel_rfl))
  f225 := Tryd.func67.trans (congrArg some (by kernel_rfl))
  f260 := Tryd.func65.trans (congrArg some (by kernel_rfl))
  f266 := Tryd.func70.trans (congrArg some (by kernel_rfl))
  f267 := Tryd.func69.trans (congrArg some (by kernel_rfl))
  f268 := Tryd.func58.trans (congrArg some (by kernel_rfl))
  f314 := Tryd.func71.trans (congrArg some (by kernel_rfl))
  t0 := Tryd.underlying0
  a0 := Tryd.isAgg0
  z0 := Tryd.sizeOf0
  v0 := Tryd.zeroValue0
  t3 := Tryd.underlying3
  a3 := Tryd.isAgg3
  z3 := Tryd.sizeOf3
  v3 := Tryd.zeroValue3
  t4 := Tryd.underlying4
  a4 := Tryd.isAgg4
  z4 := Tryd.sizeOf4
  v4 := Tryd.zeroValue4
  t5 := Tryd.underlying5
  a5 := Tryd.isAgg5
  z5 := Tryd.sizeOf5
  v5 := Tryd.zeroValue5
  t9 := Tryd.underlying9
  a9 := Tryd.isAgg9
  z9 := Tryd.sizeOf9
  v9 := Tryd.zeroValue9
  t21 := Tryd.underlying21
  a21 := Tryd.isAgg21
  z21 := Tryd.sizeOf21
  v21 := Tryd.zeroValue21
  t31 := Tryd.underlying59
  a31 := Tryd.isAgg59
  z31 := Tryd.sizeOf59
  v31 := Tryd.zeroValue59
  t46 := Tryd.underlying83
  a46 := Tryd.isAgg83
  z46 := Tryd.sizeOf83
  v46 := Tryd.zeroValue83
  t51 := Tryd.underlying88
  a51 := Tryd.isAgg88
  z51 := Tryd.sizeOf88
  v51 := Tryd.zeroValue88
  t105 := Tryd.underlying80
  a105 := Tryd.isAgg80
  z105 := Tryd.sizeOf80
  v105 := Tryd.zeroValue80
  t119 := Tryd.underlying84
  a119 := Tryd.isAgg84
  z119 := Tryd.sizeOf84
  t138 := Tryd.underlying86
  a138 := Tryd.isAgg86
  z138 := Tryd.sizeOf86
  v138 := Tryd.zeroValue86
  t139 := Tryd.underlying87
  a139 := Tryd.isAgg87
  z139 := Tryd.sizeOf87
  v139 := Tryd.zeroValue87
  t146 := Tryd.underlying89
  a146 := Tryd.isAgg89
  z146 := Tryd.sizeOf89
  v146 := Tryd.zeroValue89
  g1 := by kernel_rfl
  g3 := by kernel_rfl
  g4 := by kernel_rfl }
def Tryd.lays147_ren : Go.Shelf.Ren := ⟨fun | 147 => 55 | 221 => 57 | 268 => 58 | 138 => 59 | 143 => 60 | 195 => 61 | 197 => 62 | 218 => 63 | 219 => 64 | 260 => 65 | 217 => 66 | 225 => 67 | 224 => 68 | 267 => 69 | 266 => 70 | 314 => 71 | n => n, fun | 9 => 9 | 3 => 3 | 31 => 59 | 4 => 4 | 0 => 0 | 105 => 80 | 21 => 21 | 5 => 5 | 46 => 83 | 119 => 84 | 139 => 87 | 138 => 86 | 146 => 89 | 51 => 88 | n => n, fun | 1 => 0 | 3 => 1 | 4 => 2 | n => n⟩
theorem Tryd.lays147 : Go.Proofs.Lays.n147 Tryd.prog Tryd.lays147_ren := {
  mixed := by kernel_rfl
  f138 := Tryd.func59.trans (congrArg some (by kernel_rfl))
  f143 := Tryd.func60.trans (congrArg some (by kernel_rfl))
  f147 := Tryd.func55.trans (congrArg some (by kernel_rfl))
  f195 := Tryd.func61.trans (congrArg some (by kernel_rfl))
  f197 := Tryd.func62.trans (congrArg some (by kernel_rfl))
  f217 := Tryd.func66.trans (congrArg some (by kernel_rfl))
  f218 := Tryd.func63.trans (congrArg some (by kernel_rfl))
  f219 := Tryd.func64.trans (congrArg some (by kernel_rfl))
  f221 := Tryd.func57.trans (congrArg some (by kernel_rfl))
  f224 := Tryd.func68.trans (congrArg some (by kernel_rfl))
  f225 := Tryd.func67.trans (congrArg some (by kernel_rfl))
  f260 := Tryd.func65.trans (congrArg some (by kernel_rfl))
  f266 := Tryd.func70.trans (congrArg some (by kernel_rfl))
  f267 := Tryd.func69.trans (congrArg some (by kernel_rfl))
  f268 := Tryd.func58.trans (congrArg some (by kernel_rfl))
  f314 := Tryd.func71.trans (congrArg some (by kernel_rfl))
  t0 := Tryd.underlying0
  a0 := Tryd.isAgg0
  z0 := Tryd.sizeOf0
  v0 := Tryd.zeroValue0
  t3 := Tryd.underlying3
  a3 := Tryd.isAgg3
  z3 := Tryd.sizeOf3
  v3 := Tryd.zeroValue3
  t4 := Tryd.underlying4
  a4 := Tryd.isAgg4
  z4 := Tryd.sizeOf4
  v4 := Tryd.zeroValue4
  t5 := Tryd.underlying5
  a5 := Tryd.isAgg5
  z5 := Tryd.sizeOf5
  v5 := Tryd.zeroValue5
  t9 := Tryd.underlying9
  a9 := Tryd.isAgg9
  z9 := Tryd.sizeOf9
  v9 := Tryd.zeroValue9
  t21 := Tryd.underlying21
  a21 := Tryd.isAgg21
  z21 := Tryd.sizeOf21
  v21 := Tryd.zeroValue21
  t31 := Tryd.underlying59
  a31 := Tryd.isAgg59
  z31 := Tryd.sizeOf59
  v31 := Tryd.zeroValue59
  t46 := Tryd.underlying83
  a46 := Tryd.isAgg83
  z46 := Tryd.sizeOf83
  v46 := Tryd.zeroValue83
  t51 := Tryd.underlying88
  a51 := Tryd.isAgg88
  z51 := Tryd.sizeOf88
  v51 := Tryd.zeroValue88
  t105 := Tryd.underlying80
  a105 := Tryd.isAgg80
  z105 := Tryd.sizeOf80
  v105 := Tryd.zeroValue80
  t119 := Tryd.underlying84
  a119 := Tryd.isAgg84
  z119 := Tryd.sizeOf84
  t138 := Tryd.underlying86
  a138 := Tryd.isAgg86
  z138 := Tryd.sizeOf86
  v138 := Tryd.zeroValue86
  t139 := Tryd.underlying87
  a139 := Tryd.isAgg87
  z139 := Tryd.sizeOf87
  v139 := Tryd.zeroValue87
  t146 := Tryd.underlying89
  a146 := Tryd.isAgg89
  z146 := Tryd.sizeOf89
  v146 := Tryd.zeroValue89
  g1 := by kernel_rfl
  g3 := by kernel_rfl
  g4 := by kernel_rfl }
end Go.Proofs
namespace Go.Proofs.YteimgnmjmpeobaaDoor
open Go.RowKit Go.Maps

/-! ### A world that has turned in some blocks alone -/
/-- Of what was there, only the blocks F may have turned. -/
structure Fr (F : Nat → Prop) (w w' : World) : Prop where
  os : w'.os = w.os
  tape : w'.tape = w.tape
  output : w'.output = w.output
  size : w.heap.size ≤ w'.heap.size
  block : ∀ k, k < w.heap.size → ¬ F k → w'.heap[k]? = w.heap[k]?
section
variable {F G : Nat → Prop} {a b c : World}
theorem Fr.refl (F : Nat → Prop) (w : World) : Fr F w w := ⟨rfl, rfl, rfl, Nat.le_refl _, fun _ _ _ => rfl⟩
theorem Fr.of_below (F : Nat → Prop) (h : Below a.heap.size a b) : Fr F a b := ⟨h.os, h.tape, h.output, h.size, fun k hk _ => h.block k hk⟩
theorem Fr.of_grown {row : Option Nat} (h : a.grownBy b row) (hr : ∀ k, row = some k → F k) : Fr F a b :=
  ⟨h.os, h.tape, h.output, h.size, fun k hk hn => h.block k hk (fun e => hn (hr k e.symm))⟩
theorem Fr.trans (h : Fr F a b) (k : Fr G b c) (hG : ∀ i, G i → F i ∨ a.heap.size ≤ i) : Fr F a c :=
  ⟨k.os.trans h.os, k.tape.trans h.tape, k.output.trans h.output, Nat.le_trans h.size k.size, fun i hi hn =>
    (k.block i (Nat.lt_of_lt_of_le hi h.size) (fun g => (hG i g).elim hn (by omega))).trans (h.block i hi hn)⟩
theorem Fr.to_below {B : Nat} (h : Fr F a b) (hF : ∀ i, F i → B ≤ i) (hB : B ≤ a.heap.size) : Below B a b :=
  ⟨h.os, h.tape, h.output, h.size, fun k hk => h.block k (by omega) (fun f => by have := hF k f; omega)⟩
end

theorem clone_any (s : ByteArray) (w : World) (hs : s.size ≤ 281474976710656) : Calls Tryd.prog 38 #[.string s] w fun e w' => e = .returned (.string s) ∧ Below w.heap.size w w' := by
  go_enter Tryd.func38, Tryd.ntmps38
  go_wp2_with fail
  refine (Tryd.stringslite_Clone s w hs).mono ?_
  rintro e w1 ⟨rfl, b1⟩
  go_wp2
  go_ret
  exact ⟨rfl, b1⟩

/-- append of one element of one cell, for the walk: where the new slice lies. -/
theorem wpApp1 {P : Program} (w : World) {ops : Array Oper} {rest : List Oper} {o : Oper} {a : Act} {Q : Exit → Act → World → Prop} (hgd : o.guard = none) (s x : Operand) (t : TypeId)
    (ho : o.op = .call { callee := .builtin .append, args := #[s, x], argTypes := #[t, t] })
    (base : Nat) (e : TypeId) (z : Value) (bytes : Nat) (ht : P.underlying t = some (.slice e)) (hinf : (P.info? e).map (fun i => (i.zero, i.size, i.bytes)) = some (some z, 1, bytes)) (hz : z.cells.size = 1)
    (A : Option Addr) (n c : Nat) (xs : List Value) (hs : a.eval s = .slice A n c) (hown : w.ownsRow base e 1 (.slice A n c) n xs)
    (ad : Addr) (u : Value) (hx : a.eval x = .slice (some ad) 1 1) (hu : w.cell? ad = some u) (h1 : u.oneCell' = true) (hbytes : (n + 1) * bytes ≤ 140737488355328) (hbase : base ≤ w.heap.size) (h63 : n + 1 ≤ maxLen)
    (h : ∀ A' c' w', w'.ownsRow base e 1 (.slice A' (n + 1) c') (n + 1) (xs ++ [u]) → w.grownBy w' (Value.slice A n c).ownBlock → ((Value.slice A' (n + 1) c').ownBlock = (Value.slice A n c).ownBlock ∨ (Value.slice A' (n + 1) c').ownBlock = some w.heap.size) →
      wpList P ops Q rest (a.put o.dst (.slice A' (n + 1) c')) w') : wpList P ops Q (o :: rest) a w := by
  obtain ⟨i, hi, hz0, hz1, hz2⟩ := info_parts hinf
  refine wpList_append_own_at w hgd s x t ho base e i z 1 bytes ht hi hz0 hz1 hz2 hz (by decide) _ n xs hs hown ad 1 1 [u] hx rfl ?_ (by simpa using h1) h63 hbytes hbase ?_
  · intro j v hv
    match j, hv with
    | 0, hv =>
      simp at hv
      subst hv
      simpa [Addr.add] using hu
  · intro v' w' h2 h3 _ h5
    obtain ⟨_, A', c', rfl, _⟩ := own_form h2
    exact h A' c' w' h2 h3 h5

theorem row_type {w : World} {A : Option Addr} {n c : Nat} {xs : List Value} {g : Nat} {cs : List Value} {t : TypeId} {e : TypeId} (hr : w.ownsRow 0 e 1 (.slice A n c) n xs) (hB : Blk w g cs t) (hne : t ≠ e) : (Value.slice A n c).ownBlock ≠ some g := by
  intro h
  rcases hr.2 with ⟨h1, _⟩ | ⟨g', cap, cur, h1, _, h2, _⟩
  · rw [h1] at h
    simp [Value.ownBlock] at h
  · rw [h1] at h
    simp [Value.ownBlock] at h
    subst h
    unfold Blk at hB
    rw [hB] at h2
    injection h2 with h2
    injection h2 with _ h2 _
    exact hne h2
theorem row_map {w : World} {A : Option Addr} {n c : Nat} {xs : List Value} {bm : Nat} {e : TypeId} {m : Nat} {D : DataW Unit} {t : TypeId} {R : Value → Option (DataW Unit × List MemPlace)} (hr : w.ownsRow 0 e 1 (.slice A n c) n xs) (hm : w.ownsMap Tryd.prog t R bm m D) : (Value.slice A n c).ownBlock ≠ some bm := by
  intro h
  obtain ⟨es, clock, hb, _⟩ := hm
  rcases hr.2 with ⟨h1, _⟩ | ⟨g', cap, cur, h1, _, h2, _⟩
  · rw [h1] at h
    simp [Value.ownBlock] at h
  · rw [h1] at h
    simp [Value.ownBlock] at h
    subst h
    rw [hb] at h2
    injection h2 with h2
    cases h2
theorem blk_map {w : World} {g bm : Nat} {cs : List Value} {t t' : TypeId} {m : Nat} {D : DataW Unit} {R : Value → Option (DataW Unit × List MemPlace)} (hB : Blk w g cs t) (hm : w.ownsMap Tryd.prog t' R bm m D) : bm ≠ g := by
  rintro rfl
  obtain ⟨es, clock, hb, _⟩ := hm
  unfold Blk at hB
  rw [hb] at hB
  injection hB with hB
  cases hB
theorem Blk.grown {w w' : World} {g : Nat} {cs : List Value} {t : TypeId} {row : Option Nat} (h : Blk w g cs t) (hg : w.grownBy w' row) (hne : row ≠ some g) : Blk w' g cs t := by
  unfold Blk
  rw [hg.block g h.lt (fun e => hne e.symm)]
  exact h
end Go.Proofs.YteimgnmjmpeobaaDoor
namespace Go.Proofs.YteimgnmjmpeobaaDoor
open Go.RowKit


/-- What path.parts cuts. -/
def cutB (s : ByteArray) : List ByteArray := Lib.splitB ⟨#[47]⟩ 0 (min 5 (s.size + 1) - 1) s
theorem size_len (s : ByteArray) : s.size = s.data.toList.length := by cases s; rfl
theorem cutB_data (s : ByteArray) : (cutB s).map (·.data.toList) = Lib.splitK [47] 0 (min 5 (s.data.toList.length + 1) - 1) s.data.toList := by
  unfold cutB
  rw [Lib.splitB_data, size_len]
theorem cutB_le (s : ByteArray) : (cutB s).length ≤ min 5 (s.size + 1) := by
  have := Lib.splitB_length_le ⟨#[47]⟩ 0 (min 5 (s.size + 1) - 1) s
  unfold cutB
  omega

theorem genSplit5 (s : ByteArray) (w : World) (hs : s.size < 4294967281) :
    Calls Tryd.prog 57 #[.string s, .string ⟨#[47]⟩, .int .i64 0, .int .i64 5] w fun e w' =>
      e = .returned (.slice (some ⟨w.heap.size, 0, none⟩) (cutB s).length (min 5 (s.size + 1))) ∧ w' = w.alloc (.cells (Lib.cellsOf (cutB s) (min 5 (s.size + 1))) 9) :=
  Any.strings_genSplit_core Tryd.lays221 (by kernel_rfl) s ⟨#[47]⟩ 0 5 (min 5 (s.size + 1)) w hs (by decide) (by decide)
    (fun x c _ => (Any.strings_Index_one { Tryd.lays221 with } x 47 _).mono fun e w' ⟨he, hw⟩ => ⟨by rw [he, ← Lib.index_one], hw⟩)
    ((Any.strings_Count_one { Tryd.lays221 with } s 47 w).mono fun e w' ⟨he, hw⟩ => ⟨by rw [he]; show _ = Ending.returned (Value.int .i64 ((Lib.count s.data.toList [47] : Nat) : Int)); rw [Lib.count_one]; rfl, hw⟩)
    (by decide) (by decide) (by rw [if_neg (by decide)]; omega)

set_option maxHeartbeats 400000 in
theorem splitN5 (s : ByteArray) (w : World) (hs : s.size < 4294967281) :
    Calls Tryd.prog 55 #[.string s, .string ⟨#[47]⟩, .int .i64 5] w fun e w' =>
      e = .returned (.slice (some ⟨w.heap.size, 0, none⟩) (cutB s).length (min 5 (s.size + 1))) ∧ w' = w.alloc (.cells (Lib.cellsOf (cutB s) (min 5 (s.size + 1))) 9) := by
  go_enter Tryd.func55, Tryd.ntmps55
  go_wp2_with fail
  refine (genSplit5 s _ hs).mono ?_
  rintro e w1 ⟨rfl, rfl⟩
  go_wp2
  go_ret
  exact ⟨rfl, rfl⟩

set_option maxHeartbeats 400000 in
theorem parts_any (s : ByteArray) (w : World) (hs : s.size < 4294967281) :
    Calls Tryd.prog 51 #[.string s] w fun e w' =>
      e = .returned (.slice (some ⟨w.heap.size, 0, none⟩) (cutB s).length (min 5 (s.size + 1))) ∧ w' = w.alloc (.cells (Lib.cellsOf (cutB s) (min 5 (s.size + 1))) 9) := by
  go_enter Tryd.func51, Tryd.ntmps51
  go_wp2_with fail
  refine (splitN5 s _ hs).mono ?_
  rintro e w1 ⟨rfl, rfl⟩
  go_wp2
  go_ret
  exact ⟨rfl, rfl⟩

set_option maxHeartbeats 400000 in
theorem ofName_any (b : UInt8) (w : World) :
    Calls Tryd.prog 56 #[.int .u8 (b.toNat : Int)] w fun e w' => e = .returned (.bool (okB b)) ∧ w = w' := by
  have hb : b.toNat < 256 := b.toNat_lt
  go_enter Tryd.func56, Tryd.ntmps56
  go_wp2
  all_goals
    go_ret
    refine ⟨ret_bool ?_, rfl⟩
    unfold okB
    rw [Bool.eq_iff_iff]
    simp
    omega

theorem take_ok (s : ByteArray) (j : Nat) (h : j < s.size) : (s.data.toList.take (j + 1)).all okB = ((s.data.toList.take j).all okB && okB s[j]) := by
  have e : s.data.toList[j]? = some s[j] := by
    have h' : j < s.data.size := h
    rw [Array.getElem?_toList, Array.getElem?_eq_getElem h']
    rfl
  rw [List.take_add_one, e, List.all_append]
  simp
theorem nameL_head {l : List UInt8} (h : nameL l = true) : 1 ≤ l.length ∧ l.length ≤ 12 ∧ l ≠ [46] ∧ l ≠ [46, 46] := by
  simp only [nameL, Bool.and_eq_true, decide_eq_true_eq] at h
  exact h.1
theorem nameL_no {l : List UInt8} (h : ¬ (1 ≤ l.length ∧ l.length ≤ 12 ∧ l ≠ [46] ∧ l ≠ [46, 46])) : false = nameL l := by
  cases hn : nameL l with
  | false => rfl
  | true => exact absurd (nameL_head hn) h

set_option maxHeartbeats 1000000 in
theorem name_any (s : ByteArray) (w : World) :
    Calls Tryd.prog 54 #[.string s] w fun e w' => e = .returned (.bool (nameL s.data.toList)) ∧ w = w' := by
  by_cases h1 : (s.size : Int) < 1
  · go_enter Tryd.func54, Tryd.ntmps54
    go_wp2
    go_ret
    exact ⟨ret_bool (nameL_no (by have := size_len s; omega)), rfl⟩
  by_cases h2 : (12 : Int) < s.size
  · go_enter Tryd.func54, Tryd.ntmps54
    go_wp2
    go_ret
    exact ⟨ret_bool (nameL_no (by have := size_len s; omega)), rfl⟩
  cases h3 : (s.toList == [46])
  case true =>
    have H := hid (show s.data.toList = [46] by rw [← Lib.toList_data s]; simpa using h3)
    go_enter Tryd.func54, Tryd.ntmps54
    go_wp2
    go_ret
    exact ⟨ret_bool (nameL_no (fun h => h.2.2.1 H.out)), rfl⟩
  cases h4 : (s.toList == [46, 46])
  case true =>
    have H := hid (show s.data.toList = [46, 46] by rw [← Lib.toList_data s]; simpa using h4)
    go_enter Tryd.func54, Tryd.ntmps54
    go_wp2
    go_ret
    exact ⟨ret_bool (nameL_no (fun h => h.2.2.2 H.out)), rfl⟩
  have HH := hid (show 1 ≤ s.data.toList.length ∧ s.data.toList.length ≤ 12 ∧ s.data.toList ≠ [46] ∧ s.data.toList ≠ [46, 46] by
    have hl := size_len s
    rw [Lib.toList_data s] at h3 h4
    exact ⟨by omega, by omega, by simpa using h3, by simpa using h4⟩)
  go_enter Tryd.func54, Tryd.ntmps54
  go_wp2_with fail
  go_loop [22] (fun i => ∃ j : Nat, j ≤ s.size ∧ i = .int .i64 j ∧ (s.data.toList.take j).all okB = true) (fun i => s.size - (intOf i).toNat)
  case atStart => exact ⟨0, by omega, rfl, by simp⟩
  case round =>
    obtain ⟨j, hj, rfl, hok⟩ := hrel
    by_cases hjn : j < s.size
    · have hlt : (j : Int) < s.size := by omega
      have HK := hid (take_ok s j hjn)
      have HO := hid hok
      clear hok
      go_wp2_with fail
      refine (ofName_any _ _).mono ?_
      rintro e w1 ⟨rfl, rfl⟩
      cases hb : okB s[j]
      · go_wp2
        go_ret
        refine ⟨ret_bool ?_, rfl⟩
        have hk : (s.data.toList.take (j + 1)).all okB = false := by rw [HK.out, HO.out, hb]; rfl
        cases hn : nameL s.data.toList with
        | false => rfl
        | true =>
          simp only [nameL, Bool.and_eq_true, List.all_eq_true] at hn
          have : (s.data.toList.take (j + 1)).all okB = true := List.all_eq_true.2 fun b hbm => hn.2 b (List.mem_of_mem_take hbm)
          rw [hk] at this
          cases this
      · go_wp2
        go_roundw
        case rel => exact ⟨j + 1, by omega, by go_num, by rw [HK.out, HO.out, hb]; rfl⟩
        case measure => simp [intOf]; omega
    · have e : s.size = j := by omega
      have HE := hid e
      have HO := hid hok
      have hnlt : ¬ (j : Int) < s.size := by omega
      clear e hok
      go_wp2
      go_ret
      refine ⟨ret_bool ?_, rfl⟩
      have hl := size_len s
      have ho := HO.out
      rw [← HE.out, hl, List.take_length] at ho
      have hh := HH.out
      simp only [nameL, ho, Bool.and_true]
      exact (decide_eq_true hh).symm
end Go.Proofs.YteimgnmjmpeobaaDoor
namespace Go.Proofs.YteimgnmjmpeobaaDoor
open Go.RowKit

/-- The bytes of strings. -/
def lst (ls : List ByteArray) : List (List UInt8) := ls.map (·.data.toList)
theorem lst_length (ls : List ByteArray) : (lst ls).length = ls.length := by simp [lst]
theorem lst_take (ls : List ByteArray) (j : Nat) (h : j < ls.length) : ((lst ls).take (j + 1)).all nameL = (((lst ls).take j).all nameL && nameL ls[j].data.toList) := by
  have e : (lst ls)[j]? = some ls[j].data.toList := by simp [lst, h]
  rw [List.take_add_one, e, List.all_append]
  simp
theorem fine_no {L : List (List UInt8)} (h : ¬ (1 ≤ L.length ∧ L.length ≤ 4)) : false = fineL L := by
  cases hf : fineL L with
  | false => rfl
  | true => exact absurd (fine_len hf) h

set_option maxHeartbeats 1000000 in
theorem fine_any (A : Option Addr) (n c : Nat) (ls : List ByteArray) (w : World) (hl : ls.length = n) (hr : Rd w A (strV ls)) :
    Calls Tryd.prog 50 #[.slice A n c] w fun e w' => e = .returned (.bool (fineL (lst ls))) ∧ w = w' := by
  have HL := hid (show (lst ls).length = n by rw [lst_length]; exact hl)
  have HL2 := hid hl
  clear hl
  by_cases h1 : (n : Int) < 1
  · go_enter Tryd.func50, Tryd.ntmps50
    go_wp2
    go_ret
    exact ⟨ret_bool (fine_no (by have := HL.out; omega)), rfl⟩
  by_cases h2 : (4 : Int) < n
  · go_enter Tryd.func50, Tryd.ntmps50
    go_wp2
    go_ret
    exact ⟨ret_bool (fine_no (by have := HL.out; omega)), rfl⟩
  go_enter Tryd.func50, Tryd.ntmps50
  go_wp2_with fail
  go_loop [15] (fun i => ∃ j : Nat, j ≤ n ∧ i = .int .i64 j ∧ ((lst ls).take j).all nameL = true) (fun i => n - (intOf i).toNat)
  case atStart => exact ⟨0, by omega, rfl, by simp⟩
  case round =>
    obtain ⟨j, hj, rfl, hok⟩ := hrel
    by_cases hjn : j < n
    · have hjl : j < ls.length := by rw [HL2.out]; exact hjn
      obtain ⟨b, off, rfl, hc, -⟩ := hr.at_ (k := j) (by rw [strV_length]; exact hjl)
      have h5 : w.cell? ⟨b, off + j, none⟩ = some (.string ls[j]) := by rw [hc]; simp [strV]
      have HK := hid (lst_take ls j hjl)
      have HO := hid hok
      clear hc hok
      have hz : (0 : Int) ≤ j := by omega
      have hlt : (j : Int) < n := by omega
      go_wp2_with fail
      refine (name_any _ _).mono ?_
      rintro e w1 ⟨rfl, rfl⟩
      cases hb : nameL ls[j].data.toList
      · go_wp2
        go_ret
        refine ⟨ret_bool ?_, rfl⟩
        have hk : ((lst ls).take (j + 1)).all nameL = false := by rw [HK.out, HO.out, hb]; rfl
        cases hn : fineL (lst ls) with
        | false => rfl
        | true =>
          have : ((lst ls).take (j + 1)).all nameL = true := List.all_eq_true.2 fun b hbm => fine_all hn b (List.mem_of_mem_take hbm)
          rw [hk] at this
          cases this
      · go_wp2
        go_roundw
        case rel => exact ⟨j + 1, by omega, by go_num, by rw [HK.out, HO.out, hb]; rfl⟩
        case measure => simp [intOf]; omega
    · have e : n = j := by omega
      have HE := hid e
      have HO := hid hok
      have hnlt : ¬ (j : Int) < n := by omega
      clear e hok
      go_wp2
      go_ret
      refine ⟨ret_bool ?_, rfl⟩
      have hl := HL.out
      have ho := HO.out
      rw [← HE.out, ← hl, List.take_length] at ho
      exact (fine_mk (by omega) (by omega) (List.all_eq_true.1 ho)).symm

/-- The cells that are cut. -/
def cutCells (s : ByteArray) : List Value := strV (cutB s) ++ List.replicate (min 5 (s.size + 1) - (cutB s).length) (Value.string ByteArray.empty)
theorem cells_cut (s : ByteArray) : Lib.cellsOf (cutB s) (min 5 (s.size + 1)) = (cutCells s).toArray := rfl
theorem rd_cut {w : World} {g : Nat} {s : ByteArray} {t : TypeId} (h : Blk w g (cutCells s) t) : Rd w (some ⟨g, 0, none⟩) (strV (cutB s)) := by
  refine .inr ⟨_, rfl, fun j u hu => ?_⟩
  rw [Addr.add_lit, Nat.zero_add, h.cell, cutCells, List.getElem?_append_left (List.getElem?_eq_some_iff.1 hu).1]
  exact hu
theorem cut_fine (s : ByteArray) : fineL (lst (cutB s)) = rightL s.data.toList := by
  rw [lst, cutB_data, split_fine]

set_option maxHeartbeats 400000 in
theorem right_any (s : ByteArray) (w : World) (hs : s.size < 4294967281) :
    Calls Tryd.prog 44 #[.string s] w fun e w' => e = .returned (.bool (rightL s.data.toList)) ∧ Below w.heap.size w w' := by
  go_enter Tryd.func44, Tryd.ntmps44
  go_wp2_with fail
  refine (parts_any s _ hs).mono ?_
  rintro e w1 ⟨rfl, hw1⟩
  have hb1 : Below w.heap.size w w1 := by rw [hw1]; exact (Below.refl _ _).alloc (Nat.le_refl _) _
  have hblk : Blk w1 w.heap.size (cutCells s) 9 := by rw [hw1, cells_cut]; exact Blk.new w _ _
  clear hw1
  go_wp2_with fail
  refine (fine_any _ _ _ (cutB s) _ rfl (rd_cut hblk)).mono ?_
  rintro e w2 ⟨rfl, rfl⟩
  go_wp2
  go_ret
  exact ⟨ret_bool (cut_fine s), hb1⟩

theorem set_self {α : Type} (l : List α) (j : Nat) (x : α) (h : l[j]? = some x) : l.set j x = l := by
  apply List.ext_getElem?
  intro i
  rw [List.getElem?_set]
  split
  · rename_i e
    subst e
    have := (List.getElem?_eq_some_iff.1 h).1
    rw [if_pos this, h]
  · rfl

/-- A slice of names was answered. -/
def NamesPost (w : World) (L : List (List UInt8)) (e : Ending) (w' : World) : Prop :=
  ∃ A c, e = .returned (.slice A L.length c) ∧ Rd w' A (strV (L.map mkS)) ∧ L.length ≤ c ∧ c ≤ 5 ∧ Below w.heap.size w w'

end Go.Proofs.YteimgnmjmpeobaaDoor
namespace Go.Proofs.YteimgnmjmpeobaaDoor
open Go.RowKit

theorem Rd.cells {w : World} {b off : Nat} {xs : List Value} (h : Rd w (some ⟨b, off, none⟩) xs) : ∀ j u, xs[j]? = some u → w.cell? ⟨b, off + j, none⟩ = some u := by
  intro j u hu
  rcases h with rfl | ⟨ad, he, hc⟩
  · simp at hu
  · injection he with he
    subst he
    have := hc j u hu
    rwa [Addr.add_lit] at this
theorem joinN_fine {L : List (List UInt8)} (h : fineL L = true) : joinN L = joinL L := by rw [joinN, if_pos h]
theorem joinN_not {L : List (List UInt8)} (h : fineL L = false) : joinN L = [] := by rw [joinN, if_neg (by simp [h])]

theorem map_dropLast {α β : Type} (f : α → β) (l : List α) : (l.map f).dropLast = l.dropLast.map f := by simp [List.dropLast_eq_take, List.map_take]

theorem app_data (a b : ByteArray) : (a ++ b).data.toList = a.data.toList ++ b.data.toList := by simp [ByteArray.data_append]
theorem app_size (a b : ByteArray) : (a ++ b).size = a.size + b.size := by rw [size_len, app_data, List.length_append, ← size_len, ← size_len]

theorem range_step (L : List (List UInt8)) (j : Nat) : (List.range (j + 1)).all (srtAt L) = ((List.range j).all (srtAt L) && srtAt L j) := by
  rw [List.range_succ, List.all_append]
  simp
theorem sorted_no {L : List (List UInt8)} {j : Nat} (hj : j < L.length) (h : srtAt L j = false) : false = sortedL L := by
  cases hs : sortedL L with
  | false => rfl
  | true =>
    have := List.all_eq_true.1 hs j (List.mem_range.2 hj)
    rw [h] at this
    cases this
theorem lst_at (ls : List ByteArray) (j : Nat) (h : j < ls.length) : (lst ls).getD j [] = ls[j].data.toList := by simp [lst, List.getD, h]

set_option maxHeartbeats 2000000 in
theorem sorted_any (A : Option Addr) (n c : Nat) (ls : List ByteArray) (w : World) (hl : ls.length = n) (hr : Rd w A (strV ls)) (hn : n ≤ 140737488355328) (hss : ∀ s ∈ ls, s.size < 4294967281) :
    Calls Tryd.prog 28 #[.slice A n c] w fun e w' => e = .returned (.bool (sortedL (lst ls))) ∧ Below w.heap.size w w' := by
  have HL := hid hl
  have HS := hid hss
  clear hl hss
  go_enter Tryd.func28, Tryd.ntmps28
  go_wp2_with fail
  go_loopw [7] (fun i wr => ∃ j : Nat, j ≤ n ∧ i = .int .i64 j ∧ (List.range j).all (srtAt (lst ls)) = true ∧ Rd wr A (strV ls) ∧ Below w.heap.size w wr) (fun i _ => n - (intOf i).toNat)
  case atStart => exact ⟨0, by omega, rfl, by simp, hr, Below.refl _ _⟩
  case round =>
    clear hr
    obtain ⟨j, hj, rfl, hok, hr, hb⟩ := hrel
    have HO := hid hok
    clear hok
    by_cases hjn : j < n
    · have hjl : j < ls.length := by rw [HL.out]; exact hjn
      obtain ⟨b, off, rfl, hc, -⟩ := hr.at_ (k := j) (by rw [strV_length]; exact hjl)
      have h5 : wr.cell? ⟨b, off + j, none⟩ = some (.string ls[j]) := by rw [hc]; simp [strV]
      have HT := hid (show (lst ls).getD j [] = ls[j].data.toList from lst_at ls j hjl)
      have HLL := hid (show j < (lst ls).length by rw [lst_length]; exact hjl)
      clear hc
      have hz : (0 : Int) ≤ j := by omega
      have hlt : (j : Int) < n := by omega
      go_wp2_with fail
      refine (right_any ls[j] _ (HS.out _ (List.getElem_mem hjl))).mono ?_
      rintro e w1 ⟨rfl, hb1⟩
      have hr1 := hr.below hb1
      have hb1' := hb.trans (hb1.mono hb.size)
      clear hr hb hb1 h5
      cases h1 : rightL ls[j].data.toList
      · go_wp2
        go_ret
        exact ⟨ret_bool (sorted_no HLL.out (by simp only [srtAt, HT.out, h1, Bool.false_and])), hb1'⟩
      · by_cases hj0 : j = 0
        · subst hj0
          go_wp2
          go_roundw
          case rel => exact ⟨1, by omega, by go_num, by rw [range_step, HO.out, srtAt, HT.out, h1]; rfl, hr1, hb1'⟩
          case measure => simp [intOf]; omega
        · have hjl2 : j - 1 < ls.length := by omega
          obtain ⟨b2, off2, he, hc2, -⟩ := hr1.at_ (k := j - 1) (by rw [strV_length]; exact hjl2)
          injection he with he
          injection he with he1 he2
          subst he1 he2
          have h6 : w1.cell? ⟨b, off + (j - 1), none⟩ = some (.string ls[j - 1]) := by rw [hc2]; simp [strV]
          have HU := hid (lst_at ls (j - 1) hjl2)
          have hpos : (0 : Int) < j := by omega
          clear hc2
          have hj1 : ((j : Int) - 1) = ((j - 1 : Nat) : Int) := by omega
          cases h7 : Op.bytesLess ls[j - 1].toList ls[j].toList
          · go_wp2
            go_ret
            refine ⟨ret_bool (sorted_no HLL.out ?_), hb1'⟩
            rw [Lib.toList_data, Lib.toList_data] at h7
            rw [srtAt, HT.out, HU.out, h1, h7]
            simp [hj0]
          · go_wp2
            go_roundw
            case rel =>
              rw [Lib.toList_data, Lib.toList_data] at h7
              exact ⟨j + 1, by omega, by go_num, by rw [range_step, HO.out, srtAt, HT.out, HU.out, h1, h7]; simp, hr1, hb1'⟩
            case measure => simp [intOf]; omega
    · have hnlt : ¬ (j : Int) < n := by omega
      have e : j = n := by omega
      have HE := hid e
      clear e
      go_wp2
      go_ret
      refine ⟨ret_bool ?_, hb⟩
      have ho := HO.out
      rw [HE.out, ← HL.out, ← lst_length] at ho
      exact ho.symm
end Go.Proofs.YteimgnmjmpeobaaDoor
namespace Go.Proofs.YteimgnmjmpeobaaDoor
open Go.RowKit

theorem less_eq : ∀ (x y : List UInt8), Op.bytesLess x y = decide (x < y)
  | x, [] => by simp [Op.bytesLess]
  | [], _ :: _ => by simp [Op.bytesLess]
  | a :: x, b :: y => by
    rw [Op.bytesLess, less_eq x y, Bool.eq_iff_iff]
    simp [List.cons_lt_cons_iff]
theorem less_flip (a b : List UInt8) : (Op.bytesLess b a || b == a) = !Op.bytesLess a b := by
  rw [less_eq, less_eq, Bool.eq_iff_iff]
  simp only [Bool.or_eq_true, decide_eq_true_eq, beq_iff_eq, Bool.not_eq_true', decide_eq_false_iff_not]
  constructor
  · rintro (h | rfl)
    · exact List.lt_asymm h
    · exact List.lt_irrefl _
  · intro h
    have := List.not_lt.1 h
    rcases List.le_iff_lt_or_eq.1 this with h | h
    · exact .inl h
    · exact .inr h

theorem less_iff (a b : List UInt8) : Op.bytesLess a b = true ↔ a < b := by rw [less_eq]; simp
theorem srt_at {L : List (List UInt8)} (h : sortedL L = true) {i : Nat} (hi : i < L.length) : rightL L[i] = true ∧ ∀ h0 : 0 < i, L[i - 1] < L[i] := by
  have h1 := List.all_eq_true.1 h i (List.mem_range.2 hi)
  unfold srtAt at h1
  rw [Bool.and_eq_true, Bool.or_eq_true] at h1
  have e1 : L.getD i [] = L[i] := by simp [List.getD, hi]
  have e2 : L.getD (i - 1) [] = L[i - 1]'(by omega) := by simp [List.getD, show i - 1 < L.length by omega]
  rw [e1, e2] at h1
  refine ⟨h1.1, fun h0 => ?_⟩
  rcases h1.2 with h2 | h2
  · have : i = 0 := by simpa using h2
    omega
  · exact (less_iff _ _).1 h2
theorem srt_lt {L : List (List UInt8)} (h : sortedL L = true) : ∀ (d i : Nat) (hi : i + d + 1 < L.length), L[i] < L[i + d + 1]
  | 0, i, hi => (srt_at h hi).2 (by omega)
  | d + 1, i, hi => List.lt_trans (srt_lt h d i (by omega)) ((srt_at h hi).2 (by omega))
theorem srt_pair {L : List (List UInt8)} (h : sortedL L = true) : L.Pairwise (· < ·) := by
  rw [List.pairwise_iff_getElem]
  intro i j hi hj hij
  have := srt_lt h (j - i - 1) i (by omega)
  have e : i + (j - i - 1) + 1 = j := by omega
  simpa only [e] using this
theorem srt_mk {L : List (List UInt8)} (h1 : ∀ s ∈ L, rightL s = true) (h2 : L.Pairwise (· < ·)) : sortedL L = true := by
  refine List.all_eq_true.2 fun i hi => ?_
  have hi' := List.mem_range.1 hi
  unfold srtAt
  have e1 : L.getD i [] = L[i] := by simp [List.getD, hi']
  have e2 : L.getD (i - 1) [] = L[i - 1]'(by omega) := by simp [List.getD, show i - 1 < L.length by omega]
  rw [e1, e2, h1 _ (List.getElem_mem hi'), Bool.true_and, Bool.or_eq_true]
  by_cases h0 : i = 0
  · left; simp [h0]
  · right
    rw [less_iff]
    exact (List.pairwise_iff_getElem.1 h2) (i - 1) i (by omega) hi' (by omega)
theorem srt_right {L : List (List UInt8)} (h : sortedL L = true) : ∀ s ∈ L, rightL s = true := by
  intro s hs
  obtain ⟨i, hi, rfl⟩ := List.mem_iff_getElem.1 hs
  exact (srt_at h hi).1
theorem srt_less {L : List (List UInt8)} (h : sortedL L = true) {i k : Nat} (hi : i < L.length) (hk : k < i) : L[i] ≠ L[k] := by
  have := (List.pairwise_iff_getElem.1 (srt_pair h)) k i (by omega) hi hk
  intro e
  rw [e] at this
  exact List.lt_irrefl _ this
theorem srt_erase {L : List (List UInt8)} (h : sortedL L = true) (k : Nat) : sortedL (L.take k ++ L.drop (k + 1)) = true := by
  have hs : (L.take k ++ L.drop (k + 1)).Sublist L := by
    rw [← List.eraseIdx_eq_take_drop_succ]
    exact List.eraseIdx_sublist L k
  exact srt_mk (fun s hm => srt_right h s (hs.mem hm)) ((srt_pair h).sublist hs)
theorem srt_twice {L : List (List UInt8)} {k : Nat} (hk : k < L.length) : sortedL (L ++ [L[k]]) = false := by
  cases h : sortedL (L ++ [L[k]]) with
  | false => rfl
  | true =>
    have := List.pairwise_append.1 (srt_pair h)
    exact absurd (this.2.2 L[k] (List.getElem_mem hk) L[k] (by simp)) (List.lt_irrefl _)
theorem pre_iff (s d : List UInt8) : Lib.hasPrefix s (d ++ [47]) = true ↔ ∃ r, s = d ++ 47 :: r := by
  unfold Lib.hasPrefix
  rw [List.isPrefixOf_iff_prefix]
  constructor
  · rintro ⟨r, rfl⟩
    exact ⟨r, by simp⟩
  · rintro ⟨r, rfl⟩
    exact ⟨r, by simp⟩
theorem under_iff (a b : List UInt8) : underL a b = true ↔ rightL a = true ∧ rightL b = true ∧ ∃ ms, ms ≠ [] ∧ pieces a = pieces b ++ ms := by
  unfold underL
  rw [Bool.and_eq_true, Bool.and_eq_true, pre_iff, and_assoc]
  constructor
  · rintro ⟨h1, h2, r, rfl⟩
    exact ⟨h1, h2, pieces r, pieces_ne r, pieces_app b r⟩
  · rintro ⟨h1, h2, ms, hm, he⟩
    refine ⟨h1, h2, joinL ms, ?_⟩
    rw [← join_pieces a, he, joinL_app _ _ (pieces_ne b) hm, join_pieces]
theorem pieces_inj {a b : List UInt8} (h : pieces a = pieces b) : a = b := by rw [← join_pieces a, h, join_pieces]
theorem not_true {b : Bool} (h : ¬ b = true) : b = false := by cases b <;> simp_all
theorem under_self (a : List UInt8) : underL a a = false := by
  refine not_true fun h => ?_
  obtain ⟨_, _, ms, hm, he⟩ := (under_iff a a).1 h
  have := congrArg List.length he
  rw [List.length_append] at this
  exact hm (List.eq_nil_of_length_eq_zero (by omega))
theorem under_flip {a b : List UInt8} (h : underL a b = true) : underL b a = false := by
  refine not_true fun h2 => ?_
  obtain ⟨_, _, ms, hm, he⟩ := (under_iff a b).1 h
  obtain ⟨_, _, ms2, hm2, he2⟩ := (under_iff b a).1 h2
  have l1 := congrArg List.length he
  have l2 := congrArg List.length he2
  rw [List.length_append] at l1 l2
  exact hm (List.eq_nil_of_length_eq_zero (by omega))
theorem under_trans {a b c : List UInt8} (h : underL a b = true) (h2 : underL b c = true) : underL a c = true := by
  obtain ⟨r1, _, ms, hm, he⟩ := (under_iff a b).1 h
  obtain ⟨_, r3, ms2, hm2, he2⟩ := (under_iff b c).1 h2
  exact (under_iff a c).2 ⟨r1, r3, ms2 ++ ms, by simp [hm], by rw [he, he2, List.append_assoc]⟩
theorem under_both {a b c : List UInt8} (h : underL a b = true) (h2 : underL a c = true) (hne : b ≠ c) : clashL b c = true := by
  obtain ⟨_, r2, ms, hm, he⟩ := (under_iff a b).1 h
  obtain ⟨_, r3, ms2, hm2, he2⟩ := (under_iff a c).1 h2
  rw [he] at he2
  unfold clashL
  rw [Bool.or_eq_true, under_iff, under_iff]
  rcases List.append_eq_append_iff.1 he2 with ⟨k, hk, _⟩ | ⟨k, hk, _⟩
  · right
    refine ⟨r3, r2, k, ?_, hk⟩
    rintro rfl
    exact hne (pieces_inj (by rw [hk, List.append_nil]))
  · left
    refine ⟨r2, r3, k, ?_, hk⟩
    rintro rfl
    exact hne (pieces_inj (by rw [hk, List.append_nil]))
/-- A path of two names or more, and its parent. -/
theorem parent_of {a : List UInt8} (h : rightL a = true) (h2 : 2 ≤ (pieces a).length) : pieces (parentL a) = (pieces a).dropLast ∧ rightL (parentL a) = true ∧ parentL a ≠ [] := by
  have hf : fineL (pieces a).dropLast = true := by
    have hl := fine_len h
    refine fine_mk (by rw [List.length_dropLast]; omega) (by rw [List.length_dropLast]; omega) fun p hp => fine_all h p (List.dropLast_subset _ hp)
  have e : parentL a = joinL (pieces a).dropLast := by rw [parentL, names_right h, joinN_fine hf]
  rw [e]
  exact ⟨fine_pieces hf, right_join hf, right_ne (right_join hf)⟩
theorem parent_one {a : List UInt8} (h : (pieces a).length = 1) : parentL a = [] := by
  unfold parentL namesL
  split
  · cases hp : pieces a with
    | nil => rfl
    | cons x r =>
      rw [hp] at h
      have : r = [] := List.eq_nil_of_length_eq_zero (by simpa using h)
      rw [this]
      rfl
  · rfl
theorem parent_wrong {a : List UInt8} (h : rightL a = false) : parentL a = [] := by
  rw [parentL, names_wrong h]
  rfl
theorem parent_under {a : List UInt8} (h : parentL a ≠ []) : underL a (parentL a) = true := by
  cases hr : rightL a with
  | false => exact absurd (parent_wrong hr) h
  | true =>
    have hl := fine_len hr
    by_cases h1 : (pieces a).length = 1
    · exact absurd (parent_one h1) h
    · obtain ⟨e, r, _⟩ := parent_of hr (by omega)
      refine (under_iff _ _).2 ⟨hr, r, [(pieces a).getLast (pieces_ne a)], by simp, ?_⟩
      rw [e, List.dropLast_concat_getLast]
theorem under_two {a b : List UInt8} (h : underL a b = true) : 2 ≤ (pieces a).length := by
  obtain ⟨_, _, ms, hm, he⟩ := (under_iff a b).1 h
  rw [he, List.length_append]
  have h1 := List.length_pos_iff.2 (pieces_ne b)
  have h2 := List.length_pos_iff.2 hm
  omega
theorem under_right {a b : List UInt8} (h : underL a b = true) : rightL a = true := ((under_iff a b).1 h).1
theorem under_parent {a b : List UInt8} (h : underL a b = true) (hne : parentL a ≠ b) : underL (parentL a) b = true := by
  obtain ⟨e, r, _⟩ := parent_of (under_right h) (under_two h)
  obtain ⟨_, rb, ms, hm, he⟩ := (under_iff a b).1 h
  have e2 : (pieces a).dropLast = pieces b ++ ms.dropLast := by rw [he, List.dropLast_append_of_ne_nil hm]
  refine (under_iff _ _).2 ⟨r, rb, ms.dropLast, ?_, by rw [e, e2]⟩
  intro h0
  rw [h0, List.append_nil, ← e] at e2
  exact hne (pieces_inj e2)
theorem under_some {a b : List UInt8} (h : underL a b = true) : parentL a ≠ [] := (parent_of (under_right h) (under_two h)).2.2
theorem less_longer : ∀ (b r : List UInt8) (x : UInt8), b < b ++ x :: r
  | [], r, x => by simp
  | c :: b, r, x => by
    rw [List.cons_append, List.cons_lt_cons_iff]
    exact .inr ⟨rfl, less_longer b r x⟩
theorem under_less {a b : List UInt8} (h : underL a b = true) : (!(Op.bytesLess a b || a == b)) = true := by
  have h' := h
  unfold underL at h'
  rw [Bool.and_eq_true, Bool.and_eq_true, pre_iff] at h'
  obtain ⟨_, r, rfl⟩ := h'
  rw [less_flip b (b ++ 47 :: r), Bool.not_not, less_iff]
  exact less_longer b r 47
end Go.Proofs.YteimgnmjmpeobaaDoor
namespace Go.Proofs.YteimgnmjmpeobaaDoor
open Go.RowKit

abbrev Fil := ByteArray × ByteArray
def pth (f : Fil) : List UInt8 := f.1.data.toList
theorem pth_mk (p : ByteArray) (d : ByteArray) : pth (p, d) = p.data.toList := rfl
theorem data_inj {a b : ByteArray} (h : a.data.toList = b.data.toList) : a = b := by rw [← mkS_of a, h, mkS_of]
theorem pth_inj {f g : Fil} (h : pth f = pth g) (h2 : f.2 = g.2) : f = g := Prod.ext (data_inj h) h2

/-- The files as cells. -/
def filV (fs : List Fil) : List Value := fs.flatMap fun f => [.string f.1, .string f.2]
theorem filV_cons (f : Fil) (fs : List Fil) : filV (f :: fs) = .string f.1 :: .string f.2 :: filV fs := rfl
theorem filV_nil : filV [] = [] := rfl
theorem filV_append (a b : List Fil) : filV (a ++ b) = filV a ++ filV b := by simp [filV]
theorem filV_length (fs : List Fil) : (filV fs).length = fs.length * 2 := by
  induction fs with
  | nil => rfl
  | cons f r ih => rw [filV_cons, List.length_cons, List.length_cons, List.length_cons, ih]; omega
theorem filV_one (l : List Fil) : ∀ u ∈ filV l, u.oneCell' = true := by
  intro u hu
  simp only [filV, List.mem_flatMap] at hu
  obtain ⟨f, _, hf⟩ := hu
  simp at hf
  rcases hf with rfl | rfl <;> rfl
theorem filV_at0 : ∀ (fs : List Fil) (j : Nat) (h : j < fs.length), (filV fs)[j * 2]? = some (.string fs[j].1)
  | f :: fs, 0, _ => rfl
  | f :: fs, j + 1, h => by
    have e : (j + 1) * 2 = j * 2 + 1 + 1 := by omega
    rw [filV_cons, e, List.getElem?_cons_succ, List.getElem?_cons_succ, filV_at0 fs j (by simpa using h)]
    rfl
theorem filV_at1 : ∀ (fs : List Fil) (j : Nat) (h : j < fs.length), (filV fs)[j * 2 + 1]? = some (.string fs[j].2)
  | f :: fs, 0, _ => rfl
  | f :: fs, j + 1, h => by
    have e : (j + 1) * 2 + 1 = (j * 2 + 1) + 1 + 1 := by omega
    rw [filV_cons, e, List.getElem?_cons_succ, List.getElem?_cons_succ, filV_at1 fs j (by simpa using h)]
    rfl
theorem filV_take (fs : List Fil) (k : Nat) : filV (fs.take k) = (filV fs).take (k * 2) := by
  by_cases h : k ≤ fs.length
  · have e : filV fs = filV (fs.take k) ++ filV (fs.drop k) := by rw [← filV_append, List.take_append_drop]
    have l : (filV (fs.take k)).length = k * 2 := by rw [filV_length, List.length_take]; omega
    rw [e, ← l, List.take_left]
  · rw [List.take_of_length_le (by omega), List.take_of_length_le (by rw [filV_length]; omega)]
theorem filV_drop (fs : List Fil) (k : Nat) : filV (fs.drop k) = (filV fs).drop (k * 2) := by
  by_cases h : k ≤ fs.length
  · have e : filV fs = filV (fs.take k) ++ filV (fs.drop k) := by rw [← filV_append, List.take_append_drop]
    have l : (filV (fs.take k)).length = k * 2 := by rw [filV_length, List.length_take]; omega
    rw [e, ← l, List.drop_left]
  · rw [List.drop_of_length_le (by omega), List.drop_of_length_le (by rw [filV_length]; omega)]
    rfl

/-! ### Right trees -/
def apartL : List (List UInt8) → Bool
  | [] => true
  | d :: r => r.all (fun s => !underL s d) && apartL r
def treeR (fs : List Fil) : Bool := decide (fs.length ≤ 16) && fs.all (fun f => decide (f.2.size ≤ 600)) && sortedL (fs.map pth) && apartL (fs.map pth)
def Srt (fs : List Fil) : Prop := fs.Pairwise fun f g => pth f < pth g
structure RightT (fs : List Fil) : Prop where
  few : fs.length ≤ 16
  srt : Srt fs
  paths : ∀ f ∈ fs, rightL (pth f) = true
  datas : ∀ f ∈ fs, f.2.size ≤ 600
  apart : ∀ f ∈ fs, ∀ g ∈ fs, underL (pth f) (pth g) = false

theorem apart_iff (L : List (List UInt8)) : apartL L = true ↔ L.Pairwise (fun d s => underL s d = false) := by
  induction L with
  | nil => simp [apartL]
  | cons d r ih =>
    rw [apartL, Bool.and_eq_true, ih, List.pairwise_cons, List.all_eq_true]
    simp
theorem under_lt {a b : List UInt8} (h : underL a b = true) : b < a := by
  have := under_less h
  rw [less_flip b a, Bool.not_not] at this
  exact (less_iff _ _).1 this
theorem treeR_iff (fs : List Fil) : treeR fs = true ↔ RightT fs := by
  unfold treeR
  simp only [Bool.and_eq_true, decide_eq_true_eq, List.all_eq_true]
  constructor
  · rintro ⟨⟨⟨h1, h2⟩, h3⟩, h4⟩
    have hs : Srt fs := List.pairwise_map.1 (srt_pair h3)
    refine ⟨h1, hs, fun f hf => srt_right h3 _ (List.mem_map_of_mem hf), h2, ?_⟩
    have h5 := List.pairwise_map.1 ((apart_iff _).1 h4)
    intro f hf g hg
    refine not_true fun hu => ?_
    obtain ⟨i, hi, rfl⟩ := List.mem_iff_getElem.1 hf
    obtain ⟨k, hk, rfl⟩ := List.mem_iff_getElem.1 hg
    have hlt := under_lt hu
    rcases Nat.lt_trichotomy i k with h | h | h
    · exact List.lt_asymm hlt ((List.pairwise_iff_getElem.1 hs) i k hi hk h)
    · subst h; exact List.lt_irrefl _ hlt
    · rw [(List.pairwise_iff_getElem.1 h5) k i hk hi h] at hu
      cases hu
  · rintro ⟨h1, h2, h3, h4, h5⟩
    refine ⟨⟨⟨h1, h4⟩, srt_mk ?_ (List.pairwise_map.2 h2)⟩, (apart_iff _).2 (List.pairwise_map.2 ?_)⟩
    · intro s hs
      obtain ⟨f, hf, rfl⟩ := List.mem_map.1 hs
      exact h3 f hf
    · rw [List.pairwise_iff_getElem]
      intro i k hi hk _
      exact h5 _ (List.getElem_mem hk) _ (List.getElem_mem hi)
theorem treeR_no {fs : List Fil} (h : ¬ RightT fs) : treeR fs = false := not_true fun e => h ((treeR_iff fs).1 e)

theorem lt_tri (a b : List UInt8) : a < b ∨ a = b ∨ b < a := by
  by_cases h : a < b
  · exact .inl h
  · rcases List.le_iff_lt_or_eq.1 (List.not_lt.1 h) with h | h
    · exact .inr (.inr h)
    · exact .inr (.inl h.symm)
theorem less_no {a b : List UInt8} (h : ¬ a < b) : Op.bytesLess a b = false := not_true fun e => h ((less_iff _ _).1 e)

theorem Srt.unique : ∀ {a b : List Fil}, Srt a → Srt b → (∀ f, f ∈ a ↔ f ∈ b) → a = b
  | [], [], _, _, _ => rfl
  | [], y :: b, _, _, h => absurd ((h y).2 (by simp)) (by simp)
  | x :: a, [], _, _, h => absurd ((h x).1 (by simp)) (by simp)
  | x :: a, y :: b, ha, hb, h => by
    have ha' := List.pairwise_cons.1 ha
    have hb' := List.pairwise_cons.1 hb
    have hxy : x = y := by
      rcases List.mem_cons.1 ((h x).1 (by simp)) with e | e
      · exact e
      · rcases List.mem_cons.1 ((h y).2 (by simp)) with e2 | e2
        · exact e2.symm
        · exact absurd (List.lt_trans (ha'.1 y e2) (hb'.1 x e)) (List.lt_irrefl _)
    subst hxy
    have : a = b := Srt.unique ha'.2 hb'.2 fun f => by
      constructor
      · intro hf
        rcases List.mem_cons.1 ((h f).1 (List.mem_cons_of_mem _ hf)) with e | e
        · subst e; exact absurd (ha'.1 _ hf) (List.lt_irrefl _)
        · exact e
      · intro hf
        rcases List.mem_cons.1 ((h f).2 (List.mem_cons_of_mem _ hf)) with e | e
        · subst e; exact absurd (hb'.1 _ hf) (List.lt_irrefl _)
        · exact e
    rw [this]
theorem Srt.inj {fs : List Fil} (h : Srt fs) {f g : Fil} (hf : f ∈ fs) (hg : g ∈ fs) (e : pth f = pth g) : f = g := by
  obtain ⟨i, hi, rfl⟩ := List.mem_iff_getElem.1 hf
  obtain ⟨k, hk, rfl⟩ := List.mem_iff_getElem.1 hg
  rcases Nat.lt_trichotomy i k with h2 | h2 | h2
  · have := (List.pairwise_iff_getElem.1 h) i k hi hk h2
    rw [e] at this
    exact absurd this (List.lt_irrefl _)
  · subst h2; rfl
  · have := (List.pairwise_iff_getElem.1 h) k i hk hi h2
    rw [e] at this
    exact absurd this (List.lt_irrefl _)

/-! ### Where a path stands -/
def lowT (fs : List Fil) (p : List UInt8) : List Fil := fs.filter fun f => Op.bytesLess (pth f) p
def highT (fs : List Fil) (p : List UInt8) : List Fil := fs.filter fun f => Op.bytesLess p (pth f)
def thereT (fs : List Fil) (p : List UInt8) : Bool := fs.any fun f => pth f == p
theorem mem_low {fs : List Fil} {p : List UInt8} {f : Fil} : f ∈ lowT fs p ↔ f ∈ fs ∧ pth f < p := by rw [lowT, List.mem_filter, less_iff]
theorem mem_high {fs : List Fil} {p : List UInt8} {f : Fil} : f ∈ highT fs p ↔ f ∈ fs ∧ p < pth f := by rw [highT, List.mem_filter, less_iff]
theorem there_iff {fs : List Fil} {p : List UInt8} : thereT fs p = true ↔ ∃ f ∈ fs, pth f = p := by simp [thereT]
theorem there_no {fs : List Fil} {p : List UInt8} : thereT fs p = false ↔ ∀ f ∈ fs, pth f ≠ p := by simp [thereT]
theorem split_tree : ∀ {fs : List Fil} (p : List UInt8), Srt fs → (thereT fs p = false ∧ fs = lowT fs p ++ highT fs p) ∨ (∃ d, thereT fs p = true ∧ fs = lowT fs p ++ (mkS p, d) :: highT fs p)
  | [], p, _ => .inl ⟨rfl, rfl⟩
  | f :: r, p, h => by
    have h' := List.pairwise_cons.1 h
    have tail : p ≤ pth f → lowT r p = [] ∧ highT r p = r ∧ thereT r p = false := by
      intro hp
      have hr : ∀ g ∈ r, p < pth g := fun g hg => by
        rcases List.le_iff_lt_or_eq.1 hp with e | e
        · exact List.lt_trans e (h'.1 g hg)
        · rw [e]; exact h'.1 g hg
      refine ⟨List.filter_eq_nil_iff.2 fun g hg => ?_, List.filter_eq_self.2 fun g hg => (less_iff _ _).2 (hr g hg), there_no.2 fun g hg e => ?_⟩
      · rw [less_iff]; exact List.lt_asymm (hr g hg)
      · have := hr g hg
        rw [e] at this
        exact List.lt_irrefl _ this
    rcases lt_tri (pth f) p with h1 | h1 | h1
    · have e1 : lowT (f :: r) p = f :: lowT r p := List.filter_cons_of_pos ((less_iff _ _).2 h1)
      have e2 : highT (f :: r) p = highT r p := List.filter_cons_of_neg (by rw [less_iff]; exact List.lt_asymm h1)
      have e3 : thereT (f :: r) p = thereT r p := by
        rw [thereT, List.any_cons, show (pth f == p) = false by
          rw [beq_eq_false_iff_ne]
          intro e
          rw [e] at h1
          exact List.lt_irrefl _ h1]
        rfl
      rw [e1, e2, e3]
      rcases split_tree p h'.2 with ⟨a, b⟩ | ⟨d, a, b⟩
      · exact .inl ⟨a, by rw [List.cons_append, ← b]⟩
      · exact .inr ⟨d, a, by rw [List.cons_append, ← b]⟩
    · obtain ⟨t1, t2, t3⟩ := tail (by rw [h1]; exact List.le_refl _)
      have e1 : lowT (f :: r) p = [] := by rw [← t1]; exact List.filter_cons_of_neg (by rw [less_iff, h1]; exact List.lt_irrefl _)
      have e2 : highT (f :: r) p = r := by rw [highT, List.filter_cons_of_neg (by rw [less_iff, h1]; exact List.lt_irrefl _)]; exact t2
      refine .inr ⟨f.2, there_iff.2 ⟨f, by simp, h1⟩, ?_⟩
      rw [e1, e2, ← h1]
      have : (mkS (pth f), f.2) = f := by rw [pth, mkS_of]
      rw [this]; rfl
    · obtain ⟨t1, t2, t3⟩ := tail (List.le_of_lt h1)
      have e1 : lowT (f :: r) p = [] := by rw [← t1]; exact List.filter_cons_of_neg (by rw [less_iff]; exact List.lt_asymm h1)
      have e2 : highT (f :: r) p = f :: r := by
        have e : highT (f :: r) p = f :: highT r p := List.filter_cons_of_pos (p := fun f => Op.bytesLess p (pth f)) ((less_iff _ _).2 h1)
        rw [e, t2]
      refine .inl ⟨there_no.2 fun g hg e => ?_, by rw [e1, e2]; rfl⟩
      rcases List.mem_cons.1 hg with rfl | hg
      · rw [e] at h1; exact List.lt_irrefl _ h1
      · exact there_no.1 t3 g hg e
theorem low_len {fs : List Fil} (p : List UInt8) : (lowT fs p).length ≤ fs.length := List.length_filter_le _ _
/-- Below the place the paths are less, from there on they are not. -/
theorem low_at {fs : List Fil} {p : List UInt8} (h : Srt fs) {i : Nat} (hi : i < fs.length) : Op.bytesLess (pth fs[i]) p = decide (i < (lowT fs p).length) := by
  have key : i < (lowT fs p).length ↔ pth fs[i] < p := by
    rcases split_tree p h with ⟨_, b⟩ | ⟨d, _, b⟩
    · constructor
      · intro hl
        have : fs[i] = (lowT fs p)[i] := by rw [List.getElem_of_eq b, List.getElem_append_left hl]
        rw [this]; exact (mem_low.1 (List.getElem_mem hl)).2
      · intro hl
        refine Nat.not_le.1 fun hn => ?_
        have : fs[i] = (highT fs p)[i - (lowT fs p).length]'(by have := congrArg List.length b; rw [List.length_append] at this; omega) := by rw [List.getElem_of_eq b, List.getElem_append_right hn]
        rw [this] at hl
        exact List.lt_asymm hl (mem_high.1 (List.getElem_mem _)).2
    · constructor
      · intro hl
        have : fs[i] = (lowT fs p)[i] := by rw [List.getElem_of_eq b, List.getElem_append_left hl]
        rw [this]; exact (mem_low.1 (List.getElem_mem hl)).2
      · intro hl
        refine Nat.not_le.1 fun hn => ?_
        have : fs[i] = ((mkS p, d) :: highT fs p)[i - (lowT fs p).length]'(by have := congrArg List.length b; rw [List.length_append] at this; omega) := by rw [List.getElem_of_eq b, List.getElem_append_right hn]
        rw [this] at hl
        have hm := List.getElem_mem (l := (mkS p, d) :: highT fs p) (n := i - (lowT fs p).length) (by have := congrArg List.length b; rw [List.length_append] at this; omega)
        rcases List.mem_cons.1 hm with e | e
        · rw [e, pth_mk, mkS_data] at hl; exact List.lt_irrefl _ hl
        · exact List.lt_asymm hl (mem_high.1 e).2
  rw [Bool.eq_iff_iff, less_iff, decide_eq_true_eq]
  exact key.symm
/-- The path is there just where it stands at its place. -/
theorem there_at {fs : List Fil} {p : List UInt8} (h : Srt fs) : thereT fs p = true ↔ ∃ hl : (lowT fs p).length < fs.length, pth fs[(lowT fs p).length] = p := by
  rcases split_tree p h with ⟨a, b⟩ | ⟨d, a, b⟩
  · rw [a]
    constructor
    · intro h; cases h
    · rintro ⟨hl, e⟩
      exact absurd e (there_no.1 a _ (List.getElem_mem _))
  · have hl : (lowT fs p).length < fs.length := by have := congrArg List.length b; rw [List.length_append, List.length_cons] at this; omega
    have e : fs[(lowT fs p).length] = (mkS p, d) := by
      rw [List.getElem_of_eq b, List.getElem_append_right (Nat.le_refl _)]
      simp
    exact ⟨fun _ => ⟨hl, by rw [e]; rfl⟩, fun _ => a⟩

/-! ### What is put, and dropped -/
def putL (fs : List Fil) (p d : ByteArray) : List Fil := lowT fs p.data.toList ++ (p, d) :: highT fs p.data.toList
def dropL (fs : List Fil) (p : List UInt8) : List Fil := lowT fs p ++ highT fs p
theorem mem_drop {fs : List Fil} {p : List UInt8} {f : Fil} : f ∈ dropL fs p ↔ f ∈ fs ∧ pth f ≠ p := by
  rw [dropL, List.mem_append, mem_low, mem_high]
  constructor
  · rintro (⟨h1, h2⟩ | ⟨h1, h2⟩)
    · exact ⟨h1, fun e => by rw [e] at h2; exact List.lt_irrefl _ h2⟩
    · exact ⟨h1, fun e => by rw [e] at h2; exact List.lt_irrefl _ h2⟩
  · rintro ⟨h1, h2⟩
    rcases lt_tri (pth f) p with h | h | h
    · exact .inl ⟨h1, h⟩
    · exact absurd h h2
    · exact .inr ⟨h1, h⟩
theorem mem_put {fs : List Fil} {p d : ByteArray} {f : Fil} : f ∈ putL fs p d ↔ f = (p, d) ∨ (f ∈ fs ∧ pth f ≠ p.data.toList) := by
  have := mem_drop (fs := fs) (p := p.data.toList) (f := f)
  rw [dropL, List.mem_append] at this
  rw [putL, List.mem_append, List.mem_cons, ← this]
  constructor
  · rintro (h | h | h)
    · exact .inr (.inl h)
    · exact .inl h
    · exact .inr (.inr h)
  · rintro (h | h | h)
    · exact .inr (.inl h)
    · exact .inl h
    · exact .inr (.inr h)
theorem srt_low {fs : List Fil} (h : Srt fs) (p : List UInt8) : Srt (lowT fs p) := h.filter _
theorem srt_high {fs : List Fil} (h : Srt fs) (p : List UInt8) : Srt (highT fs p) := h.filter _
theorem srt_drop {fs : List Fil} (h : Srt fs) (p : List UInt8) : Srt (dropL fs p) :=
  List.pairwise_append.2 ⟨srt_low h p, srt_high h p, fun _ hf _ hg => List.lt_trans (mem_low.1 hf).2 (mem_high.1 hg).2⟩
theorem srt_put {fs : List Fil} (h : Srt fs) (p d : ByteArray) : Srt (putL fs p d) := by
  refine List.pairwise_append.2 ⟨srt_low h _, List.pairwise_cons.2 ⟨fun g hg => (mem_high.1 hg).2, srt_high h _⟩, fun f hf g hg => ?_⟩
  rcases List.mem_cons.1 hg with rfl | hg
  · exact (mem_low.1 hf).2
  · exact List.lt_trans (mem_low.1 hf).2 (mem_high.1 hg).2
theorem drop_len {fs : List Fil} (h : Srt fs) (p : List UInt8) : (dropL fs p).length = fs.length - (if thereT fs p then 1 else 0) := by
  rcases split_tree p h with ⟨a, b⟩ | ⟨d, a, b⟩
  · rw [a, dropL, ← b]; rfl
  · have := congrArg List.length b
    rw [List.length_append, List.length_cons] at this
    rw [a, dropL, List.length_append]
    simp only [if_true]
    omega
theorem put_len {fs : List Fil} (h : Srt fs) (p d : ByteArray) : (putL fs p d).length = fs.length + (if thereT fs p.data.toList then 0 else 1) := by
  rcases split_tree p.data.toList h with ⟨a, b⟩ | ⟨x, a, b⟩
  · have := congrArg List.length b
    rw [List.length_append] at this
    rw [a, putL, List.length_append, List.length_cons]
    simp only [Bool.false_eq_true, if_false]
    omega
  · have := congrArg List.length b
    rw [List.length_append, List.length_cons] at this
    rw [a, putL, List.length_append, List.length_cons]
    simp only [if_true]
    omega
def clashT (fs : List Fil) (p : List UInt8) : Bool := fs.any fun f => clashL (pth f) p
theorem clash_no {fs : List Fil} {p : List UInt8} : clashT fs p = false ↔ ∀ f ∈ fs, underL (pth f) p = false ∧ underL p (pth f) = false := by simp [clashT, clashL]
theorem right_drop {fs : List Fil} (h : RightT fs) (p : List UInt8) : RightT (dropL fs p) where
  few := by have := drop_len h.srt p; have := h.few; omega
  srt := srt_drop h.srt p
  paths := fun f hf => h.paths f (mem_drop.1 hf).1
  datas := fun f hf => h.datas f (mem_drop.1 hf).1
  apart := fun f hf g hg => h.apart f (mem_drop.1 hf).1 g (mem_drop.1 hg).1
theorem right_put {fs : List Fil} (h : RightT fs) {p d : ByteArray} (hp : rightL p.data.toList = true) (hc : clashT fs p.data.toList = false) (hd : d.size ≤ 600) (hl : thereT fs p.data.toList = true ∨ fs.length < 16) : RightT (putL fs p d) where
  few := by
    have h1 := put_len h.srt p d
    have h2 := h.few
    rcases hl with hl | hl
    · rw [hl] at h1
      simp only [if_true] at h1
      omega
    · split at h1 <;> omega
  srt := srt_put h.srt p d
  paths := fun f hf => by
    rcases mem_put.1 hf with rfl | hf
    · exact hp
    · exact h.paths f hf.1
  datas := fun f hf => by
    rcases mem_put.1 hf with rfl | hf
    · exact hd
    · exact h.datas f hf.1
  apart := fun f hf g hg => by
    have hc' := clash_no.1 hc
    rcases mem_put.1 hf with rfl | hf <;> rcases mem_put.1 hg with rfl | hg
    · exact under_self _
    · exact (hc' g hg.1).2
    · exact (hc' f hf.1).1
    · exact h.apart f hf.1 g hg.1

/-! ### The answers -/
def findT (fs : List Fil) (p : List UInt8) : Int := if treeR fs && thereT fs p then ((lowT fs p).length : Int) else -1
def dataAt (fs : List Fil) (p : List UInt8) : Option ByteArray := (fs.find? fun f => pth f == p).map (·.2)
def getT (fs : List Fil) (p : List UInt8) : Option ByteArray := if treeR fs then dataAt fs p else none
def putE (fs : List Fil) (p d : ByteArray) : Nat :=
  if !treeR fs then 1 else if !rightL p.data.toList || clashT fs p.data.toList then 6 else if decide (600 < d.size) || (!thereT fs p.data.toList && decide (fs.length = 16)) then 2 else 0
def putT (fs : List Fil) (p d : ByteArray) : List Fil := if putE fs p d = 0 then putL fs p d else []
def dropE (fs : List Fil) (p : List UInt8) : Nat := if !treeR fs then 1 else if !thereT fs p then 3 else 0
def dropT (fs : List Fil) (p : List UInt8) : List Fil := if dropE fs p = 0 then dropL fs p else []
def inT (fs : List Fil) (d : List UInt8) : List ByteArray := if treeR fs then (fs.filter fun f => underL (pth f) d).map (·.1) else []
def sizeT (fs : List Fil) : Nat := (fs.map fun f => f.2.size).sum
theorem data_iff {fs : List Fil} (h : Srt fs) {p x : ByteArray} : dataAt fs p.data.toList = some x ↔ (p, x) ∈ fs := by
  unfold dataAt
  constructor
  · intro e
    obtain ⟨f, h1, rfl⟩ := Option.map_eq_some_iff.1 e
    have h2 := List.find?_some h1
    have h3 := List.mem_of_find?_eq_some h1
    have : (p, f.2) = f := pth_inj (by rw [pth_mk]; exact (by simpa using h2 : pth f = p.data.toList).symm) rfl
    rw [this]; exact h3
  · intro hm
    cases hf : fs.find? (fun f => pth f == p.data.toList) with
    | none =>
      have := List.find?_eq_none.1 hf (p, x) hm
      simp [pth] at this
    | some f =>
      have h2 := List.find?_some hf
      have h3 := List.mem_of_find?_eq_some hf
      have : f = (p, x) := h.inj h3 hm (show pth f = p.data.toList by simpa using h2)
      rw [this]; rfl
theorem data_some {fs : List Fil} {p : List UInt8} : (dataAt fs p).isSome = thereT fs p := by
  unfold dataAt thereT
  rw [Option.isSome_map, Bool.eq_iff_iff, List.find?_isSome]
  simp
theorem putE_zero {fs : List Fil} {p d : ByteArray} : putE fs p d = 0 ↔ RightT fs ∧ rightL p.data.toList = true ∧ clashT fs p.data.toList = false ∧ d.size ≤ 600 ∧ (thereT fs p.data.toList = true ∨ fs.length < 16) := by
  unfold putE
  constructor
  · intro h
    split at h
    · cases h
    · rename_i h1
      have hR := (treeR_iff fs).1 (by simpa using h1)
      split at h
      · cases h
      · rename_i h2
        split at h
        · cases h
        · rename_i h3
          simp at h2 h3
          refine ⟨hR, h2.1, h2.2, h3.1, ?_⟩
          have := hR.few
          cases ht : thereT fs p.data.toList with
          | true => exact .inl rfl
          | false => have := h3.2 ht; exact .inr (by omega)
  · rintro ⟨h1, h2, h3, h4, h5⟩
    rw [(treeR_iff fs).2 h1, h2, h3]
    have : (!thereT fs p.data.toList && decide (fs.length = 16)) = false := by
      rcases h5 with h5 | h5
      · rw [h5]; rfl
      · rw [decide_eq_false (by omega)]; simp
    rw [this]
    simp; omega
theorem dropE_zero {fs : List Fil} {p : List UInt8} : dropE fs p = 0 ↔ RightT fs ∧ thereT fs p = true := by
  unfold dropE
  rw [← treeR_iff]
  cases treeR fs <;> cases thereT fs p <;> simp
theorem right_putT {fs : List Fil} {p d : ByteArray} (h : putE fs p d = 0) : RightT (putL fs p d) := by
  obtain ⟨h1, h2, h3, h4, h5⟩ := putE_zero.1 h
  exact right_put h1 h2 h3 h4 h5
end Go.Proofs.YteimgnmjmpeobaaDoor
