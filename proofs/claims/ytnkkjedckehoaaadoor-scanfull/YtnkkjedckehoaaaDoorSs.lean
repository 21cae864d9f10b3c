/- As many paths as may be: plain lists. -/
import Derived.Test.YtnkkjedckehoaaaDoorSo
import Derived.Test.YtnkkjedckehoaaaDoorSq
namespace Go.Proofs.YtnkkjedckehoaaaDoor
open Go.RowKit

def pA (i : Nat) : ByteArray := ⟨#[97, UInt8.ofNat (97 + i % 26), UInt8.ofNat (97 + i / 26)]⟩
def pB (i : Nat) : ByteArray := ⟨#[98, UInt8.ofNat (97 + i)]⟩
def eF (i : Nat) : Ent := ⟨pA i, false, noS, 1, 0⟩
def fF (i : Nat) : Fil := (pB i, noS)
def lF (n : Nat) : List Ent := (List.range n).map eF
def tF (m : Nat) : List Fil := (List.range m).map fF
/-- Those that the k-th round has. -/
def rF (n k : Nat) : List Nat := [k, k + 26].filter (· < n)
def uF (n k : Nat) : List Ent := ((List.range k).flatMap (rF n)).map eF
theorem lF_len (n : Nat) : (lF n).length = n := by simp [lF]
theorem tF_len (m : Nat) : (tF m).length = m := by simp [tF]
theorem lF_more (n : Nat) : lF (n + 1) = lF n ++ [eF n] := by simp [lF, List.range_succ]
theorem tF_more (m : Nat) : tF (m + 1) = tF m ++ [fF m] := by simp [tF, List.range_succ]
theorem uF_more (n k : Nat) : uF n (k + 1) = uF n k ++ (rF n k).map eF := by simp [uF, List.range_succ, List.flatMap_append]
theorem uF_len {n : Nat} (hn : n ≤ 32) : (uF n 26).length = n := by
  have h : (List.range 33).all (fun n => decide (((List.range 26).flatMap (rF n)).length = n)) = true := by decide +kernel
  have := List.all_eq_true.1 h n (List.mem_range.2 (by omega))
  rw [uF, List.length_map]
  simpa using this
theorem uF_right {n : Nat} (hn : n ≤ 32) : RightA (uF n 26) := by
  have h : (List.range 33).all (fun n => archR (uF n 26)) = true := by decide +kernel
  exact (archR_iff _).1 (List.all_eq_true.1 h n (List.mem_range.2 (by omega)))
theorem tF_right {m : Nat} (hm : m ≤ 16) : RightT (tF m) := by
  have h : (List.range 17).all (fun m => treeR (tF m)) = true := by decide +kernel
  exact (treeR_iff _).1 (List.all_eq_true.1 h m (List.mem_range.2 (by omega)))
theorem both_apart : ∀ {es : List Ent} {fs : List Fil}, (∀ e ∈ es, ∀ f ∈ fs, epth e < pth f) → bothL es fs = es.map (fun e => (e, gone e)) ++ fs.map fun f => (fresh f.1, kept (fresh f.1) f.2)
  | [], fs, _ => both_t fs
  | e :: es, [], _ => by rw [both_l]; simp
  | e :: es, f :: t, h => by
    have hlt := h e (by simp) f (by simp)
    have h1 : ¬ e.path = f.1 := fun x => by
      have : epth e = pth f := by unfold epth pth; rw [x]
      rw [this] at hlt; exact List.lt_irrefl _ hlt
    rw [bothL_gt h1 (less_no fun x => List.lt_asymm hlt x), both_apart fun a ha b hb => h a (List.mem_cons_of_mem _ ha) b hb]
    rfl
theorem full_both (n m : Nat) : bothL (uF n 26) (tF m) = (uF n 26).map (fun e => (e, gone e)) ++ (tF m).map fun f => (fresh f.1, kept (fresh f.1) f.2) := by
  refine both_apart fun e he f hf => ?_
  obtain ⟨i, -, rfl⟩ := List.mem_map.1 he
  obtain ⟨j, -, rfl⟩ := List.mem_map.1 hf
  show (97 : UInt8) :: _ < (98 : UInt8) :: _
  exact List.cons_lt_cons_iff.2 (.inl (by decide))
theorem uF_gone {n : Nat} : ∀ e ∈ uF n 26, gone e = e := fun e he => by
  obtain ⟨i, -, rfl⟩ := List.mem_map.1 he
  rfl
theorem full_stuck {n m : Nat} : ∀ p ∈ bothL (uF n 26) (tF m), stuck 0 p = false := by
  intro p hp
  rw [full_both] at hp
  rcases List.mem_append.1 hp with h | h
  · obtain ⟨e, he, rfl⟩ := List.mem_map.1 h
    unfold stuck
    rw [decide_eq_true (uF_gone e he)]; rfl
  · obtain ⟨f, hf, rfl⟩ := List.mem_map.1 h
    unfold stuck
    have h9 : ¬ tickL (fresh f.1).l (fresh f.1).r 0 = ((fresh f.1).l, (fresh f.1).r) := by
      show ¬ ((1 : Int), (0 : Int)) = (0, 0)
      decide
    rw [decide_eq_false h9, Bool.and_false]
theorem full_len2 {n m : Nat} (hn : n ≤ 32) : (bothL (uF n 26) (tF m)).length = n + m := by rw [full_both, List.length_append, List.length_map, List.length_map, uF_len hn, tF_len]
theorem full_yes {n m : Nat} (hn : n ≤ 32) (hm : m ≤ 16) (h : n + m ≤ 32) : scanN (uF n 26) (tF m) 0 = 0 ∧ (scanA (uF n 26) (tF m) 0).length = n + m ∧ (scanC (uF n 26) (tF m) 0).length = m := by
  have h0 : scanN (uF n 26) (tF m) 0 = 0 := by
    refine scanN_ok.2 ⟨uF_right hn, tF_right hm, ?_⟩
    rw [okP, full_len2 hn, decide_eq_true h, Bool.true_and, List.all_eq_true]
    intro p hp
    rw [full_stuck p hp]; rfl
  refine ⟨h0, ?_, ?_⟩
  · rw [scanA, if_pos h0, outP, List.length_map, full_len2 hn]
  · rw [scanC, if_pos h0, chgP, List.length_map, full_both, List.filter_append, List.length_append]
    have e1 : List.filter (fun p : Ent × Ent => !decide (p.2 = p.1)) ((uF n 26).map fun e => (e, gone e)) = [] := by
      rw [List.filter_eq_nil_iff]
      intro p hp
      obtain ⟨e, he, rfl⟩ := List.mem_map.1 hp
      simp [uF_gone e he]
    have e2 : List.filter (fun p : Ent × Ent => !decide (p.2 = p.1)) ((tF m).map fun f => (fresh f.1, kept (fresh f.1) f.2)) = (tF m).map fun f => (fresh f.1, kept (fresh f.1) f.2) := by
      rw [List.filter_eq_self]
      intro p hp
      obtain ⟨f, hf, rfl⟩ := List.mem_map.1 hp
      simp [fresh, kept]
    rw [e1, e2, List.length_map, tF_len]
    simp
theorem full_no9 {n m : Nat} (hn : n ≤ 32) (hm : m ≤ 16) (h : 32 < n + m) : scanN (uF n 26) (tF m) 0 = 2 := by
  have hg : (archR (uF n 26) && treeR (tF m)) = true := by rw [(archR_iff _).2 (uF_right hn), (treeR_iff _).2 (tF_right hm)]; rfl
  rw [scanN_two hg, okP_long (by rw [full_len2 hn]; exact h)]
  rfl
theorem eF_sz (i : Nat) : SzE (eF i) := by unfold SzE eF pA; simp [ByteArray.size]
theorem fF_sz (i : Nat) : SzF (fF i) := by unfold SzF fF pB; simp [ByteArray.size]
theorem uF_sz {n k : Nat} : ∀ e ∈ uF n k, SzE e := fun e he => by
  obtain ⟨i, -, rfl⟩ := List.mem_map.1 he
  exact eF_sz i
theorem tF_sz {m : Nat} : ∀ f ∈ tF m, SzF f := fun f hf => by
  obtain ⟨i, -, rfl⟩ := List.mem_map.1 hf
  exact fF_sz i
theorem app_bytes (a b : ByteArray) : (a ++ b).data.toList = a.data.toList ++ b.data.toList := by simp [ByteArray.data_append]
theorem pA_join (j : Nat) : (⟨#[97]⟩ : ByteArray) ++ ⟨#[UInt8.ofNat (97 + j % 26)]⟩ ++ ⟨#[UInt8.ofNat (97 + j / 26)]⟩ = pA j := by
  apply data_inj
  rw [app_bytes, app_bytes]
  rfl
theorem pB_join (j : Nat) : (⟨#[98]⟩ : ByteArray) ++ ⟨#[UInt8.ofNat (97 + j)]⟩ = pB j := by
  apply data_inj
  rw [app_bytes]
  rfl
end Go.Proofs.YtnkkjedckehoaaaDoor
