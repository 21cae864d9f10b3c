/- Package chunk: Count, the iterator over pieces, Cut. -/
import Derived.RangeFuncBox
import Derived.RangeFuncCalls
import Derived.RangeFuncLeaves
import Derived.Shelf.Abstract
import Derived.OwnWalkIn
import Derived.TacticsInMore
import Derived.LoopNIn
import Derived.LoopIn
import Derived.Maps.AppendAt
import Derived.Test.YtodgcajehadaaaaHa
import Derived.Test.YtodgcajehadaaaaFr
namespace Go.Proofs.Ytodgcajehadaaaa
open Go.RowKit Go.Shelf

attribute [local go_sem] Oper.semAt_some

/-- How many pieces. -/
def countI (n : Int) : Int := if n < 1 then 0 else (n - 1) / 64 + 1
theorem countI_nat (n : Nat) : countI (n : Int) = (cnt n : Int) := by unfold countI cnt; split <;> omega

set_option maxHeartbeats 400000 in
theorem count_any (n : Int) (w : World) (hn : n ≤ 9223372036854775807) :
    Calls Try.prog 16 #[.int .i64 n] w fun e w' => e = .returned (.int .i64 (countI n)) ∧ w = w' := by
  by_cases h : n < 1
  · go_enter Try.func16, Try.ntmps16
    go_wp2
    go_ret
    exact ⟨ret_int (by unfold countI; rw [if_pos (by omega)]), rfl⟩
  · have h0 : 1 ≤ n := by omega
    go_enter Try.func16, Try.ntmps16
    go_wp2
    go_ret
    exact ⟨ret_int (by unfold countI; rw [if_neg (by omega)]), rfl⟩

theorem count_nat (n : Nat) (w : World) (hn : n ≤ 9223372036854775807) :
    Calls Try.prog 16 #[.int .i64 (n : Int)] w fun e w' => e = .returned (.int .i64 (cnt n : Int)) ∧ w = w' := by
  rw [← countI_nat]
  exact count_any _ w (by omega)

theorem pieces_any (s : ByteArray) (w : World) :
    Calls Try.prog 24 #[.string s] w fun e w' => e = .returned (.func (.func 30) #[] #[.pointer (some ⟨w.heap.size, 0, none⟩)]) ∧ w' = w.alloc (.cells #[.string s] 9) := by
  go_enter Try.func24, Try.ntmps24
  go_wp2
  go_ret
  exact ⟨rfl, rfl⟩

theorem piece_at (s : ByteArray) (j : Nat) (h : j < (pcsS s).length) : s.extract (j * 64) (min ((j : Int) * 64 + 64) (s.size : Int)).toNat = (pcsS s)[j] := by
  have hl := pcsS_length s
  have hb : j * 64 ≤ s.size := by unfold cnt at hl; omega
  apply unB_inj
  simp only [pcsS, List.getElem_map, unB_toB]
  simp only [pcs, List.getElem_map, List.getElem_range, pieL, unB]
  rw [ByteArray.data_extract, Array.toList_extract, List.extract, List.take_eq_take_iff]
  have e : (List.drop (j * 64) s.data.toList).length = s.size - j * 64 := by rw [List.length_drop]; rw [Array.length_toList]; rfl
  rw [e]
  omega
theorem take_snoc' {α : Type} (l : List α) (j : Nat) (h : j < l.length) : l.take j ++ [l[j]] = l.take (j + 1) := (List.take_succ_eq_append_getElem h).symm

/-- Strings as long as a piece may be. -/
abbrev SP := { x : ByteArray // x.size ≤ 64 }
theorem pcsS_le (s : ByteArray) : ∀ x ∈ pcsS s, x.size ≤ 64 := by
  intro x hx
  obtain ⟨y, hy, rfl⟩ := List.mem_map.1 hx
  obtain ⟨i, -, rfl⟩ := List.mem_map.1 hy
  rw [toB_size, pieL, List.length_take]
  omega
def pcsT (s : ByteArray) : List SP := (pcsS s).pmap (fun x h => ⟨x, h⟩) (pcsS_le s)
theorem pcsT_length (s : ByteArray) : (pcsT s).length = (pcsS s).length := List.length_pmap ..
theorem pcsT_val (s : ByteArray) : (pcsT s).map (·.1) = pcsS s := by simp [pcsT, List.map_pmap]
theorem piece_le (s : ByteArray) (j : Nat) (h : j < (pcsS s).length) : (s.extract (j * 64) (min ((j : Int) * 64 + 64) (s.size : Int)).toNat).size ≤ 64 := by
  rw [piece_at s j h]
  exact pcsS_le s _ (List.getElem_mem h)
theorem pieceT_at (s : ByteArray) (j : Nat) (h : j < (pcsS s).length) : (pcsT s).take j ++ [⟨s.extract (j * 64) (min ((j : Int) * 64 + 64) (s.size : Int)).toNat, piece_le s j h⟩] = (pcsT s).take (j + 1) := by
  rw [← take_snoc' (pcsT s) j (by rw [pcsT_length]; exact h)]
  congr 2
  simp only [pcsT, List.getElem_pmap]
  exact Subtype.ext (piece_at s j h)

/-- What a round keeps: the string that is cut. -/
def KpS (Bn : Nat) (s : ByteArray) (W W' : World) : Prop := W.cell? ⟨Bn, 0, none⟩ = some (.string s) → W'.cell? ⟨Bn, 0, none⟩ = some (.string s)

set_option maxRecDepth 100000 in
set_option maxHeartbeats 1000000 in
theorem pieces1_in (n : Nat) (hn : 1 ≤ n) (l Bn : Nat) (s : ByteArray) (hs : s.size ≤ 140737488355328) (J Jx : List SP → World → Prop)
    (hY : ∀ pre x W, J pre W → pre.length < (pcsT s).length → YieldAt Fence.wide (n - 1) Try.prog l #[.string x.1] W fun e W' =>
      (e = .returned (.bool true) ∧ J (pre ++ [x]) W' ∧ KpS Bn s W W') ∨ (e = .returned (.bool false) ∧ Jx (pre ++ [x]) W'))
    (W : World) (hB : W.cell? ⟨Bn, 0, none⟩ = some (.string s)) (h0 : J [] W) :
    CallsIn Fence.wide n Try.prog 30 #[.func (.yield l) #[] #[], .pointer (some ⟨Bn, 0, none⟩)] W fun e W' => (∃ v, e = .returned v) ∧
      ((∃ ys, ys = pcsT s ∧ J ys W') ∨ (∃ pre, pre <+: pcsT s ∧ Jx pre W')) := by
  refine callsIn_of_wp Try.func30 rfl trivial ?_ rfl
  simp only [Try.ntmps30, List.size_toArray, List.length_cons, List.length_nil, Nat.reduceAdd, Nat.reduceSub, Array.replicate_succ, Array.replicate_zero, List.push_toArray, List.append_toArray, List.nil_append, List.cons_append]
  have hsz : s.size ≤ 9223372036854775807 := by omega
  gi_wp2_with (refine ⟨trivial, ?_⟩; gi_at_call 16; refine (callsIn_wide.2 (count_nat _ _ hsz)).mono ?_; rintro e w' ⟨rfl, rfl⟩)
  obtain ⟨c, hc⟩ : ∃ c, cnt s.size = c := ⟨_, rfl⟩
  have hc1 : c * 64 ≤ s.size + 63 := by rw [← hc]; unfold cnt; omega
  have hc2 : s.size ≤ c * 64 := by rw [← hc]; unfold cnt; omega
  rw [hc]
  have HC := hid ((pcsS_length s).trans hc)
  clear hc
  gi_loopw [9] (fun p wr => ∃ j : Nat, j ≤ c ∧ p = .int .i64 j ∧ wr.cell? ⟨Bn, 0, none⟩ = some (.string s) ∧ J ((pcsT s).take j) wr) (fun p _ => c - (intOf p).toNat)
  case atStart => exact ⟨0, by omega, rfl, hB, h0⟩
  case round =>
    obtain ⟨j, hj, rfl, hcell, hJ⟩ := hrel
    by_cases hjc : j < c
    · have h1 : (j : Int) < c := by omega
      have h2 : (j : Int) * 64 ≤ 9223372036854775000 := by omega
      have hjl : j < (pcsS s).length := by rw [HC.out]; exact hjc
      obtain ⟨fn, tmps, assign, body, hy, hR⟩ := hY _ ⟨s.extract (j * 64) (min ((j : Int) * 64 + 64) (s.size : Int)).toNat, piece_le s j hjl⟩ wr hJ (by rw [List.length_take, pcsT_length]; omega)
      dsimp only at hy
      have HP := hid (pieceT_at s j hjl)
      gi_wp2
      refine hR.mono ?_
      rintro e W3 (⟨rfl, hJ3, hk3⟩ | ⟨rfl, hJx3⟩)
      · rw [HP.out] at hJ3
        have hcell3 := hk3 hcell
        clear hk3 HP hy hR
        gi_wp2
        go_roundw
        case rel => exact ⟨j + 1, by omega, by go_num, hcell3, hJ3⟩
        case measure => simp [intOf]; omega
      · rw [HP.out] at hJx3
        gi_wp2
        refine bodyPost_ret (results_none rfl _ _ _) rfl ?_
        exact ⟨⟨_, rfl⟩, .inr ⟨_, List.take_prefix _ _, hJx3⟩⟩
    · have e : j = c := by omega
      subst e
      gi_wp2
      go_end0
      exact ⟨⟨_, rfl⟩, .inl ⟨_, List.take_of_length_le (by rw [pcsT_length, HC.out]; omega), hJ⟩⟩

theorem pieces_stops (n : Nat) (hn : 1 ≤ n) (Bn : Nat) (s : ByteArray) (hs : s.size ≤ 140737488355328) (w : World) (hBn : Bn < w.heap.size) (hc : w.cell? ⟨Bn, 0, none⟩ = some (.string s)) :
    SeqStopsK Fence.wide n Try.prog 30 #[.pointer (some ⟨Bn, 0, none⟩)] (fun x : SP => #[Value.string x.1]) (KpS Bn s) (fun ys => ys = pcsT s) (fun pre => pre <+: pcsT s) (pcsT s).length w := fun l J Jx W hW _ _ hY h0 =>
  pieces1_in n hn l Bn s hs J Jx hY W ((hW.cell (p := ⟨Bn, 0, none⟩) hBn).trans hc) h0
theorem KpS.trans {Bn : Nat} {s : ByteArray} {A B C : World} (h : KpS Bn s A B) (k : KpS Bn s B C) : KpS Bn s A C := fun x => k (h x)
theorem KpS.put {Bn : Nat} {s : ByteArray} {W : World} {l : Nat} {o : Obj} (o' : Obj) (hl : W.heap[l]? = some o) (ho : o.isCells = false) : KpS Bn s W (W.putObj l o') :=
  fun x => cell_kept x (grownBy_putObj' W l o') (fun r e => by cases e; exact ⟨o, hl, ho⟩)

end Go.Proofs.Ytodgcajehadaaaa
