/- The laws of chunk: few, small. -/
import Derived.Test.YtodgcajehadaaaaHc
import Derived.Test.YtodgcajehadaaaaHe
import Derived.Test.YtodgcajehadaaaaByt
namespace Go.Proofs.Ytodgcajehadaaaa
open Go.RowKit

/-! ### few -/
def sizeL (ls : List ByteArray) : Nat := (ls.map (·.size)).sum
theorem sizeL_snoc (ls : List ByteArray) (j : Nat) (h : j < ls.length) : sizeL (ls.take (j + 1)) = sizeL (ls.take j) + ls[j].size := by
  unfold sizeL
  rw [List.take_succ_eq_append_getElem h, List.map_append, List.sum_append]
  simp
def fewB (ls : List ByteArray) : Bool := decide (ls.length ≤ 100 ∧ sizeL ls ≤ 8000)
theorem few_iff (ls : List ByteArray) : fewB ls = true ↔ ls.length ≤ 100 ∧ sizeL ls ≤ 8000 := by simp [fewB]
set_option maxHeartbeats 1000000 in
theorem few_any (A : Option Addr) (n c : Nat) (ls : List ByteArray) (w : World) (hl : ls.length = n) (hn : n ≤ 140737488355328) (ha : Rd w A (strV ls)) (hm : ∀ x ∈ ls, x.size ≤ 140737488351232) :
    Calls Try.prog 10 #[.slice A n c] w fun e w' => e = .returned (.bool (fewB ls)) ∧ w = w' := by
  have HL := hid hl
  clear hl
  have HM := hid hm
  clear hm
  go_enter Try.func10, Try.ntmps10
  go_wp2
  go_loop [3, 4] (fun v i => ∃ (j : Nat) (z : Int), j ≤ n ∧ i = .int .i64 j ∧ v = .int .i64 z ∧ Hid (n ≤ 100 → z = sizeL (ls.take j) ∧ sizeL (ls.take j) ≤ j * 140737488351232)) (fun _ i => n - (intOf i).toNat)
  case atStart => exact ⟨0, 0, by omega, rfl, rfl, fun _ => ⟨rfl, by simp [sizeL]⟩⟩
  case round =>
    obtain ⟨j, z, hj, rfl, rfl, HZ⟩ := hrel
    by_cases hjn : j < n
    · have hjl : j < ls.length := by rw [HL.out]; exact hjn
      obtain ⟨b, off, rfl, hc, -⟩ := ha.at_ (k := j) (by rw [strV_length]; exact hjl)
      have h1 : w.cell? ⟨b, off + j, none⟩ = some (.string ls[j]) := by rw [hc]; simp [strV]
      clear hc
      have HS := hid (sizeL_snoc ls j hjl)
      have HX := hid (HM.out _ (List.getElem_mem hjl))
      generalize ls[j] = x at *
      have hlt : (j : Int) < n := by omega
      go_wp2
      go_round
      case rel =>
        refine ⟨j + 1, _, by omega, by go_num, rfl, fun hle => ?_⟩
        obtain ⟨h2, h3⟩ := HZ.out hle
        have h4 := HS.out
        have h5 := HX.out
        have e1 : wrap64 (z + (x.size : Int)) = z + (x.size : Int) := by unfold wrap64; omega
        exact ⟨by rw [e1]; omega, by omega⟩
      case measure => simp [intOf]; omega
    · have e : j = n := by omega
      subst e
      have HF : Hid (sizeL (ls.take j) = sizeL ls) := by rw [List.take_of_length_le (by rw [HL.out]; omega)]; exact rfl
      by_cases h100 : j ≤ 100
      · obtain ⟨h2, -⟩ := HZ.out h100
        rw [HF.out] at h2
        by_cases h8 : sizeL ls ≤ 8000
        · have HB : Hid (fewB ls = true) := (few_iff ls).2 ⟨by rw [HL.out]; exact h100, h8⟩
          have h9 : z ≤ 8000 := by omega
          clear h2
          go_wp2
          go_ret
          exact ⟨ret_bool HB.out.symm, rfl⟩
        · have HB : Hid (fewB ls = false) := by rw [Bool.eq_false_iff]; exact fun h => h8 ((few_iff ls).1 h).2
          have h9 : ¬ z ≤ 8000 := by omega
          clear h2
          go_wp2
          go_ret
          exact ⟨ret_bool HB.out.symm, rfl⟩
      · have HB : Hid (fewB ls = false) := by rw [Bool.eq_false_iff]; exact fun h => h100 (by rw [← HL.out]; exact ((few_iff ls).1 h).1)
        go_wp2
        go_ret
        exact ⟨ret_bool HB.out.symm, rfl⟩

/-! ### small -/
theorem conv_zer {w : World} {g n : Nat} (h : Blk w g (by8 (zer n)) 5) : (convert 38 9 (.slice (some ⟨g, 0, none⟩) n n)).run Try.prog w = .ok (.string (toB (zer n))) w :=
  conv_rd _ 38 9 5 Try.underlying38 Try.underlying5 Try.underlying9 _ n n (zer n) (zer_length n) h.rd
theorem pcs_small : pcsS (toB (zer 64) ++ ⟨#[97]⟩) = [toB (zer 64), ⟨#[97]⟩] := by
  have e : unB (toB (zer 64) ++ ⟨#[97]⟩) = zer 64 ++ [97] := by simp [unB, toB, ByteArray.data_append]
  unfold pcsS
  rw [e, pcs_cons _ _ (zer_length 64), pcs_one _ (by simp) (by simp)]
  rfl

set_option maxHeartbeats 2000000 in
theorem small_any (w : World) : Calls Try.prog 9 #[] w fun e w' => e = .returned (.bool true) ∧ Below w.heap.size w w' := by
  have hmk : ∀ w : World, (Instr.makeSlice 38 (.int .i64 64) (.int .i64 64)).run Try.prog w = .ok (.slice (some ⟨w.heap.size, 0, none⟩) 64 64) (w.alloc (.cells (by8 (zer 64)).toArray 5)) := make_zer 64 (by omega)
  have hcv := conv_zer (n := 64) (Blk.new w (by8 (zer 64)) 5)
  have hz : (toB (zer 64)).size = 64 := by rw [toB_size, zer_length]
  have b1 : Below w.heap.size w (w.alloc (.cells (by8 (zer 64)).toArray 5)) := (Below.refl _ w).alloc (Nat.le_refl _) _
  go_enter Try.func9, Try.ntmps9
  go_wp2_with fail
  have hcut := cut_any (toB (zer 64) ++ ⟨#[97]⟩) (w.alloc (.cells (by8 (zer 64)).toArray 5)) (by rw [ByteArray.size_append, hz]; decide)
  rw [pcs_small] at hcut
  refine hcut.mono ?_
  rintro e w2 ⟨A, c, rfl, hown, hb2⟩
  replace hb2 := below2 b1 hb2
  have r2 : Rd w2 A (strV [toB (zer 64), ⟨#[97]⟩]) := Rd.of_own hown
  clear hown hcut b1 hcv hmk
  obtain ⟨b, off, rfl, -, hbb⟩ := r2.at_ (k := 1) (by simp [strV])
  have hj := join_yes _ 2 c _ w2 rfl r2 (by omega) (by rw [← pcs_small, rightB_iff]; exact cut_right _)
  rw [← pcs_small, join_cut] at hj
  simp only [List.length_cons, List.length_nil, Nat.zero_add, Nat.reduceAdd]
  go_wp2_with fail
  refine hj.mono ?_
  rintro e w3 ⟨rfl, hb3⟩
  clear hj
  have r3 := r2.below hb3
  replace hb3 := below2 hb2 hb3
  clear r2 hb2
  have hj := join_no (some ⟨w3.heap.size, 0, none⟩) 2 2 [⟨#[97]⟩, ⟨#[98]⟩] _ rfl (.inr ⟨_, rfl, new_cells w3 9 (strV [⟨#[97]⟩, ⟨#[98]⟩])⟩) (by omega) (by decide)
  go_wp2_with fail
  refine hj.mono ?_
  rintro e w4 ⟨rfl, hb4⟩
  clear hj
  have r4 := (r3.alloc _).below hb4
  replace hb4 := below2 hb3 (below_new _ hb4)
  clear r3 hb3
  have hj := join_no (some ⟨w4.heap.size, 0, none⟩) 1 1 [⟨#[]⟩] _ rfl (.inr ⟨_, rfl, new_cells w4 9 (strV [⟨#[]⟩])⟩) (by omega) (by decide)
  go_wp2_with fail
  refine hj.mono ?_
  rintro e w5 ⟨rfl, hb5⟩
  clear hj
  have r5 := (r4.alloc _).below hb5
  replace hb5 := below2 hb4 (below_new _ hb5)
  clear r4 hb4
  have hj := join_yes none 0 0 [] w5 rfl (.inl rfl) (by omega) (by decide)
  go_wp2_with fail
  refine hj.mono ?_
  rintro e w6 ⟨rfl, hb6⟩
  clear hj
  have r6 := r5.below hb6
  replace hb6 := below2 hb5 hb6
  clear r5 hb5
  obtain ⟨b', off', he, hcell, -⟩ := r6.at_ (k := 1) (by simp [strV])
  injection he with he
  injection he with he1 he2
  subst he1 he2
  replace hcell : w6.cell? ⟨b, off + 1, none⟩ = some (.string ⟨#[97]⟩) := hcell
  have c64 : ∀ w, Calls Try.prog 16 #[.int .i64 64] w fun e w' => e = .returned (.int .i64 1) ∧ w = w' := fun w => count_any 64 w (by omega)
  have c65 : ∀ w, Calls Try.prog 16 #[.int .i64 65] w fun e w' => e = .returned (.int .i64 2) ∧ w = w' := fun w => count_any 65 w (by omega)
  have c0 : ∀ w, Calls Try.prog 16 #[.int .i64 0] w fun e w' => e = .returned (.int .i64 0) ∧ w = w' := fun w => count_any 0 w (by omega)
  have hlab := label_any 1 2 3
  rw [show toB (labB 1 2 3) = ⟨#[0, 0, 0, 1, 0, 0, 0, 2, 0, 0, 0, 3]⟩ from rfl] at hlab
  have hnil : joinS [] = ⟨#[]⟩ := rfl
  go_wp2_with fail
  refine (c64 _).mono ?_
  rintro e w7 ⟨rfl, rfl⟩
  go_wp2_with fail
  refine (c65 _).mono ?_
  rintro e w7 ⟨rfl, rfl⟩
  go_wp2_with fail
  refine (c0 _).mono ?_
  rintro e w7 ⟨rfl, rfl⟩
  go_wp2_with fail
  refine (hlab _).mono ?_
  rintro e w7 ⟨rfl, hb7⟩
  go_wp2
  go_ret
  exact ⟨rfl, below2 hb6 hb7⟩
end Go.Proofs.Ytodgcajehadaaaa
