/- ChunkSizes. -/
import Derived.Test.YtodgcajehadaaaaHf
namespace Go.Proofs.Ytodgcajehadaaaa
open Go.RowKit

theorem sizeL_join (l : List ByteArray) : sizeL l = (joinS l).size := by
  unfold sizeL joinS
  rw [toB_size, List.length_flatten, List.map_map]
  rfl
theorem sizeL_pcs (s : ByteArray) : sizeL (pcsS s) = s.size := by rw [sizeL_join, join_cut]
theorem sizeL_le (l : List ByteArray) (j : Nat) : sizeL (l.take j) ≤ sizeL l := by
  have h : sizeL l = sizeL (l.take j) + sizeL (l.drop j) := by
    conv => lhs; rw [← List.take_append_drop j l]
    unfold sizeL
    rw [List.map_append, List.sum_append]
  omega
theorem pcs_fit (s : ByteArray) (j : Nat) (h : j < (pcsS s).length) : FitP (pcsS s).length j (pcsS s)[j] := by
  have := cut_right s j (by simpa using h)
  simpa [FitP, unB_size] using this

set_option maxHeartbeats 2000000 in
theorem chunkSizes_walk (s : ByteArray) (w : World) (hs : s.size ≤ 140737488351232) :
    Calls Try.prog 7 #[.string s] w fun e w' => e = .returned (.bool true) ∧ Below w.heap.size w w' := by
  by_cases h5 : 5000 < s.size
  · have h5' : (5000 : Int) < s.size := by omega
    go_enter Try.func7, Try.ntmps7
    go_wp2_with fail
    refine (small_any _).mono ?_
    rintro e w1 ⟨rfl, b1⟩
    go_wp2
    go_ret
    exact ⟨rfl, b1⟩
  have h5' : ¬ (5000 : Int) < s.size := by omega
  have hcut := fun w => cut_any s w (by omega)
  have HF := hid (pcs_fit s)
  have HS := hid (sizeL_pcs s)
  have HSn := hid (sizeL_snoc (pcsS s))
  have HSl := hid (sizeL_le (pcsS s))
  have hlen : (pcsS s).length ≤ 5000 := by rw [pcsS_length]; unfold cnt; omega
  generalize pcsS s = ls at *
  obtain ⟨n, hn⟩ : ∃ n, ls.length = n := ⟨_, rfl⟩
  simp only [hn] at hcut
  rw [hn] at hlen
  have HN := hid hn
  clear hn
  go_enter Try.func7, Try.ntmps7
  go_wp2_with fail
  refine (small_any _).mono ?_
  rintro e w1 ⟨rfl, b1⟩
  go_wp2_with fail
  refine (hcut _).mono ?_
  rintro e w2 ⟨A, c, rfl, hown, hb2⟩
  replace hb2 := below2 b1 hb2
  have r2 : Rd w2 A (strV ls) := Rd.of_own hown
  clear hown hcut b1
  go_wp2_with fail
  go_loop [5, 6] (fun v i => ∃ (j : Nat), j ≤ n ∧ i = .int .i64 j ∧ v = .int .i64 (sizeL (ls.take j) : Nat)) (fun _ i => n - (intOf i).toNat)
  case atStart => exact ⟨0, by omega, rfl, by simp [sizeL]⟩
  case round =>
    obtain ⟨j, hj, rfl, rfl⟩ := hrel
    by_cases hjn : j < n
    · have hjl : j < ls.length := by rw [HN.out]; exact hjn
      obtain ⟨b, off, rfl, hc, -⟩ := r2.at_ (k := j) (by rw [strV_length]; exact hjl)
      have h1 : w2.cell? ⟨b, off + j, none⟩ = some (.string ls[j]) := by rw [hc]; simp [strV]
      clear hc
      have hf := HF.out j hjl
      have hsn := HSn.out j hjl
      have hsl := HSl.out (j + 1)
      rw [HS.out] at hsl
      rw [HN.out] at hf
      unfold FitP at hf
      generalize ls[j] = x at *
      obtain ⟨q, hq⟩ : ∃ q, sizeL (ls.take j) = q := ⟨_, rfl⟩
      rw [hq] at hsn
      rw [hq]
      have HQ := hid hq
      have HQ1 := hid hsn
      clear hq
      have hlt : (j : Int) < n := by omega
      have hx1 : ¬ (x.size : Int) < 1 := by split at hf <;> omega
      have hx2 : ¬ (64 : Int) < x.size := by omega
      have hadd : (q : Int) + x.size ≤ 5000 := by omega
      clear hsn hsl
      by_cases hlast : j = n - 1
      · have hg : ¬ (j : Int) < (n : Int) - 1 := by omega
        have HH := hid hlast
        clear hlast hf
        go_wp2
        go_round
        case rel => exact ⟨j + 1, by omega, by go_num, by rw [HQ1.out]; rfl⟩
        case measure => simp [intOf]; omega
      · rw [if_neg hlast] at hf
        have hg : (j : Int) < (n : Int) - 1 := by omega
        have hx3 : x.size = 64 := by omega
        have hx4 : ((x.size : Int) == 64) = true := by simp [hx3]
        have HX := hid hx3
        clear hlast hf hx3
        go_wp2
        go_round
        case rel => exact ⟨j + 1, by omega, by go_num, by rw [HQ1.out]; rfl⟩
        case measure => simp [intOf]; omega
    · have e : j = n := by omega
      subst e
      rw [List.take_of_length_le (by rw [HN.out]; omega), HS.out]
      go_wp2
      go_ret
      exact ⟨rfl, hb2⟩
end Go.Proofs.Ytodgcajehadaaaa
