/- ChunkMore. -/
import Derived.Test.YtodgcajehadaaaaHg
import Derived.Test.YtodgcajehadaaaaRs
import Derived.Test.YtodgcajehadaaaaApp
namespace Go.Proofs.Ytodgcajehadaaaa
open Go.RowKit

theorem cut_size (s : ByteArray) (k : Nat) (h : k ≤ s.size) : (s.extract 0 k).size = k := by simp [ByteArray.size_extract]; omega
theorem cnt_mul (k : Nat) : cnt (k * 64) = k := by unfold cnt; omega
theorem cnt_more (k n : Nat) : cnt (k * 64 + n) = k + cnt n := by unfold cnt; omega

set_option maxHeartbeats 2000000 in
theorem chunkMore_walk (s t : ByteArray) (w : World) (_ : s.size ≤ 140737488351232) (_ : t.size ≤ 140737488351232) :
    Calls Try.prog 6 #[.string s, .string t] w fun e w' => e = .returned (.bool true) ∧ Below w.heap.size w w' := by
  go_enter Try.func6, Try.ntmps6
  go_wp2_with fail
  refine (small_any _).mono ?_
  rintro e w1 ⟨rfl, b1⟩
  by_cases h1 : (3000 : Int) < s.size
  · go_wp2
    go_ret
    exact ⟨rfl, b1⟩
  by_cases h2 : (3000 : Int) < t.size
  · go_wp2
    go_ret
    exact ⟨rfl, b1⟩
  obtain ⟨k, hk⟩ : ∃ k, s.size / 64 = k := ⟨_, rfl⟩
  have hk1 : k * 64 ≤ s.size := by omega
  have hk2 : (s.size : Int) / 64 = k := by omega
  clear hk
  have hu := cut_size s (k * 64) hk1
  have hk3 : (k : Int) * 64 / 64 = k := by omega
  have hcA := fun w => cut_any (s.extract 0 (k * 64)) w (by rw [hu]; omega)
  have hcB := fun w => cut_any t w (by omega)
  have hcC := fun w => cut_any (s.extract 0 (k * 64) ++ t) w (by rw [ByteArray.size_append, hu]; omega)
  rw [cut_append _ t k hu] at hcC
  have hlA : (pcsS (s.extract 0 (k * 64))).length = k := by rw [pcsS_length, hu, cnt_mul]
  have hlB : (pcsS t).length = cnt t.size := pcsS_length t
  generalize pcsS (s.extract 0 (k * 64)) = us at *
  generalize pcsS t = ts at *
  obtain ⟨m, hm⟩ : ∃ m, cnt t.size = m := ⟨_, rfl⟩
  have hm2 : m ≤ 3000 := by rw [← hm]; unfold cnt; omega
  have c1 := fun w => count_nat (k * 64 + t.size) w (by omega)
  have c2 := fun w => count_nat (k * 64) w (by omega)
  have c3 := fun w => count_nat t.size w (by omega)
  rw [cnt_more, hm] at c1
  rw [cnt_mul] at c2
  rw [hm] at c3 hlB
  rw [show ((k * 64 + t.size : Nat) : Int) = (k : Int) * 64 + t.size by omega, show ((k + m : Nat) : Int) = (k : Int) + m by omega] at c1
  rw [show ((k * 64 : Nat) : Int) = (k : Int) * 64 by omega] at c2
  simp only [List.length_append, hlA, hlB] at hcA hcB hcC
  have HA := hid hlA
  have HB := hid hlB
  clear hm hlA hlB
  go_wp2_with fail
  refine (hcA _).mono ?_
  rintro e w2 ⟨A, ca, rfl, hownA, hb2⟩
  have rA : Rd w2 A (strV us) := Rd.of_own hownA
  replace hb2 := below2 b1 hb2
  clear hownA hcA b1
  go_wp2_with fail
  refine (hcB _).mono ?_
  rintro e w3 ⟨B, cb, rfl, hownB, hb3⟩
  have rB : Rd w3 B (strV ts) := Rd.of_own hownB
  replace rA := rA.below hb3
  replace hb3 := below2 hb2 hb3
  clear hownB hcB hb2
  have HU := hid hu
  have hadd : (s.extract 0 (k * 64)).size + t.size ≤ 9223372036854775807 := by omega
  clear hu
  go_wp2_with fail
  refine (hcC _).mono ?_
  rintro e w4 ⟨C, cc, rfl, hownC, hb4⟩
  have rC : Rd w4 C (strV (us ++ ts)) := Rd.of_own hownC
  replace rA := rA.below hb4
  replace rB := rB.below hb4
  replace hb4 := below2 hb3 hb4
  clear hownC hcC hb3
  have hown0 : (w4.alloc (.cells #[] 9)).ownsRow w4.heap.size 9 1 (.slice (some ⟨w4.heap.size, 0, none⟩) 0 0) 0 [] := World.ownsRow_made w4 #[] 0 (Nat.le_refl _) (by unfold maxLen; omega) rfl
  obtain ⟨A5, c5, w5, run5, own5, g5⟩ := run_app (P := Try.prog) (w4.alloc (.cells #[] 9)) w4.heap.size 22 22 9 (.string ⟨#[]⟩) 16 Try.underlying22 Try.infoS rfl _ 0 0 [] hown0 A k ca (strV us) (by rw [strV_length]; exact HA.out) (rA.alloc _) (strV_one _) (by omega) (by simp) (by unfold maxLen; omega)
  simp only [Nat.zero_add, List.nil_append] at run5 own5
  have hb5 : Below w4.heap.size w4 w5 := ((Below.refl _ _).alloc (Nat.le_refl _) _).grown g5 (by simp) (own_app_block hown0)
  obtain ⟨A6, c6, w6, run6, own6, g6⟩ := run_app (P := Try.prog) w5 w4.heap.size 22 22 9 (.string ⟨#[]⟩) 16 Try.underlying22 Try.infoS rfl A5 k c5 (strV us) own5 B m cb (strV ts) (by rw [strV_length]; exact HB.out) (rB.below hb5) (strV_one _) (by omega) hb5.size (by unfold maxLen; omega)
  have hb6 : Below w4.heap.size w4 w6 := hb5.grown g6 hb5.size (own_app_block own5)
  have r6 : Rd w6 A6 (strV (us ++ ts)) := by rw [strV_append]; exact Rd.of_own own6
  have rC6 := rC.below hb6
  replace hb6 := below2 hb4 hb6
  have RUN5 := hid run5
  have RUN6 := hid run6
  clear run5 run6 own5 own6 g5 g6 hown0 hb5 rA rB rC hb4
  have HAB : Hid ((us ++ ts).length = k + m) := by rw [List.length_append, HA.out, HB.out]; exact rfl
  go_wp2_with (at_builtin; first
    | refine wpAppG (by rfl) (.tmp 39) (.tmp 40) 22 rfl _ _ _ rfl rfl RUN5.out ?_
    | refine wpAppG (by rfl) (.tmp 41) (.tmp 42) 22 rfl _ _ _ rfl rfl RUN6.out ?_)
  refine (rows_same C A6 (k + m) cc c6 (us ++ ts) w6 HAB.out (by omega) rC6 r6).mono ?_
  rintro e w7 ⟨rfl, hb7⟩
  replace hb7 := below2 hb6 hb7
  clear hb6 rC6 r6 RUN5 RUN6
  go_wp2_with fail
  refine (c1 _).mono ?_
  rintro e w8 ⟨rfl, rfl⟩
  go_wp2_with fail
  refine (c2 _).mono ?_
  rintro e w8 ⟨rfl, rfl⟩
  go_wp2_with fail
  refine (c3 _).mono ?_
  rintro e w8 ⟨rfl, rfl⟩
  go_wp2
  go_ret
  exact ⟨rfl, hb7⟩
end Go.Proofs.Ytodgcajehadaaaa
