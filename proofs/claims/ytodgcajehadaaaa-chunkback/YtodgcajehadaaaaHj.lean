/- ChunkBack. -/
import Derived.Test.YtodgcajehadaaaaHg
import Derived.Test.YtodgcajehadaaaaRs
namespace Go.Proofs.Ytodgcajehadaaaa
open Go.RowKit

set_option maxHeartbeats 2000000 in
theorem chunkBack_walk (s : ByteArray) (A : Option Addr) (c : Nat) (ls : List ByteArray) (w : World) (_ : s.size ≤ 140737488351232) (hr : Rd w A (strV ls)) (hlc : ls.length ≤ c) (hc : c * 16 ≤ 140737488351232) (hm : ∀ x ∈ ls, x.size ≤ 140737488351232) :
    Calls Try.prog 4 #[.string s, .slice A ls.length c] w fun e w' => e = .returned (.bool true) ∧ Below w.heap.size w w' := by
  obtain ⟨m, hlm⟩ : ∃ m, ls.length = m := ⟨_, rfl⟩
  rw [hlm] at hlc ⊢
  have HL := hid hlm
  clear hlm
  have hfew := fun (w' : World) (h : Rd w' A (strV ls)) => few_any A m c ls w' HL.out (by omega) h hm
  by_cases hok : fewB ls = true ∧ s.size ≤ 5000
  · obtain ⟨hf, hs⟩ := hok
    have HF := hid ((few_iff ls).1 hf)
    rw [hf] at hfew
    have hm100 : m ≤ 100 := by have := HF.out.1; rw [HL.out] at this; exact this
    have hs5 : ¬ (5000 : Int) < s.size := by omega
    have hcut := fun w => cut_any s w (by omega)
    have hcn := fun w => count_nat s.size w (by omega)
    rw [← pcsS_length] at hcn
    have hjoin := fun A n c w hl h hn => join_yes A n c (pcsS s) w hl h hn ((rightB_iff _).2 (cut_right s))
    rw [join_cut] at hjoin
    have hlen : (pcsS s).length ≤ 5000 := by rw [pcsS_length]; unfold cnt; omega
    generalize pcsS s = ps at *
    obtain ⟨n, hn⟩ : ∃ n, ps.length = n := ⟨_, rfl⟩
    simp only [hn] at hcut hlen hcn
    have HN := hid hn
    clear hn hf
    go_enter Try.func4, Try.ntmps4
    go_wp2_with fail
    refine (small_any _).mono ?_
    rintro e w1 ⟨rfl, b1⟩
    have r1 := hr.below b1
    go_wp2_with fail
    refine (hfew _ r1).mono ?_
    rintro e w2 ⟨rfl, rfl⟩
    clear hfew
    go_wp2_with fail
    refine (hcut _).mono ?_
    rintro e w2 ⟨A2, c2, rfl, hown, hb2⟩
    have r2 := r1.below hb2
    replace hb2 := below2 b1 hb2
    have p2 : Rd w2 A2 (strV ps) := Rd.of_own hown
    clear hown hcut b1 r1
    go_wp2_with fail
    refine (hjoin A2 n c2 w2 HN.out p2 (by omega)).mono ?_
    rintro e w3 ⟨rfl, hb3⟩
    have r3 := r2.below hb3
    replace hb3 := below2 hb2 hb3
    clear hjoin hb2 r2 p2
    go_wp2_with fail
    refine (hcn _).mono ?_
    rintro e w4 ⟨rfl, rfl⟩
    clear hcn
    cases hb : rightB ls with
    | true =>
      have hj := join_yes A m c ls w3 HL.out r3 (by omega) hb
      have hsz : (joinS ls).size ≤ 140737488355328 := by rw [← sizeL_join]; have := HF.out.2; omega
      have hcut := fun w => cut_any (joinS ls) w hsz
      rw [cut_join ls ((rightB_iff ls).1 hb)] at hcut
      simp only [HL.out] at hcut
      clear hb
      go_wp2_with fail
      refine hj.mono ?_
      rintro e w4 ⟨rfl, hb4⟩
      have r4 := r3.below hb4
      replace hb4 := below2 hb3 hb4
      clear hj hb3 r3
      go_wp2_with fail
      refine (hcut _).mono ?_
      rintro e w5 ⟨A5, c5, rfl, hown, hb5⟩
      have r5 := r4.below hb5
      replace hb5 := below2 hb4 hb5
      have p5 : Rd w5 A5 (strV ls) := Rd.of_own hown
      clear hown hcut hb4 r4
      go_wp2_with fail
      refine (rows_same A5 A m c5 c ls w5 HL.out (by omega) p5 r5).mono ?_
      rintro e w6 ⟨rfl, hb6⟩
      replace hb6 := below2 hb5 hb6
      clear hb5 p5 r5
      go_wp2
      go_ret
      exact ⟨rfl, hb6⟩
    | false =>
      have hj := join_no A m c ls w3 HL.out r3 (by omega) hb
      clear hb
      go_wp2_with fail
      refine hj.mono ?_
      rintro e w4 ⟨rfl, hb4⟩
      replace hb4 := below2 hb3 hb4
      clear hj hb3 r3
      go_wp2
      go_ret
      exact ⟨rfl, hb4⟩
  · by_cases hf : fewB ls = true
    · have hs5 : (5000 : Int) < s.size := by have : ¬ s.size ≤ 5000 := fun h => hok ⟨hf, h⟩; omega
      rw [hf] at hfew
      clear hf hok
      go_enter Try.func4, Try.ntmps4
      go_wp2_with fail
      refine (small_any _).mono ?_
      rintro e w1 ⟨rfl, b1⟩
      go_wp2_with fail
      refine (hfew _ (hr.below b1)).mono ?_
      rintro e w2 ⟨rfl, rfl⟩
      go_wp2
      go_ret
      exact ⟨rfl, b1⟩
    · rw [Bool.not_eq_true] at hf
      rw [hf] at hfew
      clear hf hok
      go_enter Try.func4, Try.ntmps4
      go_wp2_with fail
      refine (small_any _).mono ?_
      rintro e w1 ⟨rfl, b1⟩
      go_wp2_with fail
      refine (hfew _ (hr.below b1)).mono ?_
      rintro e w2 ⟨rfl, rfl⟩
      go_wp2
      go_ret
      exact ⟨rfl, b1⟩
end Go.Proofs.Ytodgcajehadaaaa
