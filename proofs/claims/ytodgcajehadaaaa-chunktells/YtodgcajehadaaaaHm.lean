/- ChunkTells. -/
import Derived.Test.YtodgcajehadaaaaHl
import Derived.Test.YtodgcajehadaaaaRs
namespace Go.Proofs.Ytodgcajehadaaaa
open Go.RowKit

theorem wf_le {x : Int} (h : (Lit.int .i64 x).wf = true) : x ≤ 9223372036854775807 := by
  have e : IntKind.i64.min = -9223372036854775808 := rfl
  simp [Lit.wf, e] at h
  exact h.2

set_option maxHeartbeats 2000000 in
theorem chunkTells_walk (s : ByteArray) (A : Option Addr) (c : Nat) (ls : List ByteArray) (x y z : Int) (w : World) (_ : s.size ≤ 140737488351232) (hr : Rd w A (strV ls)) (hlc : ls.length ≤ c) (hc : c * 16 ≤ 140737488351232) (hm : ∀ x ∈ ls, x.size ≤ 140737488351232)
    (hx : (Lit.int .i64 x).wf = true) (_ : (Lit.int .i64 y).wf = true) (_ : (Lit.int .i64 z).wf = true) :
    Calls Try.prog 3 #[.string s, .slice A ls.length c, .int .i64 x, .int .i64 y, .int .i64 z] w fun e w' => e = .returned (.bool true) ∧ Below w.heap.size w w' := by
  obtain ⟨m, hlm⟩ : ∃ m, ls.length = m := ⟨_, rfl⟩
  rw [hlm] at hlc ⊢
  have HL := hid hlm
  clear hlm
  have hfew := fun (w' : World) (h : Rd w' A (strV ls)) => few_any A m c ls w' HL.out (by omega) h hm
  have c1 := fun w => count_any x w (wf_le hx)
  have c2 := fun w => rcount_any x w (wf_le hx)
  by_cases hok : fewB ls = true ∧ s.size ≤ 5000
  · obtain ⟨hf, hs⟩ := hok
    have HF := hid ((few_iff ls).1 hf)
    rw [hf] at hfew
    have hm100 : m ≤ 100 := by have := HF.out.1; rw [HL.out] at this; exact this
    have hs5 : ¬ (5000 : Int) < s.size := by omega
    have hcut := fun w => cut_any s w (by omega)
    have hrcut := fun w => rcut_any s w (by omega)
    have hlen : (pcsS s).length ≤ 5000 := by rw [pcsS_length]; unfold cnt; omega
    generalize pcsS s = ps at *
    obtain ⟨n, hn⟩ : ∃ n, ps.length = n := ⟨_, rfl⟩
    simp only [hn] at hcut hlen hrcut
    have HN := hid hn
    clear hn hf
    obtain ⟨J, b, hJ, hRJ⟩ : ∃ (J : ByteArray) (b : Bool), (∀ w', Rd w' A (strV ls) → Calls Try.prog 11 #[.slice A m c] w' fun e w'' => e = .returned (.tuple #[.string J, .bool b]) ∧ Below w'.heap.size w' w'') ∧
        (∀ w', Rd w' A (strV ls) → Calls Try.prog 12 #[.slice A m c] w' fun e w'' => e = .returned (.tuple #[.string J, .bool b]) ∧ w' = w'') := by
      cases hb : rightB ls with
      | true =>
        refine ⟨joinS ls, true, fun w' h => join_yes A m c ls w' HL.out h (by omega) hb, fun w' h => (rjoin_any A m c ls w' HL.out h (by omega)).mono ?_⟩
        rintro e w'' ⟨⟨-, rfl⟩ | ⟨h2, -⟩, rfl⟩
        · exact ⟨rfl, rfl⟩
        · rw [hb] at h2; cases h2
      | false =>
        refine ⟨⟨#[]⟩, false, fun w' h => join_no A m c ls w' HL.out h (by omega) hb, fun w' h => (rjoin_any A m c ls w' HL.out h (by omega)).mono ?_⟩
        rintro e w'' ⟨⟨h2, -⟩ | ⟨-, rfl⟩, rfl⟩
        · rw [hb] at h2; cases h2
        · exact ⟨rfl, rfl⟩
    go_enter Try.func3, Try.ntmps3
    go_wp2_with fail
    refine (small_any _).mono ?_
    rintro e w1 ⟨rfl, b1⟩
    have r1 := hr.below b1
    go_wp2_with fail
    refine (hfew _ r1).mono ?_
    rintro e w2 ⟨rfl, rfl⟩
    clear hfew
    go_wp2_with fail
    refine (hJ _ r1).mono ?_
    rintro e w2 ⟨rfl, hb2⟩
    have r2 := r1.below hb2
    replace hb2 := below2 b1 hb2
    clear hJ b1 r1
    go_wp2_with fail
    refine (hRJ _ r2).mono ?_
    rintro e w3 ⟨rfl, rfl⟩
    clear hRJ r2
    go_wp2_with fail
    refine (hcut _).mono ?_
    rintro e w3 ⟨A3, c3, rfl, hown, hb3⟩
    have p3 : Rd w3 A3 (strV ps) := Rd.of_own hown
    replace hb3 := below2 hb2 hb3
    clear hown hcut hb2
    go_wp2_with fail
    refine (hrcut _).mono ?_
    rintro e w4 ⟨A4, c4, rfl, hown, hb4⟩
    have p4 : Rd w4 A4 (strV ps) := Rd.of_own hown
    replace p3 := p3.below hb4
    replace hb4 := below2 hb3 hb4
    clear hown hrcut hb3
    go_wp2_with fail
    refine (rows_same A3 A4 n c3 c4 ps w4 HN.out (by omega) p3 p4).mono ?_
    rintro e w5 ⟨rfl, hb5⟩
    replace hb5 := below2 hb4 hb5
    clear p3 p4 hb4
    go_wp2_with fail
    refine (c1 _).mono ?_
    rintro e w6 ⟨rfl, rfl⟩
    go_wp2_with fail
    refine (c2 _).mono ?_
    rintro e w6 ⟨rfl, rfl⟩
    go_wp2_with fail
    refine (label_any _ _ _ _).mono ?_
    rintro e w6 ⟨rfl, hb6⟩
    replace hb6 := below2 hb5 hb6
    go_wp2_with fail
    refine (rlabel_any _ _ _ _).mono ?_
    rintro e w7 ⟨rfl, hb7⟩
    replace hb7 := below2 hb6 hb7
    go_wp2
    go_ret
    exact ⟨rfl, hb7⟩
  · by_cases hf : fewB ls = true
    · have hs5 : (5000 : Int) < s.size := by have : ¬ s.size ≤ 5000 := fun h => hok ⟨hf, h⟩; omega
      rw [hf] at hfew
      clear hf hok
      go_enter Try.func3, Try.ntmps3
      go_wp2_with fail
      refine (small_any _).mono ?_
      rintro e w1 ⟨rfl, b1⟩
      go_wp2_with fail
      refine (hfew _ (hr.below b1)).mono ?_
      rintro e w2 ⟨rfl, rfl⟩
      go_wp2
      go_ret
      exact ⟨rfl, b1⟩
    · rw [Bool.not_eq_true] at hf
      rw [hf] at hfew
      clear hf hok
      go_enter Try.func3, Try.ntmps3
      go_wp2_with fail
      refine (small_any _).mono ?_
      rintro e w1 ⟨rfl, b1⟩
      go_wp2_with fail
      refine (hfew _ (hr.below b1)).mono ?_
      rintro e w2 ⟨rfl, rfl⟩
      go_wp2
      go_ret
      exact ⟨rfl, b1⟩
end Go.Proofs.Ytodgcajehadaaaa
