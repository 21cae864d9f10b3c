/- Package chunk: arePieces, Join, Label. -/
import Derived.Test.YtodgcajehadaaaaHa
import Derived.Test.YtodgcajehadaaaaBld
import Derived.Test.YtodgcajehadaaaaWa
import Derived.Handy
namespace Go.Proofs.Ytodgcajehadaaaa
open Go.RowKit

instance (l : List (List UInt8)) : Decidable (RightI l) := by unfold RightI; infer_instance
/-- Are these a string's pieces? -/
def rightB (l : List ByteArray) : Bool := decide (RightI (l.map unB))
theorem rightB_iff (l : List ByteArray) : rightB l = true ↔ rightS l := by simp [rightB, rightS]
/-- One of them, at i of n. -/
def FitP (n i : Nat) (x : ByteArray) : Prop := (if i = n - 1 then 1 else 64) ≤ x.size ∧ x.size ≤ 64
theorem rightB_all {l : List ByteArray} (h : ∀ i (hi : i < l.length), FitP l.length i l[i]) : rightB l = true := by
  rw [rightB_iff]
  intro i hi
  have := h i (by simpa using hi)
  simpa [FitP, unB_size] using this
theorem rightB_not {l : List ByteArray} {i : Nat} (hi : i < l.length) (h : ¬ FitP l.length i l[i]) : rightB l = false := by
  rw [Bool.eq_false_iff]
  intro hr
  have := (rightB_iff l).1 hr i (by simpa using hi)
  exact h (by simpa [FitP, unB_size] using this)
theorem right_sizes {l : List ByteArray} (h : rightB l = true) : ∀ x ∈ l, x.size ≤ 64 := by
  intro x hx
  obtain ⟨i, hi, rfl⟩ := List.getElem_of_mem hx
  have := ((rightB_iff l).1 h i (by simpa using hi)).2
  simpa [unB_size] using this

set_option maxHeartbeats 1000000 in
theorem arePieces_any (A : Option Addr) (n c : Nat) (ls : List ByteArray) (w : World) (hl : ls.length = n) (hr : Rd w A (strV ls)) (hn : n ≤ 140737488355328) :
    Calls Try.prog 20 #[.slice A n c] w fun e w' => e = .returned (.bool (rightB ls)) ∧ w = w' := by
  have HL := hid hl
  clear hl
  go_enter Try.func20, Try.ntmps20
  go_wp2_with fail
  go_loop [8] (fun i => ∃ j : Nat, j ≤ n ∧ i = .int .i64 j ∧ Hid (∀ i (hi : i < ls.length), i < j → FitP n i ls[i])) (fun i => n - (intOf i).toNat)
  case atStart => exact ⟨0, by omega, rfl, fun _ _ h => absurd h (by omega)⟩
  case round =>
    obtain ⟨j, hj, rfl, HJ⟩ := hrel
    by_cases hjn : j < n
    · have hjl : j < ls.length := by rw [HL.out]; exact hjn
      obtain ⟨b, off, rfl, hc, -⟩ := hr.at_ (k := j) (by rw [strV_length]; exact hjl)
      have h1 : w.cell? ⟨b, off + j, none⟩ = some (.string ls[j]) := by rw [hc]; simp [strV]
      clear hc
      have HF : Hid (FitP n j ls[j] → ∀ i (hi : i < ls.length), i < j + 1 → FitP n i ls[i]) := fun hf i hi hlt => by
        by_cases e : i = j
        · subst e; exact hf
        · exact HJ.out i hi (by omega)
      have HN : Hid (¬ FitP n j ls[j] → rightB ls = false) := fun hf => rightB_not hjl (by rw [HL.out]; exact hf)
      generalize hx : ls[j] = x at *
      clear hx
      have hlt : (j : Int) < n := by omega
      by_cases hlast : j = n - 1
      · have e1 : (j : Int) = (n : Int) - 1 := by omega
        have HE := hid e1
        have hq : ((j : Int) == (n : Int) - 1) = true := by simp [e1]
        clear e1
        by_cases hs1 : x.size < 1
        · have HX : Hid (rightB ls = false) := HN.out (by unfold FitP; rw [if_pos hlast]; omega)
          have HLS := hid hlast
          clear hlast
          go_wp2
          go_ret
          exact ⟨ret_bool HX.out.symm, rfl⟩
        · by_cases hs2 : 64 < x.size
          · have HX : Hid (rightB ls = false) := HN.out (by unfold FitP; rw [if_pos hlast]; omega)
            have HLS := hid hlast
            clear hlast
            go_wp2
            go_ret
            exact ⟨ret_bool HX.out.symm, rfl⟩
          · have HX := hid (HF.out (by unfold FitP; rw [if_pos hlast]; omega))
            have HLS := hid hlast
            clear hlast
            go_wp2
            go_round
            case rel => exact ⟨j + 1, by omega, by go_num, HX⟩
            case measure => simp [intOf]; omega
      · have e1 : ¬ (j : Int) = (n : Int) - 1 := by omega
        have HE := hid e1
        have hq : ((j : Int) == (n : Int) - 1) = false := by simp [e1]
        clear e1
        by_cases hs1 : x.size < 64
        · have HX : Hid (rightB ls = false) := HN.out (by unfold FitP; rw [if_neg hlast]; omega)
          have HLS := hid hlast
          clear hlast
          go_wp2
          go_ret
          exact ⟨ret_bool HX.out.symm, rfl⟩
        · by_cases hs2 : 64 < x.size
          · have HX : Hid (rightB ls = false) := HN.out (by unfold FitP; rw [if_neg hlast]; omega)
            have HLS := hid hlast
            clear hlast
            go_wp2
            go_ret
            exact ⟨ret_bool HX.out.symm, rfl⟩
          · have HX := hid (HF.out (by unfold FitP; rw [if_neg hlast]; omega))
            have HLS := hid hlast
            clear hlast
            go_wp2
            go_round
            case rel => exact ⟨j + 1, by omega, by go_num, HX⟩
            case measure => simp [intOf]; omega
    · have e : n = j := by omega
      subst e
      have HX : Hid (rightB ls = true) := rightB_all (fun i hi => by rw [HL.out]; exact HJ.out i hi (by rw [← HL.out]; exact hi))
      go_wp2
      go_ret
      exact ⟨ret_bool HX.out.symm, rfl⟩
end Go.Proofs.Ytodgcajehadaaaa
