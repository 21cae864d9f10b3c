/- The document's answers of layer 8: Count, Label, Cut, Join. -/
import Derived.Test.YtodgcajehadaaaaHg
import Derived.Test.YtodgcajehadaaaaRn
namespace Go.Proofs.Ytodgcajehadaaaa
open Go.RowKit

set_option maxHeartbeats 400000 in
theorem rcount_any (n : Int) (w : World) (hn : n ≤ 9223372036854775807) :
    Calls Try.prog 17 #[.int .i64 n] w fun e w' => e = .returned (.int .i64 (countI n)) ∧ w = w' := by
  by_cases h : n < 1
  · go_enter Try.func17, Try.ntmps17
    go_wp2
    go_ret
    exact ⟨ret_int (by unfold countI; rw [if_pos (by omega)]), rfl⟩
  · have h0 : 1 ≤ n := by omega
    go_enter Try.func17, Try.ntmps17
    go_wp2
    go_ret
    exact ⟨ret_int (by unfold countI; rw [if_neg (by omega)]), rfl⟩

set_option maxHeartbeats 400000 in
theorem rlabel_any (a b c : Int) (w : World) : Calls Try.prog 19 #[.int .i64 a, .int .i64 b, .int .i64 c] w fun e w' => e = .returned (.string (toB (labB a b c))) ∧ Below w.heap.size w w' := by
  go_enter Try.func19, Try.ntmps19
  go_wp2_with fail
  refine (refNumber none 0 0 [] a w rfl (.inl rfl) (by omega)).mono ?_
  rintro e w1 ⟨A1, c1, rfl, hown1, hb1⟩
  have r1 : Rd w1 A1 (by8 (numB a)) := Rd.of_own hown1
  clear hown1
  go_wp2_with fail
  refine (refNumber A1 4 c1 (numB a) b w1 rfl r1 (by omega)).mono ?_
  rintro e w2 ⟨A2, c2, rfl, hown2, hb2⟩
  have r2 : Rd w2 A2 (by8 (numB a ++ numB b)) := Rd.of_own hown2
  replace hb2 := below2 hb1 hb2
  clear hown2 r1 hb1
  go_wp2_with fail
  refine (refNumber A2 8 c2 (numB a ++ numB b) c w2 rfl r2 (by omega)).mono ?_
  rintro e w3 ⟨A3, c3, rfl, hown3, hb3⟩
  have r3 : Rd w3 A3 (by8 (labB a b c)) := Rd.of_own hown3
  replace hb3 := below2 hb2 hb3
  have hcv := conv_rd (P := Try.prog) w3 38 9 5 Try.underlying38 Try.underlying5 Try.underlying9 A3 12 c3 (labB a b c) rfl r3
  clear hown3 r2 hb2 r3
  go_wp2
  go_ret
  exact ⟨rfl, hb3⟩

theorem pcs_step (x : ByteArray) (h : 0 < x.size) : pcsS x = x.extract 0 (min (x.size : Int) 64).toNat :: pcsS (x.extract (min (x.size : Int) 64).toNat x.size) := by
  have hz := unB_size x
  have e1 : ∀ i j, unB (x.extract i j) = ((unB x).drop i).take (j - i) := fun i j => by simp only [unB]; rw [ByteArray.data_extract, Array.toList_extract, List.extract]
  unfold pcsS
  rw [e1, show x.extract 0 (min (x.size : Int) 64).toNat = toB (unB (x.extract 0 (min (x.size : Int) 64).toNat)) from (toB_unB _).symm, e1, ← List.map_cons]
  congr 1
  rw [List.drop_zero, Nat.sub_zero, List.take_of_length_le (l := List.drop _ _) (by rw [List.length_drop]; omega)]
  by_cases hs : x.size ≤ 64
  · rw [show (min (x.size : Int) 64).toNat = x.size by omega, List.take_of_length_le (by omega), List.drop_of_length_le (by omega), pcs_one _ (by omega) (by omega), pcs_nil]
  · rw [show (min (x.size : Int) 64).toNat = 64 by omega]
    conv => lhs; rw [← List.take_append_drop 64 (unB x)]
    exact pcs_cons _ _ (by rw [List.length_take]; omega)
theorem pcs_none (x : ByteArray) (h : x.size = 0) : pcsS x = [] := by
  have : unB x = [] := List.eq_nil_of_length_eq_zero (by rw [unB_size]; exact h)
  unfold pcsS
  rw [this]
  rfl
/-- How long a string is. -/
def lenS : Value → Nat
  | .string s => s.size
  | _ => 0

set_option maxHeartbeats 1000000 in
theorem rcut_any (s : ByteArray) (w : World) (hs : s.size ≤ 140737488355328) :
    Calls Try.prog 15 #[.string s] w fun e w' => ∃ A c, e = .returned (.slice A (pcsS s).length c) ∧ w'.ownsRow w.heap.size 9 1 (.slice A (pcsS s).length c) (pcsS s).length (strV (pcsS s)) ∧ Below w.heap.size w w' := by
  have hlen : (pcsS s).length * 16 ≤ 140737488355328 := by rw [pcsS_length]; unfold cnt; omega
  generalize hps : pcsS s = ps at *
  have HP := hid hps
  clear hps
  go_enter Try.func15, Try.ntmps15
  go_wp2_with fail
  go_loopw [0, 3] (fun v o wr => ∃ (x : ByteArray) (ls : List ByteArray) (A : Option Addr) (c : Nat), x.size ≤ 140737488355328 ∧ v = .string x ∧ o = .slice A ls.length c ∧ Hid (ps = ls ++ pcsS x) ∧ wr.ownsRow w.heap.size 9 1 (.slice A ls.length c) ls.length (strV ls) ∧ Below w.heap.size w wr) (fun v _ _ => lenS v)
  case atStart => exact ⟨s, [], none, 0, hs, rfl, rfl, HP.out.symm, World.ownsRow_nil _ _ _ _, Below.refl _ _⟩
  case round =>
    obtain ⟨x, ls, A, c, hx, rfl, rfl, HS, hown, hb⟩ := hrel
    by_cases h0 : (0 : Int) < x.size
    · have hst := pcs_step x (by omega)
      have hl1 : (ls.length + 1) * 16 ≤ 140737488355328 := by
        have := congrArg List.length HS.out
        rw [hst, List.length_append, List.length_cons] at this
        omega
      have HST := hid hst
      clear hst
      have hxs : (x.extract (min (x.size : Int) 64).toNat x.size).size ≤ x.size - 1 := by rw [ByteArray.size_extract]; omega
      generalize hk : ls.length = k at *
      go_wp2_with (at_builtin; refine wpApp _ rfl _ _ 22 rfl w.heap.size 9 (.string ⟨#[]⟩) 16 Try.underlying22 Try.infoS rfl A k c _ rfl (hown.alloc _) _ 1 1 (strV [x.extract 0 (min (x.size : Int) 64).toNat]) rfl rfl (.inr ⟨_, rfl, new_cells wr 9 (strV [x.extract 0 (min (x.size : Int) 64).toNat])⟩) (strV_one _) (by omega) (by have := hb.size; simp; omega) (by omega) ?_)
      intro A1 c1 w1 hown1 hg1
      have hb1 := (hb.alloc hb.size _).grown hg1 (by have := hb.size; simp; omega) (own_app_block hown)
      rw [← strV_append] at hown1
      clear hown hg1
      go_wp2
      go_roundw
      case rel =>
        refine ⟨_, ls ++ [x.extract 0 (min (x.size : Int) 64).toNat], A1, c1, by omega, rfl, by simp [hk], ?_, by simpa [hk] using hown1, hb1⟩
        show _ = _
        rw [HS.out, HST.out, List.append_assoc]
        rfl
      case measure => exact Nat.lt_of_le_of_lt hxs (show x.size - 1 < x.size by omega)
    · have h1 : x.size = 0 := by omega
      have e : ps = ls := by rw [HS.out, pcs_none x h1, List.append_nil]
      subst e
      go_wp2
      go_ret
      exact ⟨A, c, rfl, hown, hb⟩

theorem join_snoc (l : List ByteArray) (x : ByteArray) : joinS l ++ x = joinS (l ++ [x]) := by
  apply unB_inj
  simp [joinS, unB, toB, ByteArray.data_append]
set_option maxHeartbeats 1000000 in
theorem rjoin_any (A : Option Addr) (n c : Nat) (ls : List ByteArray) (w : World) (hl : ls.length = n) (hr : Rd w A (strV ls)) (hn : n ≤ 1000000) :
    Calls Try.prog 12 #[.slice A n c] w fun e w' => (rightB ls = true ∧ e = .returned (.tuple #[.string (joinS ls), .bool true]) ∨ rightB ls = false ∧ e = .returned (.tuple #[.string ⟨#[]⟩, .bool false])) ∧ w = w' := by
  have HL := hid hl
  clear hl
  go_enter Try.func12, Try.ntmps12
  go_wp2_with fail
  go_loop [4, 5] (fun v i => ∃ (j : Nat) (x : ByteArray), j ≤ n ∧ x.size ≤ j * 64 ∧ i = .int .i64 j ∧ v = .string x ∧ Hid (x = joinS (ls.take j)) ∧ Hid (∀ i (hi : i < ls.length), i < j → FitP n i ls[i])) (fun _ i => n - (intOf i).toNat)
  case atStart => exact ⟨0, ⟨#[]⟩, by omega, by decide, rfl, rfl, hid rfl, fun _ _ h => absurd h (by omega)⟩
  case round =>
    obtain ⟨j, y, hj, hy, rfl, rfl, HY, HJ⟩ := hrel
    by_cases hjn : j < n
    · have hjl : j < ls.length := by rw [HL.out]; exact hjn
      obtain ⟨b, off, rfl, hc, -⟩ := hr.at_ (k := j) (by rw [strV_length]; exact hjl)
      have h1 : w.cell? ⟨b, off + j, none⟩ = some (.string ls[j]) := by rw [hc]; simp [strV]
      clear hc
      have HF : Hid (FitP n j ls[j] → ∀ i (hi : i < ls.length), i < j + 1 → FitP n i ls[i]) := fun hf i hi hlt => by
        by_cases e : i = j
        · subst e; exact hf
        · exact HJ.out i hi (by omega)
      have HN : Hid (¬ FitP n j ls[j] → rightB ls = false) := fun hf => rightB_not hjl (by rw [HL.out]; exact hf)
      have HYN : Hid (y ++ ls[j] = joinS (ls.take (j + 1))) := by
        rw [HY.out, List.take_succ_eq_append_getElem hjl]
        exact join_snoc _ _
      generalize hx : ls[j] = x at *
      clear hx
      have hlt : (j : Int) < n := by omega
      by_cases hlast : j = n - 1
      · have hq : ¬ (j : Int) < (n : Int) - 1 := by omega
        by_cases hs1 : (x.size : Int) < 1
        · have HX : Hid (rightB ls = false) := HN.out (by unfold FitP; rw [if_pos hlast]; omega)
          have HLS := hid hlast
          clear hlast
          go_wp2
          go_ret2
          exact ⟨.inr ⟨HX.out, rfl⟩, rfl⟩
        · by_cases hs2 : (64 : Int) < x.size
          · have HX : Hid (rightB ls = false) := HN.out (by unfold FitP; rw [if_pos hlast]; omega)
            have HLS := hid hlast
            clear hlast
            go_wp2
            go_ret2
            exact ⟨.inr ⟨HX.out, rfl⟩, rfl⟩
          · have HX := hid (HF.out (by unfold FitP; rw [if_pos hlast]; omega))
            have HLS := hid hlast
            clear hlast
            have hadd : y.size + x.size ≤ 9223372036854775807 := by omega
            have hys : (y ++ x).size ≤ (j + 1) * 64 := by rw [ByteArray.size_append]; omega
            go_wp2
            go_round
            case rel => exact ⟨j + 1, _, by omega, hys, by go_num, rfl, HYN, HX⟩
            case measure => simp [intOf]; omega
      · have hq : (j : Int) < (n : Int) - 1 := by omega
        by_cases hs1 : x.size = 64
        · have HX := hid (HF.out (by unfold FitP; rw [if_neg hlast]; omega))
          have hadd : y.size + x.size ≤ 9223372036854775807 := by omega
          have hys : (y ++ x).size ≤ (j + 1) * 64 := by rw [ByteArray.size_append]; omega
          have hs2 : ((x.size : Int) != 64) = false := by simp [hs1]
          have hs3 : ¬ (x.size : Int) < 1 := by omega
          have hs4 : ¬ (64 : Int) < x.size := by omega
          have HLS := hid hlast
          have HL1 := hid hs1
          clear hlast hs1
          go_wp2
          go_round
          case rel => exact ⟨j + 1, _, by omega, hys, by go_num, rfl, HYN, HX⟩
          case measure => simp [intOf]; omega
        · have HX : Hid (rightB ls = false) := HN.out (by unfold FitP; rw [if_neg hlast]; omega)
          have hs2 : ((x.size : Int) != 64) = true := by simp; omega
          have HLS := hid hlast
          have HL1 := hid hs1
          clear hlast hs1
          go_wp2
          go_ret2
          exact ⟨.inr ⟨HX.out, rfl⟩, rfl⟩
    · have e : n = j := by omega
      subst e
      have HX : Hid (rightB ls = true) := rightB_all (fun i hi => by rw [HL.out]; exact HJ.out i hi (by rw [← HL.out]; exact hi))
      have HE : Hid (y = joinS ls) := by rw [HY.out, List.take_of_length_le (by rw [HL.out]; omega)]; exact rfl
      go_wp2
      go_ret2
      exact ⟨.inl ⟨HX.out, by rw [← HE.out]; rfl⟩, rfl⟩
end Go.Proofs.Ytodgcajehadaaaa
