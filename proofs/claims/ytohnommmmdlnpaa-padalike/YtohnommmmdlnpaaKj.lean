/- PadAlike: the walk. -/
import Derived.Test.YtohnommmmdlnpaaKi
import Derived.Deep.QuietTactic
import Derived.BigQuiet
namespace Go.Proofs.Ytohnommmmdlnpaa
open Go.RowKit

/-- The first j bytes are others. -/
def xorL (b : UInt8) (l : List UInt8) (j : Nat) : List UInt8 := (l.take j).map (· ^^^ b) ++ l.drop j
theorem xorL_length (b : UInt8) (l : List UInt8) (j : Nat) : (xorL b l j).length = l.length := by
  simp [xorL]
  omega
theorem xorL_at (b : UInt8) (l : List UInt8) (j : Nat) (h : j < l.length) : (xorL b l j)[j]? = some l[j] := by
  unfold xorL
  rw [List.getElem?_append_right (by simp; omega)]
  simp [show min j l.length = j by omega, h]
theorem xorL_step (b : UInt8) (l : List UInt8) (j : Nat) (h : j < l.length) : (xorL b l j).set j (l[j] ^^^ b) = xorL b l (j + 1) := by
  unfold xorL
  have hm : ((l.take j).map (· ^^^ b)).length = j := by simp; omega
  rw [List.set_append_right _ _ (by omega), hm, Nat.sub_self, List.drop_eq_getElem_cons h, List.set_cons_zero, List.take_succ_eq_append_getElem h, List.map_append, List.append_assoc]
  rfl
theorem xorL_zero (b : UInt8) (l : List UInt8) : xorL b l 0 = l := by simp [xorL]
theorem pad_parts (s : ByteArray) (h : s.size ≤ 5116) : padL s = numB s.size ++ s.data.toList ++ zer (sizeN s.size - (4 + s.size)) := by
  unfold padL zer
  rw [strB_short s (by omega)]
theorem extract_lists (s : ByteArray) (i j : Nat) : (s.extract i j).data.toList = (s.data.toList.take j).drop i := by
  simp [ByteArray.data_extract, Array.toList_extract, List.extract, List.drop_take]
theorem ext_toS {s : ByteArray} {l : List UInt8} (h : s.data.toList = l) : s = toS l := by rw [← h, toS_data]
theorem pad_head4 (s : ByteArray) (h : s.size ≤ 5116) : (padB s).extract 0 4 = toS (numB s.size) := by
  refine ext_toS ?_
  rw [extract_lists, padB_data, pad_parts s h, List.drop_zero, List.append_assoc, List.take_left' (by rfl)]
theorem pad_mid (s : ByteArray) (h : s.size ≤ 5116) : (padB s).extract 4 (4 + s.size) = s := by
  rw [← toS_data s]
  refine ext_toS ?_
  rw [toS_data, extract_lists, padB_data, pad_parts s h, List.take_left' (by rw [List.length_append, size_list]; rfl), List.drop_left' (by rfl)]
theorem pad_tail (s : ByteArray) (h : s.size ≤ 5116) : (padB s).extract (4 + s.size) (padB s).size = toS (zer (sizeN s.size - (4 + s.size))) := by
  refine ext_toS ?_
  rw [extract_lists, padB_data, List.take_of_length_le (by rw [padB_size s h, padL_length s h]; exact Nat.le_refl _), pad_parts s h, List.drop_left' (by rw [List.length_append, size_list]; rfl)]

set_option maxHeartbeats 4000000 in
set_option maxRecDepth 20000 in
theorem padAlike_walk (s : ByteArray) (z : Int) (w : World) (_ : s.size ≤ 140737488351232) (hz : (Lit.int .u8 z).wf = true) :
    Calls Try.prog 7 #[.string s, .int .u8 z] w fun e w' => e = .returned (.bool true) ∧ Below w.heap.size w w' := by
  obtain ⟨b, rfl⟩ : ∃ b : UInt8, (b.toNat : Int) = z := ⟨UInt8.ofNat z.toNat, by have := bounds_u8 hz; simp; omega⟩
  clear hz
  go_enter Try.func7, Try.ntmps7
  go_wp2_with fail
  refine (small_any _).mono ?_
  rintro e w1 ⟨rfl, b1⟩
  by_cases h1 : (5200 : Int) < s.size
  · go_wp2
    go_ret
    exact ⟨rfl, b1⟩
  obtain ⟨c2, w2, hcv, hbs, hb2⟩ := conv_bytes s w1
  have b2 := below2 b1 hb2
  have hw1 := b1.size
  clear b1 hb2
  go_wp2_with fail
  go_loopw [7] (fun i wr => ∃ j : Nat, j ≤ s.size ∧ i = .int .i64 j ∧ Bytes8 wr w1.heap.size (xorL b s.data.toList j) ∧ Below w.heap.size w wr) (fun i _ => s.size - (intOf i).toNat)
  case atStart => exact ⟨0, by omega, rfl, by rw [xorL_zero]; exact hbs, b2⟩
  case round =>
    clear hbs b2 hcv
    obtain ⟨j, hj, rfl, hby, b3⟩ := hrel
    by_cases hjn : j < s.size
    · have hjl : j < s.data.toList.length := by rw [size_list]; exact hjn
      have hjx : j < (xorL b s.data.toList j).length := by rw [xorL_length]; exact hjl
      have hc0 := hby.cell j hjx
      have hf0 := hby.frozen j hjx
      have e0 : (xorL b s.data.toList j)[j] = s.data.toList[j] := by
        have h := xorL_at b s.data.toList j hjl
        rw [List.getElem?_eq_getElem hjx] at h
        injection h
      rw [e0] at hc0
      have hx := xor_u8 s.data.toList[j] b
      have hst := hby.set_ j (s.data.toList[j] ^^^ b)
      rw [xorL_step b s.data.toList j hjl] at hst
      generalize s.data.toList[j] = a at *
      generalize a ^^^ b = c at *
      have b4 := b3.setCell (p := ⟨w1.heap.size, j, none⟩) hw1 (.int .u8 (c.toNat : Int))
      clear hby b3 e0
      go_wp2
      go_roundw
      case rel => exact ⟨j + 1, by omega, by go_num, hst, b4⟩
      case measure => simp [intOf]; omega
    · obtain rfl : j = s.size := by omega
      have HXL := hid (xorL_length b s.data.toList s.size)
      obtain ⟨u, hu⟩ : ∃ u, toS (xorL b s.data.toList s.size) = u := ⟨_, rfl⟩
      have HUD : Hid (u.data.toList = xorL b s.data.toList s.size) := by show _ = _; rw [← hu]; rfl
      have HUZ : Hid (u.size = s.size) := by show _ = _; rw [← hu, toS_size, HXL.out, size_list]
      rw [← HUD.out] at hby
      clear hu HUD HXL
      by_cases hs : s.size ≤ 5116
      · have hus : u.size ≤ 5116 := by rw [HUZ.out]; exact hs
        go_wp2_with fail
        refine (pad_yes s _ hs).mono ?_
        rintro e w4 ⟨rfl, b4⟩
        have hby4 := hby.below b4
        replace b4 := below2 b3 b4
        have hcv4 : (convert 23 9 (.slice (some ⟨w1.heap.size, 0, none⟩) s.size c2)).run Try.prog w4 = .ok (.string u) w4 :=
          conv_rd _ 23 9 5 Try.underlying23 Try.underlying5 Try.underlying9 _ s.size c2 u.data.toList (by rw [size_list]; exact HUZ.out) hby4.rd
        clear hby b3
        go_wp2_with fail
        refine (pad_yes u _ hus).mono ?_
        rintro e w5 ⟨rfl, b5⟩
        have hby5 := hby4.below b5
        replace b5 := below2 b4 b5
        have hcv5 : ∀ k, (convert 23 9 (.slice (some ⟨w1.heap.size, 0, none⟩) s.size c2)).run Try.prog (w5.drewN k) = .ok (.string u) (w5.drewN k) := fun k =>
          conv_rd (w5.drewN k) 23 9 5 Try.underlying23 Try.underlying5 Try.underlying9 _ s.size c2 u.data.toList (by rw [size_list]; exact HUZ.out) hby5.rd
        clear hcv4 hby4 b4 hby5
        have A1 := pad_head4 s hs
        have A2 := pad_mid s hs
        have A3 := pad_tail s hs
        have B1 := pad_head4 u hus
        have B2 := pad_mid u hus
        have B3 := pad_tail u hus
        have hpz := padB_size s hs
        have hqz := padB_size u hus
        have hge := sizeN_ge s.size hs
        rw [HUZ.out] at B1 B2 B3 hqz
        rw [hpz] at A3
        rw [hqz] at B3
        generalize padB s = p at *
        generalize padB u = q at *
        generalize sizeN s.size = N at *
        generalize toS (numB s.size) = H at *
        generalize toS (zer (N - (4 + s.size))) = T at *
        have hNi : (4 : Int) + s.size ≤ N := by omega
        have hN4 : (4 : Int) ≤ N := by omega
        have hwr : IntKind.i64.wrap (4 + (s.size : Int)) = 4 + s.size := IntWalk.i64_in _ (by omega)
        have htn : (4 + (s.size : Int)).toNat = 4 + s.size := by omega
        have hle : (4 : Int) ≤ 4 + s.size := by omega
        have hnn : (0 : Int) ≤ 4 + s.size := by omega
        go_wp2_with fail
        go_quiet (fail)
        go_wp2
        go_ret
        exact ⟨rfl, ⟨b5.os, b5.tape, b5.output, b5.size, b5.block⟩⟩
      · have hus : 5116 < u.size := by rw [HUZ.out]; omega
        go_wp2_with fail
        refine (pad_no s _ (by omega)).mono ?_
        rintro e w4 ⟨rfl, b4⟩
        have hby4 := hby.below b4
        replace b4 := below2 b3 b4
        have hcv4 : (convert 23 9 (.slice (some ⟨w1.heap.size, 0, none⟩) s.size c2)).run Try.prog w4 = .ok (.string u) w4 :=
          conv_rd _ 23 9 5 Try.underlying23 Try.underlying5 Try.underlying9 _ s.size c2 u.data.toList (by rw [size_list]; exact HUZ.out) hby4.rd
        clear hby b3
        go_wp2_with fail
        refine (pad_no u _ hus).mono ?_
        rintro e w5 ⟨rfl, b5⟩
        replace b5 := below2 b4 b5
        clear hcv4 hby4 b4
        go_wp2
        go_ret
        exact ⟨rfl, b5⟩
end Go.Proofs.Ytohnommmmdlnpaa
