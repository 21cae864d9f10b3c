/- WireBack: the walk. -/
import Derived.Test.YtpiinamfibhjdaaPa
namespace Go.Proofs.Ytpiinamfibhjdaa
open Go.RowKit

set_option maxHeartbeats 2000000 in
set_option maxRecDepth 100000 in
theorem wireBack_walk (n : Int) (s : ByteArray) (A : Option Addr) (c : Nat) (ls : List ByteArray) (m : Int) (w : World) (_ : (Lit.int .i64 n).wf = true) (hs : s.size ≤ 140737488351232) (hr : Rd w A (strV ls)) (hlc : ls.length ≤ c) (hc : c * 16 ≤ 140737488351232) (hss : ∀ s ∈ ls, s.size ≤ maxLen) (_ : (Lit.int .i64 m).wf = true) :
    Calls Try.prog 5 #[.int .i64 n, .string s, .slice A ls.length c, .int .i64 m] w fun e w' => e = .returned (.bool true) ∧ Below w.heap.size w w' := by
  have HSS := hid hss
  clear hss
  go_enter Try.func5, Try.ntmps5
  go_wp2_with fail
  refine (small_any _).mono ?_
  rintro e w1 ⟨rfl, hb1⟩
  have hr1 := hr.below hb1
  clear hr
  go_wp2_with fail
  refine (few_any A ls.length c ls _ rfl (by omega) hr1).mono ?_
  rintro e wx ⟨bo, rfl, rfl⟩
  go_upto_region 3 with (fail)
  go_cut [43] (fun x wx => w1 = wx ∧ ∃ t, x = .bool t ∧ (t = false → s.size ≤ 16384 ∧ ls.length ≤ 256 ∧ 0 ≤ n ∧ 0 ≤ m ∧ n ≤ 4294967295 ∧ m ≤ 4294967295))
  case first =>
    cases bo
    all_goals
      go_wp2_with fail
      all_goals
        go_meet
        case rel => exact ⟨rfl, _, rfl, fun h => by first | (simp at h; omega) | simp at h⟩
  case rest =>
  obtain ⟨rfl, t, rfl, ht⟩ := hcut
  cases t
  · obtain ⟨hs1, hl1, hn0, hm0, hn1, hm1⟩ := ht rfl
    clear ht
    go_wp2_with fail
    go_loop [11] (fun i => ∃ j : Nat, j ≤ ls.length ∧ i = .int .i64 j ∧ Hid (∀ k (h : k < ls.length), k < j → ls[k].size ≤ 16384)) (fun i => ls.length - (intOf i).toNat)
    case atStart => exact ⟨0, by omega, rfl, fun k _ h => absurd h (by omega)⟩
    case round =>
      obtain ⟨j, hj, rfl, HJ⟩ := hrel
      by_cases hjn : j < ls.length
      · obtain ⟨b, off, rfl, hc', -⟩ := hr1.at_ (k := j) (by rw [strV_length]; exact hjn)
        have h1 : w1.cell? ⟨b, off + j, none⟩ = some (.string ls[j]) := by rw [hc']; simp [strV]
        clear hc'
        by_cases hbig : ls[j].size ≤ 16384
        · have HJ2 : Hid (∀ k (h : k < ls.length), k < j + 1 → ls[k].size ≤ 16384) := fun k h hk => by
            by_cases e : k = j
            · subst e; exact hbig
            · exact HJ.out k h (by omega)
          clear HJ
          generalize ls[j] = x at *
          go_wp2
          go_round
          case rel => exact ⟨j + 1, by omega, by go_num, HJ2⟩
          case measure => simp [intOf]; omega
        · clear HJ
          generalize ls[j] = x at *
          go_wp2
          go_ret
          exact ⟨rfl, hb1⟩
      · have e : j = ls.length := by omega
        subst e
        have HA : Hid (∀ x ∈ ls, x.size ≤ 16384) := fun x hx => by
          obtain ⟨k, hk, rfl⟩ := List.mem_iff_getElem.1 hx
          exact HJ.out k hk hk
        clear HJ hj
        have hsb := strB_le s
        have hrb := rowB_le ls
        go_wp2_with fail
        refine (number_any none 0 0 [] n _ rfl (.inl rfl) (by omega)).mono ?_
        rintro e w2 ⟨A2, c2, rfl, hown2, hb2⟩
        have hq2 : Rd w2 A2 (by8 (numB n)) := Rd.of_own hown2
        have hr2 := hr1.below hb2
        have hb2' := hb1.trans (hb2.mono hb1.size)
        clear hown2 hb2 hb1 hr1
        go_wp2_with fail
        refine (string_any A2 4 c2 (numB n) s _ rfl hq2 (by omega) (by unfold maxLen; omega)).mono ?_
        rintro e w3 ⟨A3, c3, rfl, hown3, hb3⟩
        have hq3 := Rd.of_own hown3
        have hr3 := hr2.below hb3
        have hb3' := hb2'.trans (hb3.mono hb2'.size)
        clear hown3 hb3 hb2' hr2 hq2
        go_wp2_with fail
        refine (row_any A3 (4 + (strB s).length) c3 _ A ls.length c ls _ (by rw [List.length_append, numB_length]) hq3 rfl hlc (by unfold maxLen; omega) hr3 HSS.out (by omega)).mono ?_
        rintro e w4 ⟨A4, c4, rfl, hown4, hb4⟩
        have hq4 := Rd.of_own hown4
        have hr4 := hr3.below hb4
        have hb4' := hb3'.trans (hb4.mono hb3'.size)
        clear hown4 hb4 hb3' hr3 hq3
        go_wp2_with fail
        refine (number_any A4 (4 + (strB s).length + (rowB ls).length) c4 _ m _ (by rw [List.length_append, List.length_append, numB_length]) hq4 (by omega)).mono ?_
        rintro e w5 ⟨A5, c5, rfl, hown5, hb5⟩
        have hq5 := Rd.of_own hown5
        have hr5 := hr4.below hb5
        have hb5' := hb4'.trans (hb5.mono hb4'.size)
        clear hown5 hb5 hb4' hr4 hq4
        obtain ⟨L, hL⟩ : ∃ L, numB n ++ strB s ++ rowB ls ++ numB m = L := ⟨_, rfl⟩
        have HL := hid hL
        rw [hL] at hq5
        have hLl : 4 + (strB s).length + (rowB ls).length + 4 = L.length := by rw [← hL]; simp only [List.length_append, numB_length]
        have HLl := hid hLl
        clear hL
        have hle : L.length ≤ 5000000 := by omega
        rw [hLl]
        clear hLl
        have d0 : L.drop 0 = numB n ++ (strB s ++ (rowB ls ++ numB m)) := by rw [List.drop_zero, ← HL.out]; simp
        have R1 := hid (rNum_back (most := n) d0 (by rw [clampN_in n hn0 hn1]; omega))
        have d1 : L.drop 4 = strB s ++ (rowB ls ++ numB m) := drop_more d0
        have R2 := hid (rStr_back (most := s.size) d1 hs1 (by omega))
        have d2 : L.drop (4 + (strB s).length) = rowB ls ++ numB m := drop_more d1
        have R3 := hid (rRow_back (most := ls.length) (each := 16384) d2 hl1 (by omega) (fun x hx => ⟨HA.out x hx, by have := HA.out x hx; omega⟩))
        have d3 : L.drop (4 + (strB s).length + (rowB ls).length) = numB m ++ [] := by rw [drop_more d2]; simp
        have R4 := hid (rNum_back (most := m) d3 (by rw [clampN_in m hm0 hm1]; omega))
        clear d0 d1 d2 d3
        go_wp2_with fail
        refine (read_any A5 L.length c5 L _ rfl hq5 (by omega)).mono ?_
        rintro e w6 ⟨g, B, d, rfl, hp6, hge, hb6⟩
        have hr6 := hr5.below hb6
        have hb6' := hb5'.trans (hb6.mono hb5'.size)
        have hgw : w.heap.size ≤ g := Nat.le_trans hb5'.size hge
        clear hb6 hb5' hr5 hq5 hge
        go_wp2_with fail
        refine (rdNumber g B d L 0 0 n _ hp6 (by omega)).mono ?_
        rintro e w7 ⟨rfl, hp7, hg7⟩
        rw [R1.out] at hp7 ⊢
        simp only at hp7 ⊢
        rw [clampN_in n hn0 hn1]
        have hr7 := hr6.grown hg7 (blk_not_str hp6.1)
        have hb7 := hb6'.grown hg7 hb6'.size (by intro k hk; simp at hk; omega)
        clear hp6 hr6 hb6' hg7
        go_wp2_with fail
        refine (rdString g B d L (0 + 4) 0 s.size _ hp7 (by omega)).mono ?_
        rintro e w8 ⟨rfl, hp8, hg8⟩
        simp only [Nat.zero_add] at hp8 ⊢
        rw [R2.out] at hp8 ⊢
        simp only at hp8 ⊢
        rw [str_eta]
        have hr8 := hr7.grown hg8 (blk_not_str hp7.1)
        have hb8 := hb7.grown hg8 hb7.size (by intro k hk; simp at hk; omega)
        clear hp7 hr7 hb7 hg8
        go_wp2_with fail
        refine (rdRow g B d L (4 + (strB s).length) 0 ls.length 16384 _ hp8 (by omega)).mono ?_
        rintro e w9 ⟨A9, c9, rfl, hown9, hp9, hg9⟩
        rw [R3.out] at hown9 hp9 ⊢
        simp only [List.length_map] at hown9 hp9 ⊢
        rw [map_toS] at hown9
        have hq9 := Rd.of_own hown9
        have hr9 := hr8.grown hg9 (blk_not_str hp8.1)
        have hb9 := hb8.grown hg9 hb8.size (by intro k hk; simp at hk; omega)
        clear hp8 hr8 hb8 hg9 hown9
        go_wp2_with fail
        refine (rows_same A9 A ls.length c9 c ls _ rfl (by omega) hq9 hr9).mono ?_
        rintro e w10 ⟨rfl, hb10⟩
        have hp10 := hp9.below hb10
        have hb10' := hb9.trans (hb10.mono hb9.size)
        clear hp9 hb9 hb10 hq9 hr9
        go_wp2_with fail
        refine (rdNumber g B d L (4 + (strB s).length + (rowB ls).length) 0 m _ hp10 (by omega)).mono ?_
        rintro e w11 ⟨rfl, hp11, hg11⟩
        rw [R4.out] at hp11 ⊢
        simp only at hp11 ⊢
        rw [clampN_in m hm0 hm1]
        have hb11 := hb10'.grown hg11 hb10'.size (by intro k hk; simp at hk; omega)
        clear hp10 hb10' hg11
        rw [HLl.out] at hp11
        go_wp2_with fail
        refine (rdEnd g B d L L.length 0 _ hp11 (by omega)).mono ?_
        rintro e w12 ⟨rfl, hp12, hg12⟩
        have he : rEnd L L.length 0 = 0 := by simp [rEnd]
        rw [he]
        clear he
        have hb12 := hb11.grown hg12 hb11.size (by intro k hk; simp at hk; omega)
        clear hp11 hb11 hg12 hp12
        go_wp2
        go_ret
        exact ⟨rfl, hb12⟩
  · go_wp2
    go_ret
    exact ⟨rfl, hb1⟩
end Go.Proofs.Ytpiinamfibhjdaa
