/- TreeEmpties: the walk. -/
import Derived.Test.YtblfpmlnpaibkaaDoorTm
namespace Go.Proofs.YtblfpmlnpaibkaaDoor
open Go.RowKit

set_option maxHeartbeats 4000000 in
set_option maxRecDepth 20000 in
theorem treeEmpties_walk (A : Option Addr) (c : Nat) (fs : List Fil) (B : Option Addr) (d : Nat) (zs : List Int) (w : World) (hr : Rd w A (filV fs)) (hlc : fs.length ≤ c) (hc : c ≤ maxLen) (_ : True) (hz : Rd w B (zs.map (Value.int .i64))) (_ : zs.length ≤ d) (_ : d * Tryd.prog.bytesOf 3 ≤ reachBytes) (hzw : ∀ n ∈ zs, (Lit.int .i64 n).wf = true) :
    Calls Tryd.prog 8 #[.slice A fs.length c, .slice B zs.length d] w fun e w' => e = .returned (.bool true) ∧ Below w.heap.size w w' := by
  generalize hl : fs.length = n at *
  generalize hzl : zs.length = q at *
  have HZL := hid hzl
  clear hzl
  go_enter Tryd.func8, Tryd.ntmps8
  go_wp2_with fail
  refine (small_any _).mono ?_
  rintro e w1 ⟨rfl, b1⟩
  go_wp2_with fail
  refine (few_any A n c fs _ hl (hr.below b1)).mono ?_
  rintro e wx ⟨rfl, rfl⟩
  cases hf : fewB fs
  · go_wp2
    go_ret
    exact ⟨rfl, b1⟩
  · have t1 : Ft w1 A n c fs := few_ft hf hl (hr.below b1) hlc hc
    have HFW := hid hf
    clear hf hr hl
    go_wp2_with fail
    refine (tree_any t1).mono ?_
    rintro e w2 ⟨rfl, hb2⟩
    have t2 := t1.below hb2
    have b2 := below2 b1 hb2
    clear t1 b1 hb2
    cases hR : treeR fs
    · go_wp2
      go_ret
      exact ⟨rfl, b2⟩
    · have HR := hid hR
      clear hR
      have hR := (treeR_iff fs).1 HR.out
      have hn16 : n ≤ 16 := by have := hR.few; have := t2.len; omega
      go_wp2_with fail
      go_loopw [8, 9] (fun x i wr => ∃ (i' : Nat) (A' : Option Addr) (n' c' : Nat) (gs : List Fil), i' ≤ n ∧ i = .int .i64 i' ∧ x = .slice A' n' c' ∧ n' + i' = n ∧ Ft wr A' n' c' gs ∧ RightT gs ∧ Below w.heap.size w wr) (fun _ i _ => n - (intOf i).toNat)
      case atStart => exact ⟨0, A, n, c, fs, by omega, rfl, rfl, by omega, t2, hR, b2⟩
      case round =>
        clear t2 b2 hR HR HFW
        obtain ⟨i, Ak, nk, ck, gs, hi, rfl, rfl, hni, tk, hRk, b⟩ := hrel
        by_cases hin : i < n
        · have hlt : (i : Int) < n := by omega
          have hi0 : (0 : Int) ≤ i := by omega
          obtain ⟨m, rfl⟩ : ∃ m, nk = m + 1 := ⟨nk - 1, by omega⟩
          have hg0 : 0 < gs.length := by have := tk.len; omega
          by_cases hiq : i < q
          · have hiqz : (i : Int) < q := by omega
            have hil : i < zs.length := by rw [HZL.out]; exact hiq
            obtain ⟨bz, oz, rfl, hcz, -⟩ := (hz.below b).at_ (k := i) (by simpa using hil)
            have hcz' : wr.cell? ⟨bz, oz + i, none⟩ = some (.int .i64 zs[i]) := by rw [hcz]; simp
            have hwf := hzw zs[i] (List.getElem_mem hil)
            clear hcz
            generalize zs[i] = z at *
            by_cases hz0 : (0 : Int) < z
            · go_upto_region 13 with (fail)
              obtain ⟨k, hk, hkm⟩ : ∃ k : Nat, z % ((m : Int) + 1) = k ∧ k ≤ m := ⟨(z % ((m : Int) + 1)).toNat, by
                have h1 := Int.emod_nonneg z (show ((m : Int) + 1) ≠ 0 by omega)
                omega, by
                have h2 := Int.emod_lt_of_pos z (show 0 < (m : Int) + 1 by omega)
                omega⟩
              rw [hk]
              have hgk : k < gs.length := by have := tk.len; omega
              obtain ⟨bk, ok, rfl, hk1, -, -⟩ := tk.rd.fil (j := k) hgk
              have hkz : (0 : Int) ≤ k := by omega
              have hkz1 : (k : Int) < (m : Int) + 1 := by omega
              clear hk
              go_wp2_with fail
              refine (drop_yes tk gs[k].1 (dropE_zero.2 ⟨hRk, there_iff.2 ⟨gs[k], List.getElem_mem _, rfl⟩⟩)).mono ?_
              rintro e w3 ⟨A3, n3, c3, rfl, y3, -, hb3⟩
              have HL3 := hid (show n3 = m by
                have h1 := drop_len hRk.srt (pth gs[k])
                rw [there_iff.2 ⟨gs[k], List.getElem_mem _, rfl⟩, tk.len] at h1
                have h2 := y3.len
                have h3 : (dropL gs gs[k].1.data.toList).length = (dropL gs (pth gs[k])).length := rfl
                simp only [if_true] at h1
                omega)
              have hR3 := right_drop hRk gs[k].1.data.toList
              have b3 := below2 b hb3
              have hb3n := HL3.out
              subst hb3n
              clear b hb3 tk hRk
              generalize dropL gs gs[k].1.data.toList = ys at *
              go_wp2_with fail
              refine (tree_any y3).mono ?_
              rintro e w4 ⟨rfl, hb4⟩
              rw [(treeR_iff ys).2 hR3]
              have y4 := y3.below hb4
              have b4 := below2 b3 hb4
              clear b3 hb4 y3
              go_wp2
              go_roundw
              case rel => exact ⟨i + 1, A3, n3, c3, ys, by omega, by go_num, rfl, by omega, y4, hR3, b4⟩
              case measure => simp [intOf]; omega
            · have hzb : decide ((0 : Int) < z) = false := by simp; omega
              obtain ⟨bk, ok, rfl, hk1, -, -⟩ := tk.rd.fil (j := 0) hg0
              simp only [Nat.zero_mul, Nat.add_zero] at hk1
              go_wp2_with fail
              refine (drop_yes tk gs[0].1 (dropE_zero.2 ⟨hRk, there_iff.2 ⟨gs[0], List.getElem_mem _, rfl⟩⟩)).mono ?_
              rintro e w3 ⟨A3, n3, c3, rfl, y3, -, hb3⟩
              have HL3 := hid (show n3 = m by
                have h1 := drop_len hRk.srt (pth gs[0])
                rw [there_iff.2 ⟨gs[0], List.getElem_mem _, rfl⟩, tk.len] at h1
                have h2 := y3.len
                have h3 : (dropL gs gs[0].1.data.toList).length = (dropL gs (pth gs[0])).length := rfl
                simp only [if_true] at h1
                omega)
              have hR3 := right_drop hRk gs[0].1.data.toList
              have b3 := below2 b hb3
              have hb3n := HL3.out
              subst hb3n
              clear b hb3 tk hRk
              generalize dropL gs gs[0].1.data.toList = ys at *
              go_wp2_with fail
              refine (tree_any y3).mono ?_
              rintro e w4 ⟨rfl, hb4⟩
              rw [(treeR_iff ys).2 hR3]
              have y4 := y3.below hb4
              have b4 := below2 b3 hb4
              clear b3 hb4 y3
              go_wp2
              go_roundw
              case rel => exact ⟨i + 1, A3, n3, c3, ys, by omega, by go_num, rfl, by omega, y4, hR3, b4⟩
              case measure => simp [intOf]; omega
          · have hiqz : ¬ (i : Int) < q := by omega
            obtain ⟨bk, ok, rfl, hk1, -, -⟩ := tk.rd.fil (j := 0) hg0
            simp only [Nat.zero_mul, Nat.add_zero] at hk1
            go_wp2_with fail
            refine (drop_yes tk gs[0].1 (dropE_zero.2 ⟨hRk, there_iff.2 ⟨gs[0], List.getElem_mem _, rfl⟩⟩)).mono ?_
            rintro e w3 ⟨A3, n3, c3, rfl, y3, -, hb3⟩
            have HL3 := hid (show n3 = m by
              have h1 := drop_len hRk.srt (pth gs[0])
              rw [there_iff.2 ⟨gs[0], List.getElem_mem _, rfl⟩, tk.len] at h1
              have h2 := y3.len
              have h3 : (dropL gs gs[0].1.data.toList).length = (dropL gs (pth gs[0])).length := rfl
              simp only [if_true] at h1
              omega)
            have hR3 := right_drop hRk gs[0].1.data.toList
            have b3 := below2 b hb3
            have hb3n := HL3.out
            subst hb3n
            clear b hb3 tk hRk
            generalize dropL gs gs[0].1.data.toList = ys at *
            go_wp2_with fail
            refine (tree_any y3).mono ?_
            rintro e w4 ⟨rfl, hb4⟩
            rw [(treeR_iff ys).2 hR3]
            have y4 := y3.below hb4
            have b4 := below2 b3 hb4
            clear b3 hb4 y3
            go_wp2
            go_roundw
            case rel => exact ⟨i + 1, A3, n3, c3, ys, by omega, by go_num, rfl, by omega, y4, hR3, b4⟩
            case measure => simp [intOf]; omega
        · have hnlt : ¬ (i : Int) < n := by omega
          have hnk : nk = 0 := by omega
          have hgs : gs = [] := List.eq_nil_of_length_eq_zero (by have := tk.len; omega)
          subst hnk hgs
          go_wp2_with fail
          refine (size_any tk (by decide)).mono ?_
          rintro e w3 ⟨he, hb3⟩
          obtain rfl : e = .returned (.int .i64 0) := he.trans (ret_int (by rfl))
          clear he
          have b3 := below2 b hb3
          go_wp2
          go_ret
          exact ⟨rfl, b3⟩
end Go.Proofs.YtblfpmlnpaibkaaDoor
