/- WireCuts: the walk. -/
import Derived.Test.YtpiinamfibhjdaaPb
namespace Go.Proofs.Ytpiinamfibhjdaa
open Go.RowKit

set_option maxHeartbeats 2000000 in
set_option maxRecDepth 100000 in
theorem wireCuts_walk (n : Int) (s : ByteArray) (A : Option Addr) (c : Nat) (ls : List ByteArray) (cut : Int) (w : World) (_ : (Lit.int .i64 n).wf = true) (hs : s.size ≤ 140737488351232) (hr : Rd w A (strV ls)) (hlc : ls.length ≤ c) (hc : c * 16 ≤ 140737488351232) (hss : ∀ s ∈ ls, s.size ≤ maxLen) (_ : (Lit.int .i64 cut).wf = true) :
    Calls Try.prog 10 #[.int .i64 n, .string s, .slice A ls.length c, .int .i64 cut] w fun e w' => e = .returned (.bool true) ∧ Below w.heap.size w w' := by
  have HSS := hid hss
  clear hss
  go_enter Try.func10, Try.ntmps10
  go_wp2_with fail
  refine (small_any _).mono ?_
  rintro e w1 ⟨rfl, hb1⟩
  have hr1 := hr.below hb1
  clear hr
  go_wp2_with fail
  refine (few_any A ls.length c ls _ rfl (by omega) hr1).mono ?_
  rintro e wx ⟨bo, rfl, rfl⟩
  go_upto_region 3 with (fail)
  go_cut [27] (fun x wx => w1 = wx ∧ ∃ t, x = .bool t ∧ (t = false → s.size ≤ 3000 ∧ ls.length ≤ 256))
  case first =>
    cases bo
    all_goals
      go_wp2_with fail
      all_goals
        go_meet
        case rel => exact ⟨rfl, _, rfl, fun h => by first | (simp at h; omega) | simp at h⟩
  case rest =>
  obtain ⟨rfl, t, rfl, ht⟩ := hcut
  cases t
  · obtain ⟨hs1, hl1⟩ := ht rfl
    clear ht
    have hsb := strB_le s
    have hrb := rowB_le ls
    go_wp2_with fail
    refine (number_any none 0 0 [] n _ rfl (.inl rfl) (by omega)).mono ?_
    rintro e w2 ⟨A2, c2, rfl, hown2, hb2⟩
    have hq2 : Rd w2 A2 (by8 (numB n)) := Rd.of_own hown2
    have hr2 := hr1.below hb2
    have hb2' := hb1.trans (hb2.mono hb1.size)
    clear hown2 hb2 hb1 hr1
    go_wp2_with fail
    refine (string_any A2 4 c2 (numB n) s _ rfl hq2 (by omega) (by unfold maxLen; omega)).mono ?_
    rintro e w3 ⟨A3, c3, rfl, hown3, hb3⟩
    have hq3 := Rd.of_own hown3
    have hr3 := hr2.below hb3
    have hb3' := hb2'.trans (hb3.mono hb2'.size)
    clear hown3 hb3 hb2' hr2 hq2
    go_wp2_with fail
    refine (row_any A3 (4 + (strB s).length) c3 _ A ls.length c ls _ (by rw [List.length_append, numB_length]) hq3 rfl hlc (by unfold maxLen; omega) hr3 HSS.out (by omega)).mono ?_
    rintro e w4 ⟨A4, c4, rfl, hown4, hb4⟩
    have hq4 := Rd.of_own hown4
    obtain ⟨hxl, B4, d4, hv, hcc⟩ := own_form hown4
    injection hv with hv1 hv2 hv3
    subst hv1 hv3
    have hb4' := hb3'.trans (hb4.mono hb3'.size)
    clear hown4 hb4 hb3' hr3 hq3 hxl hv2
    obtain ⟨L, hL⟩ : ∃ L, numB n ++ strB s ++ rowB ls = L := ⟨_, rfl⟩
    have HP := hid (cuts_pure n s ls cut.toNat L hL hs1 hl1)
    rw [hL] at hq4
    have hLl : 4 + (strB s).length + (rowB ls).length = L.length := by rw [← hL]; simp only [List.length_append, numB_length]
    have hle : L.length ≤ 5000000 := by omega
    rw [hLl] at hcc ⊢
    clear hLl hL
    by_cases hcut : 0 ≤ cut ∧ cut < (L.length : Int)
    · obtain ⟨hc0, hc1⟩ := hcut
      obtain ⟨k, rfl⟩ := Int.eq_ofNat_of_zero_le hc0
      have hk : k < L.length := by omega
      have HP2 : Hid (∀ p1 p2 e1 e2, (rNum (L.take k) 0 0 4294967295).2 = (p1, e1) → (rStr (L.take k) p1 e1 16384).2 = (p2, e2) → (rRow (L.take k) p2 e2 256 16384).2.2 = 4) := fun p1 p2 e1 e2 => HP.out hk p1 p2 e1 e2
      clear HP hc0 hc1
      have hcut := hq4.cut (k := 0) (m := k) (cap := c4) (by rw [by8_length]; omega) (by rw [by8_length]; omega)
      have hq5 : Rd w4 A4 (by8 (L.take k)) := by
        have e : by8 (L.take k) = (by8 L).take k := by simp [by8]
        rw [e]
        rcases hq4 with h | ⟨ad, rfl, h⟩
        · rw [h]; exact .inl (by simp)
        · exact .inr ⟨ad, rfl, fun j u hu => h j u (by rw [List.getElem?_take] at hu; split at hu; exact hu; cases hu)⟩
      have hkl : (L.take k).length = k := by rw [List.length_take]; omega
      have HKl := hid hkl
      obtain ⟨M, hM⟩ : ∃ M, L.take k = M := ⟨_, rfl⟩
      rw [hM] at HP2 hq5 HKl
      clear hM hkl hcut
      have hMl : M.length ≤ 5000000 := by have := HKl.out; omega
      go_wp2_with fail
      refine (read_any A4 k c4 M _ HKl.out hq5 (by omega)).mono ?_
      rintro e w6 ⟨g, B, d, rfl, hp6, hge, hb6⟩
      have hb6' := hb4'.trans (hb6.mono hb4'.size)
      have hgw : w.heap.size ≤ g := Nat.le_trans hb4'.size hge
      clear hb6 hb4' hq5 hge hq4
      go_wp2_with fail
      refine (rdNumber g B d M 0 0 4294967295 _ hp6 (by omega)).mono ?_
      rintro e w7 ⟨rfl, hp7, hg7⟩
      obtain ⟨⟨v1, p1, e1⟩, hx1⟩ : ∃ z, rNum M 0 0 4294967295 = z := ⟨_, rfl⟩
      rw [hx1] at hp7 ⊢
      have HP3 : Hid (∀ p2 e2, (rStr M p1 e1 16384).2 = (p2, e2) → (rRow M p2 e2 256 16384).2.2 = 4) := fun p2 e2 => HP2.out p1 p2 e1 e2 (by rw [hx1])
      clear hx1 HP2
      simp only at hp7 ⊢
      have hb7 := hb6'.grown hg7 hb6'.size (by intro k hk; simp at hk; omega)
      clear hp6 hb6' hg7
      go_wp2_with fail
      refine (rdString g B d M p1 e1 16384 _ hp7 (by omega)).mono ?_
      rintro e w8 ⟨rfl, hp8, hg8⟩
      obtain ⟨⟨v2, p2, e2⟩, hx2⟩ : ∃ z, rStr M p1 e1 16384 = z := ⟨_, rfl⟩
      rw [hx2] at hp8 ⊢
      have HP4 : Hid ((rRow M p2 e2 256 16384).2.2 = 4) := HP3.out p2 e2 (by rw [hx2])
      clear hx2 HP3
      simp only at hp8 ⊢
      have hb8 := hb7.grown hg8 hb7.size (by intro k hk; simp at hk; omega)
      clear hp7 hb7 hg8
      go_wp2_with fail
      refine (rdRow g B d M p2 e2 256 16384 _ hp8 (by omega)).mono ?_
      rintro e w9 ⟨A9, c9, rfl, -, hp9, hg9⟩
      rw [HP4.out] at hp9
      have hb9 := hb8.grown hg9 hb8.size (by intro k hk; simp at hk; omega)
      clear hp8 hb8 hg9 HP4
      generalize (rRow M p2 e2 256 16384).2.1 = p3 at *
      generalize (rRow M p2 e2 256 16384).1.length = n3 at *
      have hp3 : p3 ≤ k := by have := hp9.2.2.2.2; have := HKl.out; omega
      go_wp2_with fail
      refine (rdErr g B d M p3 4 _ hp9).mono ?_
      rintro e w' ⟨rfl, rfl⟩
      go_wp2_with fail
      refine (rdEnd g B d M p3 4 _ hp9 (by omega)).mono ?_
      rintro e w10 ⟨rfl, hp10, hg10⟩
      have he : rEnd M p3 4 = 4 := by simp [rEnd]
      rw [he] at hp10 ⊢
      clear he
      have hb10 := hb9.grown hg10 hb9.size (by intro k hk; simp at hk; omega)
      clear hp9 hb9 hg10
      go_wp2_with fail
      refine (rdAt g B d M p3 4 _ hp10).mono ?_
      rintro e w' ⟨rfl, rfl⟩
      go_wp2
      go_ret
      exact ⟨rfl, hb10⟩
    · go_wp2
      all_goals
        go_ret
        exact ⟨rfl, hb4'⟩
  · go_wp2
    go_ret
    exact ⟨rfl, hb1⟩
end Go.Proofs.Ytpiinamfibhjdaa
