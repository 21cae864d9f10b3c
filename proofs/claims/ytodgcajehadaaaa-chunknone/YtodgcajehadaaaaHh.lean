/- ChunkNone. -/
import Derived.Test.YtodgcajehadaaaaHg
namespace Go.Proofs.Ytodgcajehadaaaa
open Go.RowKit

theorem own_set {w : World} {base : Nat} {e : TypeId} {A : Option Addr} {n c k : Nat} {xs : List Value} (h : w.ownsRow base e 1 (.slice A n c) n xs) (hk : k < n) (u : Value) :
    ∃ g, A = some ⟨g, 0, none⟩ ∧ base ≤ g ∧ (∃ v, w.cell? ⟨g, k, none⟩ = some v) ∧ w.frozen? ⟨g, k, none⟩ = false ∧ Rd (w.setCell ⟨g, k, none⟩ u) (some ⟨g, 0, none⟩) (xs.set k u) := by
  rcases h.2 with ⟨hv, hn⟩ | ⟨g, cap, cur, hv, hb, hg, h1, h2, h3, h4⟩
  · omega
  · injection hv with hA hn hc
    subst hA hc
    have hlen : k < cur.size := by omega
    refine ⟨g, rfl, hb, ⟨cur[k], ?_⟩, ?_, .inr ⟨_, rfl, fun j v hv => ?_⟩⟩
    · rw [cell_of_row w g k cur e (0, 0) hg, Array.getElem?_eq_getElem hlen]
    · simp [World.frozen?, hg]
    · have hg' : (w.setCell ⟨g, k, none⟩ u).heap[g]? = some (.cells (cur.setIfInBounds k u) e (0, 0)) := by simp [World.setCell, Array.getElem?_modify, hg]
      rw [Addr.add_lit, Nat.zero_add, cell_of_row _ g j _ e (0, 0) hg', Array.getElem?_setIfInBounds]
      rw [List.getElem?_set] at hv
      split
      · rename_i ej
        subst ej
        rw [if_pos rfl] at hv
        split at hv
        · exact hv
        · cases hv
      · rename_i ej
        rw [if_neg ej] at hv
        rw [Nat.mul_one] at h4
        rw [← h4, List.getElem?_take] at hv
        split at hv
        · rw [← hv, Array.getElem?_toList]
        · cases hv
instance (n i : Nat) (x : ByteArray) : Decidable (FitP n i x) := by unfold FitP; infer_instance
theorem set_right (s more : ByteArray) (k : Nat) (hk : k < (pcsS s).length) : rightB ((pcsS s).set k more) = decide (FitP (pcsS s).length k more) := by
  by_cases h : FitP (pcsS s).length k more
  · rw [decide_eq_true h]
    refine rightB_all fun i hi => ?_
    rw [List.length_set] at hi ⊢
    rw [List.getElem_set]
    split
    · rename_i e; subst e; exact h
    · exact pcs_fit s i hi
  · rw [decide_eq_false h]
    refine rightB_not (i := k) (by rw [List.length_set]; exact hk) ?_
    simpa using h

theorem strV_set (l : List ByteArray) (k : Nat) (x : ByteArray) : (strV l).set k (.string x) = strV (l.set k x) := by simp [strV, List.map_set]

set_option maxHeartbeats 2000000 in
theorem chunkNone_walk (s : ByteArray) (a : Int) (more : ByteArray) (w : World) (hs : s.size ≤ 140737488351232) (_ : (Lit.int .i64 a).wf = true) (hm : more.size ≤ 140737488351232) :
    Calls Try.prog 8 #[.string s, .int .i64 a, .string more] w fun e w' => e = .returned (.bool true) ∧ Below w.heap.size w w' := by
  have hcut := fun w => cut_any s w (by omega)
  have HR := hid (set_right s more)
  have HLN : Hid (s.size ≤ 5000 → (pcsS s).length ≤ 5000) := fun h => by rw [pcsS_length]; unfold cnt; omega
  have hlen : (pcsS s).length ≤ 140737488351232 := by rw [pcsS_length]; unfold cnt; omega
  generalize pcsS s = ls at *
  obtain ⟨n, hn⟩ : ∃ n, ls.length = n := ⟨_, rfl⟩
  simp only [hn] at hcut hlen
  have HN := hid hn
  clear hn
  go_enter Try.func8, Try.ntmps8
  go_wp2_with fail
  refine (small_any _).mono ?_
  rintro e w1 ⟨rfl, b1⟩
  go_wp2_with fail
  refine (hcut _).mono ?_
  rintro e w2 ⟨A, c, rfl, hown, hb2⟩
  replace hb2 := below2 b1 hb2
  have r2 : Rd w2 A (strV ls) := Rd.of_own hown
  clear hown hcut b1
  by_cases h5 : (5000 : Int) < s.size
  · go_wp2
    go_ret
    exact ⟨rfl, hb2⟩
  by_cases h6 : (100 : Int) < more.size
  · go_wp2
    go_ret
    exact ⟨rfl, hb2⟩
  by_cases h7 : a < 0
  · go_wp2
    go_ret
    exact ⟨rfl, hb2⟩
  by_cases h8 : (n : Int) ≤ a
  · go_wp2
    go_ret
    exact ⟨rfl, hb2⟩
  obtain ⟨k, rfl⟩ := Int.eq_ofNat_of_zero_le (by omega : 0 ≤ a)
  clear h7
  have hkn : k < n := by omega
  have hn5 : n ≤ 5000 := by have := HLN.out (by omega); rw [HN.out] at this; exact this
  have hown0 : (w2.alloc (.cells #[] 9)).ownsRow w.heap.size 9 1 (.slice (some ⟨w2.heap.size, 0, none⟩) 0 0) 0 [] := own_base (World.ownsRow_made w2 #[] 0 (Nat.le_refl _) (by unfold maxLen; omega) rfl) hb2.size
  go_wp2_with (at_builtin; refine wpApp _ rfl _ _ 22 rfl w.heap.size 9 (.string ⟨#[]⟩) 16 Try.underlying22 Try.infoS rfl _ 0 0 [] rfl hown0 _ n _ (strV ls) rfl (by rw [strV_length]; exact HN.out) (r2.alloc _) (strV_one _) (by omega) (by have := hb2.size; simp; omega) (by omega) ?_)
  intro A3 c3 w3 hown3 hg3
  have hb3 : Below w.heap.size w w3 := (hb2.alloc hb2.size _).grown hg3 (by have := hb2.size; simp; omega) (own_app_block hown0)
  obtain ⟨g, rfl, hgb, ⟨v0, hcell⟩, hfz, hrd⟩ := own_set hown3 hkn (.string more)
  rw [strV_set] at hrd
  have hb4 : Below w.heap.size w (w3.setCell ⟨g, k, none⟩ (.string more)) := hb3.setCell (p := ⟨g, k, none⟩) hgb _
  clear hown0 hg3 hown3 hb3 r2 hb2
  have HRk : Hid (rightB (ls.set k more) = decide (FitP n k more)) := by have := HR.out k (by rw [HN.out]; exact hkn); rwa [HN.out] at this
  have HLs : Hid ((ls.set k more).length = n) := by rw [List.length_set]; exact HN
  have hki : (k : Int) < n := by omega
  go_wp2_with fail
  have q64 : more.size = 64 → ((more.size : Int) == 64) = true := fun h => by simp [h]
  have n64 : more.size ≠ 64 → ((more.size : Int) == 64) = false := fun h => by simp; omega
  have qk : k = n - 1 → ((k : Int) == (n : Int) - 1) = true := fun h => by simp; omega
  have nk : k ≠ n - 1 → ((k : Int) == (n : Int) - 1) = false := fun h => by simp; omega
  have Q64 := hid q64
  have N64 := hid n64
  have QK := hid qk
  have NK := hid nk
  clear q64 n64 qk nk
  by_cases hl : k = n - 1
  · have QQ := QK.out hl
    by_cases hq : more.size = 64
    · have Q1 := Q64.out hq
      have hj := join_yes _ n c3 _ _ HLs.out hrd (by omega) (HRk.out.trans (decide_eq_true (by unfold FitP; rw [if_pos hl]; omega)))
      clear hq hl
      refine hj.mono ?_
      rintro e w5 ⟨rfl, hb5⟩
      replace hb5 := hb4.trans (hb5.mono hb4.size)
      clear hj hrd hb4
      go_wp2
      go_ret
      exact ⟨rfl, hb5⟩
    · have Q1 := N64.out hq
      by_cases h1 : (1 : Int) ≤ more.size
      · by_cases h2 : (more.size : Int) ≤ 64
        · have hj := join_yes _ n c3 _ _ HLs.out hrd (by omega) (HRk.out.trans (decide_eq_true (by unfold FitP; rw [if_pos hl]; omega)))
          clear hq hl
          refine hj.mono ?_
          rintro e w5 ⟨rfl, hb5⟩
          replace hb5 := hb4.trans (hb5.mono hb4.size)
          clear hj hrd hb4
          go_wp2
          go_ret
          exact ⟨rfl, hb5⟩
        · have hj := join_no _ n c3 _ _ HLs.out hrd (by omega) (HRk.out.trans (decide_eq_false (by unfold FitP; rw [if_pos hl]; omega)))
          clear hq hl
          refine hj.mono ?_
          rintro e w5 ⟨rfl, hb5⟩
          replace hb5 := hb4.trans (hb5.mono hb4.size)
          clear hj hrd hb4
          go_wp2
          go_ret
          exact ⟨ret_bool (by simp; omega), hb5⟩
      · have hj := join_no _ n c3 _ _ HLs.out hrd (by omega) (HRk.out.trans (decide_eq_false (by unfold FitP; rw [if_pos hl]; omega)))
        clear hq hl
        refine hj.mono ?_
        rintro e w5 ⟨rfl, hb5⟩
        replace hb5 := hb4.trans (hb5.mono hb4.size)
        clear hj hrd hb4
        go_wp2
        go_ret
        exact ⟨rfl, hb5⟩
  · have QQ := NK.out hl
    by_cases hq : more.size = 64
    · have Q1 := Q64.out hq
      have hj := join_yes _ n c3 _ _ HLs.out hrd (by omega) (HRk.out.trans (decide_eq_true (by unfold FitP; rw [if_neg hl]; omega)))
      clear hq hl
      refine hj.mono ?_
      rintro e w5 ⟨rfl, hb5⟩
      replace hb5 := hb4.trans (hb5.mono hb4.size)
      clear hj hrd hb4
      go_wp2
      go_ret
      exact ⟨rfl, hb5⟩
    · have Q1 := N64.out hq
      have hj := join_no _ n c3 _ _ HLs.out hrd (by omega) (HRk.out.trans (decide_eq_false (by unfold FitP; rw [if_neg hl]; omega)))
      clear hq hl
      refine hj.mono ?_
      rintro e w5 ⟨rfl, hb5⟩
      replace hb5 := hb4.trans (hb5.mono hb4.size)
      clear hj hrd hb4
      go_wp2
      go_ret
      exact ⟨rfl, hb5⟩
end Go.Proofs.Ytodgcajehadaaaa
