/- tree.clashes, tree.apart, tree.Right. -/
import Derived.Test.YtnkkjedckehoaaaDoorTc
import Derived.Deep.DeepCutAuto
namespace Go.Proofs.YtnkkjedckehoaaaDoor
open Go.RowKit


/-- Which file is the first that clashes. -/
def IdxPost (w : World) (b : Bool) (e : Ending) (w' : World) : Prop := ∃ k : Int, e = .returned (.int .i64 k) ∧ decide (0 ≤ k) = b ∧ Below w.heap.size w w'
theorem any_take_step {α : Type} (q : α → Bool) (l : List α) (j : Nat) (h : j < l.length) : (l.take (j + 1)).any q = ((l.take j).any q || q l[j]) := by
  rw [List.take_add_one, List.getElem?_eq_getElem h, List.any_append]
  simp

/-! ### None is under another one -/
theorem prefix_mid : ∀ (d s r : List UInt8), d < s → s ≤ d ++ r → Lib.hasPrefix s d = true
  | [], s, r, _, _ => by simp [Lib.hasPrefix]
  | c :: d, [], r, h, _ => by simp at h
  | c :: d, x :: s, r, h, h2 => by
    have h2' : x :: s < c :: (d ++ r) ∨ x :: s = c :: (d ++ r) := List.le_iff_lt_or_eq.1 h2
    rw [List.cons_lt_cons_iff] at h h2'
    have key : c = x ∧ d < s ∧ s ≤ d ++ r := by
      rcases h with h | ⟨e, h⟩
      · rcases h2' with (h3 | ⟨e3, _⟩) | h3
        · exact absurd h (UInt8.lt_asymm h3)
        · rw [e3] at h; exact absurd h (UInt8.lt_irrefl _)
        · injection h3 with e3 _; rw [e3] at h; exact absurd h (UInt8.lt_irrefl _)
      · rcases h2' with (h3 | ⟨_, h3⟩) | h3
        · rw [e] at h3; exact absurd h3 (UInt8.lt_irrefl _)
        · exact ⟨e, h, List.le_of_lt h3⟩
        · injection h3 with _ e3; exact ⟨e, h, by rw [e3]; exact List.le_refl _⟩
    have := prefix_mid d s r key.2.1 key.2.2
    rw [Lib.hasPrefix] at this ⊢
    simp [key.1, this]
theorem under_mid {d s t : List UInt8} (h1 : d < s) (h2 : s ≤ t) (h3 : Lib.hasPrefix s d = false) : underL t d = false := by
  refine not_true fun h => ?_
  unfold underL at h
  rw [Bool.and_eq_true, pre_iff] at h
  obtain ⟨_, r, rfl⟩ := h
  rw [prefix_mid d s (47 :: r) h1 h2] at h3
  cases h3
theorem apart_idx (L : List (List UInt8)) : apartL L = true ↔ ∀ i k (_ : i < k) (hk : k < L.length), underL L[k] (L[i]'(by omega)) = false := by
  rw [apart_iff, List.pairwise_iff_getElem]
  exact ⟨fun h i k hik hk => h i k (by omega) hk hik, fun h i k _ hk hik => h i k hik hk⟩

set_option maxHeartbeats 2000000 in
theorem apart_any (A : Option Addr) (n c : Nat) (ls : List ByteArray) (w : World) (hl : ls.length = n) (hnc : n ≤ c) (hcm : c ≤ 140737488355328) (hr : Rd w A (strV ls)) (hs : (lst ls).Pairwise (· < ·)) (hss : ∀ s ∈ ls, s.size < 4294967281) :
    Calls Tryd.prog 54 #[.slice A n c] w fun e w' => e = .returned (.bool (apartL (lst ls))) ∧ Below w.heap.size w w' := by
  have HI := hid (apart_idx (lst ls))
  have HP := hid (List.pairwise_iff_getElem.1 hs)
  have HL := hid (show (lst ls).length = n by rw [lst_length]; exact hl)
  have HL2 := hid hl
  have HS := hid hss
  have HA := hid (fun j (h : j < ls.length) (h' : j < (lst ls).length) => (show (lst ls)[j] = ls[j].data.toList by simp [lst]))
  clear hl hs hss
  generalize lst ls = L at *
  go_enter Tryd.func54, Tryd.ntmps54
  go_wp2_with fail
  go_loopw [9] (fun i wr => ∃ j : Nat, j ≤ n ∧ i = .int .i64 j ∧ Hid (∀ i k (hi : i < j) (hik : i < k) (hk : k < L.length), underL L[k] (L[i]'(by omega)) = false) ∧ Below w.heap.size w wr) (fun i _ => n - (intOf i).toNat)
  case atStart => exact ⟨0, by omega, rfl, hid (fun i k hi => absurd hi (by omega)), Below.refl _ _⟩
  case round =>
    obtain ⟨i, hi, rfl, HO, hb⟩ := hrel
    by_cases hin : i < n
    · have hil : i < ls.length := by rw [HL2.out]; exact hin
      have hr1 := hr.below hb
      obtain ⟨b, off, rfl, h1, -⟩ := hr1.at_ (k := i) (by rw [strV_length]; exact hil)
      have h2 : wr.cell? ⟨b, off + i, none⟩ = some (.string ls[i]) := by rw [h1]; simp [strV]
      have hz : (0 : Int) ≤ i := by omega
      have hlt : (i : Int) < n := by omega
      clear h1 hr1
      by_cases hci : c = i + 1
      · have hnn : n - (i + 1) = 0 := by omega
        have hn1 : n = i + 1 := by omega
        have HN := hid hn1
        clear hn1
        go_upto_region 5 with (fail)
        go_loopw [19] (fun v wx => v = .int .i64 0 ∧ wr = wx) (fun _ _ => 0)
        case atStart => exact ⟨rfl, rfl⟩
        case round =>
          obtain ⟨rfl, rfl⟩ := hrel
          go_wp2
          go_roundw
          case rel =>
            refine ⟨i + 1, by omega, by go_num, hid (fun i' k hi' hik hk => ?_), hb⟩
            have := HN.out
            have := HL.out
            exact HO.out i' k (by omega) hik hk
          case measure => simp [intOf]; omega
      · have HW := hid hb
        go_upto_region 5 with (fail)
        go_loopw [19] (fun v wx => ∃ j : Nat, j ≤ n - (i + 1) ∧ v = .int .i64 j ∧ Hid (∀ k (hk : k < L.length) (hik : i < k), k < i + 1 + j → underL L[k] (L[i]'(by omega)) = false) ∧ Below w.heap.size w wx) (fun v _ => n - (i + 1) - (intOf v).toNat)
        case atStart => exact ⟨0, by omega, rfl, hid (fun k hk hik h => absurd h (by omega)), hb⟩
        case round =>
          clear hb h2
          obtain ⟨j, hj, rfl, HJ, hb⟩ := hrel
          have hLi : i < L.length := by have := HL.out; omega
          have HAi := hid (HA.out i hil hLi)
          by_cases hjn : j < n - (i + 1)
          · have hkl : i + 1 + j < ls.length := by have := HL2.out; omega
            have hLk : i + 1 + j < L.length := by have := HL.out; omega
            have HAk := hid (HA.out (i + 1 + j) hkl hLk)
            have hr1 := hr.below hb
            obtain ⟨b', off', he, h1, -⟩ := hr1.at_ (k := i + 1 + j) (by rw [strV_length]; exact hkl)
            injection he with he
            injection he with he1 he2
            subst he1 he2
            have h3 : wr.cell? ⟨b, off + (i + 1) + j, none⟩ = some (.string ls[i + 1 + j]) := by
              rw [Nat.add_assoc off, h1]
              simp [strV]
            have hsi := HS.out ls[i] (List.getElem_mem hil)
            have hsk := HS.out ls[i + 1 + j] (List.getElem_mem hkl)
            have HPk := hid (HP.out i (i + 1 + j) hLi hLk (by omega))
            clear h1 hr1
            generalize ls[i + 1 + j] = x at *
            generalize ls[i] = y at *
            have hz2 : (0 : Int) ≤ j := by omega
            have hlt2 : (j : Int) < ((n - (i + 1) : Nat) : Int) := by omega
            go_wp2_with fail
            refine (Tryd.strings_HasPrefix _ _ _).mono ?_
            rintro e w1 ⟨rfl, rfl⟩
            cases hp : Lib.hasPrefix x.data.toList y.data.toList
            · have HPP := hid hp
              clear hp
              go_wp2
              go_roundw
              case rel =>
                refine ⟨i + 1, by omega, by go_num, hid (fun i' k hi' hik hk => ?_), hb⟩
                by_cases hii : i' < i
                · exact HO.out i' k hii hik hk
                · obtain rfl : i' = i := by omega
                  by_cases hkj : k < i' + 1 + j
                  · exact HJ.out k hk hik hkj
                  · refine under_mid HPk.out ?_ ?_
                    · by_cases hke : k = i' + 1 + j
                      · subst hke; exact List.le_refl _
                      · exact List.le_of_lt (HP.out (i' + 1 + j) k hLk hk (by omega))
                    · rw [HAi.out, HAk.out]; exact HPP.out
              case measure => simp [intOf]; omega
            · go_wp2_with fail
              refine (under_any _ _ _ hsk hsi).mono ?_
              rintro e w2 ⟨rfl, hb2⟩
              have hb2' := below2 hb hb2
              clear hb hb2
              cases hu : underL x.data.toList y.data.toList
              · have HU := hid hu
                clear hu
                go_wp2
                go_roundw
                case rel =>
                  refine ⟨j + 1, by omega, by go_num, hid (fun k hk hik hkj => ?_), hb2'⟩
                  by_cases hke : k = i + 1 + j
                  · subst hke
                    rw [HAi.out, HAk.out]; exact HU.out
                  · exact HJ.out k hk hik (by omega)
                case measure => simp [intOf]; omega
              · have HU := hid hu
                clear hu
                go_wp2
                go_ret
                refine ⟨ret_bool ?_, hb2'⟩
                symm
                refine not_true fun hap => ?_
                have := HI.out.1 hap i (i + 1 + j) (by omega) hLk
                rw [HAi.out, HAk.out, HU.out] at this
                cases this
          · have hnlt2 : ¬ (j : Int) < ((n - (i + 1) : Nat) : Int) := by omega
            have HJE := hid (show j = n - (i + 1) by omega)
            go_wp2
            go_roundw
            case rel =>
              refine ⟨i + 1, by omega, by go_num, hid (fun i' k hi' hik hk => ?_), hb⟩
              by_cases hii : i' < i
              · exact HO.out i' k hii hik hk
              · obtain rfl : i' = i := by omega
                have := HL.out
                have := HJE.out
                exact HJ.out k hk hik (by omega)
            case measure => simp [intOf]; omega
    · have HE := hid (show i = n by omega)
      have hnlt : ¬ (i : Int) < n := by omega
      go_wp2
      go_ret
      refine ⟨ret_bool ?_, hb⟩
      symm
      refine HI.out.2 fun i' k hik hk => ?_
      have := HE.out
      have := HL.out
      exact HO.out i' k (by omega) hik hk
end Go.Proofs.YtnkkjedckehoaaaDoor
