/- PathSorts: the walk. -/
import Derived.Test.YtekmclbnbbhcmaaDoorQk
import Derived.Deep.DeepCutAuto
import Derived.Deep.RegionHeld3
namespace Go.Proofs.YtekmclbnbbhcmaaDoor
open Go.RowKit

theorem strV_take (ls : List ByteArray) (k : Nat) : strV (ls.take k) = (strV ls).take k := by simp [strV, List.map_take]
theorem strV_drop (ls : List ByteArray) (k : Nat) : strV (ls.drop k) = (strV ls).drop k := by simp [strV, List.map_drop]
theorem take_rd {w : World} {A : Option Addr} {ls : List ByteArray} (h : Rd w A (strV ls)) (k : Nat) : Rd w A (strV (ls.take k)) := by
  rw [strV_take]
  rcases h with h | ⟨ad, rfl, hc⟩
  · left; rw [h]; simp
  · refine .inr ⟨ad, rfl, fun j u hu => hc j u ?_⟩
    rw [List.getElem?_take] at hu
    split at hu
    · exact hu
    · cases hu
/-- What stands behind a place of a slice of strings. -/
theorem cut_strs {b off k c : Nat} {ls : List ByteArray} (hlc : ls.length ≤ c) (hk : k ≤ ls.length) :
    ∀ w : World, Rd w (some ⟨b, off, none⟩) (strV ls) → Rd w (if c = k then (some ⟨b, off, none⟩ : Option Addr) else some ⟨b, off + k, none⟩) (strV (ls.drop k)) := by
  intro w h
  have h2 := h.cut (k := k) (m := ls.length - k) (cap := c) (by rw [strV_length]; omega) (by rw [strV_length]; exact hlc)
  rw [strV_drop]
  rw [List.take_of_length_le (by rw [List.length_drop, strV_length]; omega)] at h2
  have e : (Option.map (fun x : Addr => x.add k) (some ⟨b, off, none⟩) : Option Addr) = some ⟨b, off + k, none⟩ := by rw [Option.map_some, Addr.add_lit]
  rw [e] at h2
  exact h2
theorem Rd.apart {w w' : World} {A : Option Addr} {xs : List Value} {row : Option Nat} (h : Rd w A xs) (hg : w.grownBy w' row) (hne : ∀ ad, A = some ad → row = some ad.block → False) : Rd w' A xs := by
  rcases h with rfl | ⟨ad, rfl, hc⟩
  · exact .inl rfl
  · refine .inr ⟨ad, rfl, fun j u hu => ?_⟩
    have hin := hc j u hu
    refine (World.cell?_of_block (hg.block _ (World.block_lt_of_cell? w _ hin) ?_)).trans hin
    rw [add_block]
    exact fun e => hne ad rfl e.symm
theorem twice_lst {ls : List ByteArray} {k : Nat} (hk : k < ls.length) : sortedL (lst (ls ++ [ls[k]])) = false := by
  have e : lst (ls ++ [ls[k]]) = lst ls ++ [(lst ls)[k]'(by rw [lst_length]; exact hk)] := by simp [lst]
  rw [e]
  exact srt_twice _
theorem Rd.afar {w0 w w' : World} {A : Option Addr} {xs : List Value} {row : Option Nat} (h0 : Rd w0 A xs) (h : Rd w A xs) (hg : w.grownBy w' row) (hrow : ∀ k, row = some k → w0.heap.size ≤ k) : Rd w' A xs := by
  rcases h with rfl | ⟨ad, rfl, hc⟩
  · exact .inl rfl
  · refine .inr ⟨ad, rfl, fun j u hu => ?_⟩
    have hin := hc j u hu
    have hbl : ad.block < w0.heap.size := by
      rcases h0 with rfl | ⟨ad', he, hc'⟩
      · simp at hu
      · injection he with he
        subst he
        have := World.block_lt_of_cell? w0 _ (hc' j u hu)
        rwa [add_block] at this
    refine (World.cell?_of_block (hg.block _ (World.block_lt_of_cell? w _ hin) ?_)).trans hin
    rw [add_block]
    exact fun e => by have := hrow _ e.symm; omega

set_option maxHeartbeats 4000000 in
set_option maxRecDepth 100000 in
theorem pathSorts_walk (A : Option Addr) (c : Nat) (ls : List ByteArray) (at_ : Int) (w : World) (hr : Rd w A (strV ls)) (hlc : ls.length ≤ c) (hc16 : c * 16 ≤ 140737488351232) (_ : ∀ s ∈ ls, s.size ≤ 140737488351232) (_ : (Lit.int .i64 at_).wf = true) :
    Calls Tryd.prog 8 #[.slice A ls.length c, .int .i64 at_] w fun e w' => e = .returned (.bool true) ∧ Below w.heap.size w w' := by
  go_enter Tryd.func8, Tryd.ntmps8
  go_wp2_with fail
  refine (small_any _).mono ?_
  rintro e w1 ⟨rfl, b1⟩
  have r1 := hr.below b1
  have HR := hid hr
  clear hr
  by_cases h1 : (50 : Int) < ls.length
  · go_wp2
    go_ret
    exact ⟨rfl, b1⟩
  go_wp2_with fail
  go_loop [6] (fun i => ∃ j : Nat, j ≤ ls.length ∧ i = .int .i64 j ∧ ∀ x ∈ ls.take j, x.size ≤ 100) (fun i => ls.length - (intOf i).toNat)
  case atStart => exact ⟨0, by omega, rfl, by simp⟩
  case round =>
    obtain ⟨j, hj, rfl, hsm⟩ := hrel
    have HS := hid hsm
    clear hsm
    by_cases hjn : j < ls.length
    · obtain ⟨b, off, rfl, hc, -⟩ := r1.at_ (k := j) (by rw [strV_length]; exact hjn)
      have h5 : w1.cell? ⟨b, off + j, none⟩ = some (.string ls[j]) := by rw [hc]; simp [strV]
      clear hc
      have hz : (0 : Int) ≤ j := by omega
      have hlt : (j : Int) < ls.length := by omega
      by_cases h6 : (100 : Int) < ls[j].size
      · go_wp2
        go_ret
        exact ⟨rfl, b1⟩
      · have HS2 := hid (show ∀ x ∈ ls.take (j + 1), x.size ≤ 100 by
          intro x hx
          rw [List.take_add_one, List.getElem?_eq_getElem hjn, Option.toList_some] at hx
          rcases List.mem_append.1 hx with hx | hx
          · exact HS.out x hx
          · rw [List.mem_singleton.1 hx]; omega)
        go_wp2
        go_roundw
        case rel => exact ⟨j + 1, by omega, by go_num, HS2.out⟩
        case measure => simp [intOf]; omega
    · have hnlt : ¬ (j : Int) < ls.length := by omega
      have e : j = ls.length := by omega
      subst e
      rw [List.take_length] at HS
      have HM := hid (show ∀ s ∈ ls, s.size < 4294967281 from fun x hx => by have := HS.out x hx; omega)
      clear HS
      go_wp2_with fail
      refine (sorted_any A _ c ls _ rfl r1 (by omega) HM.out).mono ?_
      rintro e w2 ⟨rfl, hb2⟩
      have b2 := below2 b1 hb2
      have r2 := r1.below hb2
      clear b1 r1 hb2
      cases hso : sortedL (lst ls)
      · have HP := hid (show 0 < ls.length by
          cases ls with
          | nil => exact absurd hso (by decide)
          | cons _ _ => simp)
        go_wp2
        go_ret
        exact ⟨ret_bool (decide_eq_true HP.out), b2⟩
      have HSO := hid hso
      clear hso
      have hneq : ∀ i k (hi : i < ls.length) (hk : k < i), (ls[i].toList == (ls[k]'(by omega)).toList) = false := by
        intro i k hi hk
        have := srt_less HSO.out (i := i) (k := k) (by rw [lst_length]; exact hi) hk
        rw [Lib.toList_data, Lib.toList_data, beq_eq_false_iff_ne]
        simpa [lst] using this
      have HN := hid hneq
      clear hneq
      go_wp2_with fail
      go_loopw [7] (fun i wr => ∃ j q : Nat, j ≤ ls.length ∧ i = .int .i64 j ∧ wr = w2.drewN q) (fun i _ => ls.length - (intOf i).toNat)
      case atStart => exact ⟨0, 0, by omega, rfl, rfl⟩
      case round =>
        obtain ⟨j, q, hj, rfl, rfl⟩ := hrel
        by_cases hjn : j < ls.length
        · obtain ⟨b, off, rfl, hc, -⟩ := r2.at_ (k := j) (by rw [strV_length]; exact hjn)
          have h5 : w2.cell? ⟨b, off + j, none⟩ = some (.string ls[j]) := by rw [hc]; simp [strV]
          clear hc
          have hz : (0 : Int) ≤ j := by omega
          have hlt : (j : Int) < ls.length := by omega
          go_wp2_with fail
          go_loopw [8] (fun i wr => ∃ k q : Nat, k ≤ j ∧ i = .int .i64 k ∧ wr = w2.drewN q) (fun i _ => j - (intOf i).toNat)
          case atStart => exact ⟨0, q, by omega, rfl, rfl⟩
          case round =>
            obtain ⟨k, q2, hk, rfl, rfl⟩ := hrel
            by_cases hkj : k < j
            · have hkl : k < ls.length := by omega
              have h6 : w2.cell? ⟨b, off + k, none⟩ = some (.string ls[k]) := r2.cells k _ (by simp [strV, hkl])
              have hq := HN.out j k hjn hkj
              have hz2 : (0 : Int) ≤ k := by omega
              have hlt2 : (k : Int) < ls.length := by omega
              have hlt3 : (k : Int) < j := by omega
              go_wp2_with fail
              go_quiet (fail)
              go_wp2
              go_roundw
              case rel => exact ⟨k + 1, _, by omega, by go_num, rfl⟩
              case measure => simp [intOf]; omega
            · have hnlt2 : ¬ (k : Int) < j := by omega
              go_wp2
              go_roundw
              case rel => exact ⟨j + 1, q2, by omega, by go_num, rfl⟩
              case measure => simp [intOf]; omega
        · have hnlt : ¬ (j : Int) < ls.length := by omega
          have b3 : Below w.heap.size w (w2.drewN q) := ⟨b2.os, b2.tape, b2.output, b2.size, b2.block⟩
          have r3 : Rd (w2.drewN q) A (strV ls) := r2
          generalize w2.drewN q = W at *
          clear b2 r2
          by_cases h2 : at_ < 0
          · go_wp2
            go_ret
            exact ⟨rfl, b3⟩
          by_cases h3 : (ls.length : Int) ≤ at_
          · go_wp2
            go_ret
            exact ⟨rfl, b3⟩
          obtain ⟨k, rfl⟩ : ∃ k : Nat, at_ = k := ⟨at_.toNat, by omega⟩
          have hk : k < ls.length := by omega
          obtain ⟨b, off, rfl, hc, -⟩ := r3.at_ (k := k) (by rw [strV_length]; exact hk)
          have h5 : W.cell? ⟨b, off + k, none⟩ = some (.string ls[k]) := by rw [hc]; simp [strV]
          clear hc
          have hkc : k + 1 ≤ c := by omega
          have hkc0 : k ≤ c := by omega
          have hk1 : (k : Int) + 1 ≤ ls.length := by omega
          have hk2 : k + 1 ≤ ls.length := by omega
          have hk3 : (0 : Int) ≤ (k : Int) + 1 := by omega
          have hcut := cut_strs (b := b) (off := off) (k := k + 1) (c := c) hlc hk2
          go_wp2_with fail
          refine wp_region_held_drew (S := fun w' => w'.cell? ⟨b, off + k, none⟩ = some (.string ls[k])) (by kernel_rfl) h5 (fun hHeld => ?_)
          refine wpAnyH_take (i := 0) (oi := ⟨_, _, _, _, _, _⟩) (v := ?_) rfl (by kernel_rfl) (by kernel_rfl) (by kernel_rfl) (fun _ _ _ h => h) (Or.inl ⟨by rfl, ?_⟩) (by assumption) ?_
          rotate_left
          · intro w hSw; (try dsimp only at hSw); go_simp; (try (with_reducible rfl))
          try simp only [Act.put, List.setIfInBounds_toArray, List.set_cons_zero, List.set_cons_succ]
          refine wpAnyH_take (i := 1) (oi := ⟨_, _, _, _, _, _⟩) (v := ?_) rfl (by kernel_rfl) (by kernel_rfl) (by kernel_rfl) (fun _ _ _ h => h) (Or.inl ⟨by rfl, ?_⟩) (by assumption) ?_
          rotate_left
          · intro w hSw; (try dsimp only at hSw); go_simp; (try (with_reducible rfl))
          try simp only [Act.put, List.setIfInBounds_toArray, List.set_cons_zero, List.set_cons_succ]
          refine wpAnyH_take (i := 3) (oi := ⟨_, _, _, _, _, _⟩) (v := ?_) rfl (by kernel_rfl) (by kernel_rfl) (by kernel_rfl) (fun _ _ _ h => h) (Or.inl ⟨by rfl, ?_⟩) (by assumption) ?_
          rotate_left
          · intro w hSw; (try dsimp only at hSw); go_simp; (try (with_reducible rfl))
          try simp only [Act.put, List.setIfInBounds_toArray, List.set_cons_zero, List.set_cons_succ]
          refine wpAnyH_take (i := 4) (oi := ⟨_, _, _, _, _, _⟩) (v := ?_) rfl (by kernel_rfl) (by kernel_rfl) (by kernel_rfl) (fun _ _ _ h => h) (Or.inl ⟨by rfl, ?_⟩) (by assumption) ?_
          rotate_left
          · intro w hSw; (try dsimp only at hSw); go_simp; (try (with_reducible rfl))
          try simp only [Act.put, List.setIfInBounds_toArray, List.set_cons_zero, List.set_cons_succ]
          refine wpAnyH_take (i := 5) (oi := ⟨_, _, _, _, _, _⟩) (v := ?_) rfl (by kernel_rfl) (by kernel_rfl) (by kernel_rfl) (fun _ _ _ h => h) (Or.inl ⟨by rfl, ?_⟩) (by assumption) ?_
          rotate_left
          · intro w hSw; (try dsimp only at hSw); go_simp; (try (with_reducible rfl))
          try simp only [Act.put, List.setIfInBounds_toArray, List.set_cons_zero, List.set_cons_succ]
          refine wpAnyH_take (i := 7) (oi := ⟨_, _, _, _, _, _⟩) (v := ?_) rfl (by kernel_rfl) (by kernel_rfl) (by kernel_rfl) (fun _ _ _ h => h) (Or.inl ⟨by rfl, ?_⟩) (by assumption) ?_
          rotate_left
          · intro w hSw; (try dsimp only at hSw); go_simp; (try (with_reducible rfl))
          try simp only [Act.put, List.setIfInBounds_toArray, List.set_cons_zero, List.set_cons_succ]
          refine wpAnyH_take (i := 8) (oi := ⟨_, _, _, _, _, _⟩) (v := ?_) rfl (by kernel_rfl) (by kernel_rfl) (by kernel_rfl) (fun _ _ _ h => h) (Or.inl ⟨by rfl, ?_⟩) (by assumption) ?_
          rotate_left
          · intro w hSw; (try dsimp only at hSw); go_simp; (try (with_reducible rfl))
          try simp only [Act.put, List.setIfInBounds_toArray, List.set_cons_zero, List.set_cons_succ]
          refine wpAnyH_take (i := 9) (oi := ⟨_, _, _, _, _, _⟩) (v := ?_) rfl (by kernel_rfl) (by kernel_rfl) (by kernel_rfl) (fun _ _ _ h => h) (Or.inl ⟨by rfl, ?_⟩) (by assumption) ?_
          rotate_left
          · intro w hSw; (try dsimp only at hSw); go_simp; (try (with_reducible rfl))
          try simp only [Act.put, List.setIfInBounds_toArray, List.set_cons_zero, List.set_cons_succ]
          rw [show IntKind.i64.wrap ((k : Int) + 1) = ((k + 1 : Nat) : Int) by rw [IntKind.wrap_i64]; omega]
          refine wpAnyH_take (i := 10) (oi := ⟨_, _, _, _, _, _⟩) (v := ?_) rfl (by kernel_rfl) (by kernel_rfl) (by kernel_rfl) (fun _ _ _ h => h) (Or.inl ⟨by rfl, ?_⟩) (by assumption) ?_
          rotate_left
          · intro w hSw; (try dsimp only at hSw); go_simp; (try (with_reducible rfl))
          try simp only [Act.put, List.setIfInBounds_toArray, List.set_cons_zero, List.set_cons_succ]
          generalize hB : (if c = k + 1 then (some ⟨b, off, none⟩ : Option Addr) else some ⟨b, off + (k + 1), none⟩) = B
          rw [hB] at hcut
          have HCUT := hid hcut
          clear hcut hB
          refine wpAnyH_ready (rs := [2]) (by kernel_rfl) (by simp) ?_
          refine AllReadyH.cons (o := ⟨_, _, _, _, _, _⟩) rfl (fun K hK => ?_) (AllReadyH.nil)
          go_simp
          have b4 : Below w.heap.size w (W.alloc (.cells #[] 9)).drew := (b3.alloc b3.size _).drew
          have r4 : Rd (W.alloc (.cells #[] 9)).drew (some ⟨b, off, none⟩) (strV ls) := r3.alloc _
          have h4 := r4.cells k (.string ls[k]) (by simp [strV, hk])
          have own4 : (W.alloc (.cells #[] 9)).drew.ownsRow w.heap.size 9 1 (.slice (some ⟨W.heap.size, 0, none⟩) 0 0) 0 [] := own_base (World.ownsRow_made W #[] 0 (Nat.le_refl _) (by unfold maxLen; omega) rfl) b3.size
          generalize (W.alloc (.cells #[] 9)).drew = w4 at *
          refine hK.out _ _ h4 (fun hHeld => ?_)
          clear hK K
          try simp only [Act.put, List.setIfInBounds_toArray, List.set_cons_zero, List.set_cons_succ]
          obtain ⟨A6, c6, w6, run6, own6, g6⟩ := run_app (P := Tryd.prog) w4 w.heap.size 22 22 9 (.string ⟨#[]⟩) 16 Tryd.underlying22 Tryd.infoS rfl (some ⟨W.heap.size, 0, none⟩) 0 0 [] own4 (some ⟨b, off, none⟩) k c (strV (ls.take k)) (by rw [strV_length, List.length_take]; omega) (take_rd r4 k) (strV_one _) (by omega) b4.size (by simp only [maxLen]; omega)
          simp only [Nat.zero_add, List.nil_append] at run6 own6
          have b6 := b4.grown g6 b4.size (own_app_block own4)
          have r6 := Rd.afar HR.out r4 g6 (own_app_block own4)
          have h6 := r6.cells k (.string ls[k]) (by simp [strV, hk])
          refine wpAnyH_ready (rs := [6]) (by kernel_rfl) (by simp) ?_
          refine AllReadyH.cons (o := ⟨_, _, _, _, _, _⟩) rfl (fun K hK => ?_) (AllReadyH.nil)
          refine stepApp (by rfl) (.tmp 67) (.tmp 70) 22 rfl _ _ _ rfl rfl run6 ?_
          refine hK.out _ _ h6 (fun hHeld => ?_)
          clear hK K
          try simp only [Act.put, List.setIfInBounds_toArray, List.set_cons_zero, List.set_cons_succ]
          obtain ⟨A7, c7, w7, run7, own7, g7⟩ := run_app (P := Tryd.prog) w6 w.heap.size 22 22 9 (.string ⟨#[]⟩) 16 Tryd.underlying22 Tryd.infoS rfl A6 k c6 (strV (ls.take k)) own6 B (ls.length - (k + 1)) (c - (k + 1)) (strV (ls.drop (k + 1))) (by rw [strV_length, List.length_drop]) (HCUT.out _ r6) (strV_one _) (by omega) b6.size (by simp only [maxLen]; omega)
          obtain ⟨N, hN⟩ : ∃ N, k + (ls.length - (k + 1)) = N := ⟨_, rfl⟩
          rw [hN] at run7 own7
          have b7 := b6.grown g7 b6.size (own_app_block own6)
          have r7 := Rd.afar HR.out r6 g7 (own_app_block own6)
          have h7 := r7.cells k (.string ls[k]) (by simp [strV, hk])
          refine wpAnyH_ready (rs := [11]) (by kernel_rfl) (by simp) ?_
          refine AllReadyH.cons (o := ⟨_, _, _, _, _, _⟩) rfl (fun K hK => ?_) (AllReadyH.nil)
          refine stepApp (by rfl) (.tmp 71) (.tmp 75) 22 rfl _ _ _ rfl rfl run7 ?_
          refine hK.out _ _ h7 (fun hHeld => ?_)
          clear hK K
          try simp only [Act.put, List.setIfInBounds_toArray, List.set_cons_zero, List.set_cons_succ]
          have rr7 := Rd.of_own own7
          rw [← strV_append] at rr7
          have c8 := sorted_any A7 N c7 (ls.take k ++ ls.drop (k + 1)) w7 (by rw [List.length_append, List.length_take, List.length_drop]; omega) rr7 (by omega) (fun x hx => HM.out x (by rcases List.mem_append.1 hx with h | h; exact List.mem_of_mem_take h; exact List.mem_of_mem_drop h))
          rw [show sortedL (lst (ls.take k ++ ls.drop (k + 1))) = true by rw [lst, List.map_append, List.map_take, List.map_drop]; exact srt_erase HSO.out k] at c8
          refine wpAnyH_ready (rs := [12]) (by kernel_rfl) (by simp) ?_
          refine AllReadyH.cons (o := ⟨_, _, _, _, _, _⟩) rfl (fun K hK => ?_) (AllReadyH.nil)
          go_simp
          refine c8.mono ?_
          rintro e w8 ⟨rfl, hb8⟩
          have b8 := below2 b7 hb8
          have r8 := r7.below hb8
          have h8 := r8.cells k (.string ls[k]) (by simp [strV, hk])
          refine hK.out _ _ h8 (fun hHeld => ?_)
          clear hK K
          try simp only [Act.put, List.setIfInBounds_toArray, List.set_cons_zero, List.set_cons_succ]
          clear c8 rr7 own7 own6 own4 run6 run7 g6 g7 b4 b6 b7 r4 r6 r7 h4 h6 h7 b3 r3 hb8
          refine wpAnyH_take (i := 13) (oi := ⟨_, _, _, _, _, _⟩) (v := ?_) rfl (by kernel_rfl) (by kernel_rfl) (by kernel_rfl) (fun _ _ _ h => h) (Or.inl ⟨by rfl, ?_⟩) (by assumption) ?_
          rotate_left
          · intro w hSw; (try dsimp only at hSw); go_simp; (try (with_reducible rfl))
          try simp only [Act.put, List.setIfInBounds_toArray, List.set_cons_zero, List.set_cons_succ]
          refine wpAnyH_take (i := 14) (oi := ⟨_, _, _, _, _, _⟩) (v := ?_) rfl (by kernel_rfl) (by kernel_rfl) (by kernel_rfl) (fun _ _ _ h => h) (Or.inl ⟨by rfl, ?_⟩) (by assumption) ?_
          rotate_left
          · intro w hSw; (try dsimp only at hSw); go_simp; (try (with_reducible rfl))
          try simp only [Act.put, List.setIfInBounds_toArray, List.set_cons_zero, List.set_cons_succ]
          refine wpAnyH_take (i := 16) (oi := ⟨_, _, _, _, _, _⟩) (v := ?_) rfl (by kernel_rfl) (by kernel_rfl) (by kernel_rfl) (fun _ _ _ h => h) (Or.inl ⟨by rfl, ?_⟩) (by assumption) ?_
          rotate_left
          · intro w hSw; (try dsimp only at hSw); go_simp; (try (with_reducible rfl))
          try simp only [Act.put, List.setIfInBounds_toArray, List.set_cons_zero, List.set_cons_succ]
          refine wpAnyH_take (i := 18) (oi := ⟨_, _, _, _, _, _⟩) (v := ?_) rfl (by kernel_rfl) (by kernel_rfl) (by kernel_rfl) (fun _ _ _ h => h) (Or.inl ⟨by rfl, ?_⟩) (by assumption) ?_
          rotate_left
          · intro w hSw; (try dsimp only at hSw); go_simp; (try (with_reducible rfl))
          try simp only [Act.put, List.setIfInBounds_toArray, List.set_cons_zero, List.set_cons_succ]
          refine wpAnyH_take (i := 19) (oi := ⟨_, _, _, _, _, _⟩) (v := ?_) rfl (by kernel_rfl) (by kernel_rfl) (by kernel_rfl) (fun _ _ _ h => h) (Or.inl ⟨by rfl, ?_⟩) (by assumption) ?_
          rotate_left
          · intro w hSw; (try dsimp only at hSw); go_simp; (try (with_reducible rfl))
          try simp only [Act.put, List.setIfInBounds_toArray, List.set_cons_zero, List.set_cons_succ]
          refine wpAnyH_take (i := 20) (oi := ⟨_, _, _, _, _, _⟩) (v := ?_) rfl (by kernel_rfl) (by kernel_rfl) (by kernel_rfl) (fun _ _ _ h => h) (Or.inl ⟨by rfl, ?_⟩) (by assumption) ?_
          rotate_left
          · intro w hSw; (try dsimp only at hSw); go_simp; (try (with_reducible rfl))
          try simp only [Act.put, List.setIfInBounds_toArray, List.set_cons_zero, List.set_cons_succ]
          refine wpAnyH_take (i := 21) (oi := ⟨_, _, _, _, _, _⟩) (v := ?_) rfl (by kernel_rfl) (by kernel_rfl) (by kernel_rfl) (fun _ _ _ h => h) (Or.inl ⟨by rfl, ?_⟩) (by assumption) ?_
          rotate_left
          · intro w hSw; (try dsimp only at hSw); go_simp; (try (with_reducible rfl))
          try simp only [Act.put, List.setIfInBounds_toArray, List.set_cons_zero, List.set_cons_succ]
          refine wpAnyH_ready (rs := [15, 22]) (by kernel_rfl) (by simp) ?_
          refine AllReadyH.cons (o := ⟨_, _, _, _, _, _⟩) rfl (fun K hK => ?_) (AllReadyH.cons (o := ⟨_, _, _, _, _, _⟩) rfl (fun K hK => ?_) (AllReadyH.nil))
          · go_simp
            have b9 : Below w.heap.size w (w8.alloc (.cells #[] 9)) := (b8.alloc b8.size _)
            have r9 : Rd (w8.alloc (.cells #[] 9)) (some ⟨b, off, none⟩) (strV ls) := r8.alloc _
            have h9 := r9.cells k (.string ls[k]) (by simp [strV, hk])
            have own9 : (w8.alloc (.cells #[] 9)).ownsRow w.heap.size 9 1 (.slice (some ⟨w8.heap.size, 0, none⟩) 0 0) 0 [] := own_base (World.ownsRow_made w8 #[] 0 (Nat.le_refl _) (by unfold maxLen; omega) rfl) b8.size
            generalize hw9 : (w8.alloc (.cells #[] 9)) = w9 at *
            clear hw9
            refine hK.out _ _ h9 (fun hHeld => ?_)
            clear hK K
            try simp only [Act.put, List.setIfInBounds_toArray, List.set_cons_zero, List.set_cons_succ]
            refine wpAnyH_ready (rs := [17, 22]) (by kernel_rfl) (by simp) ?_
            refine AllReadyH.cons (o := ⟨_, _, _, _, _, _⟩) rfl (fun K hK => ?_) (AllReadyH.cons (o := ⟨_, _, _, _, _, _⟩) rfl (fun K hK => ?_) (AllReadyH.nil))
            · obtain ⟨A10, c10, w10, run10, own10, g10⟩ := run_app (P := Tryd.prog) w9 w.heap.size 22 22 9 (.string ⟨#[]⟩) 16 Tryd.underlying22 Tryd.infoS rfl (some ⟨w8.heap.size, 0, none⟩) 0 0 [] own9 (some ⟨b, off, none⟩) ls.length c (strV ls) (strV_length _) r9 (strV_one _) (by omega) b9.size (by simp only [maxLen]; omega)
              simp only [Nat.zero_add, List.nil_append] at run10 own10
              have b10 := b9.grown g10 b9.size (own_app_block own9)
              have r10 := Rd.afar HR.out r9 g10 (own_app_block own9)
              have h10 := r10.cells k (.string ls[k]) (by simp [strV, hk])
              refine stepApp (by rfl) (.tmp 80) (.tmp 81) 22 rfl _ _ _ rfl rfl run10 ?_
              refine hK.out _ _ h10 (fun hHeld => ?_)
              clear hK K
              try simp only [Act.put, List.setIfInBounds_toArray, List.set_cons_zero, List.set_cons_succ]
              refine wpAnyH_ready (rs := [22]) (by kernel_rfl) (by simp) ?_
              refine AllReadyH.cons (o := ⟨_, _, _, _, _, _⟩) rfl (fun K hK => ?_) (AllReadyH.nil)
              go_simp
              have b11 : Below w.heap.size w (w10.alloc (.cells #[.string ls[k]] 9)) := (b10.alloc b10.size _)
              have r11 : Rd (w10.alloc (.cells #[.string ls[k]] 9)) (some ⟨b, off, none⟩) (strV ls) := r10.alloc _
              have h11 := r11.cells k (.string ls[k]) (by simp [strV, hk])
              have s11 : Rd (w10.alloc (.cells #[.string ls[k]] 9)) (some ⟨w10.heap.size, 0, none⟩) (strV [ls[k]]) := .inr ⟨_, rfl, new_cells w10 9 (strV [ls[k]])⟩
              have own11 := own10.alloc (.cells #[.string ls[k]] 9)
              generalize hw11 : (w10.alloc (.cells #[.string ls[k]] 9)) = w11 at *
              clear hw11
              refine hK.out _ _ h11 (fun hHeld => ?_)
              clear hK K
              try simp only [Act.put, List.setIfInBounds_toArray, List.set_cons_zero, List.set_cons_succ]
              obtain ⟨Ax, cx, wx, runx, ownx, gx⟩ := run_app (P := Tryd.prog) w11 w.heap.size 22 22 9 (.string ⟨#[]⟩) 16 Tryd.underlying22 Tryd.infoS rfl A10 ls.length c10 (strV ls) own11 (some ⟨w10.heap.size, 0, none⟩) 1 1 (strV [ls[k]]) rfl s11 (strV_one _) (by omega) b11.size (by simp only [maxLen]; omega)
              have bx := b11.grown gx b11.size (own_app_block own11)
              have rx := Rd.afar HR.out r11 gx (own_app_block own11)
              have hx := rx.cells k (.string ls[k]) (by simp [strV, hk])
              refine wpAnyH_ready (rs := [23]) (by kernel_rfl) (by simp) ?_
              refine AllReadyH.cons (o := ⟨_, _, _, _, _, _⟩) rfl (fun K hK => ?_) (AllReadyH.nil)
              refine stepApp (by rfl) (.tmp 82) (.tmp 87) 22 rfl _ _ _ rfl rfl runx ?_
              refine hK.out _ _ hx (fun hHeld => ?_)
              clear hK K
              try simp only [Act.put, List.setIfInBounds_toArray, List.set_cons_zero, List.set_cons_succ]
              have rrx := Rd.of_own ownx
              rw [← strV_append] at rrx
              have cx9 := sorted_any Ax (ls.length + 1) cx (ls ++ [ls[k]]) wx (by simp) rrx (by omega) (fun x hx => HM.out x (by rcases List.mem_append.1 hx with h | h; exact h; rw [List.mem_singleton.1 h]; exact List.getElem_mem hk))
              rw [twice_lst hk] at cx9
              refine wpAnyH_ready (rs := [24]) (by kernel_rfl) (by simp) ?_
              refine AllReadyH.cons (o := ⟨_, _, _, _, _, _⟩) rfl (fun K hK => ?_) (AllReadyH.nil)
              go_simp
              refine cx9.mono ?_
              rintro e wy ⟨rfl, hby⟩
              have by9 := below2 bx hby
              have ry := rx.below hby
              have hy := ry.cells k (.string ls[k]) (by simp [strV, hk])
              refine hK.out _ _ hy (fun hHeld => ?_)
              clear hK K
              try simp only [Act.put, List.setIfInBounds_toArray, List.set_cons_zero, List.set_cons_succ]
              refine wpAnyH_take (i := 25) (oi := ⟨_, _, _, _, _, _⟩) (v := ?_) rfl (by kernel_rfl) (by kernel_rfl) (by kernel_rfl) (fun _ _ _ h => h) (Or.inl ⟨by rfl, ?_⟩) (by assumption) ?_
              rotate_left
              · intro w hSw; (try dsimp only at hSw); go_simp; (try (with_reducible rfl))
              try simp only [Act.put, List.setIfInBounds_toArray, List.set_cons_zero, List.set_cons_succ]
              refine wpAnyH_take (i := 26) (oi := ⟨_, _, _, _, _, _⟩) (v := ?_) rfl (by kernel_rfl) (by kernel_rfl) (by kernel_rfl) (fun _ _ _ h => h) (Or.inl ⟨by rfl, ?_⟩) (by assumption) ?_
              rotate_left
              · intro w hSw; (try dsimp only at hSw); go_simp; (try (with_reducible rfl))
              try simp only [Act.put, List.setIfInBounds_toArray, List.set_cons_zero, List.set_cons_succ]
              refine wpAnyH_take (i := 27) (oi := ⟨_, _, _, _, _, _⟩) (v := ?_) rfl (by kernel_rfl) (by kernel_rfl) (by kernel_rfl) (fun _ _ _ h => h) (Or.inl ⟨by rfl, ?_⟩) (by assumption) ?_
              rotate_left
              · intro w hSw; (try dsimp only at hSw); go_simp; (try (with_reducible rfl))
              try simp only [Act.put, List.setIfInBounds_toArray, List.set_cons_zero, List.set_cons_succ]
              refine wpAnyH_done (by kernel_rfl) ?_ _
              go_wp2
              go_ret
              exact ⟨rfl, by9⟩
            · go_simp
              have b10 : Below w.heap.size w (w9.alloc (.cells #[.string ls[k]] 9)) := (b9.alloc b9.size _)
              have r10 : Rd (w9.alloc (.cells #[.string ls[k]] 9)) (some ⟨b, off, none⟩) (strV ls) := r9.alloc _
              have h10 := r10.cells k (.string ls[k]) (by simp [strV, hk])
              have s10 : Rd (w9.alloc (.cells #[.string ls[k]] 9)) (some ⟨w9.heap.size, 0, none⟩) (strV [ls[k]]) := .inr ⟨_, rfl, new_cells w9 9 (strV [ls[k]])⟩
              have own10 := own9.alloc (.cells #[.string ls[k]] 9)
              generalize hw10 : (w9.alloc (.cells #[.string ls[k]] 9)) = w10 at *
              clear hw10
              refine hK.out _ _ h10 (fun hHeld => ?_)
              clear hK K
              try simp only [Act.put, List.setIfInBounds_toArray, List.set_cons_zero, List.set_cons_succ]
              obtain ⟨A11, c11, w11, run11, own11, g11⟩ := run_app (P := Tryd.prog) w10 w.heap.size 22 22 9 (.string ⟨#[]⟩) 16 Tryd.underlying22 Tryd.infoS rfl (some ⟨w8.heap.size, 0, none⟩) 0 0 [] own10 (some ⟨b, off, none⟩) ls.length c (strV ls) (strV_length _) r10 (strV_one _) (by omega) b10.size (by simp only [maxLen]; omega)
              simp only [Nat.zero_add, List.nil_append] at run11 own11
              have b11 := b10.grown g11 b10.size (own_app_block own10)
              have r11 := Rd.afar HR.out r10 g11 (own_app_block own10)
              have h11 := r11.cells k (.string ls[k]) (by simp [strV, hk])
              have s11 := Rd.apart s10 g11 (fun ad he e => by injection he with he; subst he; have h := (own9.lt _ e).2; simp only at h; omega)
              refine wpAnyH_ready (rs := [17]) (by kernel_rfl) (by simp) ?_
              refine AllReadyH.cons (o := ⟨_, _, _, _, _, _⟩) rfl (fun K hK => ?_) (AllReadyH.nil)
              refine stepApp (by rfl) (.tmp 80) (.tmp 81) 22 rfl _ _ _ rfl rfl run11 ?_
              refine hK.out _ _ h11 (fun hHeld => ?_)
              clear hK K
              try simp only [Act.put, List.setIfInBounds_toArray, List.set_cons_zero, List.set_cons_succ]
              obtain ⟨Ax, cx, wx, runx, ownx, gx⟩ := run_app (P := Tryd.prog) w11 w.heap.size 22 22 9 (.string ⟨#[]⟩) 16 Tryd.underlying22 Tryd.infoS rfl A11 ls.length c11 (strV ls) own11 (some ⟨w9.heap.size, 0, none⟩) 1 1 (strV [ls[k]]) rfl s11 (strV_one _) (by omega) b11.size (by simp only [maxLen]; omega)
              have bx := b11.grown gx b11.size (own_app_block own11)
              have rx := Rd.afar HR.out r11 gx (own_app_block own11)
              have hx := rx.cells k (.string ls[k]) (by simp [strV, hk])
              refine wpAnyH_ready (rs := [23]) (by kernel_rfl) (by simp) ?_
              refine AllReadyH.cons (o := ⟨_, _, _, _, _, _⟩) rfl (fun K hK => ?_) (AllReadyH.nil)
              refine stepApp (by rfl) (.tmp 82) (.tmp 87) 22 rfl _ _ _ rfl rfl runx ?_
              refine hK.out _ _ hx (fun hHeld => ?_)
              clear hK K
              try simp only [Act.put, List.setIfInBounds_toArray, List.set_cons_zero, List.set_cons_succ]
              have rrx := Rd.of_own ownx
              rw [← strV_append] at rrx
              have cx9 := sorted_any Ax (ls.length + 1) cx (ls ++ [ls[k]]) wx (by simp) rrx (by omega) (fun x hx => HM.out x (by rcases List.mem_append.1 hx with h | h; exact h; rw [List.mem_singleton.1 h]; exact List.getElem_mem hk))
              rw [twice_lst hk] at cx9
              refine wpAnyH_ready (rs := [24]) (by kernel_rfl) (by simp) ?_
              refine AllReadyH.cons (o := ⟨_, _, _, _, _, _⟩) rfl (fun K hK => ?_) (AllReadyH.nil)
              go_simp
              refine cx9.mono ?_
              rintro e wy ⟨rfl, hby⟩
              have by9 := below2 bx hby
              have ry := rx.below hby
              have hy := ry.cells k (.string ls[k]) (by simp [strV, hk])
              refine hK.out _ _ hy (fun hHeld => ?_)
              clear hK K
              try simp only [Act.put, List.setIfInBounds_toArray, List.set_cons_zero, List.set_cons_succ]
              refine wpAnyH_take (i := 25) (oi := ⟨_, _, _, _, _, _⟩) (v := ?_) rfl (by kernel_rfl) (by kernel_rfl) (by kernel_rfl) (fun _ _ _ h => h) (Or.inl ⟨by rfl, ?_⟩) (by assumption) ?_
              rotate_left
              · intro w hSw; (try dsimp only at hSw); go_simp; (try (with_reducible rfl))
              try simp only [Act.put, List.setIfInBounds_toArray, List.set_cons_zero, List.set_cons_succ]
              refine wpAnyH_take (i := 26) (oi := ⟨_, _, _, _, _, _⟩) (v := ?_) rfl (by kernel_rfl) (by kernel_rfl) (by kernel_rfl) (fun _ _ _ h => h) (Or.inl ⟨by rfl, ?_⟩) (by assumption) ?_
              rotate_left
              · intro w hSw; (try dsimp only at hSw); go_simp; (try (with_reducible rfl))
              try simp only [Act.put, List.setIfInBounds_toArray, List.set_cons_zero, List.set_cons_succ]
              refine wpAnyH_take (i := 27) (oi := ⟨_, _, _, _, _, _⟩) (v := ?_) rfl (by kernel_rfl) (by kernel_rfl) (by kernel_rfl) (fun _ _ _ h => h) (Or.inl ⟨by rfl, ?_⟩) (by assumption) ?_
              rotate_left
              · intro w hSw; (try dsimp only at hSw); go_simp; (try (with_reducible rfl))
              try simp only [Act.put, List.setIfInBounds_toArray, List.set_cons_zero, List.set_cons_succ]
              refine wpAnyH_done (by kernel_rfl) ?_ _
              go_wp2
              go_ret
              exact ⟨rfl, by9⟩
          · go_simp
            have b9 : Below w.heap.size w (w8.alloc (.cells #[.string ls[k]] 9)) := (b8.alloc b8.size _)
            have r9 : Rd (w8.alloc (.cells #[.string ls[k]] 9)) (some ⟨b, off, none⟩) (strV ls) := r8.alloc _
            have h9 := r9.cells k (.string ls[k]) (by simp [strV, hk])
            have s9 : Rd (w8.alloc (.cells #[.string ls[k]] 9)) (some ⟨w8.heap.size, 0, none⟩) (strV [ls[k]]) := .inr ⟨_, rfl, new_cells w8 9 (strV [ls[k]])⟩
            generalize hw9 : (w8.alloc (.cells #[.string ls[k]] 9)) = w9 at *
            clear hw9
            refine hK.out _ _ h9 (fun hHeld => ?_)
            clear hK K
            try simp only [Act.put, List.setIfInBounds_toArray, List.set_cons_zero, List.set_cons_succ]
            refine wpAnyH_ready (rs := [15]) (by kernel_rfl) (by simp) ?_
            refine AllReadyH.cons (o := ⟨_, _, _, _, _, _⟩) rfl (fun K hK => ?_) (AllReadyH.nil)
            have hlt9 : w8.heap.size < w9.heap.size := World.block_lt_of_cell? w9 ⟨w8.heap.size, 0 + 0, none⟩ (s9.cells 0 _ rfl)
            have s10 := s9.alloc (.cells #[] 9)
            go_simp
            have b10 : Below w.heap.size w (w9.alloc (.cells #[] 9)) := (b9.alloc b9.size _)
            have r10 : Rd (w9.alloc (.cells #[] 9)) (some ⟨b, off, none⟩) (strV ls) := r9.alloc _
            have h10 := r10.cells k (.string ls[k]) (by simp [strV, hk])
            have own10 : (w9.alloc (.cells #[] 9)).ownsRow w.heap.size 9 1 (.slice (some ⟨w9.heap.size, 0, none⟩) 0 0) 0 [] := own_base (World.ownsRow_made w9 #[] 0 (Nat.le_refl _) (by unfold maxLen; omega) rfl) b9.size
            generalize hw10 : (w9.alloc (.cells #[] 9)) = w10 at *
            clear hw10
            refine hK.out _ _ h10 (fun hHeld => ?_)
            clear hK K
            try simp only [Act.put, List.setIfInBounds_toArray, List.set_cons_zero, List.set_cons_succ]
            obtain ⟨A11, c11, w11, run11, own11, g11⟩ := run_app (P := Tryd.prog) w10 w.heap.size 22 22 9 (.string ⟨#[]⟩) 16 Tryd.underlying22 Tryd.infoS rfl (some ⟨w9.heap.size, 0, none⟩) 0 0 [] own10 (some ⟨b, off, none⟩) ls.length c (strV ls) (strV_length _) r10 (strV_one _) (by omega) b10.size (by simp only [maxLen]; omega)
            simp only [Nat.zero_add, List.nil_append] at run11 own11
            have b11 := b10.grown g11 b10.size (own_app_block own10)
            have r11 := Rd.afar HR.out r10 g11 (own_app_block own10)
            have h11 := r11.cells k (.string ls[k]) (by simp [strV, hk])
            have s11 := Rd.apart s10 g11 (fun ad he e => by injection he with he; subst he; injection e with e; simp only at e; omega)
            refine wpAnyH_ready (rs := [17]) (by kernel_rfl) (by simp) ?_
            refine AllReadyH.cons (o := ⟨_, _, _, _, _, _⟩) rfl (fun K hK => ?_) (AllReadyH.nil)
            refine stepApp (by rfl) (.tmp 80) (.tmp 81) 22 rfl _ _ _ rfl rfl run11 ?_
            refine hK.out _ _ h11 (fun hHeld => ?_)
            clear hK K
            try simp only [Act.put, List.setIfInBounds_toArray, List.set_cons_zero, List.set_cons_succ]
            obtain ⟨Ax, cx, wx, runx, ownx, gx⟩ := run_app (P := Tryd.prog) w11 w.heap.size 22 22 9 (.string ⟨#[]⟩) 16 Tryd.underlying22 Tryd.infoS rfl A11 ls.length c11 (strV ls) own11 (some ⟨w8.heap.size, 0, none⟩) 1 1 (strV [ls[k]]) rfl s11 (strV_one _) (by omega) b11.size (by simp only [maxLen]; omega)
            have bx := b11.grown gx b11.size (own_app_block own11)
            have rx := Rd.afar HR.out r11 gx (own_app_block own11)
            have hx := rx.cells k (.string ls[k]) (by simp [strV, hk])
            refine wpAnyH_ready (rs := [23]) (by kernel_rfl) (by simp) ?_
            refine AllReadyH.cons (o := ⟨_, _, _, _, _, _⟩) rfl (fun K hK => ?_) (AllReadyH.nil)
            refine stepApp (by rfl) (.tmp 82) (.tmp 87) 22 rfl _ _ _ rfl rfl runx ?_
            refine hK.out _ _ hx (fun hHeld => ?_)
            clear hK K
            try simp only [Act.put, List.setIfInBounds_toArray, List.set_cons_zero, List.set_cons_succ]
            have rrx := Rd.of_own ownx
            rw [← strV_append] at rrx
            have cx9 := sorted_any Ax (ls.length + 1) cx (ls ++ [ls[k]]) wx (by simp) rrx (by omega) (fun x hx => HM.out x (by rcases List.mem_append.1 hx with h | h; exact h; rw [List.mem_singleton.1 h]; exact List.getElem_mem hk))
            rw [twice_lst hk] at cx9
            refine wpAnyH_ready (rs := [24]) (by kernel_rfl) (by simp) ?_
            refine AllReadyH.cons (o := ⟨_, _, _, _, _, _⟩) rfl (fun K hK => ?_) (AllReadyH.nil)
            go_simp
            refine cx9.mono ?_
            rintro e wy ⟨rfl, hby⟩
            have by9 := below2 bx hby
            have ry := rx.below hby
            have hy := ry.cells k (.string ls[k]) (by simp [strV, hk])
            refine hK.out _ _ hy (fun hHeld => ?_)
            clear hK K
            try simp only [Act.put, List.setIfInBounds_toArray, List.set_cons_zero, List.set_cons_succ]
            refine wpAnyH_take (i := 25) (oi := ⟨_, _, _, _, _, _⟩) (v := ?_) rfl (by kernel_rfl) (by kernel_rfl) (by kernel_rfl) (fun _ _ _ h => h) (Or.inl ⟨by rfl, ?_⟩) (by assumption) ?_
            rotate_left
            · intro w hSw; (try dsimp only at hSw); go_simp; (try (with_reducible rfl))
            try simp only [Act.put, List.setIfInBounds_toArray, List.set_cons_zero, List.set_cons_succ]
            refine wpAnyH_take (i := 26) (oi := ⟨_, _, _, _, _, _⟩) (v := ?_) rfl (by kernel_rfl) (by kernel_rfl) (by kernel_rfl) (fun _ _ _ h => h) (Or.inl ⟨by rfl, ?_⟩) (by assumption) ?_
            rotate_left
            · intro w hSw; (try dsimp only at hSw); go_simp; (try (with_reducible rfl))
            try simp only [Act.put, List.setIfInBounds_toArray, List.set_cons_zero, List.set_cons_succ]
            refine wpAnyH_take (i := 27) (oi := ⟨_, _, _, _, _, _⟩) (v := ?_) rfl (by kernel_rfl) (by kernel_rfl) (by kernel_rfl) (fun _ _ _ h => h) (Or.inl ⟨by rfl, ?_⟩) (by assumption) ?_
            rotate_left
            · intro w hSw; (try dsimp only at hSw); go_simp; (try (with_reducible rfl))
            try simp only [Act.put, List.setIfInBounds_toArray, List.set_cons_zero, List.set_cons_succ]
            refine wpAnyH_done (by kernel_rfl) ?_ _
            go_wp2
            go_ret
            exact ⟨rfl, by9⟩
end Go.Proofs.YtekmclbnbbhcmaaDoor
