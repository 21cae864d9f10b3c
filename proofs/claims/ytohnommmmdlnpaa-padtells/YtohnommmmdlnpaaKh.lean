/- PadZeros: the walk. -/
import Derived.Test.YtohnommmmdlnpaaKd
import Derived.Deep.RegionHeld3
namespace Go.Proofs.Ytohnommmmdlnpaa
open Go.RowKit

theorem toS_append (a b : List UInt8) : toS a ++ toS b = toS (a ++ b) := by
  rw [← toS_data (toS a ++ toS b)]
  congr 1
theorem conv_zer {w : World} {g n : Nat} (h : Blk w g (by8 (zer n)) 5) : (convert 23 9 (.slice (some ⟨g, 0, none⟩) n n)).run Try.prog w = .ok (.string (toS (zer n))) w :=
  conv_rd _ 23 9 5 Try.underlying23 Try.underlying5 Try.underlying9 _ n n (zer n) (zer_length n) h.rd
theorem pad_head (s : ByteArray) : (padB s).extract 0 (strB s).length = toS (strB s) := by
  rw [← toS_data ((padB s).extract 0 (strB s).length)]
  congr 1
  rw [extract_list, padB_data, padL, List.take_left]
theorem inner_zer (s : ByteArray) (m : Nat) (h : s.size ≤ 5116) : innerL (toS (strB s ++ zer m)) = (s.data.toList, 4 + s.size, 0) := by
  have hl : (strB s).length = 4 + s.size := by rw [strB_length]; omega
  have hz : (toS (strB s ++ zer m)).size = 4 + s.size + m := by rw [toS_size, List.length_append, hl, zer_length]
  have hb : rStr (strB s ++ zer m) 0 0 ((toS (strB s ++ zer m)).size : Int) = _ := rStr_back (s := s) (post := zer m) (by rw [List.drop_zero]) (by omega) (by rw [hz]; omega)
  rw [hl, Nat.zero_add] at hb
  exact hb
theorem zer_same (s : ByteArray) (m : Nat) (h : 4 + s.size + m = sizeN s.size) : toS (strB s ++ zer m) = padB s := by
  unfold padB padL zer
  rw [show sizeN s.size - (4 + s.size) = m by omega]
theorem zer_not (s : ByteArray) (m : Nat) (hs : s.size ≤ 5116) (h : 4 + s.size + m ≠ sizeN s.size) : stripE (toS (strB s ++ zer m)) = 4 ∧ stripV (toS (strB s ++ zer m)) = ⟨#[]⟩ := by
  refine (fun hn => ⟨by rw [stripE, if_neg hn], by rw [stripV, if_neg hn]⟩ : ¬ stripY (toS (strB s ++ zer m)) → _) ?_
  rintro ⟨_, _, h3⟩
  rw [inner_zer s m hs, toS_data] at h3
  have h4 := congrArg ByteArray.size h3
  rw [padB_size s hs, toS_size, List.length_append, zer_length, strB_length] at h4
  omega

set_option maxHeartbeats 4000000 in
set_option maxRecDepth 20000 in
theorem padZeros_walk (s : ByteArray) (more : Int) (w : World) (_ : s.size ≤ 140737488351232) (_ : (Lit.int .i64 more).wf = true) :
    Calls Try.prog 9 #[.string s, .int .i64 more] w fun e w' => e = .returned (.bool true) ∧ Below w.heap.size w w' := by
  go_enter Try.func9, Try.ntmps9
  go_wp2_with fail
  refine (small_any _).mono ?_
  rintro e w1 ⟨rfl, b1⟩
  by_cases h1 : (300 : Int) < s.size
  · go_wp2
    go_ret
    exact ⟨rfl, b1⟩
  by_cases h2 : more < 0
  · go_wp2
    go_ret
    exact ⟨rfl, b1⟩
  by_cases h3 : 1500 < more
  · go_wp2
    go_ret
    exact ⟨rfl, b1⟩
  obtain ⟨m, rfl⟩ : ∃ m : Nat, more = m := ⟨more.toNat, by omega⟩
  have hs : s.size ≤ 5116 := by omega
  have HN := hid (padB_size s hs)
  have HG := hid (sizeN_ge s.size hs)
  have HS := hid (strip_pad s hs)
  have HH := hid (pad_head s)
  have HL : Hid ((strB s).length = 4 + s.size) := by show _ = _; rw [strB_length]; omega
  rw [HL.out] at HH
  have HE := hid (zer_same s m)
  have HO := hid (zer_not s m hs)
  have hmk := make_zer m (by omega)
  go_wp2_with fail
  refine (pad_yes s _ hs).mono ?_
  rintro e w2 ⟨rfl, b2⟩
  replace b2 := below2 b1 b2
  clear b1
  have hNs := HG.out
  generalize sizeN s.size = N at *
  obtain ⟨p, hp⟩ : ∃ p, padB s = p := ⟨_, rfl⟩
  rw [hp] at HN HS HH HE ⊢
  clear hp
  have hpN := HN.out
  go_wp2_with fail
  have hwr : IntKind.i64.wrap (4 + (s.size : Int)) = 4 + s.size := IntWalk.i64_in _ (by omega)
  have hsum : ¬ 9223372036854775807 < (toS (strB s)).size + (toS (zer m)).size := by rw [toS_size, toS_size, HL.out, zer_length]; omega
  have hnn : (0 : Int) ≤ 4 + (s.size : Int) := by omega
  have htn : (4 + (s.size : Int)).toNat = 4 + s.size := by omega
  have hcv : (convert 23 9 (.slice (some ⟨w2.heap.size, 0, none⟩) m m)).run Try.prog (w2.alloc (Obj.cells (by8 (zer m)).toArray 5)).drew = .ok (.string (toS (zer m))) (w2.alloc (Obj.cells (by8 (zer m)).toArray 5)).drew := conv_zer (Blk.new w2 (by8 (zer m)) 5)
  refine wp_region_held_drew (S := fun _ => True) (by kernel_rfl) trivial (fun hHeld => ?_)
  refine wpAnyH_take (i := 0) (oi := ⟨_, _, _, _, _, _⟩) (v := ?_) rfl (by kernel_rfl) (by kernel_rfl) (by kernel_rfl) (fun _ _ _ h => h) (Or.inl ⟨by rfl, ?_⟩) (by assumption) ?_
  rotate_left
  · intro w hSw; (try dsimp only at hSw); go_simp; (try (with_reducible rfl))
  try simp only [Act.put, List.setIfInBounds_toArray, List.set_cons_zero, List.set_cons_succ]
  refine wpAnyH_take (i := 1) (oi := ⟨_, _, _, _, _, _⟩) (v := ?_) rfl (by kernel_rfl) (by kernel_rfl) (by kernel_rfl) (fun _ _ _ h => h) (Or.inl ⟨by rfl, ?_⟩) (by assumption) ?_
  rotate_left
  · intro w hSw; (try dsimp only at hSw); go_simp; (try (with_reducible rfl))
  try simp only [Act.put, List.setIfInBounds_toArray, List.set_cons_zero, List.set_cons_succ]
  refine wpAnyH_take (i := 2) (oi := ⟨_, _, _, _, _, _⟩) (v := ?_) rfl (by kernel_rfl) (by kernel_rfl) (by kernel_rfl) (fun _ _ _ h => h) (Or.inl ⟨by rfl, ?_⟩) (by assumption) ?_
  rotate_left
  · intro w hSw; (try dsimp only at hSw); go_simp; (try (with_reducible rfl))
  try simp only [Act.put, List.setIfInBounds_toArray, List.set_cons_zero, List.set_cons_succ]
  refine wpAnyH_take (i := 3) (oi := ⟨_, _, _, _, _, _⟩) (v := ?_) rfl (by kernel_rfl) (by kernel_rfl) (by kernel_rfl) (fun _ _ _ h => h) (Or.inl ⟨by rfl, ?_⟩) (by assumption) ?_
  rotate_left
  · intro w hSw; (try dsimp only at hSw); go_simp; (try (with_reducible rfl))
  try simp only [Act.put, List.setIfInBounds_toArray, List.set_cons_zero, List.set_cons_succ]
  refine wpAnyH_take (i := 5) (oi := ⟨_, _, _, _, _, _⟩) (v := ?_) rfl (by kernel_rfl) (by kernel_rfl) (by kernel_rfl) (fun _ _ _ h => h) (Or.inl ⟨by rfl, ?_⟩) (by assumption) ?_
  rotate_left
  · intro w hSw; (try dsimp only at hSw); go_simp; (try (with_reducible rfl))
  try simp only [Act.put, List.setIfInBounds_toArray, List.set_cons_zero, List.set_cons_succ]
  refine wpAnyH_take (i := 4) (oi := ⟨_, _, _, _, _, _⟩) (v := ?_) rfl (by kernel_rfl) (by kernel_rfl) (by kernel_rfl) (fun _ _ _ h => h) (Or.inl ⟨by rfl, ?_⟩) (by assumption) ?_
  rotate_left
  · intro w hSw; (try dsimp only at hSw); go_simp; (try (with_reducible rfl))
  try simp only [Act.put, List.setIfInBounds_toArray, List.set_cons_zero, List.set_cons_succ]
  rw [HH.out]
  refine wpAnyH_ready (rs := [6]) (by kernel_rfl) (by simp) ?_
  refine AllReadyH.cons (o := ⟨_, _, _, _, _, _⟩) rfl (fun K hK => ?_) AllReadyH.nil
  go_simp
  refine hK.out _ _ trivial (fun hHeld => ?_)
  clear hK K
  try simp only [Act.put, List.setIfInBounds_toArray, List.set_cons_zero, List.set_cons_succ]
  refine wpAnyH_ready (rs := [7]) (by kernel_rfl) (by simp) ?_
  refine AllReadyH.cons (o := ⟨_, _, _, _, _, _⟩) rfl (fun K hK => ?_) AllReadyH.nil
  go_simp
  refine hK.out _ _ trivial (fun hHeld => ?_)
  clear hK K
  try simp only [Act.put, List.setIfInBounds_toArray, List.set_cons_zero, List.set_cons_succ]
  refine wpAnyH_take (i := 8) (oi := ⟨_, _, _, _, _, _⟩) (v := ?_) rfl (by kernel_rfl) (by kernel_rfl) (by kernel_rfl) (fun _ _ _ h => h) (Or.inl ⟨by rfl, ?_⟩) (by assumption) ?_
  rotate_left
  · intro w hSw; (try dsimp only at hSw); go_simp; (try (with_reducible rfl))
  try simp only [Act.put, List.setIfInBounds_toArray, List.set_cons_zero, List.set_cons_succ]
  refine wpAnyH_take (i := 9) (oi := ⟨_, _, _, _, _, _⟩) (v := ?_) rfl (by kernel_rfl) (by kernel_rfl) (by kernel_rfl) (fun _ _ _ h => h) (Or.inl ⟨by rfl, ?_⟩) (by assumption) ?_
  rotate_left
  · intro w hSw; (try dsimp only at hSw); go_simp; (try (with_reducible rfl))
  try simp only [Act.put, List.setIfInBounds_toArray, List.set_cons_zero, List.set_cons_succ]
  rw [toS_append]
  refine wpAnyH_done (by kernel_rfl) ?_ _
  have b4 : Below w.heap.size w (w2.alloc (Obj.cells (by8 (zer m)).toArray 5)).drew := (b2.alloc b2.size _).drew
  clear hcv b2 hmk hwr htn hnn hsum
  have HXZ : Hid ((toS (strB s ++ zer m)).size = 4 + s.size + m) := by show _ = _; rw [toS_size, List.length_append, zer_length, HL.out]
  by_cases hq : 4 + s.size + m = N
  · have hx := HE.out hq
    rw [hx] at HXZ ⊢
    clear HE HO HH HL HXZ hx hq
    go_wp2_with fail
    refine (strip_any _ _).mono ?_
    rintro e w5 ⟨rfl, b5⟩
    replace b5 := below2 b4 b5
    clear b4
    rw [HS.out.1, HS.out.2]
    clear HS
    go_wp2
    go_ret
    exact ⟨rfl, b5⟩
  · have hx := HO.out hq
    have HX := hid hx
    have hz : ((4 : Int) + s.size + m == N) = false := by rw [beq_eq_false_iff_ne]; omega
    clear hx HE HO HH HL hq
    generalize toS (strB s ++ zer m) = x at *
    have hxz := HXZ.out
    go_wp2_with fail
    refine (strip_any _ _).mono ?_
    rintro e w5 ⟨rfl, b5⟩
    replace b5 := below2 b4 b5
    clear b4
    rw [HX.out.1, HX.out.2]
    clear HX HS
    go_wp2
    go_ret
    exact ⟨rfl, b5⟩
end Go.Proofs.Ytohnommmmdlnpaa
