/- slices.Insert of one number; draw. -/
import Derived.Test.YtdejhpinmkbngaaVc
import Derived.Deep.Cut
namespace Go.Proofs.Ytdejhpinmkbngaa
open Go.RowKit

/-- What Insert answers: the numbers, with one more at its place. -/
def InsPost (w : World) (v : Value) (h : List Int) (i : Nat) (x : Int) (e : Ending) (w' : World) : Prop :=
  ∃ v', e = .returned v' ∧ w'.ownsRow 0 3 1 v' (h.length + 1) (intV (putAt h i x)) ∧ w.grownBy w' v.ownBlock ∧ (v'.ownBlock = v.ownBlock ∨ v'.ownBlock = some w.heap.size)
theorem Blk.shape {w : World} {g : Nat} {cs : List Value} {t : TypeId} (h : Blk w g cs t) : w.shape? g = some (t, cs.length) := by
  unfold Blk at h
  simp [World.shape?, h]
theorem over_no {w : World} {g k : Nat} {cs : List Value} {x : Value} (hB : Blk w g cs 3) (hK : Blk w k [x] 3) (hne : k ≠ g) (hcs : cs.length ≠ 0) (o la ca lb cb : Nat) :
    (callFunc 41 #[.slice (some ⟨k, 0, none⟩) la ca, .slice (some ⟨g, o, none⟩) lb cb]).run Try.prog w = .ok (.value (.bool false)) w := by
  obtain ⟨i, hi, hz0, hz1, hz2⟩ := info_parts Try.infoI
  rw [run_callFunc_extern Try.func41 (by kernel_rfl) (by kernel_rfl) (by kernel_rfl) (e := Extern.SlicesOverlaps.overlaps #[42, 42] #[4]) (by kernel_rfl),
    Lib.run_overlaps_apart w 42 4 3 Try.underlying42 1 (fun w => by simp [sizeOf, typeInfo, hi, hz1]) ⟨k, 0, none⟩ ⟨g, o, none⟩ la ca lb cb hne _ _ _ _ hK.shape hB.shape hcs (hK.frozen 0) (hK.frozen _)]
  rfl

set_option maxHeartbeats 2000000 in
set_option maxRecDepth 20000 in
theorem insert_end {w : World} {v : Value} {h : List Int} {k : Nat} {x : Int} (hr : w.ownsRow 0 3 1 v h.length (intV h)) (hK : Blk w k [.int .i64 x] 3) (hn : h.length ≤ 100000) :
    Calls Try.prog 35 #[v, .int .i64 h.length, .slice (some ⟨k, 0, none⟩) 1 1] w (InsPost w v h h.length x) := by
  obtain ⟨v', w', HR, h1, h2, h3⟩ := app_int hr hn 51 k x hK
  have HP : Hid (w'.ownsRow 0 3 1 v' (h.length + 1) (intV (putAt h h.length x))) := by
    show World.ownsRow _ _ _ _ _ _ _
    rw [putAt, List.take_length, List.drop_length]
    exact h1
  have HG := hid h2
  have HV := hid h3
  obtain ⟨-, A, c, rfl, hnc, hcm⟩ := own_form hr
  clear h1 h2 h3 hr hK
  obtain ⟨n, hnl⟩ : ∃ n, n = h.length := ⟨_, rfl⟩
  have HN := hid hnl
  rw [← hnl] at HP HR HG HV hn hnc ⊢
  clear hnl
  have hz0 : (0 : Int) ≤ n := by omega
  by_cases hcn : c = n
  · subst hcn
    go_enter Try.func35, Try.ntmps35
    go_wp2_with (at_builtin; refine Lib.wpList_append_run _ rfl _ _ _ _ rfl _ _ rfl rfl _ _ HR.out ?_)
    go_wp2
    go_ret
    exact ⟨v', rfl, by rw [← HN.out]; exact HP.out, HG.out, HV.out⟩
  · go_enter Try.func35, Try.ntmps35
    go_wp2_with (at_builtin; refine Lib.wpList_append_run _ rfl _ _ _ _ rfl _ _ rfl rfl _ _ HR.out ?_)
    go_wp2
    go_ret
    exact ⟨v', rfl, by rw [← HN.out]; exact HP.out, HG.out, HV.out⟩

set_option maxHeartbeats 4000000 in
set_option maxRecDepth 20000 in
theorem insert_grow {w : World} {g k n i : Nat} {h : List Int} {x : Int} (hB : Blk w g (intV h) 3) (hK : Blk w k [.int .i64 x] 3) (hl : h.length = n) (hn : n ≤ 100000) (hin' : i < n) :
    Calls Try.prog 35 #[.slice (some ⟨g, 0, none⟩) n n, .int .i64 i, .slice (some ⟨k, 0, none⟩) 1 1] w (InsPost w (.slice (some ⟨g, 0, none⟩) n n) h i x) := by
  have hz0 : (0 : Int) ≤ i := by omega
  have hzn : (i : Int) ≤ n := by omega
  have hne : ¬ (i : Int) = n := by omega
  obtain ⟨c', w1, hc1, hc2, HR, ⟨r, hb1, hrl⟩, hw1⟩ := app_zero hB hl hn hin' 51
  have hlc : (n : Int) < (n : Int) + 1 := by omega
  have hnn : ¬ n = i := by omega
  have hB1 := hB.below hw1
  have hK1 := hK.below hw1
  have hci : ¬ c' = i := by omega
  have hci1 : ¬ c' = i + 1 := by omega
  have hkw : k < w.heap.size := hK.lt
  have hgw : g < w.heap.size := hB.lt
  have htl : (intV (h.take i)).length = i := by rw [intV_length, List.length_take]; omega
  obtain ⟨v2, w2, HR2, hb2, ho2, hw2⟩ := copy_int (o := i) (dLen := n + 1 - i) (dCap := c' - i) hb1 51 42 Try.underlying51 ⟨k, 0, none⟩ 1 1 [.int .i64 x] (by rw [show Nat.min 1 (n + 1 - i) = 1 from Nat.min_eq_left (by omega)]; rfl) (by rw [List.length_append, htl, hrl, List.length_singleton]; omega) (hK1.read 0 _ (fun j u hu => by rw [Nat.zero_add]; exact hu)) (by simp; rfl)
  have hB2 := ho2 g _ _ (by omega) hB1
  rw [List.take_left' htl] at hb2
  have hlen2 : (intV (h.take i) ++ [Value.int .i64 x] ++ (intV (h.take i) ++ r).drop (i + [Value.int .i64 x].length)).length = c' := by
    simp only [List.length_append, List.length_drop, htl, hrl, List.length_cons, List.length_nil]
    omega
  generalize (intV (h.take i) ++ r).drop (i + [Value.int .i64 x].length) = r2 at *
  obtain ⟨v3, w3, HR3, hb3, ho3, hw3⟩ := copy_int (o := i + 1) (dLen := n - i) (dCap := c' - (i + 1)) hb2.drew 51 51 Try.underlying51 ⟨g, i, none⟩ (n - i) (n - i) (intV (h.drop i)) (by rw [intV_length, List.length_drop, hl]; simp) (by rw [hlen2, intV_length, List.length_drop]; omega)
    (hB2.drew.read i _ (fun j u hu => by rwa [intV_drop, List.getElem?_drop] at hu)) (intV_one _)
  have hw2' : w1.grownBy w2.drew (some w.heap.size) := ⟨hw2.os, hw2.tape, hw2.output, hw2.size, hw2.block⟩
  have HG : Hid (w.grownBy w3 (some g)) := ⟨hw3.os.trans (hw2.os.trans hw1.os), hw3.tape.trans (hw2.tape.trans hw1.tape), hw3.output.trans (hw2.output.trans hw1.output), Nat.le_trans hw1.size (Nat.le_trans hw2.size hw3.size), fun q hq _ => by
    have e : q ≠ w.heap.size := by omega
    have q1 : q < w1.heap.size := Nat.lt_of_lt_of_le hq hw1.size
    exact (hw3.block q (Nat.lt_of_lt_of_le q1 hw2.size) (fun e' => e (by injection e'))).trans ((hw2.block q q1 (fun e' => e (by injection e'))).trans (hw1.block q hq))⟩
  have e3 : (intV (h.take i) ++ [Value.int .i64 x] ++ r2).take (i + 1) = intV (h.take i) ++ [Value.int .i64 x] := List.take_left' (by rw [List.length_append, htl]; rfl)
  rw [e3] at hb3
  have hl3 : ((intV (h.take i) ++ [Value.int .i64 x] ++ r2).drop (i + 1 + (intV (h.drop i)).length)).length = c' - (n + 1) := by
    rw [List.length_drop, hlen2, intV_length, List.length_drop, hl]
    omega
  generalize (intV (h.take i) ++ [Value.int .i64 x] ++ r2).drop (i + 1 + (intV (h.drop i)).length) = r3 at *
  have HP : Hid (w3.ownsRow 0 3 1 (.slice (some ⟨w.heap.size, 0, none⟩) (n + 1) c') (n + 1) (intV (putAt h i x))) := by
    refine own_join (r := r3) ?_ (by rw [putAt_length x (by omega)]; omega) (by rw [hl3]; omega) hc2
    rw [putAt, intV_append, intV_cons]
    simpa using hb3
  have HL := hid hl
  clear hb1 hb2 hb3 hB1 hK1 hB2 ho2 ho3 hw2 hw3 e3 hlen2 hB hK hw1 hw2' htl hrl hl3
  have hrun2 := HR2.out 3
  have hrun3 := HR3.out 3
  go_enter Try.func35, Try.ntmps35
  go_upto_region 9 with (fail)
  go_upto_region 10 with (at_builtin; refine Lib.wpList_append_run _ rfl _ _ _ _ rfl _ _ rfl rfl _ _ HR.out ?_)
  go_upto_region 11 with (fail)
  have hi0 : (0 : Int) ≤ (i : Int) + 1 := by omega
  have hi1 : (i : Int) + 1 ≤ (n : Int) + 1 := by omega
  have hwr : IntKind.i64.wrap ((i : Int) + 1) = (i : Int) + 1 := by rw [IntKind.wrap_i64]; omega
  refine wp_region_held_drew (S := fun _ => True) (by kernel_rfl) trivial (fun hHeld => ?_)
  refine wpAnyH_take (i := 0) (oi := ⟨_, _, _, _, _, _⟩) (v := ?_) rfl (by kernel_rfl) (by kernel_rfl) (by kernel_rfl) (fun _ _ _ h => h) (Or.inl ⟨by rfl, ?_⟩) (by assumption) ?_
  rotate_left
  · intro w hSw; (try dsimp only at hSw); go_simp; (try (with_reducible rfl))
  try simp only [Act.put, List.setIfInBounds_toArray, List.set_cons_zero, List.set_cons_succ]
  refine wpAnyH_take (i := 1) (oi := ⟨_, _, _, _, _, _⟩) (v := ?_) rfl (by kernel_rfl) (by kernel_rfl) (by kernel_rfl) (fun _ _ _ h => h) (Or.inl ⟨by rfl, ?_⟩) (by assumption) ?_
  rotate_left
  · intro w hSw; (try dsimp only at hSw); go_simp; (try (with_reducible rfl))
  try simp only [Act.put, List.setIfInBounds_toArray, List.set_cons_zero, List.set_cons_succ]
  refine wpAnyH_take (i := 2) (oi := ⟨_, _, _, _, _, _⟩) (v := ?_) rfl (by kernel_rfl) (by kernel_rfl) (by kernel_rfl) (fun _ _ _ h => h) (Or.inl ⟨by rfl, ?_⟩) (by assumption) ?_
  rotate_left
  · intro w hSw; (try dsimp only at hSw); go_simp; (try (with_reducible rfl))
  try simp only [Act.put, List.setIfInBounds_toArray, List.set_cons_zero, List.set_cons_succ]
  refine wpAnyH_take (i := 3) (oi := ⟨_, _, _, _, _, _⟩) (v := ?_) rfl (by kernel_rfl) (by kernel_rfl) (by kernel_rfl) (fun _ _ _ h => h) (Or.inl ⟨by rfl, ?_⟩) (by assumption) ?_
  rotate_left
  · intro w hSw; (try dsimp only at hSw); go_simp; (try (with_reducible rfl))
  try simp only [Act.put, List.setIfInBounds_toArray, List.set_cons_zero, List.set_cons_succ]
  refine wpAnyH_take (i := 4) (oi := ⟨_, _, _, _, _, _⟩) (v := ?_) rfl (by kernel_rfl) (by kernel_rfl) (by kernel_rfl) (fun _ _ _ h => h) (Or.inl ⟨by rfl, ?_⟩) (by assumption) ?_
  rotate_left
  · intro w hSw; (try dsimp only at hSw); go_simp; (try (with_reducible rfl))
  try simp only [Act.put, List.setIfInBounds_toArray, List.set_cons_zero, List.set_cons_succ]
  refine wpAnyH_take (i := 5) (oi := ⟨_, _, _, _, _, _⟩) (v := ?_) rfl (by kernel_rfl) (by kernel_rfl) (by kernel_rfl) (fun _ _ _ h => h) (Or.inl ⟨by rfl, ?_⟩) (by assumption) ?_
  rotate_left
  · intro w hSw; (try dsimp only at hSw); go_simp; (try (with_reducible rfl))
  try simp only [Act.put, List.setIfInBounds_toArray, List.set_cons_zero, List.set_cons_succ]
  refine wpAnyH_take (i := 6) (oi := ⟨_, _, _, _, _, _⟩) (v := ?_) rfl (by kernel_rfl) (by kernel_rfl) (by kernel_rfl) (fun _ _ _ h => h) (Or.inl ⟨by rfl, ?_⟩) (by assumption) ?_
  rotate_left
  · intro w hSw; (try dsimp only at hSw); go_simp; (try (with_reducible rfl))
  try simp only [Act.put, List.setIfInBounds_toArray, List.set_cons_zero, List.set_cons_succ]
  refine wpAnyH_take (i := 7) (oi := ⟨_, _, _, _, _, _⟩) (v := ?_) rfl (by kernel_rfl) (by kernel_rfl) (by kernel_rfl) (fun _ _ _ h => h) (Or.inl ⟨by rfl, ?_⟩) (by assumption) ?_
  rotate_left
  · intro w hSw; (try dsimp only at hSw); go_simp; (try (with_reducible rfl))
  try simp only [Act.put, List.setIfInBounds_toArray, List.set_cons_zero, List.set_cons_succ]
  refine wpAnyH_ready (rs := [8]) (by kernel_rfl) (by simp) ?_
  refine AllReadyH.cons (o := ⟨_, _, _, _, _, _⟩) rfl (fun K hK => ?_) AllReadyH.nil
  go_simp
  refine hK.out _ _ trivial (fun hHeld => ?_)
  clear hK K
  try simp only [Act.put, List.setIfInBounds_toArray, List.set_cons_zero, List.set_cons_succ]
  refine wpAnyH_done (by kernel_rfl) ?_ _
  go_wp2
  go_ret
  exact ⟨_, rfl, by rw [HL.out]; exact HP.out, HG.out, .inr rfl⟩

set_option maxHeartbeats 4000000 in
set_option maxRecDepth 20000 in
theorem insert_shift {w : World} {g k n c i : Nat} {h : List Int} {r : List Value} {x : Int} (hB : Blk w g (intV h ++ r) 3) (hK : Blk w k [.int .i64 x] 3) (hne : k ≠ g) (hl : h.length = n) (hn : n ≤ 100000) (hin' : i < n) (hr : n + r.length = c) (hr1 : n + 1 ≤ c) (hcm : c ≤ maxLen) :
    Calls Try.prog 35 #[.slice (some ⟨g, 0, none⟩) n c, .int .i64 i, .slice (some ⟨k, 0, none⟩) 1 1] w (InsPost w (.slice (some ⟨g, 0, none⟩) n c) h i x) := by
  have hz0 : (0 : Int) ≤ i := by omega
  have hzn : (i : Int) ≤ n := by omega
  have hnei : ¬ (i : Int) = n := by omega
  have hov := over_no hB hK hne (by rw [List.length_append, intV_length]; omega) (i + 1) 1 1 (n - i) (c - (i + 1))
  have hlen : (intV h ++ r).length = c := by rw [List.length_append, intV_length]; omega
  obtain ⟨v2, w2, HR2, hb2, ho2, hw2⟩ := copy_int (o := i + 1) (dLen := n - i) (dCap := c - (i + 1)) hB.drew 51 51 Try.underlying51 ⟨g, i, none⟩ (n + 1 - i) (c - i) (intV (h.drop i)) (by rw [intV_length, List.length_drop, hl]; simp only [Nat.min_def]; split <;> omega) (by rw [hlen, intV_length, List.length_drop]; omega)
    (hB.drew.read i _ (fun j u hu => by
      rw [intV_drop, List.getElem?_drop] at hu
      rw [List.getElem?_append_left (by have := (List.getElem?_eq_some_iff.1 hu).1; exact this)]
      exact hu)) (intV_one _)
  have hK2 := ho2 k _ _ hne hK.drew
  have hlen2 : ((intV h ++ r).take (i + 1) ++ intV (h.drop i) ++ (intV h ++ r).drop (i + 1 + (intV (h.drop i)).length)).length = c := by
    simp only [List.length_append, List.length_take, List.length_drop, intV_length]
    omega
  obtain ⟨v3, w3, HR3, hb3, ho3, hw3⟩ := copy_int (o := i) (dLen := n + 1 - i) (dCap := c - i) hb2 51 42 Try.underlying51 ⟨k, 0, none⟩ 1 1 [.int .i64 x] (by rw [show Nat.min 1 (n + 1 - i) = 1 from Nat.min_eq_left (by omega)]; rfl) (by rw [hlen2, List.length_singleton]; omega) (hK2.read 0 _ (fun j u hu => by rw [Nat.zero_add]; exact hu)) (by simp; rfl)
  have HG : Hid (w.grownBy w3 (some g)) := grown_trans (b := w2) ⟨hw2.os, hw2.tape, hw2.output, hw2.size, hw2.block⟩ hw3
  have e1 : ((intV h ++ r).take (i + 1) ++ intV (h.drop i) ++ (intV h ++ r).drop (i + 1 + (intV (h.drop i)).length)).take i = intV (h.take i) := by
    rw [List.append_assoc, List.take_append_of_le_length (by rw [List.length_take]; omega), List.take_take, Nat.min_eq_left (by omega), List.take_append_of_le_length (by rw [intV_length]; omega), intV_take]
  have e2 : ((intV h ++ r).take (i + 1) ++ intV (h.drop i) ++ (intV h ++ r).drop (i + 1 + (intV (h.drop i)).length)).drop (i + [Value.int .i64 x].length) = intV (h.drop i) ++ (intV h ++ r).drop (i + 1 + (intV (h.drop i)).length) := by
    rw [List.append_assoc]
    exact List.drop_left' (by rw [List.length_take, hlen]; simp; omega)
  rw [e1, e2] at hb3
  have hl3 : ((intV h ++ r).drop (i + 1 + (intV (h.drop i)).length)).length = c - (n + 1) := by
    rw [List.length_drop, hlen, intV_length, List.length_drop, hl]
    omega
  generalize (intV h ++ r).drop (i + 1 + (intV (h.drop i)).length) = r3 at *
  have HP : Hid (w3.ownsRow 0 3 1 (.slice (some ⟨g, 0, none⟩) (n + 1) c) (n + 1) (intV (putAt h i x))) := by
    refine own_join (r := r3) ?_ (by rw [putAt_length x (by omega)]; omega) (by rw [hl3]; omega) hcm
    rw [putAt, intV_append, intV_cons]
    simpa using hb3
  have HL := hid hl
  clear hb2 hb3 ho2 ho3 hw2 hw3 e1 e2 hlen hlen2 hB hK hK2 hl3 hl
  have hrun2 := HR2.out 3
  have hrun3 := HR3.out 3
  have hci : ¬ c = i := by omega
  have hci1 : ¬ c = i + 1 := by omega
  have hroom : ¬ (c : Int) < (n : Int) + 1 := by omega
  have hroom2 : (n : Int) + 1 ≤ c := by omega
  have hi0 : (0 : Int) ≤ (i : Int) + 1 := by omega
  have hi1 : (i : Int) + 1 ≤ (n : Int) + 1 := by omega
  have hi2 : (i : Int) ≤ (n : Int) + 1 := by omega
  have hwr : IntKind.i64.wrap ((i : Int) + 1) = (i : Int) + 1 := by rw [IntKind.wrap_i64]; omega
  go_enter Try.func35, Try.ntmps35
  go_upto_region 15 with (fail)
  refine wp_region_held_drew (S := fun _ => True) (by kernel_rfl) trivial (fun hHeld => ?_)
  refine wpAnyH_take (i := 0) (oi := ⟨_, _, _, _, _, _⟩) (v := ?_) rfl (by kernel_rfl) (by kernel_rfl) (by kernel_rfl) (fun _ _ _ h => h) (Or.inl ⟨by rfl, ?_⟩) (by assumption) ?_
  rotate_left
  · intro w hSw; (try dsimp only at hSw); go_simp; (try (with_reducible rfl))
  try simp only [Act.put, List.setIfInBounds_toArray, List.set_cons_zero, List.set_cons_succ]
  refine wpAnyH_take (i := 1) (oi := ⟨_, _, _, _, _, _⟩) (v := ?_) rfl (by kernel_rfl) (by kernel_rfl) (by kernel_rfl) (fun _ _ _ h => h) (Or.inl ⟨by rfl, ?_⟩) (by assumption) ?_
  rotate_left
  · intro w hSw; (try dsimp only at hSw); go_simp; (try (with_reducible rfl))
  try simp only [Act.put, List.setIfInBounds_toArray, List.set_cons_zero, List.set_cons_succ]
  refine wpAnyH_take (i := 2) (oi := ⟨_, _, _, _, _, _⟩) (v := ?_) rfl (by kernel_rfl) (by kernel_rfl) (by kernel_rfl) (fun _ _ _ h => h) (Or.inl ⟨by rfl, ?_⟩) (by assumption) ?_
  rotate_left
  · intro w hSw; (try dsimp only at hSw); go_simp; (try (with_reducible rfl))
  try simp only [Act.put, List.setIfInBounds_toArray, List.set_cons_zero, List.set_cons_succ]
  refine wpAnyH_take (i := 3) (oi := ⟨_, _, _, _, _, _⟩) (v := ?_) rfl (by kernel_rfl) (by kernel_rfl) (by kernel_rfl) (fun _ _ _ h => h) (Or.inl ⟨by rfl, ?_⟩) (by assumption) ?_
  rotate_left
  · intro w hSw; (try dsimp only at hSw); go_simp; (try (with_reducible rfl))
  try simp only [Act.put, List.setIfInBounds_toArray, List.set_cons_zero, List.set_cons_succ]
  refine wpAnyH_take (i := 4) (oi := ⟨_, _, _, _, _, _⟩) (v := ?_) rfl (by kernel_rfl) (by kernel_rfl) (by kernel_rfl) (fun _ _ _ h => h) (Or.inl ⟨by rfl, ?_⟩) (by assumption) ?_
  rotate_left
  · intro w hSw; (try dsimp only at hSw); go_simp; (try (with_reducible rfl))
  try simp only [Act.put, List.setIfInBounds_toArray, List.set_cons_zero, List.set_cons_succ]
  refine wpAnyH_take (i := 5) (oi := ⟨_, _, _, _, _, _⟩) (v := ?_) rfl (by kernel_rfl) (by kernel_rfl) (by kernel_rfl) (fun _ _ _ h => h) (Or.inl ⟨by rfl, ?_⟩) (by assumption) ?_
  rotate_left
  · intro w hSw; (try dsimp only at hSw); go_simp; (try (with_reducible rfl))
  try simp only [Act.put, List.setIfInBounds_toArray, List.set_cons_zero, List.set_cons_succ]
  refine wpAnyH_take (i := 6) (oi := ⟨_, _, _, _, _, _⟩) (v := ?_) rfl (by kernel_rfl) (by kernel_rfl) (by kernel_rfl) (fun _ _ _ h => h) (Or.inl ⟨by rfl, ?_⟩) (by assumption) ?_
  rotate_left
  · intro w hSw; (try dsimp only at hSw); go_simp; (try (with_reducible rfl))
  try simp only [Act.put, List.setIfInBounds_toArray, List.set_cons_zero, List.set_cons_succ]
  refine wpAnyH_take (i := 7) (oi := ⟨_, _, _, _, _, _⟩) (v := ?_) rfl (by kernel_rfl) (by kernel_rfl) (by kernel_rfl) (fun _ _ _ h => h) (Or.inl ⟨by rfl, ?_⟩) (by assumption) ?_
  rotate_left
  · intro w hSw; (try dsimp only at hSw); go_simp; (try (with_reducible rfl))
  try simp only [Act.put, List.setIfInBounds_toArray, List.set_cons_zero, List.set_cons_succ]
  refine wpAnyH_ready (rs := [8]) (by kernel_rfl) (by simp) ?_
  refine AllReadyH.cons (o := ⟨_, _, _, _, _, _⟩) rfl (fun K hK => ?_) AllReadyH.nil
  go_simp
  refine hK.out _ _ trivial (fun hHeld => ?_)
  clear hK K
  try simp only [Act.put, List.setIfInBounds_toArray, List.set_cons_zero, List.set_cons_succ]
  refine wpAnyH_done (by kernel_rfl) ?_ _
  go_wp2
  go_ret
  exact ⟨_, rfl, by rw [HL.out]; exact HP.out, HG.out, .inl rfl⟩
end Go.Proofs.Ytdejhpinmkbngaa
