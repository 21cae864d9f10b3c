/- slices.Insert, slices.Delete of files. -/
import Derived.Test.YtblfpmlnpaibkaaDoorTh
namespace Go.Proofs.YtblfpmlnpaibkaaDoor
open Go.RowKit

theorem wp_copy2 {P : Program} (w : World) {o : Oper} {a : Act} {K : Act → World → Prop} {Q : Exit → Act → World → Prop} (d s : Operand) (t t' : TypeId)
    (ho : o.op = .call { callee := .builtin .copy, args := #[d, s], argTypes := #[t, t'] }) (v u : Value) (hd : a.eval d = v) (hs : a.eval s = u) {v' : Value} {w' : World}
    (hr : (Builtin.copy_ #[t, t'] o.type #[v, u]).run P w = .ok v' w') (h : K (a.put o.dst v') w') : o.wp P a w K Q := by
  unfold Oper.wp
  simp [execOp, ho, resolve, invoke, builtin, hd, hs, hr, Result.andThen]
  exact h
theorem wpCopy {P : Program} (w : World) {ops : Array Oper} {rest : List Oper} {o : Oper} {a : Act} {Q : Exit → Act → World → Prop} (hgd : o.guard = none) (d s : Operand) (t t' : TypeId)
    (ho : o.op = .call { callee := .builtin .copy, args := #[d, s], argTypes := #[t, t'] }) (v u : Value) (hd : a.eval d = v) (hs : a.eval s = u) {v' : Value} {w' : World}
    (hr : (Builtin.copy_ #[t, t'] o.type #[v, u]).run P w = .ok v' w') (h : wpList P ops Q rest (a.put o.dst v') w') : wpList P ops Q (o :: rest) a w :=
  wpList_plain hgd fun _ hK => wp_copy2 w d s t t' ho v u hd hs hr (hK _ _ h)
theorem stepCopy {P : Program} {w w' : World} {ops : Array Oper} {o : Oper} {a : Act} {K : Act → World → Prop} {Q : Exit → Act → World → Prop} {E : Prop} (hw : Region.wanted o (yielded ops a.tmps) = true) (d s : Operand) (t t' : TypeId)
    (ho : o.op = .call { callee := .builtin .copy, args := #[d, s], argTypes := #[t, t'] }) (v u v' : Value) (hd : a.eval d = v) (hs : a.eval s = u)
    (hr : (Builtin.copy_ #[t, t'] o.type #[v, u]).run P w = .ok v' w') (h : K (a.put o.dst v') w') : if Region.wanted o (yielded ops a.tmps) = true then Oper.wp P o a w K Q else E := by
  rw [if_pos hw]
  exact wp_copy2 w d s t t' ho v u hd hs hr h
theorem stepApp2 {P : Program} {w w' : World} {ops : Array Oper} {o : Oper} {a : Act} {K : Act → World → Prop} {Q : Exit → Act → World → Prop} {E : Prop} (hw : Region.wanted o (yielded ops a.tmps) = true) (s x : Operand) (t : TypeId)
    (ho : o.op = .call { callee := .builtin .append, args := #[s, x], argTypes := #[t, t] }) (v1 v2 v : Value) (hs : a.eval s = v1) (hx : a.eval x = v2)
    (hrun : (Builtin.append_ #[t, t] o.type #[v1, v2]).run P w = .ok v w') (h : K (a.put o.dst v) w') : if Region.wanted o (yielded ops a.tmps) = true then Oper.wp P o a w K Q else E := by
  rw [if_pos hw]
  exact Lib.wp_append_run w s x t t ho v1 v2 hs hx v w' hrun h

theorem copy_blk' {w : World} {g o dLen dCap : Nat} {cs : List Value} (hB : Blk w g cs 33) (a : Addr) (sLen sCap : Nat) (news : List Value) (hl : news.length = Nat.min sLen dLen * 2) (hfit : o + news.length ≤ cs.length)
    (hsrc : ∀ j v, news[j]? = some v → w.cell? (a.add j) = some v) (h1 : ∀ v ∈ news, v.oneCell' = true) :
    ∃ v w', Hid (∀ ty, (Builtin.copy_ #[22, 22] ty #[.slice (some ⟨g, o, none⟩) dLen dCap, .slice (some a) sLen sCap]).run Tryd.prog w = .ok v w') ∧
      Blk w' g (cs.take o ++ news ++ cs.drop (o + news.length)) 33 ∧ (∀ k cs', k ≠ g → Blk w k cs' 33 → Blk w' k cs' 33) ∧ ∀ B w0, B ≤ g → Below B w0 w → Below B w0 w' :=
  ⟨_, _, fun ty => copy_blk hB ty a sLen sCap news hl hfit hsrc h1, hB.row, fun _ _ hne hk => hk.rowOther hne _, fun _ _ hBg hb => below_setRow hb hBg _⟩

/-- Where a new slice of files lies: a block of the call's own, known whole. -/
def NewF (w : World) (n : Nat) (fs : List Fil) (e : Ending) (w' : World) : Prop :=
  ∃ g c rest, e = .returned (.slice (some ⟨g, 0, none⟩) n c) ∧ w.heap.size ≤ g ∧ n ≤ c ∧ c ≤ maxLen ∧ Blk w' g (filV fs ++ rest) 33 ∧ Below w.heap.size w w'

theorem app_end' {w : World} {g n : Nat} {fs : List Fil} (hB : Blk w g (filV fs) 33) (hl : fs.length = n) (hn : n ≤ 1000) (ty : TypeId) (k : Nat) (a b : Value) (hk : Blk w k [a, b] 33) (ha : a.oneCell' = true) (hb : b.oneCell' = true) :
    ∃ c' w', n + 1 ≤ c' ∧ c' ≤ maxLen ∧ Hid ((Builtin.append_ #[22, 22] ty #[.slice (some ⟨g, 0, none⟩) n n, .slice (some ⟨k, 0, none⟩) 1 1]).run Tryd.prog w = .ok (.slice (some ⟨w.heap.size, 0, none⟩) (n + 1) c') w') ∧
      Blk w' w.heap.size (filV fs ++ [a, b] ++ List.replicate ((c' - (n + 1)) * 2) zS) 33 ∧ Below w.heap.size w w' := by
  obtain ⟨c', h1, h2, h3⟩ := app_end hB hl hn ty k a b hk ha hb
  exact ⟨c', _, h1, h2, h3, Blk.new w.drew _ _, (Below.refl _ _).drew.alloc (Nat.le_refl _) _⟩
theorem app_zeros' {w : World} {g n i : Nat} {fs : List Fil} (hB : Blk w g (filV fs) 33) (hl : fs.length = n) (hn : n ≤ 1000) (hi : i < n) (ty : TypeId) :
    ∃ c' w', n + 1 ≤ c' ∧ c' ≤ maxLen ∧ Hid ((Builtin.append_ #[22, 3] ty #[.slice (some ⟨g, 0, none⟩) i n, .int .i64 ((n : Int) + 1 - i)]).run Tryd.prog w = .ok (.slice (some ⟨w.heap.size, 0, none⟩) (n + 1) c') w') ∧
      Blk w' w.heap.size (filV (fs.take i) ++ List.replicate ((c' - i) * 2) zS) 33 ∧ Below w.heap.size w w' := by
  obtain ⟨c', h1, h2, h3⟩ := app_zeros hB hl hn hi ty _ rfl
  exact ⟨c', _, h1, h2, h3, Blk.new w.drew _ _, (Below.refl _ _).drew.alloc (Nat.le_refl _) _⟩

set_option maxHeartbeats 2000000 in
set_option maxRecDepth 20000 in
theorem insert_any {w : World} {g k n i : Nat} {fs : List Fil} (hB : Blk w g (filV fs) 33) (hK : Blk w k [zS, zS] 33) (hl : fs.length = n) (hn : n ≤ 1000) (hi : i ≤ n) :
    Calls Tryd.prog 36 #[.slice (some ⟨g, 0, none⟩) n n, .int .i64 i, .slice (some ⟨k, 0, none⟩) 1 1] w (NewF w (n + 1) (fs.take i ++ (⟨#[]⟩, ⟨#[]⟩) :: fs.drop i)) := by
  have hz0 : (0 : Int) ≤ i := by omega
  have hzn : (i : Int) ≤ n := by omega
  by_cases hin : i = n
  · subst hin
    obtain ⟨c', w1, hc1, hc2, HR, hb1, hw1⟩ := app_end' hB hl hn 22 k zS zS hK rfl rfl
    go_enter Tryd.func36, Tryd.ntmps36
    go_wp2_with (at_builtin; refine Lib.wpList_append_run _ rfl _ _ _ _ rfl _ _ rfl rfl _ _ HR.out ?_)
    go_wp2
    go_ret
    refine ⟨w.heap.size, c', List.replicate ((c' - (i + 1)) * 2) zS, rfl, Nat.le_refl _, hc1, hc2, ?_, hw1⟩
    rw [List.take_of_length_le (by omega), List.drop_of_length_le (by omega), filV_append]
    exact hb1
  · have hin' : i < n := by omega
    have hne : ¬ (i : Int) = n := by omega
    obtain ⟨c', w1, hc1, hc2, HR, hb1, hw1⟩ := app_zeros' hB hl hn hin' 22
    have hlc : (n : Int) < (n : Int) + 1 := by omega
    have hnn : ¬ n = i := by omega
    have hB1 := hB.below hw1
    have hK1 := hK.below hw1
    have hci : ¬ c' = i := by omega
    have hci1 : ¬ c' = i + 1 := by omega
    go_enter Tryd.func36, Tryd.ntmps36
    go_upto_region 9 with (fail)
    go_upto_region 10 with (at_builtin; refine Lib.wpList_append_run _ rfl _ _ _ _ rfl _ _ rfl rfl _ _ HR.out ?_)
    obtain ⟨v2, w2, HR2, hb2, ho2, hw2⟩ := copy_blk' (o := i * 2) (dLen := n + 1 - i) (dCap := c' - i) hb1 ⟨k, 0, none⟩ 1 1 [zS, zS] (by rw [show Nat.min 1 (n + 1 - i) = 1 from Nat.min_eq_left (by omega)]; rfl) (by rw [List.length_append, filV_length, List.length_take, List.length_replicate]; simp; omega) (hK1.read 0 _ (fun j u hu => by rw [Nat.zero_add]; exact hu)) (by simp; rfl)
    have hgw : g < w.heap.size := hB.lt
    have hB2 := ho2 g _ (by omega) hB1
    have hw2' := hw2 _ _ (Nat.le_refl _) hw1
    have e2 : (filV (fs.take i) ++ List.replicate ((c' - i) * 2) zS).take (i * 2) = filV (fs.take i) := List.take_left' (by rw [filV_length, List.length_take]; omega)
    rw [e2] at hb2
    have hlen2 : (filV (fs.take i) ++ [zS, zS] ++ (filV (fs.take i) ++ List.replicate ((c' - i) * 2) zS).drop (i * 2 + [zS, zS].length)).length = c' * 2 := by
      simp only [List.length_append, List.length_drop, filV_length, List.length_take, List.length_replicate, List.length_cons, List.length_nil]
      omega
    generalize (filV (fs.take i) ++ List.replicate ((c' - i) * 2) zS).drop (i * 2 + [zS, zS].length) = r2 at *
    obtain ⟨v3, w3, HR3, hb3, ho3, hw3⟩ := copy_blk' (o := (i + 1) * 2) (dLen := n - i) (dCap := c' - (i + 1)) hb2.drew ⟨g, i * 2, none⟩ (n - i) (n - i) (filV (fs.drop i)) (by rw [filV_length, List.length_drop, hl]; simp) (by rw [hlen2, filV_length, List.length_drop]; omega) (hB2.drew.read (i * 2) _ (fun j u hu => by rw [filV_drop, List.getElem?_drop] at hu; exact hu)) (filV_one _)
    have hw3' := hw3 _ _ (Nat.le_refl _) hw2'.drew
    have e3 : (filV (fs.take i) ++ [zS, zS] ++ r2).take ((i + 1) * 2) = filV (fs.take i) ++ [zS, zS] := List.take_left' (by rw [List.length_append, filV_length, List.length_take]; simp; omega)
    rw [e3] at hb3
    generalize (filV (fs.take i) ++ [zS, zS] ++ r2).drop ((i + 1) * 2 + (filV (fs.drop i)).length) = r3 at *
    have HB3 := hid hb3
    clear hb1 hb2 hb3 hB1 hK1 hB2 ho2 ho3 hw2 hw3 e2 e3 hlen2 hB hK hw1 hw2' HR
    have hrun2 := HR2.out 3
    have hrun3 := HR3.out 3
    go_upto_region 11 with (fail)
    have hi0 : (0 : Int) ≤ (i : Int) + 1 := by omega
    have hi1 : (i : Int) + 1 ≤ (n : Int) + 1 := by omega
    have hwr : IntKind.i64.wrap ((i : Int) + 1) = (i : Int) + 1 := by rw [IntKind.wrap_i64]; omega
    refine wp_region_held_drew (S := fun _ => True) (by kernel_rfl) trivial (fun hHeld => ?_)
    refine wpAnyH_take (i := 0) (oi := ⟨_, _, _, _, _, _⟩) (v := ?_) rfl (by kernel_rfl) (by kernel_rfl) (by kernel_rfl) (fun _ _ _ h => h) (Or.inl ⟨by rfl, ?_⟩) (by assumption) ?_
    rotate_left
    · intro w hSw; (try dsimp only at hSw); go_simp; (try (with_reducible rfl))
    try simp only [Act.put, List.setIfInBounds_toArray, List.set_cons_zero, List.set_cons_succ]
    refine wpAnyH_take (i := 1) (oi := ⟨_, _, _, _, _, _⟩) (v := ?_) rfl (by kernel_rfl) (by kernel_rfl) (by kernel_rfl) (fun _ _ _ h => h) (Or.inl ⟨by rfl, ?_⟩) (by assumption) ?_
    rotate_left
    · intro w hSw; (try dsimp only at hSw); go_simp; (try (with_reducible rfl))
    try simp only [Act.put, List.setIfInBounds_toArray, List.set_cons_zero, List.set_cons_succ]
    refine wpAnyH_take (i := 2) (oi := ⟨_, _, _, _, _, _⟩) (v := ?_) rfl (by kernel_rfl) (by kernel_rfl) (by kernel_rfl) (fun _ _ _ h => h) (Or.inl ⟨by rfl, ?_⟩) (by assumption) ?_
    rotate_left
    · intro w hSw; (try dsimp only at hSw); go_simp; (try (with_reducible rfl))
    try simp only [Act.put, List.setIfInBounds_toArray, List.set_cons_zero, List.set_cons_succ]
    refine wpAnyH_take (i := 3) (oi := ⟨_, _, _, _, _, _⟩) (v := ?_) rfl (by kernel_rfl) (by kernel_rfl) (by kernel_rfl) (fun _ _ _ h => h) (Or.inl ⟨by rfl, ?_⟩) (by assumption) ?_
    rotate_left
    · intro w hSw; (try dsimp only at hSw); go_simp; (try (with_reducible rfl))
    try simp only [Act.put, List.setIfInBounds_toArray, List.set_cons_zero, List.set_cons_succ]
    refine wpAnyH_take (i := 4) (oi := ⟨_, _, _, _, _, _⟩) (v := ?_) rfl (by kernel_rfl) (by kernel_rfl) (by kernel_rfl) (fun _ _ _ h => h) (Or.inl ⟨by rfl, ?_⟩) (by assumption) ?_
    rotate_left
    · intro w hSw; (try dsimp only at hSw); go_simp; (try (with_reducible rfl))
    try simp only [Act.put, List.setIfInBounds_toArray, List.set_cons_zero, List.set_cons_succ]
    refine wpAnyH_take (i := 5) (oi := ⟨_, _, _, _, _, _⟩) (v := ?_) rfl (by kernel_rfl) (by kernel_rfl) (by kernel_rfl) (fun _ _ _ h => h) (Or.inl ⟨by rfl, ?_⟩) (by assumption) ?_
    rotate_left
    · intro w hSw; (try dsimp only at hSw); go_simp; (try (with_reducible rfl))
    try simp only [Act.put, List.setIfInBounds_toArray, List.set_cons_zero, List.set_cons_succ]
    refine wpAnyH_take (i := 6) (oi := ⟨_, _, _, _, _, _⟩) (v := ?_) rfl (by kernel_rfl) (by kernel_rfl) (by kernel_rfl) (fun _ _ _ h => h) (Or.inl ⟨by rfl, ?_⟩) (by assumption) ?_
    rotate_left
    · intro w hSw; (try dsimp only at hSw); go_simp; (try (with_reducible rfl))
    try simp only [Act.put, List.setIfInBounds_toArray, List.set_cons_zero, List.set_cons_succ]
    refine wpAnyH_take (i := 7) (oi := ⟨_, _, _, _, _, _⟩) (v := ?_) rfl (by kernel_rfl) (by kernel_rfl) (by kernel_rfl) (fun _ _ _ h => h) (Or.inl ⟨by rfl, ?_⟩) (by assumption) ?_
    rotate_left
    · intro w hSw; (try dsimp only at hSw); go_simp; (try (with_reducible rfl))
    try simp only [Act.put, List.setIfInBounds_toArray, List.set_cons_zero, List.set_cons_succ]
    refine wpAnyH_ready (rs := [8]) (by kernel_rfl) (by simp) ?_
    refine AllReadyH.cons (o := ⟨_, _, _, _, _, _⟩) rfl (fun K hK => ?_) AllReadyH.nil
    go_simp
    refine hK.out _ _ trivial (fun hHeld => ?_)
    clear hK K
    try simp only [Act.put, List.setIfInBounds_toArray, List.set_cons_zero, List.set_cons_succ]
    refine wpAnyH_done (by kernel_rfl) ?_ _
    go_wp2
    go_ret
    refine ⟨w.heap.size, c', r3, rfl, Nat.le_refl _, hc1, hc2, ?_, hw3'⟩
    rw [filV_append, filV_cons]
    have := HB3.out
    simpa using this


theorem app_room' {w : World} {g : Nat} {cs : List Value} (hB : Blk w g cs 33) (sLen sCap : Nat) (a : Addr) (m d : Nat) (news : List Value) (hl : news.length = m * 2) (hroom : sLen + m ≤ sCap) (hfit : sLen * 2 + news.length ≤ cs.length)
    (hsrc : ∀ j v, news[j]? = some v → w.cell? (a.add j) = some v) (h1 : ∀ v ∈ news, v.oneCell' = true) :
    ∃ w', Hid (∀ ty, (Builtin.append_ #[22, 22] ty #[.slice (some ⟨g, 0, none⟩) sLen sCap, .slice (some a) m d]).run Tryd.prog w = .ok (.slice (some ⟨g, 0, none⟩) (sLen + m) sCap) w') ∧
      Blk w' g (cs.take (sLen * 2) ++ news ++ cs.drop (sLen * 2 + news.length)) 33 ∧ ∀ B w0, B ≤ g → Below B w0 w → Below B w0 w' :=
  ⟨_, fun ty => app_room hB ty sLen sCap a m d news hl hroom hfit hsrc h1, hB.row, fun _ _ hBg hb => below_setRow hb hBg _⟩
theorem clear_one' {w : World} {g : Nat} {cs : List Value} (hB : Blk w g cs 33) (o c : Nat) (hfit : o + 2 ≤ cs.length) :
    ∃ w', Hid (∀ ty, (Builtin.clear_ #[22] ty #[.slice (some ⟨g, o, none⟩) 1 c]).run Tryd.prog w = .ok (.tuple #[]) w') ∧
      Blk w' g (cs.take o ++ [zS, zS] ++ cs.drop (o + 2)) 33 ∧ ∀ B w0, B ≤ g → Below B w0 w → Below B w0 w' :=
  ⟨_, fun ty => clear_one hB ty o c hfit, hB.row, fun _ _ hBg hb => below_setRow hb hBg _⟩

set_option maxHeartbeats 2000000 in
set_option maxRecDepth 20000 in
theorem delete_any {w : World} {g m k : Nat} {fs : List Fil} (hB : Blk w g (filV fs) 33) (hl : fs.length = m + 1) (hn : m ≤ 1000) (hk : k ≤ m) :
    Calls Tryd.prog 41 #[.slice (some ⟨g, 0, none⟩) (m + 1) (m + 1), .int .i64 k, .int .i64 ((k : Int) + 1)] w fun e w' =>
      e = .returned (.slice (some ⟨g, 0, none⟩) m (m + 1)) ∧ (∃ rest, Blk w' g (filV (fs.take k ++ fs.drop (k + 1)) ++ rest) 33) ∧ ∀ B w0, B ≤ g → Below B w0 w → Below B w0 w' := by
  have hz0 : (0 : Int) ≤ k := by omega
  have hz1 : (0 : Int) ≤ (k : Int) + 1 := by omega
  have hzm : (k : Int) ≤ (m : Int) + 1 := by omega
  have hzm1 : (k : Int) + 1 ≤ (m : Int) + 1 := by omega
  have hwr : IntKind.i64.wrap ((k : Int) + 1) = (k : Int) + 1 := by rw [IntKind.wrap_i64]; omega
  have hne : ¬ (k : Int) = (k : Int) + 1 := by omega
  have hnk : ¬ m + 1 = k := by omega
  have hll : (filV fs).length = (m + 1) * 2 := by rw [filV_length, hl]
  have key : ∀ (a : Addr) (hx : ∀ j v, (filV (fs.drop (k + 1)))[j]? = some v → w.drew.cell? (a.add j) = some v), ∃ w1 w2, Hid (∀ ty d, (Builtin.append_ #[22, 22] ty #[.slice (some ⟨g, 0, none⟩) k (m + 1), .slice (some a) (m - k) d]).run Tryd.prog w.drew = .ok (.slice (some ⟨g, 0, none⟩) m (m + 1)) w1) ∧
      Hid (∀ ty c, (Builtin.clear_ #[22] ty #[.slice (some ⟨g, m * 2, none⟩) 1 c]).run Tryd.prog w1 = .ok (.tuple #[]) w2) ∧ (∃ rest, Blk w2 g (filV (fs.take k ++ fs.drop (k + 1)) ++ rest) 33) ∧ ∀ B w0, B ≤ g → Below B w0 w → Below B w0 w2 := by
    intro a hx
    have hdl : (filV (fs.drop (k + 1))).length = (m - k) * 2 := by rw [filV_length, List.length_drop, hl]; congr 1; omega
    have h1 := fun ty d => app_room hB.drew ty k (m + 1) a (m - k) d (filV (fs.drop (k + 1))) hdl (by omega) (by rw [hdl, hll]; omega) hx (filV_one _)
    rw [show k + (m - k) = m by omega] at h1
    have e1 : (filV fs).take (k * 2) ++ filV (fs.drop (k + 1)) = filV (fs.take k ++ fs.drop (k + 1)) := by rw [filV_append, filV_take]
    rw [e1] at h1
    have hb1 : Blk (w.drew.setRow g (filV (fs.take k ++ fs.drop (k + 1)) ++ (filV fs).drop (k * 2 + (filV (fs.drop (k + 1))).length)).toArray) g (filV (fs.take k ++ fs.drop (k + 1)) ++ (filV fs).drop (k * 2 + (filV (fs.drop (k + 1))).length)) 33 := hB.drew.row
    have hpl : (filV (fs.take k ++ fs.drop (k + 1))).length = m * 2 := by rw [filV_length, List.length_append, List.length_take, List.length_drop, hl]; congr 1; omega
    have h2 := fun ty c => clear_one hb1 ty (m * 2) c (by rw [List.length_append, hpl, List.length_drop, hll, hdl]; omega)
    refine ⟨_, _, h1, h2, ⟨[zS, zS] ++ (filV (fs.take k ++ fs.drop (k + 1)) ++ (filV fs).drop (k * 2 + (filV (fs.drop (k + 1))).length)).drop (m * 2 + 2), ?_⟩, fun B w0 hBg hb => below_setRow (below_setRow hb.drew hBg _) hBg _⟩
    have hr := Blk.row (cs' := (filV (fs.take k ++ fs.drop (k + 1)) ++ (filV fs).drop (k * 2 + (filV (fs.drop (k + 1))).length)).take (m * 2) ++ [zS, zS] ++ (filV (fs.take k ++ fs.drop (k + 1)) ++ (filV fs).drop (k * 2 + (filV (fs.drop (k + 1))).length)).drop (m * 2 + 2)) hb1
    have e2 : (filV (fs.take k ++ fs.drop (k + 1)) ++ (filV fs).drop (k * 2 + (filV (fs.drop (k + 1))).length)).take (m * 2) = filV (fs.take k ++ fs.drop (k + 1)) := List.take_left' hpl
    rw [← List.append_assoc]
    rw [e2] at hr ⊢
    exact hr
  by_cases hkm : k = m
  · have hcap : m + 1 = k + 1 := by omega
    obtain ⟨w1, w2, HR1, HR2, hb2, hw2⟩ := key ⟨g, 0, none⟩ (by rw [List.drop_of_length_le (by omega)]; simp [filV])
    subst hkm
    rw [Nat.sub_self] at HR1
    have hrun2 := HR2.out
    have HB2 := hid hb2
    have HW2 := hid hw2
    have hmz : (k : Int) ≤ (k : Int) + 1 := by omega
    have hm0 : (0 : Int) ≤ k := by omega
    clear key HR2 hb2 hw2 hB
    go_enter Tryd.func41, Tryd.ntmps41
    go_upto_region 5 with (fail)
    refine wp_region_held_drew (S := fun _ => True) (by kernel_rfl) trivial (fun hHeld => ?_)
    refine wpAnyH_take (i := 0) (oi := ⟨_, _, _, _, _, _⟩) (v := ?_) rfl (by kernel_rfl) (by kernel_rfl) (by kernel_rfl) (fun _ _ _ h => h) (Or.inl ⟨by rfl, ?_⟩) (by assumption) ?_
    rotate_left
    · intro w hSw; (try dsimp only at hSw); go_simp; (try (with_reducible rfl))
    try simp only [Act.put, List.setIfInBounds_toArray, List.set_cons_zero, List.set_cons_succ]
    refine wpAnyH_take (i := 1) (oi := ⟨_, _, _, _, _, _⟩) (v := ?_) rfl (by kernel_rfl) (by kernel_rfl) (by kernel_rfl) (fun _ _ _ h => h) (Or.inl ⟨by rfl, ?_⟩) (by assumption) ?_
    rotate_left
    · intro w hSw; (try dsimp only at hSw); go_simp; (try (with_reducible rfl))
    try simp only [Act.put, List.setIfInBounds_toArray, List.set_cons_zero, List.set_cons_succ]
    refine wpAnyH_take (i := 2) (oi := ⟨_, _, _, _, _, _⟩) (v := ?_) rfl (by kernel_rfl) (by kernel_rfl) (by kernel_rfl) (fun _ _ _ h => h) (Or.inl ⟨by rfl, ?_⟩) (by assumption) ?_
    rotate_left
    · intro w hSw; (try dsimp only at hSw); go_simp; (try (with_reducible rfl))
    try simp only [Act.put, List.setIfInBounds_toArray, List.set_cons_zero, List.set_cons_succ]
    refine wpAnyH_take (i := 3) (oi := ⟨_, _, _, _, _, _⟩) (v := ?_) rfl (by kernel_rfl) (by kernel_rfl) (by kernel_rfl) (fun _ _ _ h => h) (Or.inl ⟨by rfl, ?_⟩) (by assumption) ?_
    rotate_left
    · intro w hSw; (try dsimp only at hSw); go_simp; (try (with_reducible rfl))
    try simp only [Act.put, List.setIfInBounds_toArray, List.set_cons_zero, List.set_cons_succ]
    refine wpAnyH_take (i := 4) (oi := ⟨_, _, _, _, _, _⟩) (v := ?_) rfl (by kernel_rfl) (by kernel_rfl) (by kernel_rfl) (fun _ _ _ h => h) (Or.inl ⟨by rfl, ?_⟩) (by assumption) ?_
    rotate_left
    · intro w hSw; (try dsimp only at hSw); go_simp; (try (with_reducible rfl))
    try simp only [Act.put, List.setIfInBounds_toArray, List.set_cons_zero, List.set_cons_succ]
    refine wpAnyH_take (i := 5) (oi := ⟨_, _, _, _, _, _⟩) (v := ?_) rfl (by kernel_rfl) (by kernel_rfl) (by kernel_rfl) (fun _ _ _ h => h) (Or.inl ⟨by rfl, ?_⟩) (by assumption) ?_
    rotate_left
    · intro w hSw; (try dsimp only at hSw); go_simp; (try (with_reducible rfl))
    try simp only [Act.put, List.setIfInBounds_toArray, List.set_cons_zero, List.set_cons_succ]
    refine wpAnyH_ready (rs := [6]) (by kernel_rfl) (by simp) ?_
    refine AllReadyH.cons (o := ⟨_, _, _, _, _, _⟩) rfl (fun K hK => ?_) (AllReadyH.nil)
    refine stepApp2 (by rfl) (.tmp 22) (.tmp 25) 22 rfl _ _ _ rfl rfl (HR1.out _ _) ?_
    try simp only [Act.put, List.setIfInBounds_toArray, List.set_cons_zero, List.set_cons_succ]
    refine hK.out _ _ trivial (fun hHeld => ?_)
    clear hK K
    try simp only [Act.put, List.setIfInBounds_toArray, List.set_cons_zero, List.set_cons_succ]
    refine wpAnyH_take (i := 7) (oi := ⟨_, _, _, _, _, _⟩) (v := ?_) rfl (by kernel_rfl) (by kernel_rfl) (by kernel_rfl) (fun _ _ _ h => h) (Or.inl ⟨by rfl, ?_⟩) (by assumption) ?_
    rotate_left
    · intro w hSw; (try dsimp only at hSw); go_simp; (try (with_reducible rfl))
    try simp only [Act.put, List.setIfInBounds_toArray, List.set_cons_zero]
    refine wpAnyH_done (by kernel_rfl) ?_ _
    go_wp2
    go_ret
    exact ⟨rfl, HB2.out, HW2.out⟩
  · have hcap : ¬ m + 1 = k + 1 := by omega
    have hkm' : ¬ m = k := by omega
    obtain ⟨w1, w2, HR1, HR2, hb2, hw2⟩ := key ⟨g, (k + 1) * 2, none⟩ (hB.drew.read _ _ (fun j u hu => by rw [filV_drop, List.getElem?_drop] at hu; exact hu))
    have hrun2 := HR2.out
    have HB2 := hid hb2
    have HW2 := hid hw2
    have hmz : (m : Int) ≤ (m : Int) + 1 := by omega
    have hm0 : (0 : Int) ≤ m := by omega
    clear key HR2 hb2 hw2 hB
    go_enter Tryd.func41, Tryd.ntmps41
    go_upto_region 5 with (fail)
    refine wp_region_held_drew (S := fun _ => True) (by kernel_rfl) trivial (fun hHeld => ?_)
    refine wpAnyH_take (i := 0) (oi := ⟨_, _, _, _, _, _⟩) (v := ?_) rfl (by kernel_rfl) (by kernel_rfl) (by kernel_rfl) (fun _ _ _ h => h) (Or.inl ⟨by rfl, ?_⟩) (by assumption) ?_
    rotate_left
    · intro w hSw; (try dsimp only at hSw); go_simp; (try (with_reducible rfl))
    try simp only [Act.put, List.setIfInBounds_toArray, List.set_cons_zero, List.set_cons_succ]
    refine wpAnyH_take (i := 1) (oi := ⟨_, _, _, _, _, _⟩) (v := ?_) rfl (by kernel_rfl) (by kernel_rfl) (by kernel_rfl) (fun _ _ _ h => h) (Or.inl ⟨by rfl, ?_⟩) (by assumption) ?_
    rotate_left
    · intro w hSw; (try dsimp only at hSw); go_simp; (try (with_reducible rfl))
    try simp only [Act.put, List.setIfInBounds_toArray, List.set_cons_zero, List.set_cons_succ]
    refine wpAnyH_take (i := 2) (oi := ⟨_, _, _, _, _, _⟩) (v := ?_) rfl (by kernel_rfl) (by kernel_rfl) (by kernel_rfl) (fun _ _ _ h => h) (Or.inl ⟨by rfl, ?_⟩) (by assumption) ?_
    rotate_left
    · intro w hSw; (try dsimp only at hSw); go_simp; (try (with_reducible rfl))
    try simp only [Act.put, List.setIfInBounds_toArray, List.set_cons_zero, List.set_cons_succ]
    refine wpAnyH_take (i := 3) (oi := ⟨_, _, _, _, _, _⟩) (v := ?_) rfl (by kernel_rfl) (by kernel_rfl) (by kernel_rfl) (fun _ _ _ h => h) (Or.inl ⟨by rfl, ?_⟩) (by assumption) ?_
    rotate_left
    · intro w hSw; (try dsimp only at hSw); go_simp; (try (with_reducible rfl))
    try simp only [Act.put, List.setIfInBounds_toArray, List.set_cons_zero, List.set_cons_succ]
    refine wpAnyH_take (i := 4) (oi := ⟨_, _, _, _, _, _⟩) (v := ?_) rfl (by kernel_rfl) (by kernel_rfl) (by kernel_rfl) (fun _ _ _ h => h) (Or.inl ⟨by rfl, ?_⟩) (by assumption) ?_
    rotate_left
    · intro w hSw; (try dsimp only at hSw); go_simp; (try (with_reducible rfl))
    try simp only [Act.put, List.setIfInBounds_toArray, List.set_cons_zero, List.set_cons_succ]
    refine wpAnyH_take (i := 5) (oi := ⟨_, _, _, _, _, _⟩) (v := ?_) rfl (by kernel_rfl) (by kernel_rfl) (by kernel_rfl) (fun _ _ _ h => h) (Or.inl ⟨by rfl, ?_⟩) (by assumption) ?_
    rotate_left
    · intro w hSw; (try dsimp only at hSw); go_simp; (try (with_reducible rfl))
    try simp only [Act.put, List.setIfInBounds_toArray, List.set_cons_zero, List.set_cons_succ]
    refine wpAnyH_ready (rs := [6]) (by kernel_rfl) (by simp) ?_
    refine AllReadyH.cons (o := ⟨_, _, _, _, _, _⟩) rfl (fun K hK => ?_) (AllReadyH.nil)
    refine stepApp2 (by rfl) (.tmp 22) (.tmp 25) 22 rfl _ _ _ rfl rfl (HR1.out _ _) ?_
    try simp only [Act.put, List.setIfInBounds_toArray, List.set_cons_zero, List.set_cons_succ]
    refine hK.out _ _ trivial (fun hHeld => ?_)
    clear hK K
    try simp only [Act.put, List.setIfInBounds_toArray, List.set_cons_zero, List.set_cons_succ]
    refine wpAnyH_take (i := 7) (oi := ⟨_, _, _, _, _, _⟩) (v := ?_) rfl (by kernel_rfl) (by kernel_rfl) (by kernel_rfl) (fun _ _ _ h => h) (Or.inl ⟨by rfl, ?_⟩) (by assumption) ?_
    rotate_left
    · intro w hSw; (try dsimp only at hSw); go_simp; (try (with_reducible rfl))
    try simp only [Act.put, List.setIfInBounds_toArray, List.set_cons_zero]
    refine wpAnyH_done (by kernel_rfl) ?_ _
    go_wp2
    go_ret
    exact ⟨rfl, HB2.out, HW2.out⟩
end Go.Proofs.YtblfpmlnpaibkaaDoor
