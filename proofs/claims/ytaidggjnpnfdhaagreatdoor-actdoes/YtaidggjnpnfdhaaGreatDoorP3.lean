/- The texts Ti, Tj, Tl, Tm, Uc, Xa, Cr, Ck, Cl, Xb, App, Shelf2, Jc, Jd, Xc, Je, Ji, in one. -/
import Derived.Test.YtaidggjnpnfdhaaGreatDoorP2
import Derived.Deep.RegionHeld3
import Derived.Lib.AppendZeros
import Derived.Shelf.Sort.Plain
import Derived.Shelf.Slices.CompactS
import Derived.Shelf.Slices.In.SortNone
import Derived.Test.YtaidggjnpnfdhaaGreatDoorProg
import Derived.Lib.OwnBridge
import Derived.Sort.OwnSorted
import Derived.Sort.Grow
import Derived.Deep.DeepCutAuto
import Derived.Laws.StructEq
namespace Go.Proofs.YtaidggjnpnfdhaaGreatDoor
open Go.RowKit

theorem copy_blk' {w : World} {g o dLen dCap : Nat} {cs : List Value} (hB : Blk w g cs 38) (a : Addr) (sLen sCap : Nat) (news : List Value) (hl : news.length = Nat.min sLen dLen * 2) (hfit : o + news.length ≤ cs.length)
    (hsrc : ∀ j v, news[j]? = some v → w.cell? (a.add j) = some v) (h1 : ∀ v ∈ news, v.oneCell' = true) :
    ∃ v w', Hid (∀ ty, (Builtin.copy_ #[22, 22] ty #[.slice (some ⟨g, o, none⟩) dLen dCap, .slice (some a) sLen sCap]).run Tryz.prog w = .ok v w') ∧
      Blk w' g (cs.take o ++ news ++ cs.drop (o + news.length)) 38 ∧ (∀ k cs', k ≠ g → Blk w k cs' 38 → Blk w' k cs' 38) ∧ ∀ B w0, B ≤ g → Below B w0 w → Below B w0 w' :=
  ⟨_, _, fun ty => copy_blk hB ty a sLen sCap news hl hfit hsrc h1, hB.row, fun _ _ hne hk => hk.rowOther hne _, fun _ _ hBg hb => below_setRow hb hBg _⟩

/-- Where a new slice of files lies: a block of the call's own, known whole. -/
def NewF (w : World) (n : Nat) (fs : List Fil) (e : Ending) (w' : World) : Prop :=
  ∃ g c rest, e = .returned (.slice (some ⟨g, 0, none⟩) n c) ∧ w.heap.size ≤ g ∧ n ≤ c ∧ c ≤ maxLen ∧ Blk w' g (filV fs ++ rest) 38 ∧ Below w.heap.size w w'

theorem app_end' {w : World} {g n : Nat} {fs : List Fil} (hB : Blk w g (filV fs) 38) (hl : fs.length = n) (hn : n ≤ 1000) (ty : TypeId) (k : Nat) (a b : Value) (hk : Blk w k [a, b] 38) (ha : a.oneCell' = true) (hb : b.oneCell' = true) :
    ∃ c' w', n + 1 ≤ c' ∧ c' ≤ maxLen ∧ Hid ((Builtin.append_ #[22, 22] ty #[.slice (some ⟨g, 0, none⟩) n n, .slice (some ⟨k, 0, none⟩) 1 1]).run Tryz.prog w = .ok (.slice (some ⟨w.heap.size, 0, none⟩) (n + 1) c') w') ∧
      Blk w' w.heap.size (filV fs ++ [a, b] ++ List.replicate ((c' - (n + 1)) * 2) zS) 38 ∧ Below w.heap.size w w' := by
  obtain ⟨c', h1, h2, h3⟩ := app_end hB hl hn ty k a b hk ha hb
  exact ⟨c', _, h1, h2, h3, Blk.new w.drew _ _, (Below.refl _ _).drew.alloc (Nat.le_refl _) _⟩
theorem app_zeros' {w : World} {g n i : Nat} {fs : List Fil} (hB : Blk w g (filV fs) 38) (hl : fs.length = n) (hn : n ≤ 1000) (hi : i < n) (ty : TypeId) :
    ∃ c' w', n + 1 ≤ c' ∧ c' ≤ maxLen ∧ Hid ((Builtin.append_ #[22, 3] ty #[.slice (some ⟨g, 0, none⟩) i n, .int .i64 ((n : Int) + 1 - i)]).run Tryz.prog w = .ok (.slice (some ⟨w.heap.size, 0, none⟩) (n + 1) c') w') ∧
      Blk w' w.heap.size (filV (fs.take i) ++ List.replicate ((c' - i) * 2) zS) 38 ∧ Below w.heap.size w w' := by
  obtain ⟨c', h1, h2, h3⟩ := app_zeros hB hl hn hi ty _ rfl
  exact ⟨c', _, h1, h2, h3, Blk.new w.drew _ _, (Below.refl _ _).drew.alloc (Nat.le_refl _) _⟩

set_option maxHeartbeats 2000000 in
set_option maxRecDepth 20000 in
theorem insert_any {w : World} {g k n i : Nat} {fs : List Fil} (hB : Blk w g (filV fs) 38) (hK : Blk w k [zS, zS] 38) (hl : fs.length = n) (hn : n ≤ 1000) (hi : i ≤ n) :
    Calls Tryz.prog 86 #[.slice (some ⟨g, 0, none⟩) n n, .int .i64 i, .slice (some ⟨k, 0, none⟩) 1 1] w (NewF w (n + 1) (fs.take i ++ (⟨#[]⟩, ⟨#[]⟩) :: fs.drop i)) := by
  have hz0 : (0 : Int) ≤ i := by omega
  have hzn : (i : Int) ≤ n := by omega
  by_cases hin : i = n
  · subst hin
    obtain ⟨c', w1, hc1, hc2, HR, hb1, hw1⟩ := app_end' hB hl hn 22 k zS zS hK rfl rfl
    go_enter Tryz.func86, Tryz.ntmps86
    go_wp2_with (at_builtin; refine Lib.wpList_append_run _ rfl _ _ _ _ rfl _ _ rfl rfl _ _ HR.out ?_)
    go_wp2
    go_ret
    refine ⟨w.heap.size, c', List.replicate ((c' - (i + 1)) * 2) zS, rfl, Nat.le_refl _, hc1, hc2, ?_, hw1⟩
    rw [List.take_of_length_le (by omega), List.drop_of_length_le (by omega), filV_append]
    exact hb1
  · have hin' : i < n := by omega
    have hne : ¬ (i : Int) = n := by omega
    obtain ⟨c', w1, hc1, hc2, HR, hb1, hw1⟩ := app_zeros' hB hl hn hin' 22
    have hlc : (n : Int) < (n : Int) + 1 := by omega
    have hnn : ¬ n = i := by omega
    have hB1 := hB.below hw1
    have hK1 := hK.below hw1
    have hci : ¬ c' = i := by omega
    have hci1 : ¬ c' = i + 1 := by omega
    go_enter Tryz.func86, Tryz.ntmps86
    go_upto_region 9 with (fail)
    go_upto_region 10 with (at_builtin; refine Lib.wpList_append_run _ rfl _ _ _ _ rfl _ _ rfl rfl _ _ HR.out ?_)
    obtain ⟨v2, w2, HR2, hb2, ho2, hw2⟩ := copy_blk' (o := i * 2) (dLen := n + 1 - i) (dCap := c' - i) hb1 ⟨k, 0, none⟩ 1 1 [zS, zS] (by rw [show Nat.min 1 (n + 1 - i) = 1 from Nat.min_eq_left (by omega)]; rfl) (by rw [List.length_append, filV_length, List.length_take, List.length_replicate]; simp; omega) (hK1.read 0 _ (fun j u hu => by rw [Nat.zero_add]; exact hu)) (by simp; rfl)
    have hgw : g < w.heap.size := hB.lt
    have hB2 := ho2 g _ (by omega) hB1
    have hw2' := hw2 _ _ (Nat.le_refl _) hw1
    have e2 : (filV (fs.take i) ++ List.replicate ((c' - i) * 2) zS).take (i * 2) = filV (fs.take i) := List.take_left' (by rw [filV_length, List.length_take]; omega)
    rw [e2] at hb2
    have hlen2 : (filV (fs.take i) ++ [zS, zS] ++ (filV (fs.take i) ++ List.replicate ((c' - i) * 2) zS).drop (i * 2 + [zS, zS].length)).length = c' * 2 := by
      simp only [List.length_append, List.length_drop, filV_length, List.length_take, List.length_replicate, List.length_cons, List.length_nil]
      omega
    generalize (filV (fs.take i) ++ List.replicate ((c' - i) * 2) zS).drop (i * 2 + [zS, zS].length) = r2 at *
    obtain ⟨v3, w3, HR3, hb3, ho3, hw3⟩ := copy_blk' (o := (i + 1) * 2) (dLen := n - i) (dCap := c' - (i + 1)) hb2.drew ⟨g, i * 2, none⟩ (n - i) (n - i) (filV (fs.drop i)) (by rw [filV_length, List.length_drop, hl]; simp) (by rw [hlen2, filV_length, List.length_drop]; omega) (hB2.drew.read (i * 2) _ (fun j u hu => by rw [filV_drop, List.getElem?_drop] at hu; exact hu)) (filV_one _)
    have hw3' := hw3 _ _ (Nat.le_refl _) hw2'.drew
    have e3 : (filV (fs.take i) ++ [zS, zS] ++ r2).take ((i + 1) * 2) = filV (fs.take i) ++ [zS, zS] := List.take_left' (by rw [List.length_append, filV_length, List.length_take]; simp; omega)
    rw [e3] at hb3
    generalize (filV (fs.take i) ++ [zS, zS] ++ r2).drop ((i + 1) * 2 + (filV (fs.drop i)).length) = r3 at *
    have HB3 := hid hb3
    clear hb1 hb2 hb3 hB1 hK1 hB2 ho2 ho3 hw2 hw3 e2 e3 hlen2 hB hK hw1 hw2' HR
    have hrun2 := HR2.out 3
    have hrun3 := HR3.out 3
    go_upto_region 11 with (fail)
    have hi0 : (0 : Int) ≤ (i : Int) + 1 := by omega
    have hi1 : (i : Int) + 1 ≤ (n : Int) + 1 := by omega
    have hwr : IntKind.i64.wrap ((i : Int) + 1) = (i : Int) + 1 := by rw [IntKind.wrap_i64]; omega
    refine wp_region_held_drew (S := fun _ => True) (by kernel_rfl) trivial (fun hHeld => ?_)
    refine wpAnyH_take (i := 0) (oi := ⟨_, _, _, _, _, _⟩) (v := ?_) rfl (by kernel_rfl) (by kernel_rfl) (by kernel_rfl) (fun _ _ _ h => h) (Or.inl ⟨by rfl, ?_⟩) (by assumption) ?_
    rotate_left
    · intro w hSw; (try dsimp only at hSw); go_simp; (try (with_reducible rfl))
    try simp only [Act.put, List.setIfInBounds_toArray, List.set_cons_zero, List.set_cons_succ]
    refine wpAnyH_take (i := 1) (oi := ⟨_, _, _, _, _, _⟩) (v := ?_) rfl (by kernel_rfl) (by kernel_rfl) (by kernel_rfl) (fun _ _ _ h => h) (Or.inl ⟨by rfl, ?_⟩) (by assumption) ?_
    rotate_left
    · intro w hSw; (try dsimp only at hSw); go_simp; (try (with_reducible rfl))
    try simp only [Act.put, List.setIfInBounds_toArray, List.set_cons_zero, List.set_cons_succ]
    refine wpAnyH_take (i := 2) (oi := ⟨_, _, _, _, _, _⟩) (v := ?_) rfl (by kernel_rfl) (by kernel_rfl) (by kernel_rfl) (fun _ _ _ h => h) (Or.inl ⟨by rfl, ?_⟩) (by assumption) ?_
    rotate_left
    · intro w hSw; (try dsimp only at hSw); go_simp; (try (with_reducible rfl))
    try simp only [Act.put, List.setIfInBounds_toArray, List.set_cons_zero, List.set_cons_succ]
    refine wpAnyH_take (i := 3) (oi := ⟨_, _, _, _, _, _⟩) (v := ?_) rfl (by kernel_rfl) (by kernel_rfl) (by kernel_rfl) (fun _ _ _ h => h) (Or.inl ⟨by rfl, ?_⟩) (by assumption) ?_
    rotate_left
    · intro w hSw; (try dsimp only at hSw); go_simp; (try (with_reducible rfl))
    try simp only [Act.put, List.setIfInBounds_toArray, List.set_cons_zero, List.set_cons_succ]
    refine wpAnyH_take (i := 4) (oi := ⟨_, _, _, _, _, _⟩) (v := ?_) rfl (by kernel_rfl) (by kernel_rfl) (by kernel_rfl) (fun _ _ _ h => h) (Or.inl ⟨by rfl, ?_⟩) (by assumption) ?_
    rotate_left
    · intro w hSw; (try dsimp only at hSw); go_simp; (try (with_reducible rfl))
    try simp only [Act.put, List.setIfInBounds_toArray, List.set_cons_zero, List.set_cons_succ]
    refine wpAnyH_take (i := 5) (oi := ⟨_, _, _, _, _, _⟩) (v := ?_) rfl (by kernel_rfl) (by kernel_rfl) (by kernel_rfl) (fun _ _ _ h => h) (Or.inl ⟨by rfl, ?_⟩) (by assumption) ?_
    rotate_left
    · intro w hSw; (try dsimp only at hSw); go_simp; (try (with_reducible rfl))
    try simp only [Act.put, List.setIfInBounds_toArray, List.set_cons_zero, List.set_cons_succ]
    refine wpAnyH_take (i := 6) (oi := ⟨_, _, _, _, _, _⟩) (v := ?_) rfl (by kernel_rfl) (by kernel_rfl) (by kernel_rfl) (fun _ _ _ h => h) (Or.inl ⟨by rfl, ?_⟩) (by assumption) ?_
    rotate_left
    · intro w hSw; (try dsimp only at hSw); go_simp; (try (with_reducible rfl))
    try simp only [Act.put, List.setIfInBounds_toArray, List.set_cons_zero, List.set_cons_succ]
    refine wpAnyH_take (i := 7) (oi := ⟨_, _, _, _, _, _⟩) (v := ?_) rfl (by kernel_rfl) (by kernel_rfl) (by kernel_rfl) (fun _ _ _ h => h) (Or.inl ⟨by rfl, ?_⟩) (by assumption) ?_
    rotate_left
    · intro w hSw; (try dsimp only at hSw); go_simp; (try (with_reducible rfl))
    try simp only [Act.put, List.setIfInBounds_toArray, List.set_cons_zero, List.set_cons_succ]
    refine wpAnyH_ready (rs := [8]) (by kernel_rfl) (by simp) ?_
    refine AllReadyH.cons (o := ⟨_, _, _, _, _, _⟩) rfl (fun K hK => ?_) AllReadyH.nil
    go_simp
    refine hK.out _ _ trivial (fun hHeld => ?_)
    clear hK K
    try simp only [Act.put, List.setIfInBounds_toArray, List.set_cons_zero, List.set_cons_succ]
    refine wpAnyH_done (by kernel_rfl) ?_ _
    go_wp2
    go_ret
    refine ⟨w.heap.size, c', r3, rfl, Nat.le_refl _, hc1, hc2, ?_, hw3'⟩
    rw [filV_append, filV_cons]
    have := HB3.out
    simpa using this


theorem app_room' {w : World} {g : Nat} {cs : List Value} (hB : Blk w g cs 38) (sLen sCap : Nat) (a : Addr) (m d : Nat) (news : List Value) (hl : news.length = m * 2) (hroom : sLen + m ≤ sCap) (hfit : sLen * 2 + news.length ≤ cs.length)
    (hsrc : ∀ j v, news[j]? = some v → w.cell? (a.add j) = some v) (h1 : ∀ v ∈ news, v.oneCell' = true) :
    ∃ w', Hid (∀ ty, (Builtin.append_ #[22, 22] ty #[.slice (some ⟨g, 0, none⟩) sLen sCap, .slice (some a) m d]).run Tryz.prog w = .ok (.slice (some ⟨g, 0, none⟩) (sLen + m) sCap) w') ∧
      Blk w' g (cs.take (sLen * 2) ++ news ++ cs.drop (sLen * 2 + news.length)) 38 ∧ ∀ B w0, B ≤ g → Below B w0 w → Below B w0 w' :=
  ⟨_, fun ty => app_room hB ty sLen sCap a m d news hl hroom hfit hsrc h1, hB.row, fun _ _ hBg hb => below_setRow hb hBg _⟩
theorem clear_one' {w : World} {g : Nat} {cs : List Value} (hB : Blk w g cs 38) (o c : Nat) (hfit : o + 2 ≤ cs.length) :
    ∃ w', Hid (∀ ty, (Builtin.clear_ #[22] ty #[.slice (some ⟨g, o, none⟩) 1 c]).run Tryz.prog w = .ok (.tuple #[]) w') ∧
      Blk w' g (cs.take o ++ [zS, zS] ++ cs.drop (o + 2)) 38 ∧ ∀ B w0, B ≤ g → Below B w0 w → Below B w0 w' :=
  ⟨_, fun ty => clear_one hB ty o c hfit, hB.row, fun _ _ hBg hb => below_setRow hb hBg _⟩

set_option maxHeartbeats 2000000 in
set_option maxRecDepth 20000 in
theorem delete_any {w : World} {g m k : Nat} {fs : List Fil} (hB : Blk w g (filV fs) 38) (hl : fs.length = m + 1) (hn : m ≤ 1000) (hk : k ≤ m) :
    Calls Tryz.prog 88 #[.slice (some ⟨g, 0, none⟩) (m + 1) (m + 1), .int .i64 k, .int .i64 ((k : Int) + 1)] w fun e w' =>
      e = .returned (.slice (some ⟨g, 0, none⟩) m (m + 1)) ∧ (∃ rest, Blk w' g (filV (fs.take k ++ fs.drop (k + 1)) ++ rest) 38) ∧ ∀ B w0, B ≤ g → Below B w0 w → Below B w0 w' := by
  have hz0 : (0 : Int) ≤ k := by omega
  have hz1 : (0 : Int) ≤ (k : Int) + 1 := by omega
  have hzm : (k : Int) ≤ (m : Int) + 1 := by omega
  have hzm1 : (k : Int) + 1 ≤ (m : Int) + 1 := by omega
  have hwr : IntKind.i64.wrap ((k : Int) + 1) = (k : Int) + 1 := by rw [IntKind.wrap_i64]; omega
  have hne : ¬ (k : Int) = (k : Int) + 1 := by omega
  have hnk : ¬ m + 1 = k := by omega
  have hll : (filV fs).length = (m + 1) * 2 := by rw [filV_length, hl]
  have key : ∀ (a : Addr) (hx : ∀ j v, (filV (fs.drop (k + 1)))[j]? = some v → w.drew.cell? (a.add j) = some v), ∃ w1 w2, Hid (∀ ty d, (Builtin.append_ #[22, 22] ty #[.slice (some ⟨g, 0, none⟩) k (m + 1), .slice (some a) (m - k) d]).run Tryz.prog w.drew = .ok (.slice (some ⟨g, 0, none⟩) m (m + 1)) w1) ∧
      Hid (∀ ty c, (Builtin.clear_ #[22] ty #[.slice (some ⟨g, m * 2, none⟩) 1 c]).run Tryz.prog w1 = .ok (.tuple #[]) w2) ∧ (∃ rest, Blk w2 g (filV (fs.take k ++ fs.drop (k + 1)) ++ rest) 38) ∧ ∀ B w0, B ≤ g → Below B w0 w → Below B w0 w2 := by
    intro a hx
    have hdl : (filV (fs.drop (k + 1))).length = (m - k) * 2 := by rw [filV_length, List.length_drop, hl]; congr 1; omega
    have h1 := fun ty d => app_room hB.drew ty k (m + 1) a (m - k) d (filV (fs.drop (k + 1))) hdl (by omega) (by rw [hdl, hll]; omega) hx (filV_one _)
    rw [show k + (m - k) = m by omega] at h1
    have e1 : (filV fs).take (k * 2) ++ filV (fs.drop (k + 1)) = filV (fs.take k ++ fs.drop (k + 1)) := by rw [filV_append, filV_take]
    rw [e1] at h1
    have hb1 : Blk (w.drew.setRow g (filV (fs.take k ++ fs.drop (k + 1)) ++ (filV fs).drop (k * 2 + (filV (fs.drop (k + 1))).length)).toArray) g (filV (fs.take k ++ fs.drop (k + 1)) ++ (filV fs).drop (k * 2 + (filV (fs.drop (k + 1))).length)) 38 := hB.drew.row
    have hpl : (filV (fs.take k ++ fs.drop (k + 1))).length = m * 2 := by rw [filV_length, List.length_append, List.length_take, List.length_drop, hl]; congr 1; omega
    have h2 := fun ty c => clear_one hb1 ty (m * 2) c (by rw [List.length_append, hpl, List.length_drop, hll, hdl]; omega)
    refine ⟨_, _, h1, h2, ⟨[zS, zS] ++ (filV (fs.take k ++ fs.drop (k + 1)) ++ (filV fs).drop (k * 2 + (filV (fs.drop (k + 1))).length)).drop (m * 2 + 2), ?_⟩, fun B w0 hBg hb => below_setRow (below_setRow hb.drew hBg _) hBg _⟩
    have hr := Blk.row (cs' := (filV (fs.take k ++ fs.drop (k + 1)) ++ (filV fs).drop (k * 2 + (filV (fs.drop (k + 1))).length)).take (m * 2) ++ [zS, zS] ++ (filV (fs.take k ++ fs.drop (k + 1)) ++ (filV fs).drop (k * 2 + (filV (fs.drop (k + 1))).length)).drop (m * 2 + 2)) hb1
    have e2 : (filV (fs.take k ++ fs.drop (k + 1)) ++ (filV fs).drop (k * 2 + (filV (fs.drop (k + 1))).length)).take (m * 2) = filV (fs.take k ++ fs.drop (k + 1)) := List.take_left' hpl
    rw [← List.append_assoc]
    rw [e2] at hr ⊢
    exact hr
  by_cases hkm : k = m
  · have hcap : m + 1 = k + 1 := by omega
    obtain ⟨w1, w2, HR1, HR2, hb2, hw2⟩ := key ⟨g, 0, none⟩ (by rw [List.drop_of_length_le (by omega)]; simp [filV])
    subst hkm
    rw [Nat.sub_self] at HR1
    have hrun2 := HR2.out
    have HB2 := hid hb2
    have HW2 := hid hw2
    have hmz : (k : Int) ≤ (k : Int) + 1 := by omega
    have hm0 : (0 : Int) ≤ k := by omega
    clear key HR2 hb2 hw2 hB
    go_enter Tryz.func88, Tryz.ntmps88
    go_upto_region 5 with (fail)
    refine wp_region_held_drew (S := fun _ => True) (by kernel_rfl) trivial (fun hHeld => ?_)
    refine wpAnyH_take (i := 0) (oi := ⟨_, _, _, _, _, _⟩) (v := ?_) rfl (by kernel_rfl) (by kernel_rfl) (by kernel_rfl) (fun _ _ _ h => h) (Or.inl ⟨by rfl, ?_⟩) (by assumption) ?_
    rotate_left
    · intro w hSw; (try dsimp only at hSw); go_simp; (try (with_reducible rfl))
    try simp only [Act.put, List.setIfInBounds_toArray, List.set_cons_zero, List.set_cons_succ]
    refine wpAnyH_take (i := 1) (oi := ⟨_, _, _, _, _, _⟩) (v := ?_) rfl (by kernel_rfl) (by kernel_rfl) (by kernel_rfl) (fun _ _ _ h => h) (Or.inl ⟨by rfl, ?_⟩) (by assumption) ?_
    rotate_left
    · intro w hSw; (try dsimp only at hSw); go_simp; (try (with_reducible rfl))
    try simp only [Act.put, List.setIfInBounds_toArray, List.set_cons_zero, List.set_cons_succ]
    refine wpAnyH_take (i := 2) (oi := ⟨_, _, _, _, _, _⟩) (v := ?_) rfl (by kernel_rfl) (by kernel_rfl) (by kernel_rfl) (fun _ _ _ h => h) (Or.inl ⟨by rfl, ?_⟩) (by assumption) ?_
    rotate_left
    · intro w hSw; (try dsimp only at hSw); go_simp; (try (with_reducible rfl))
    try simp only [Act.put, List.setIfInBounds_toArray, List.set_cons_zero, List.set_cons_succ]
    refine wpAnyH_take (i := 3) (oi := ⟨_, _, _, _, _, _⟩) (v := ?_) rfl (by kernel_rfl) (by kernel_rfl) (by kernel_rfl) (fun _ _ _ h => h) (Or.inl ⟨by rfl, ?_⟩) (by assumption) ?_
    rotate_left
    · intro w hSw; (try dsimp only at hSw); go_simp; (try (with_reducible rfl))
    try simp only [Act.put, List.setIfInBounds_toArray, List.set_cons_zero, List.set_cons_succ]
    refine wpAnyH_take (i := 4) (oi := ⟨_, _, _, _, _, _⟩) (v := ?_) rfl (by kernel_rfl) (by kernel_rfl) (by kernel_rfl) (fun _ _ _ h => h) (Or.inl ⟨by rfl, ?_⟩) (by assumption) ?_
    rotate_left
    · intro w hSw; (try dsimp only at hSw); go_simp; (try (with_reducible rfl))
    try simp only [Act.put, List.setIfInBounds_toArray, List.set_cons_zero, List.set_cons_succ]
    refine wpAnyH_take (i := 5) (oi := ⟨_, _, _, _, _, _⟩) (v := ?_) rfl (by kernel_rfl) (by kernel_rfl) (by kernel_rfl) (fun _ _ _ h => h) (Or.inl ⟨by rfl, ?_⟩) (by assumption) ?_
    rotate_left
    · intro w hSw; (try dsimp only at hSw); go_simp; (try (with_reducible rfl))
    try simp only [Act.put, List.setIfInBounds_toArray, List.set_cons_zero, List.set_cons_succ]
    refine wpAnyH_ready (rs := [6]) (by kernel_rfl) (by simp) ?_
    refine AllReadyH.cons (o := ⟨_, _, _, _, _, _⟩) rfl (fun K hK => ?_) (AllReadyH.nil)
    refine stepApp2 (by rfl) (.tmp 22) (.tmp 25) 22 rfl _ _ _ rfl rfl (HR1.out _ _) ?_
    try simp only [Act.put, List.setIfInBounds_toArray, List.set_cons_zero, List.set_cons_succ]
    refine hK.out _ _ trivial (fun hHeld => ?_)
    clear hK K
    try simp only [Act.put, List.setIfInBounds_toArray, List.set_cons_zero, List.set_cons_succ]
    refine wpAnyH_take (i := 7) (oi := ⟨_, _, _, _, _, _⟩) (v := ?_) rfl (by kernel_rfl) (by kernel_rfl) (by kernel_rfl) (fun _ _ _ h => h) (Or.inl ⟨by rfl, ?_⟩) (by assumption) ?_
    rotate_left
    · intro w hSw; (try dsimp only at hSw); go_simp; (try (with_reducible rfl))
    try simp only [Act.put, List.setIfInBounds_toArray, List.set_cons_zero]
    refine wpAnyH_done (by kernel_rfl) ?_ _
    go_wp2
    go_ret
    exact ⟨rfl, HB2.out, HW2.out⟩
  · have hcap : ¬ m + 1 = k + 1 := by omega
    have hkm' : ¬ m = k := by omega
    obtain ⟨w1, w2, HR1, HR2, hb2, hw2⟩ := key ⟨g, (k + 1) * 2, none⟩ (hB.drew.read _ _ (fun j u hu => by rw [filV_drop, List.getElem?_drop] at hu; exact hu))
    have hrun2 := HR2.out
    have HB2 := hid hb2
    have HW2 := hid hw2
    have hmz : (m : Int) ≤ (m : Int) + 1 := by omega
    have hm0 : (0 : Int) ≤ m := by omega
    clear key HR2 hb2 hw2 hB
    go_enter Tryz.func88, Tryz.ntmps88
    go_upto_region 5 with (fail)
    refine wp_region_held_drew (S := fun _ => True) (by kernel_rfl) trivial (fun hHeld => ?_)
    refine wpAnyH_take (i := 0) (oi := ⟨_, _, _, _, _, _⟩) (v := ?_) rfl (by kernel_rfl) (by kernel_rfl) (by kernel_rfl) (fun _ _ _ h => h) (Or.inl ⟨by rfl, ?_⟩) (by assumption) ?_
    rotate_left
    · intro w hSw; (try dsimp only at hSw); go_simp; (try (with_reducible rfl))
    try simp only [Act.put, List.setIfInBounds_toArray, List.set_cons_zero, List.set_cons_succ]
    refine wpAnyH_take (i := 1) (oi := ⟨_, _, _, _, _, _⟩) (v := ?_) rfl (by kernel_rfl) (by kernel_rfl) (by kernel_rfl) (fun _ _ _ h => h) (Or.inl ⟨by rfl, ?_⟩) (by assumption) ?_
    rotate_left
    · intro w hSw; (try dsimp only at hSw); go_simp; (try (with_reducible rfl))
    try simp only [Act.put, List.setIfInBounds_toArray, List.set_cons_zero, List.set_cons_succ]
    refine wpAnyH_take (i := 2) (oi := ⟨_, _, _, _, _, _⟩) (v := ?_) rfl (by kernel_rfl) (by kernel_rfl) (by kernel_rfl) (fun _ _ _ h => h) (Or.inl ⟨by rfl, ?_⟩) (by assumption) ?_
    rotate_left
    · intro w hSw; (try dsimp only at hSw); go_simp; (try (with_reducible rfl))
    try simp only [Act.put, List.setIfInBounds_toArray, List.set_cons_zero, List.set_cons_succ]
    refine wpAnyH_take (i := 3) (oi := ⟨_, _, _, _, _, _⟩) (v := ?_) rfl (by kernel_rfl) (by kernel_rfl) (by kernel_rfl) (fun _ _ _ h => h) (Or.inl ⟨by rfl, ?_⟩) (by assumption) ?_
    rotate_left
    · intro w hSw; (try dsimp only at hSw); go_simp; (try (with_reducible rfl))
    try simp only [Act.put, List.setIfInBounds_toArray, List.set_cons_zero, List.set_cons_succ]
    refine wpAnyH_take (i := 4) (oi := ⟨_, _, _, _, _, _⟩) (v := ?_) rfl (by kernel_rfl) (by kernel_rfl) (by kernel_rfl) (fun _ _ _ h => h) (Or.inl ⟨by rfl, ?_⟩) (by assumption) ?_
    rotate_left
    · intro w hSw; (try dsimp only at hSw); go_simp; (try (with_reducible rfl))
    try simp only [Act.put, List.setIfInBounds_toArray, List.set_cons_zero, List.set_cons_succ]
    refine wpAnyH_take (i := 5) (oi := ⟨_, _, _, _, _, _⟩) (v := ?_) rfl (by kernel_rfl) (by kernel_rfl) (by kernel_rfl) (fun _ _ _ h => h) (Or.inl ⟨by rfl, ?_⟩) (by assumption) ?_
    rotate_left
    · intro w hSw; (try dsimp only at hSw); go_simp; (try (with_reducible rfl))
    try simp only [Act.put, List.setIfInBounds_toArray, List.set_cons_zero, List.set_cons_succ]
    refine wpAnyH_ready (rs := [6]) (by kernel_rfl) (by simp) ?_
    refine AllReadyH.cons (o := ⟨_, _, _, _, _, _⟩) rfl (fun K hK => ?_) (AllReadyH.nil)
    refine stepApp2 (by rfl) (.tmp 22) (.tmp 25) 22 rfl _ _ _ rfl rfl (HR1.out _ _) ?_
    try simp only [Act.put, List.setIfInBounds_toArray, List.set_cons_zero, List.set_cons_succ]
    refine hK.out _ _ trivial (fun hHeld => ?_)
    clear hK K
    try simp only [Act.put, List.setIfInBounds_toArray, List.set_cons_zero, List.set_cons_succ]
    refine wpAnyH_take (i := 7) (oi := ⟨_, _, _, _, _, _⟩) (v := ?_) rfl (by kernel_rfl) (by kernel_rfl) (by kernel_rfl) (fun _ _ _ h => h) (Or.inl ⟨by rfl, ?_⟩) (by assumption) ?_
    rotate_left
    · intro w hSw; (try dsimp only at hSw); go_simp; (try (with_reducible rfl))
    try simp only [Act.put, List.setIfInBounds_toArray, List.set_cons_zero]
    refine wpAnyH_done (by kernel_rfl) ?_ _
    go_wp2
    go_ret
    exact ⟨rfl, HB2.out, HW2.out⟩
end Go.Proofs.YtaidggjnpnfdhaaGreatDoor
namespace Go.Proofs.YtaidggjnpnfdhaaGreatDoor
open Go.RowKit

/-- A slice of files in memory of the call's own. -/
def OwnF (base : Nat) (w : World) (A : Option Addr) (n c : Nat) (fs : List Fil) : Prop :=
  fs.length = n ∧ n ≤ c ∧ c ≤ 9223372036854775807 ∧ (fs = [] ∨ ∃ g rest, A = some ⟨g, 0, none⟩ ∧ base ≤ g ∧ Blk w g (filV fs ++ rest) 38)
theorem OwnF.rd {base : Nat} {w : World} {A : Option Addr} {n c : Nat} {fs : List Fil} (h : OwnF base w A n c fs) : Rd w A (filV fs) := by
  rcases h.2.2.2 with rfl | ⟨g, rest, rfl, _, hB⟩
  · exact .inl rfl
  · exact .inr ⟨_, rfl, hB.read 0 _ (fun j u hu => by rw [Nat.zero_add, List.getElem?_append_left (List.getElem?_eq_some_iff.1 hu).1]; exact hu)⟩
theorem OwnF.ft {base : Nat} {w : World} {A : Option Addr} {n c : Nat} {fs : List Fil} (h : OwnF base w A n c fs) (hn : n ≤ 140737488355328) (hs : ∀ f ∈ fs, f.1.size < 4294967281 ∧ f.2.size ≤ 140737488355328) : Ft w A n c fs := ⟨h.1, h.rd, h.2.1, hn, h.2.2.1, hs⟩
theorem OwnF.below {base : Nat} {w w' : World} {A : Option Addr} {n c : Nat} {fs : List Fil} (h : OwnF base w A n c fs) (hb : Below w.heap.size w w') : OwnF base w' A n c fs := by
  obtain ⟨h1, h2, h3, h4⟩ := h
  refine ⟨h1, h2, h3, ?_⟩
  rcases h4 with h4 | ⟨g, rest, ha, hg, hB⟩
  · exact .inl h4
  · exact .inr ⟨g, rest, ha, hg, hB.below hb⟩
theorem OwnF.nil (base : Nat) (w : World) : OwnF base w none 0 0 [] := ⟨rfl, Nat.le_refl _, by omega, .inl rfl⟩

/-- Files, and an error's number, were answered. -/
def OutF (w : World) (out : List Fil) (er : Nat) (e : Ending) (w' : World) : Prop :=
  ∃ A n c, e = .returned (.tuple #[.slice A n c, .int .i64 er]) ∧ OwnF w.heap.size w' A n c out ∧ Below w.heap.size w w'

theorem filV_put (a b : List Fil) (x : Fil) (p d : ByteArray) (r : List Value) (k : Nat) (hk : a.length = k) : ((filV (a ++ x :: b) ++ r).set (k * 2) (.string p)).set (k * 2 + 1) (.string d) = filV (a ++ (p, d) :: b) ++ r := by
  have hl : (filV a).length = k * 2 := by rw [filV_length, hk]
  rw [filV_append, filV_append, filV_cons, filV_cons, List.append_assoc, List.append_assoc, List.set_append_right _ _ (by omega), List.set_append_right _ _ (by omega), hl, Nat.sub_self, show k * 2 + 1 - k * 2 = 1 by omega]
  rfl
theorem filV_mid (a b : List Fil) (x : Fil) (r : List Value) (k : Nat) (hk : a.length = k) : (filV (a ++ x :: b) ++ r)[k * 2]? = some (.string x.1) ∧ (filV (a ++ x :: b) ++ r)[k * 2 + 1]? = some (.string x.2) := by
  have hl : (filV a).length = k * 2 := by rw [filV_length, hk]
  rw [filV_append, filV_cons, List.append_assoc]
  constructor
  · rw [List.getElem?_append_right (by omega), hl, Nat.sub_self]; rfl
  · rw [List.getElem?_append_right (by omega), hl, show k * 2 + 1 - k * 2 = 1 by omega]; rfl
theorem putE_arg {fs : List Fil} {p d : ByteArray} (h : treeR fs = false) : putE fs p d = 1 := by simp [putE, h]
theorem putE_name {fs : List Fil} {p d : ByteArray} (h : treeR fs = true) (h2 : rightL p.data.toList = false ∨ clashT fs p.data.toList = true) : putE fs p d = 6 := by
  rcases h2 with h2 | h2 <;> simp [putE, h, h2]
theorem putE_full {fs : List Fil} {p d : ByteArray} (h : treeR fs = true) (h2 : rightL p.data.toList = true) (h3 : clashT fs p.data.toList = false) (h4 : 600 < d.size ∨ (thereT fs p.data.toList = false ∧ fs.length = 16)) : putE fs p d = 2 := by
  rcases h4 with h4 | ⟨h4, h5⟩
  · simp [putE, h, h2, h3, h4]
  · simp [putE, h, h2, h3, h4, h5]
theorem putT_err {fs : List Fil} {p d : ByteArray} {e : Nat} (h : putE fs p d = e) (he : e ≠ 0) : putT fs p d = [] := by rw [putT, if_neg (by rw [h]; exact he)]
theorem putT_ok {fs : List Fil} {p d : ByteArray} (h : putE fs p d = 0) : putT fs p d = putL fs p d := by rw [putT, if_pos h]
theorem out_err {w w' : World} {out : List Fil} {er e : Nat} (h : er = e) (ho : out = []) (hb : Below w.heap.size w w') : OutF w out er (.returned (.tuple #[.slice none 0 0, .int .i64 (e : Int)])) w' := by
  subst h ho
  exact ⟨none, 0, 0, rfl, OwnF.nil _ _, hb⟩
theorem low_split {fs : List Fil} {p : List UInt8} (h : Srt fs) (ht : thereT fs p = false) : fs.take (lowT fs p).length = lowT fs p ∧ fs.drop (lowT fs p).length = highT fs p := by
  rcases split_tree p h with ⟨_, b⟩ | ⟨d, a, _⟩
  · generalize lowT fs p = l at *
    generalize highT fs p = r at *
    subst b
    simp
  · rw [ht] at a; cases a

set_option maxHeartbeats 2000000 in
theorem put_any {w : World} {A : Option Addr} {n c : Nat} {fs : List Fil} (h : Ft w A n c fs) (p d : ByteArray) (hp : p.size < 4294967281) (hd : d.size ≤ 140737488355328) :
    Calls Tryz.prog 63 #[.slice A n c, .string p, .string d] w (OutF w (putT fs p d) (putE fs p d)) := by
  go_enter Tryz.func63, Tryz.ntmps63
  go_wp2_with fail
  refine (tree_any h).mono ?_
  rintro e w1 ⟨rfl, hb1⟩
  cases hR : treeR fs
  · have HE := hid (putE_arg (p := p) (d := d) hR)
    clear hR
    go_wp2
    go_ret2
    exact out_err HE.out (putT_err HE.out (by decide)) hb1
  · have HR := hid hR
    have hT := (treeR_iff fs).1 hR
    have h1 := h.below hb1
    clear hR h
    go_wp2_with fail
    refine (right_any p _ hp).mono ?_
    rintro e w2 ⟨rfl, hb2⟩
    have h2 := h1.below hb2
    have b2 := below2 hb1 hb2
    clear h1 hb1 hb2
    cases hr : rightL p.data.toList
    · have HE := hid (putE_name (p := p) (d := d) HR.out (.inl hr))
      clear hr
      go_wp2
      go_ret2
      exact out_err HE.out (putT_err HE.out (by decide)) b2
    · have HP := hid hr
      clear hr
      go_wp2_with fail
      refine (clashes_any A n c fs p _ h2.len h2.rd h2.big h2.sz1 hp).mono ?_
      rintro e w3 ⟨rfl, hb3⟩
      have h3 := h2.below hb3
      have b3 := below2 b2 hb3
      clear h2 b2 hb3
      cases hc : clashT fs p.data.toList
      · have HC := hid hc
        clear hc
        go_wp2_with fail
        refine (place_any A n c fs p _ h3.len hT.srt h3.rd h3.big).mono ?_
        rintro e w4 ⟨rfl, hb4⟩
        have h4 := h3.below hb4
        have b4 := below2 b3 hb4
        clear h3 b3 hb4
        have hn16 : n ≤ 16 := by have := hT.few; have := h4.len; omega
        have HZ := hid (@putE_zero fs p d)
        have HF := hid (@putE_full fs p d)
        by_cases h600 : (600 : Int) < d.size
        · have HE := hid (HF.out HR.out HP.out HC.out (.inl (by omega)))
          clear HF HZ
          go_wp2
          go_ret2
          exact out_err HE.out (putT_err HE.out (by decide)) b4
        · have h6b : decide ((600 : Int) < d.size) = false := by simp; omega
          cases ht : thereT fs p.data.toList
          · have HT := hid ht
            clear ht
            by_cases h16 : (n : Int) = 16
            · have HE := hid (HF.out HR.out HP.out HC.out (.inr ⟨HT.out, by rw [h4.len]; omega⟩))
              clear HF HZ
              go_wp2
              go_ret2
              exact out_err HE.out (putT_err HE.out (by decide)) b4
            · have HE := hid (HZ.out.2 ⟨hT, HP.out, HC.out, by omega, .inr (by rw [h4.len]; omega)⟩)
              have h16b : ((n : Int) == 16) = false := by simp; omega
              obtain ⟨hlo, hhi⟩ := low_split hT.srt HT.out
              have hkl : (lowT fs p.data.toList).length ≤ n := by rw [← h4.len]; exact low_len _
              have HPL := hid (show putL fs p d = lowT fs p.data.toList ++ (p, d) :: highT fs p.data.toList from rfl)
              have HPN := hid (put_len hT.srt p d)
              rw [HT.out, h4.len] at HPN
              clear HF HZ
              generalize hkk : (lowT fs p.data.toList).length = k at *
              have HKK := hid hkk
              have HLO := hid hlo
              have HHI := hid hhi
              clear hkk hlo hhi
              have hz0 : (0 : Int) ≤ k := by omega
              have hzn : (k : Int) < (n : Int) + 1 := by omega
              go_wp2_with fail
              refine (copied_any h4 (by omega)).mono ?_
              rintro e w5 ⟨rfl, hB5, hb5⟩
              have b5 := below2 b4 hb5
              go_wp2_with fail
              have hK5 := Blk.new w5 [zS, zS] 38
              have hB5' := hB5.below ((Below.refl _ _).alloc (Nat.le_refl _) (.cells #[zS, zS] 38))
              have b5' := b5.alloc b5.size (.cells #[zS, zS] 38)
              clear hB5 b5 hb5
              generalize w5.alloc (.cells #[zS, zS] 38) = w5a at *
              generalize w5.heap.size = g5 at *
              have HLN := hid h4.len
              clear h4 b4
              refine (insert_any hB5' hK5 HLN.out (by omega) hkl).mono ?_
              rintro e w6 ⟨G, c6, rest, rfl, hG, hc6, hcm, hB6, hb6⟩
              rw [HLO.out, HHI.out] at hB6
              have b6 := b5'.trans (hb6.mono b5'.size)
              have hGw : w.heap.size ≤ G := by have := b5'.size; omega
              clear hB5' hK5 b5' hb6 hG
              go_wp2_with fail
              refine (anew_any p d _ (by omega) (by omega)).mono ?_
              rintro e w7 ⟨rfl, hb7⟩
              have hB7 := hB6.below hb7
              have b7 := b6.trans (hb7.mono b6.size)
              obtain ⟨m0, m1⟩ := filV_mid (lowT fs p.data.toList) (highT fs p.data.toList) (⟨#[]⟩, ⟨#[]⟩) rest k HKK.out
              have c0 := (hB7.cell (k * 2)).trans m0
              have c1 := (hB7.cell (k * 2 + 1)).trans m1
              have f0 := hB7.frozen (k * 2)
              have f1 := hB7.frozen (k * 2 + 1)
              have hB8 := (hB7.set_ (k * 2) (.string p)).set_ (k * 2 + 1) (.string d)
              rw [filV_put _ _ _ _ _ _ _ HKK.out] at hB8
              have b8 := (b7.setCell (p := ⟨G, k * 2, none⟩) hGw (.string p)).setCell (p := ⟨G, k * 2 + 1, none⟩) hGw (.string d)
              have HB8 := hid hB8
              have HW8 := hid b8
              clear m0 m1 hB6 b6 hb7 hB7 b7 hB8 b8
              go_wp2
              go_ret2
              refine ⟨some ⟨G, 0, none⟩, n + 1, c6, by rw [HE.out]; rfl, ?_, HW8.out⟩
              rw [putT_ok HE.out]
              refine ⟨HPN.out, hc6, hcm, .inr ⟨G, rest, rfl, hGw, ?_⟩⟩
              rw [HPL.out]
              exact HB8.out
          · have HT := hid ht
            clear ht
            have HE := hid (HZ.out.2 ⟨hT, HP.out, HC.out, by omega, .inl HT.out⟩)
            have HPL := hid (show putL fs p d = lowT fs p.data.toList ++ (p, d) :: highT fs p.data.toList from rfl)
            have HPN := hid (put_len hT.srt p d)
            rw [HT.out, h4.len] at HPN
            obtain ⟨d0, hfs⟩ : ∃ d0, fs = lowT fs p.data.toList ++ (mkS p.data.toList, d0) :: highT fs p.data.toList := by
              rcases split_tree p.data.toList hT.srt with ⟨a, _⟩ | ⟨d0, _, b⟩
              · rw [HT.out] at a; cases a
              · exact ⟨d0, b⟩
            have hkl : (lowT fs p.data.toList).length < n := by
              have := congrArg List.length hfs
              rw [h4.len, List.length_append, List.length_cons] at this
              omega
            clear HF HZ
            have HFS := hid (congrArg filV hfs)
            clear hfs
            generalize hkk : (lowT fs p.data.toList).length = k at *
            have HKK := hid hkk
            clear hkk
            have hz0 : (0 : Int) ≤ k := by omega
            have hzn : (k : Int) < n := by omega
            go_wp2_with fail
            refine (copied_any h4 (by omega)).mono ?_
            rintro e w5 ⟨rfl, hB5, hb5⟩
            have b5 := below2 b4 hb5
            rw [HFS.out, ← List.append_nil (filV _)] at hB5
            go_wp2_with fail
            refine (anew_any p d _ (by omega) (by omega)).mono ?_
            rintro e w7 ⟨rfl, hb7⟩
            have hB7 := hB5.below hb7
            have b7 := b5.trans (hb7.mono b5.size)
            have hGw : w.heap.size ≤ w4.heap.size := b4.size
            obtain ⟨m0, m1⟩ := filV_mid (lowT fs p.data.toList) (highT fs p.data.toList) (mkS p.data.toList, d0) [] k HKK.out
            have c0 := (hB7.cell (k * 2)).trans m0
            have c1 := (hB7.cell (k * 2 + 1)).trans m1
            have f0 := hB7.frozen (k * 2)
            have f1 := hB7.frozen (k * 2 + 1)
            have hB8 := (hB7.set_ (k * 2) (.string p)).set_ (k * 2 + 1) (.string d)
            rw [filV_put _ _ _ _ _ _ _ HKK.out] at hB8
            have b8 := (b7.setCell (p := ⟨w4.heap.size, k * 2, none⟩) hGw (.string p)).setCell (p := ⟨w4.heap.size, k * 2 + 1, none⟩) hGw (.string d)
            have HB8 := hid hB8
            have HW8 := hid b8
            clear m0 m1 hB5 b5 hb5 hb7 hB7 b7 hB8 b8 h4 b4
            go_wp2
            go_ret2
            refine ⟨some ⟨w4.heap.size, 0, none⟩, n, n, by rw [HE.out]; rfl, ?_, HW8.out⟩
            rw [putT_ok HE.out]
            refine ⟨HPN.out, Nat.le_refl _, by omega, .inr ⟨w4.heap.size, [], rfl, hGw, ?_⟩⟩
            rw [HPL.out]
            exact HB8.out
      · have HE := hid (putE_name (p := p) (d := d) HR.out (.inr hc))
        clear hc
        go_wp2
        go_ret2
        exact out_err HE.out (putT_err HE.out (by decide)) b3

theorem dropE_arg {fs : List Fil} {p : List UInt8} (h : treeR fs = false) : dropE fs p = 1 := by simp [dropE, h]
theorem dropE_none {fs : List Fil} {p : List UInt8} (h : treeR fs = true) (h2 : thereT fs p = false) : dropE fs p = 3 := by simp [dropE, h, h2]
theorem dropE_ok {fs : List Fil} {p : List UInt8} (h : treeR fs = true) (h2 : thereT fs p = true) : dropE fs p = 0 := by simp [dropE, h, h2]
theorem dropT_err {fs : List Fil} {p : List UInt8} {e : Nat} (h : dropE fs p = e) (he : e ≠ 0) : dropT fs p = [] := by rw [dropT, if_neg (by rw [h]; exact he)]
theorem dropT_ok {fs : List Fil} {p : List UInt8} (h : dropE fs p = 0) : dropT fs p = dropL fs p := by rw [dropT, if_pos h]

set_option maxHeartbeats 1000000 in
theorem drop_any {w : World} {A : Option Addr} {n c : Nat} {fs : List Fil} (h : Ft w A n c fs) (p : ByteArray) :
    Calls Tryz.prog 64 #[.slice A n c, .string p] w (OutF w (dropT fs p.data.toList) (dropE fs p.data.toList)) := by
  go_enter Tryz.func64, Tryz.ntmps64
  go_wp2_with fail
  refine (tree_any h).mono ?_
  rintro e w1 ⟨rfl, hb1⟩
  cases hR : treeR fs
  · have HE := hid (dropE_arg (p := p.data.toList) hR)
    clear hR
    go_wp2
    go_ret2
    exact out_err HE.out (dropT_err HE.out (by decide)) hb1
  · have HR := hid hR
    have hT := (treeR_iff fs).1 hR
    have h1 := h.below hb1
    clear hR h
    go_wp2_with fail
    refine (place_any A n c fs p _ h1.len hT.srt h1.rd h1.big).mono ?_
    rintro e w4 ⟨rfl, hb4⟩
    have h4 := h1.below hb4
    have b4 := below2 hb1 hb4
    clear h1 hb1 hb4
    have hn16 : n ≤ 16 := by have := hT.few; have := h4.len; omega
    cases ht : thereT fs p.data.toList
    · have HE := hid (dropE_none HR.out ht)
      clear ht
      go_wp2
      go_ret2
      exact out_err HE.out (dropT_err HE.out (by decide)) b4
    · have HE := hid (dropE_ok HR.out ht)
      have HPN := hid (drop_len hT.srt p.data.toList)
      rw [ht, h4.len] at HPN
      obtain ⟨d0, hfs⟩ : ∃ d0, fs = lowT fs p.data.toList ++ (mkS p.data.toList, d0) :: highT fs p.data.toList := by
        rcases split_tree p.data.toList hT.srt with ⟨a, _⟩ | ⟨d0, _, b⟩
        · rw [ht] at a; cases a
        · exact ⟨d0, b⟩
      have HDL := hid (show fs.take (lowT fs p.data.toList).length ++ fs.drop ((lowT fs p.data.toList).length + 1) = dropL fs p.data.toList by
        rw [dropL]
        generalize lowT fs p.data.toList = l at *
        generalize highT fs p.data.toList = r at *
        subst hfs
        rw [List.take_left, List.drop_append, List.drop_of_length_le (by omega), show l.length + 1 - l.length = 1 by omega]
        rfl)
      have hkl : (lowT fs p.data.toList).length < n := by
        have := congrArg List.length hfs
        rw [h4.len, List.length_append, List.length_cons] at this
        omega
      clear hfs ht
      generalize (lowT fs p.data.toList).length = k at *
      obtain ⟨m, rfl⟩ : ∃ m, n = m + 1 := ⟨n - 1, by omega⟩
      go_wp2_with fail
      refine (copied_any h4 (by omega)).mono ?_
      rintro e w5 ⟨rfl, hB5, hb5⟩
      have b5 := below2 b4 hb5
      have hGw : w.heap.size ≤ w4.heap.size := b4.size
      have HLN := hid h4.len
      clear h4 hb5 b4
      go_wp2_with fail
      refine (delete_any hB5 HLN.out (by omega) (by omega)).mono ?_
      rintro e w6 ⟨rfl, ⟨rest, hB6⟩, hb6⟩
      have b6 := hb6 _ _ hGw b5
      rw [HDL.out] at hB6
      clear hB5 b5 hb6
      go_wp2
      go_ret2
      refine ⟨some ⟨w4.heap.size, 0, none⟩, m, m + 1, by rw [HE.out]; rfl, ?_, b6⟩
      rw [dropT_ok HE.out]
      exact ⟨HPN.out, by omega, by omega, .inr ⟨w4.heap.size, rest, rfl, hGw, hB6⟩⟩
end Go.Proofs.YtaidggjnpnfdhaaGreatDoor
namespace Go.Proofs.YtaidggjnpnfdhaaGreatDoor
open Go.RowKit

theorem put_small {w : World} {A : Option Addr} {n c : Nat} {fs : List Fil} (h : Ft w A n c fs) (p d : ByteArray) (out : List Fil) (er m : Nat) (hp : p.size < 4294967281) (hd : d.size ≤ 140737488355328)
    (h1 : putT fs p d = out) (h2 : putE fs p d = er) (h3 : out.length = m) (h4 : fewB out = true) :
    Calls Tryz.prog 63 #[.slice A n c, .string p, .string d] w fun e w' => ∃ A' c', e = .returned (.tuple #[.slice A' m c', .int .i64 (er : Nat)]) ∧ Ft w' A' m c' out ∧ Below w.heap.size w w' := by
  refine (put_any h p d hp hd).mono ?_
  rintro e w' ⟨A', n', c', rfl, ho, hb⟩
  rw [h1] at ho
  rw [h2]
  obtain ⟨k1, k2⟩ := few_sz h4
  have hn : n' = m := by rw [← ho.1]; exact h3
  subst hn
  exact ⟨A', c', rfl, ho.ft (by omega) (fun f hm => by have := k2 f hm; omega), hb⟩
theorem drop_small {w : World} {A : Option Addr} {n c : Nat} {fs : List Fil} (h : Ft w A n c fs) (p : ByteArray) (out : List Fil) (er m : Nat)
    (h1 : dropT fs p.data.toList = out) (h2 : dropE fs p.data.toList = er) (h3 : out.length = m) (h4 : fewB out = true) :
    Calls Tryz.prog 64 #[.slice A n c, .string p] w fun e w' => ∃ A' c', e = .returned (.tuple #[.slice A' m c', .int .i64 (er : Nat)]) ∧ Ft w' A' m c' out ∧ Below w.heap.size w w' := by
  refine (drop_any h p).mono ?_
  rintro e w' ⟨A', n', c', rfl, ho, hb⟩
  rw [h1] at ho
  rw [h2]
  obtain ⟨k1, k2⟩ := few_sz h4
  have hn : n' = m := by rw [← ho.1]; exact h3
  subst hn
  exact ⟨A', c', rfl, ho.ft (by omega) (fun f hm => by have := k2 f hm; omega), hb⟩

end Go.Proofs.YtaidggjnpnfdhaaGreatDoor
namespace Go.Proofs.YtaidggjnpnfdhaaGreatDoor
open Go.RowKit

section
variable {fs : List Fil} {p d : ByteArray}
theorem put_tree (h : putE fs p d = 0) : treeR (putL fs p d) = true := (treeR_iff _).2 (right_putT h)
theorem put_got (h : putE fs p d = 0) : getT (putL fs p d) p.data.toList = some d := by
  rw [getT, if_pos (put_tree h), data_iff (right_putT h).srt]
  exact mem_put.2 (.inl rfl)
theorem put_other (h : putE fs p d = 0) {o : ByteArray} (ho : o ≠ p) : getT (putL fs p d) o.data.toList = getT fs o.data.toList := by
  have hR := (putE_zero.1 h).1
  rw [getT, if_pos (put_tree h), getT, if_pos ((treeR_iff _).2 hR)]
  refine Option.ext fun x => ?_
  rw [data_iff (right_putT h).srt, data_iff hR.srt, mem_put]
  constructor
  · rintro (e | e)
    · exact absurd (Prod.mk.inj e).1 ho
    · exact e.1
  · intro e
    exact .inr ⟨e, fun e2 => ho (data_inj e2)⟩
theorem put_there : thereT (putL fs p d) p.data.toList = true := there_iff.2 ⟨(p, d), mem_put.2 (.inl rfl), rfl⟩
theorem put_drop (h : putE fs p d = 0) : dropE (putL fs p d) p.data.toList = 0 := dropE_zero.2 ⟨right_putT h, put_there⟩
theorem drop_tree {q : List UInt8} (h : RightT fs) : treeR (dropL fs q) = true := (treeR_iff _).2 (right_drop h q)
theorem drop_gone (q : List UInt8) : thereT (dropL fs q) q = false := there_no.2 fun _ hf => (mem_drop.1 hf).2
theorem drop_find (q : List UInt8) : findT (dropL fs q) q = -1 := by rw [findT, drop_gone, Bool.and_false]; rfl
theorem drop_put (h : putE fs p d = 0) (hn : thereT fs p.data.toList = false) : dropL (putL fs p d) p.data.toList = fs := by
  refine Srt.unique (srt_drop (right_putT h).srt _) (putE_zero.1 h).1.srt fun f => ?_
  rw [mem_drop, mem_put]
  have hn' := there_no.1 hn
  constructor
  · rintro ⟨e | e, e2⟩
    · subst e; exact absurd rfl e2
    · exact e.1
  · intro e
    exact ⟨.inr ⟨e, hn' f e⟩, hn' f e⟩
theorem get_isSome (hR : treeR fs = true) : (getT fs p.data.toList).isSome = thereT fs p.data.toList := by rw [getT, if_pos hR, data_some]
end
theorem put_szs {fs : List Fil} {p d : ByteArray} (hf : ∀ f ∈ fs, f.1.size < 4294967281 ∧ f.2.size ≤ 140737488355328) (hp : p.size < 4294967281) (hd : d.size ≤ 140737488355328) : ∀ f ∈ putL fs p d, f.1.size < 4294967281 ∧ f.2.size ≤ 140737488355328 := by
  intro f hm
  rcases mem_put.1 hm with rfl | hm
  · exact ⟨hp, hd⟩
  · exact hf f hm.1
theorem drop_szs {fs : List Fil} {q : List UInt8} (hf : ∀ f ∈ fs, f.1.size < 4294967281 ∧ f.2.size ≤ 140737488355328) : ∀ f ∈ dropL fs q, f.1.size < 4294967281 ∧ f.2.size ≤ 140737488355328 := fun f hm => hf f (mem_drop.1 hm).1

/-- Put without an error. -/
theorem put_yes {w : World} {A : Option Addr} {n c : Nat} {fs : List Fil} (h : Ft w A n c fs) (p d : ByteArray) (hp : p.size < 4294967281) (hd : d.size ≤ 140737488355328) (hE : putE fs p d = 0) :
    Calls Tryz.prog 63 #[.slice A n c, .string p, .string d] w fun e w' => ∃ A' n' c', e = .returned (.tuple #[.slice A' n' c', .int .i64 0]) ∧ Ft w' A' n' c' (putL fs p d) ∧ OwnF w.heap.size w' A' n' c' (putL fs p d) ∧ Below w.heap.size w w' := by
  refine (put_any h p d hp hd).mono ?_
  rintro e w' ⟨A', n', c', rfl, ho, hb⟩
  rw [putT_ok hE] at ho
  rw [hE]
  have hn : n' ≤ 16 := by have := (right_putT hE).few; have := ho.1; omega
  exact ⟨A', n', c', rfl, ho.ft (by omega) (put_szs h.sz hp hd), ho, hb⟩
/-- Put with an error. -/
theorem put_not {w : World} {A : Option Addr} {n c : Nat} {fs : List Fil} (h : Ft w A n c fs) (p d : ByteArray) (hp : p.size < 4294967281) (hd : d.size ≤ 140737488355328) (hE : putE fs p d ≠ 0) :
    Calls Tryz.prog 63 #[.slice A n c, .string p, .string d] w fun e w' => ∃ A' c', e = .returned (.tuple #[.slice A' 0 c', .int .i64 (putE fs p d : Nat)]) ∧ Ft w' A' 0 c' [] ∧ Below w.heap.size w w' := by
  refine (put_any h p d hp hd).mono ?_
  rintro e w' ⟨A', n', c', rfl, ho, hb⟩
  rw [putT_err rfl hE] at ho
  have hn : n' = 0 := ho.1.symm
  subst hn
  exact ⟨A', c', rfl, ho.ft (by omega) (by simp), hb⟩
/-- Drop without an error. -/
theorem drop_yes {w : World} {A : Option Addr} {n c : Nat} {fs : List Fil} (h : Ft w A n c fs) (p : ByteArray) (hE : dropE fs p.data.toList = 0) :
    Calls Tryz.prog 64 #[.slice A n c, .string p] w fun e w' => ∃ A' n' c', e = .returned (.tuple #[.slice A' n' c', .int .i64 0]) ∧ Ft w' A' n' c' (dropL fs p.data.toList) ∧ OwnF w.heap.size w' A' n' c' (dropL fs p.data.toList) ∧ Below w.heap.size w w' := by
  refine (drop_any h p).mono ?_
  rintro e w' ⟨A', n', c', rfl, ho, hb⟩
  rw [dropT_ok hE] at ho
  rw [hE]
  have hn : n' ≤ 16 := by have := (right_drop (dropE_zero.1 hE).1 p.data.toList).few; have := ho.1; omega
  exact ⟨A', n', c', rfl, ho.ft (by omega) (drop_szs h.sz), ho, hb⟩

theorem getV_eq (x : Option ByteArray) : getV x = .tuple #[.string (x.getD ⟨#[]⟩), .bool x.isSome] := by cases x <;> rfl

end Go.Proofs.YtaidggjnpnfdhaaGreatDoor
namespace Go.Proofs.YtaidggjnpnfdhaaGreatDoor
open Go.RowKit

set_option maxHeartbeats 400000 in
theorem refFind {w : World} {A : Option Addr} {n c : Nat} {fs : List Fil} (h : Ft w A n c fs) (p : ByteArray) :
    Calls Tryz.prog 51 #[.slice A n c, .string p] w fun e w' => e = .returned (.int .i64 (findT fs p.data.toList)) ∧ Below w.heap.size w w' := by
  go_enter Tryz.func51, Tryz.ntmps51
  go_wp2_with fail
  refine (refTree h).mono ?_
  rintro e w1 ⟨rfl, hb1⟩
  cases hR : treeR fs
  · go_wp2
    go_ret
    exact ⟨ret_int (by rw [findT, hR]; rfl), hb1⟩
  · have HR := hid hR
    have hT := (treeR_iff fs).1 hR
    have h1 := h.below hb1
    clear hR h
    go_wp2_with fail
    refine (refPos h1 hT.srt p).mono ?_
    rintro e w2 ⟨rfl, rfl⟩
    go_wp2
    go_ret
    exact ⟨ret_int (by rw [findT, HR.out, posT, Bool.true_and]), hb1⟩

set_option maxHeartbeats 400000 in
theorem refGet {w : World} {A : Option Addr} {n c : Nat} {fs : List Fil} (h : Ft w A n c fs) (p : ByteArray) :
    Calls Tryz.prog 33 #[.slice A n c, .string p] w fun e w' => e = .returned (getV (getT fs p.data.toList)) ∧ Below w.heap.size w w' := by
  have c0 := refFind h p
  have HG := hid (@get_of fs p)
  have HN := hid (@get_none fs p)
  unfold findT at c0
  go_enter Tryz.func33, Tryz.ntmps33
  go_wp2_with fail
  refine c0.mono ?_
  clear c0
  rintro e w1 ⟨rfl, hb1⟩
  have h1 := h.below hb1
  clear h
  cases hc : (treeR fs && thereT fs p.data.toList)
  · rw [if_neg (by simp)]
    have HC := hid hc
    clear hc
    go_wp2
    go_ret2
    rw [HN.out HC.out]
    exact ⟨rfl, hb1⟩
  · rw [if_pos rfl]
    rw [Bool.and_eq_true] at hc
    obtain ⟨hl, he⟩ := HG.out hc.1 hc.2
    obtain ⟨b, off, rfl, -, k2, -⟩ := h1.rd.fil hl
    have HE := hid he
    have hln := h1.len
    clear hc he h1 HN HG
    generalize fs[(lowT fs p.data.toList).length].2 = x at *
    generalize (lowT fs p.data.toList).length = k at *
    have hz : ¬ (k : Int) < 0 := by omega
    have hz0 : (0 : Int) ≤ k := by omega
    have hlt : (k : Int) < n := by omega
    go_wp2
    go_ret2
    rw [HE.out]
    exact ⟨rfl, hb1⟩

/-! ### append onto files of the call's own -/
/-- Files in memory of the call's own, as an append leaves them. -/
def OwnR (base : Nat) (w : World) (A : Option Addr) (n c : Nat) (fs : List Fil) : Prop := fs.length = n ∧ w.ownsRow base 38 2 (.slice A n c) n (filV fs)
theorem OwnR.form {base : Nat} {w : World} {A : Option Addr} {n c : Nat} {fs : List Fil} (h : OwnR base w A n c fs) : n ≤ c ∧ c ≤ 9223372036854775807 ∧ Rd w A (filV fs) := by
  obtain ⟨hl, h⟩ := h
  rcases h.2 with ⟨hv, hn⟩ | ⟨g, cap, cur, hv, _, _, h1, h2, _⟩
  · injection hv with a1 a2 a3
    subst a1 a2 a3
    exact ⟨Nat.le_refl _, by omega, .inl (List.eq_nil_of_length_eq_zero (by rw [filV_length, hl]))⟩
  · injection hv with a1 a2 a3
    subst a1 a3
    exact ⟨h1, h2, .inr ⟨_, rfl, h.cells (g := g) rfl⟩⟩
theorem OwnR.ft {base : Nat} {w : World} {A : Option Addr} {n c : Nat} {fs : List Fil} (h : OwnR base w A n c fs) (hn : n ≤ 140737488355328) (hs : ∀ f ∈ fs, f.1.size < 4294967281 ∧ f.2.size ≤ 140737488355328) : Ft w A n c fs := ⟨h.1, h.form.2.2, h.form.1, hn, h.form.2.1, hs⟩
theorem OwnR.empty (w : World) : OwnR w.heap.size (w.alloc (.cells #[] 38)) (some ⟨w.heap.size, 0, none⟩) 0 0 [] :=
  ⟨rfl, World.ownsRow_made w #[] 0 (Nat.le_refl _) (by unfold maxLen; omega) (by simp)⟩
theorem app_nilF {w : World} (base : Nat) (ty : TypeId) (v : Value) (n : Nat) (xs : List Value) (hown : w.ownsRow base 38 2 v n xs) (c : Nat) : (Builtin.append_ #[22, 22] ty #[v, .slice none 0 c]).run Tryz.prog w = .ok v w := by
  obtain ⟨i, hi, hz0, hz1, hz2⟩ := info_parts Tryz.infoF
  rcases hown.2 with ⟨rfl, rfl⟩ | ⟨g, cap, cur, rfl, _, _, hnc, _⟩
  · simp [Builtin.append_, run_underlying Tryz.underlying22, sizeOf, typeInfo, hi, Builtin.lenOf, Builtin.firstCells]
  · simp [Builtin.append_, run_underlying Tryz.underlying22, sizeOf, typeInfo, hi, Builtin.lenOf, Builtin.firstCells, hnc, storeCells]
/-- append(v, x...), v files of the call's own: its run. -/
theorem run_appF {w : World} {base : Nat} {A : Option Addr} {n c : Nat} {fs : List Fil} (hown : OwnR base w A n c fs) (B : Option Addr) (m d : Nat) (gs : List Fil) (hl : gs.length = m) (hr : Rd w B (filV gs)) (hnm : n + m ≤ 1000000) (hbase : base ≤ w.heap.size) :
    ∃ A' c' w', Hid (∀ ty, (Builtin.append_ #[22, 22] ty #[.slice A n c, .slice B m d]).run Tryz.prog w = .ok (.slice A' (n + m) c') w') ∧ OwnR base w' A' (n + m) c' (fs ++ gs) ∧ w.grownBy w' (Value.slice A n c).ownBlock := by
  obtain ⟨i, hi, hz0, hz1, hz2⟩ := info_parts Tryz.infoF
  have hll : (fs ++ gs).length = n + m := by rw [List.length_append, hown.1, hl]
  have own : ∀ ad, (∀ j u, (filV gs)[j]? = some u → w.cell? (ad.add j) = some u) → ∃ A' c' w', Hid (∀ ty, (Builtin.append_ #[22, 22] ty #[.slice A n c, .slice (some ad) m d]).run Tryz.prog w = .ok (.slice A' (n + m) c') w') ∧ OwnR base w' A' (n + m) c' (fs ++ gs) ∧ w.grownBy w' (Value.slice A n c).ownBlock := by
    intro ad hc
    have key := fun ty => run_append_own (P := Tryz.prog) w base 22 ty 38 i _ 2 32 Tryz.underlying22 hi hz0 hz1 hz2 rfl (by decide) _ n (filV fs) hown.2 ad m d (filV gs) (by rw [filV_length, hl]) hc (filV_one _) (by unfold maxLen; omega) (by omega) hbase
    obtain ⟨v', w', h2, h3, h4, _⟩ := key 0
    have hv : ∃ A' c', v' = .slice A' (n + m) c' := by
      rcases h3.2 with ⟨rfl, e⟩ | ⟨g, cap, cur, rfl, _⟩
      · exact ⟨none, 0, by rw [e]⟩
      · exact ⟨_, cap, rfl⟩
    obtain ⟨A', c', rfl⟩ := hv
    exact ⟨A', c', w', fun ty => h2, ⟨hll, by rw [filV_append]; exact h3⟩, h4⟩
  rcases hr with h0 | ⟨ad, rfl, hc⟩
  · have hg : gs = [] := List.eq_nil_of_length_eq_zero (by have h5 := congrArg List.length h0; rw [filV_length, List.length_nil] at h5; omega)
    subst hg
    obtain rfl : m = 0 := hl.symm
    cases B with
    | none => exact ⟨A, c, w, fun ty => app_nilF base ty _ n _ hown.2 d, by rw [List.append_nil]; exact hown, World.grownBy.refl _ _⟩
    | some ad => exact own ad (by simp [filV])
  · exact own ad hc
theorem OwnR.block {base : Nat} {w : World} {A : Option Addr} {n c : Nat} {fs : List Fil} (h : OwnR base w A n c fs) : ∀ k, (Value.slice A n c).ownBlock = some k → base ≤ k := fun k hk => (h.2.lt k hk).1

/-- Files, and an error's number, were answered: what is read of them. -/
def OutR (w : World) (out : List Fil) (er : Nat) (e : Ending) (w' : World) : Prop :=
  ∃ A n c, e = .returned (.tuple #[.slice A n c, .int .i64 er]) ∧ Ft w' A n c out ∧ Below w.heap.size w w'
theorem outR_err {w w' : World} {out : List Fil} {er e : Nat} (h : er = e) (ho : out = []) (hb : Below w.heap.size w w') : OutR w out er (.returned (.tuple #[.slice none 0 0, .int .i64 (e : Int)])) w' := by
  subst h ho
  exact ⟨none, 0, 0, rfl, ⟨rfl, .inl rfl, Nat.le_refl _, by omega, by omega, by simp⟩, hb⟩

theorem Rd.pre {w : World} {A : Option Addr} {xs : List Value} (h : Rd w A xs) (q : Nat) : Rd w A (xs.take q) := by
  rcases h with rfl | ⟨ad, rfl, hc⟩
  · exact .inl (by simp)
  · refine .inr ⟨ad, rfl, fun j u hu => hc j u ?_⟩
    rw [List.getElem?_take] at hu
    split at hu
    · exact hu
    · cases hu
theorem Rd.post {w : World} {b off : Nat} {xs : List Value} (h : Rd w (some ⟨b, off, none⟩) xs) (q : Nat) : Rd w (some ⟨b, off + q, none⟩) (xs.drop q) := by
  refine .inr ⟨_, rfl, fun j u hu => ?_⟩
  rw [List.getElem?_drop] at hu
  rw [Addr.add_lit, Nat.add_assoc]
  exact h.cells _ _ hu
theorem take_szs {fs : List Fil} {P : Fil → Prop} (h : ∀ f ∈ fs, P f) {gs : List Fil} (hg : ∀ f ∈ gs, f ∈ fs) : ∀ f ∈ gs, P f := fun f hf => h f (hg f hf)

set_option maxHeartbeats 1000000 in
set_option maxRecDepth 10000 in
theorem refDrop {w : World} {A : Option Addr} {n c : Nat} {fs : List Fil} (h : Ft w A n c fs) (p : ByteArray) :
    Calls Tryz.prog 28 #[.slice A n c, .string p] w (OutR w (dropT fs p.data.toList) (dropE fs p.data.toList)) := by
  go_enter Tryz.func28, Tryz.ntmps28
  go_wp2_with fail
  refine (refTree h).mono ?_
  rintro e w1 ⟨rfl, b1⟩
  cases hR : treeR fs
  · have HE := hid (dropE_arg (p := p.data.toList) hR)
    clear hR
    go_wp2
    go_ret2
    exact outR_err HE.out (dropT_err HE.out (by decide)) b1
  · have HR := hid hR
    have hT := (treeR_iff fs).1 hR
    have h4 := h.below b1
    clear hR h
    have c0 := refPos h4 hT.srt p
    unfold posT at c0
    have hn16 : n ≤ 16 := by have := hT.few; have := h4.len; omega
    cases ht : thereT fs p.data.toList
    · rw [ht, if_neg (by simp)] at c0
      have HE := hid (dropE_none HR.out ht)
      clear ht
      go_wp2_with fail
      refine c0.mono ?_
      rintro e w2 ⟨rfl, rfl⟩
      clear c0
      go_wp2
      go_ret2
      exact outR_err HE.out (dropT_err HE.out (by decide)) b1
    · rw [ht, if_pos rfl] at c0
      have HE := hid (dropE_ok HR.out ht)
      have HPN := hid (drop_len hT.srt p.data.toList)
      rw [ht, h4.len] at HPN
      obtain ⟨d0, hfs⟩ : ∃ d0, fs = lowT fs p.data.toList ++ (mkS p.data.toList, d0) :: highT fs p.data.toList := by
        rcases split_tree p.data.toList hT.srt with ⟨a, _⟩ | ⟨d0, _, b⟩
        · rw [ht] at a; cases a
        · exact ⟨d0, b⟩
      have HDL := hid (show fs.take (lowT fs p.data.toList).length ++ fs.drop ((lowT fs p.data.toList).length + 1) = dropL fs p.data.toList by
        rw [dropL]
        generalize lowT fs p.data.toList = l at *
        generalize highT fs p.data.toList = r at *
        subst hfs
        rw [List.take_left, List.drop_append, List.drop_of_length_le (by omega), show l.length + 1 - l.length = 1 by omega]
        rfl)
      have hkl : (lowT fs p.data.toList).length < n := by
        have := congrArg List.length hfs
        rw [h4.len, List.length_append, List.length_cons] at this
        omega
      clear hfs ht
      generalize (lowT fs p.data.toList).length = k at *
      obtain ⟨m, rfl⟩ : ∃ m, n = m + 1 := ⟨n - 1, by omega⟩
      have hkl2 : k < fs.length := by have := h4.len; omega
      obtain ⟨b, off, rfl, -, -, -⟩ := h4.rd.fil hkl2
      have hrd := h4.rd
      have hcap := h4.cap
      have HSZ := hid h4.sz
      have HLN := hid h4.len
      clear h4 hkl2
      have hz0 : (0 : Int) ≤ k := by omega
      have hzm : (k : Int) ≤ (m : Int) + 1 := by omega
      have hz1 : (0 : Int) ≤ (k : Int) + 1 := by omega
      have hzm1 : (k : Int) + 1 ≤ (m : Int) + 1 := by omega
      have hwr : IntKind.i64.wrap ((k : Int) + 1) = (k : Int) + 1 := by rw [IntKind.wrap_i64]; omega
      have hkn : ¬ (k : Int) < 0 := by omega
      go_wp2_with fail
      refine c0.mono ?_
      rintro e w2 ⟨rfl, rfl⟩
      clear c0
      have o0 : OwnR w1.heap.size (w1.drew.alloc (.cells #[] 38)) (some ⟨w1.heap.size, 0, none⟩) 0 0 [] := OwnR.empty w1.drew
      have r0 : Rd (w1.drew.alloc (.cells #[] 38)) (some ⟨b, off, none⟩) (filV fs) := Rd.alloc (w := w1.drew) hrd _
      have q0 : Below w1.heap.size w1 (w1.drew.alloc (.cells #[] 38)) := (Below.refl _ _).drew.alloc (Nat.le_refl _) _
      have h0z : w1.heap.size ≤ (w1.drew.alloc (.cells #[] 38)).heap.size := by simp
      obtain ⟨wE, hwE⟩ : ∃ wE, w1.drew.alloc (.cells #[] 38) = wE := ⟨_, rfl⟩
      rw [hwE] at o0 r0 q0 h0z
      have HWE := hid hwE
      clear hwE
      have rp := r0.pre (k * 2)
      rw [← filV_take] at rp
      obtain ⟨A1, c1, w3, HR1, o1, g1⟩ := run_appF o0 (some ⟨b, off, none⟩) k c (fs.take k) (by rw [List.length_take, HLN.out]; omega) rp (by omega) h0z
      by_cases hck : c = k + 1
      · subst hck
        have hzc : (k : Int) ≤ (k : Int) + 1 := by omega
        have hdl : fs.drop (k + 1) = [] := List.drop_of_length_le (by rw [HLN.out]; omega)
        rw [Nat.zero_add] at HR1 o1
        have q1 := q0.grown g1 h0z o0.block
        have r1 := hrd.below q1
        have h1z : w1.heap.size ≤ w3.heap.size := q1.size
        have rq : Rd w3 (some ⟨b, off, none⟩) (filV (fs.drop (k + 1))) := by rw [hdl]; exact .inl rfl
        obtain ⟨A2, c2, w4, HR2, o2, g2⟩ := run_appF o1 (some ⟨b, off, none⟩) 0 0 (fs.drop (k + 1)) (by rw [hdl]; rfl) rq (by omega) h1z
        clear hdl
        have q2 := q1.grown g2 h1z o1.block
        have HW2 := hid (below2 b1 q2)
        have HO2 := hid o2
        have hrunE := HWE.out
        clear o0 o1 o2 g1 g2 q0 q1 q2 r0 rp r1 rq hrd
        go_upto_region 6 with (fail)
        refine wp_region_held_drew (S := fun _ => True) (by kernel_rfl) trivial (fun hHeld => ?_)
        refine wpAnyH_take (i := 1) (oi := ⟨_, _, _, _, _, _⟩) (v := ?_) rfl (by kernel_rfl) (by kernel_rfl) (by kernel_rfl) (fun _ _ _ h => h) (Or.inl ⟨by rfl, ?_⟩) (by assumption) ?_
        rotate_left
        · intro w hSw; (try dsimp only at hSw); go_simp; (try (with_reducible rfl))
        try simp only [Act.put, List.setIfInBounds_toArray, List.set_cons_zero, List.set_cons_succ]
        refine wpAnyH_take (i := 2) (oi := ⟨_, _, _, _, _, _⟩) (v := ?_) rfl (by kernel_rfl) (by kernel_rfl) (by kernel_rfl) (fun _ _ _ h => h) (Or.inl ⟨by rfl, ?_⟩) (by assumption) ?_
        rotate_left
        · intro w hSw; (try dsimp only at hSw); go_simp; (try (with_reducible rfl))
        try simp only [Act.put, List.setIfInBounds_toArray, List.set_cons_zero, List.set_cons_succ]
        refine wpAnyH_take (i := 3) (oi := ⟨_, _, _, _, _, _⟩) (v := ?_) rfl (by kernel_rfl) (by kernel_rfl) (by kernel_rfl) (fun _ _ _ h => h) (Or.inl ⟨by rfl, ?_⟩) (by assumption) ?_
        rotate_left
        · intro w hSw; (try dsimp only at hSw); go_simp; (try (with_reducible rfl))
        try simp only [Act.put, List.setIfInBounds_toArray, List.set_cons_zero, List.set_cons_succ]
        refine wpAnyH_take (i := 5) (oi := ⟨_, _, _, _, _, _⟩) (v := ?_) rfl (by kernel_rfl) (by kernel_rfl) (by kernel_rfl) (fun _ _ _ h => h) (Or.inl ⟨by rfl, ?_⟩) (by assumption) ?_
        rotate_left
        · intro w hSw; (try dsimp only at hSw); go_simp; (try (with_reducible rfl))
        try simp only [Act.put, List.setIfInBounds_toArray, List.set_cons_zero, List.set_cons_succ]
        refine wpAnyH_take (i := 6) (oi := ⟨_, _, _, _, _, _⟩) (v := ?_) rfl (by kernel_rfl) (by kernel_rfl) (by kernel_rfl) (fun _ _ _ h => h) (Or.inl ⟨by rfl, ?_⟩) (by assumption) ?_
        rotate_left
        · intro w hSw; (try dsimp only at hSw); go_simp; (try (with_reducible rfl))
        try simp only [Act.put, List.setIfInBounds_toArray, List.set_cons_zero, List.set_cons_succ]
        refine wpAnyH_take (i := 7) (oi := ⟨_, _, _, _, _, _⟩) (v := ?_) rfl (by kernel_rfl) (by kernel_rfl) (by kernel_rfl) (fun _ _ _ h => h) (Or.inl ⟨by rfl, ?_⟩) (by assumption) ?_
        rotate_left
        · intro w hSw; (try dsimp only at hSw); go_simp; (try (with_reducible rfl))
        try simp only [Act.put, List.setIfInBounds_toArray, List.set_cons_zero, List.set_cons_succ]
        refine wpAnyH_take (i := 8) (oi := ⟨_, _, _, _, _, _⟩) (v := ?_) rfl (by kernel_rfl) (by kernel_rfl) (by kernel_rfl) (fun _ _ _ h => h) (Or.inl ⟨by rfl, ?_⟩) (by assumption) ?_
        rotate_left
        · intro w hSw; (try dsimp only at hSw); go_simp; (try (with_reducible rfl))
        try simp only [Act.put, List.setIfInBounds_toArray, List.set_cons_zero, List.set_cons_succ]
        refine wpAnyH_ready (rs := [0]) (by kernel_rfl) (by simp) ?_
        refine AllReadyH.cons (o := ⟨_, _, _, _, _, _⟩) rfl (fun K hK => ?_) AllReadyH.nil
        go_simp
        refine hK.out _ _ trivial (fun hHeld => ?_)
        clear hK K
        try simp only [Act.put, List.setIfInBounds_toArray, List.set_cons_zero, List.set_cons_succ]
        refine wpAnyH_ready (rs := [4]) (by kernel_rfl) (by simp) ?_
        refine AllReadyH.cons (o := ⟨_, _, _, _, _, _⟩) rfl (fun K hK => ?_) (AllReadyH.nil)
        refine stepApp2 (by rfl) (.tmp 15) (.tmp 18) 22 rfl _ _ _ rfl rfl (HR1.out _) ?_
        try simp only [Act.put, List.setIfInBounds_toArray, List.set_cons_zero, List.set_cons_succ]
        refine hK.out _ _ trivial (fun hHeld => ?_)
        clear hK K
        try simp only [Act.put, List.setIfInBounds_toArray, List.set_cons_zero, List.set_cons_succ]
        refine wpAnyH_ready (rs := [9]) (by kernel_rfl) (by simp) ?_
        refine AllReadyH.cons (o := ⟨_, _, _, _, _, _⟩) rfl (fun K hK => ?_) (AllReadyH.nil)
        refine stepApp2 (by rfl) (.tmp 19) (.tmp 23) 22 rfl _ _ _ rfl rfl (HR2.out _) ?_
        try simp only [Act.put, List.setIfInBounds_toArray, List.set_cons_zero, List.set_cons_succ]
        refine hK.out _ _ trivial (fun hHeld => ?_)
        clear hK K
        try simp only [Act.put, List.setIfInBounds_toArray, List.set_cons_zero, List.set_cons_succ]
        refine wpAnyH_take (i := 10) (oi := ⟨_, _, _, _, _, _⟩) (v := ?_) rfl (by kernel_rfl) (by kernel_rfl) (by kernel_rfl) (fun _ _ _ h => h) (Or.inl ⟨by rfl, ?_⟩) (by assumption) ?_
        rotate_left
        · intro w hSw; (try dsimp only at hSw); go_simp; (try (with_reducible rfl))
        try simp only [Act.put, List.setIfInBounds_toArray, List.set_cons_zero, List.set_cons_succ]
        refine wpAnyH_take (i := 11) (oi := ⟨_, _, _, _, _, _⟩) (v := ?_) rfl (by kernel_rfl) (by kernel_rfl) (by kernel_rfl) (fun _ _ _ h => h) (Or.inl ⟨by rfl, ?_⟩) (by assumption) ?_
        rotate_left
        · intro w hSw; (try dsimp only at hSw); go_simp; (try (with_reducible rfl))
        try simp only [Act.put, List.setIfInBounds_toArray, List.set_cons_zero, List.set_cons_succ]
        refine wpAnyH_done (by kernel_rfl) ?_ _
        go_wp2
        go_ret2
        refine ⟨A2, k + 0, c2, by rw [HE.out]; rfl, ?_, HW2.out⟩
        rw [dropT_ok HE.out]
        have h9 := HO2.out
        rw [List.nil_append, HDL.out] at h9
        exact h9.ft (by omega) (drop_szs HSZ.out)
      · have hck2 : ¬ c = k + 1 := hck
        have hzc : (k : Int) ≤ (c : Int) := by omega
        rw [Nat.zero_add] at HR1 o1
        have q1 := q0.grown g1 h0z o0.block
        have r1 := hrd.below q1
        have h1z : w1.heap.size ≤ w3.heap.size := q1.size
        have rq := r1.post ((k + 1) * 2)
        rw [← filV_drop] at rq
        obtain ⟨A2, c2, w4, HR2, o2, g2⟩ := run_appF o1 (some ⟨b, off + (k + 1) * 2, none⟩) (m - k) (c - (k + 1)) (fs.drop (k + 1)) (by rw [List.length_drop, HLN.out]; omega) rq (by omega) h1z
        have q2 := q1.grown g2 h1z o1.block
        have HW2 := hid (below2 b1 q2)
        have HO2 := hid o2
        have hrunE := HWE.out
        clear o0 o1 o2 g1 g2 q0 q1 q2 r0 rp r1 rq hrd
        go_upto_region 6 with (fail)
        refine wp_region_held_drew (S := fun _ => True) (by kernel_rfl) trivial (fun hHeld => ?_)
        refine wpAnyH_take (i := 1) (oi := ⟨_, _, _, _, _, _⟩) (v := ?_) rfl (by kernel_rfl) (by kernel_rfl) (by kernel_rfl) (fun _ _ _ h => h) (Or.inl ⟨by rfl, ?_⟩) (by assumption) ?_
        rotate_left
        · intro w hSw; (try dsimp only at hSw); go_simp; (try (with_reducible rfl))
        try simp only [Act.put, List.setIfInBounds_toArray, List.set_cons_zero, List.set_cons_succ]
        refine wpAnyH_take (i := 2) (oi := ⟨_, _, _, _, _, _⟩) (v := ?_) rfl (by kernel_rfl) (by kernel_rfl) (by kernel_rfl) (fun _ _ _ h => h) (Or.inl ⟨by rfl, ?_⟩) (by assumption) ?_
        rotate_left
        · intro w hSw; (try dsimp only at hSw); go_simp; (try (with_reducible rfl))
        try simp only [Act.put, List.setIfInBounds_toArray, List.set_cons_zero, List.set_cons_succ]
        refine wpAnyH_take (i := 3) (oi := ⟨_, _, _, _, _, _⟩) (v := ?_) rfl (by kernel_rfl) (by kernel_rfl) (by kernel_rfl) (fun _ _ _ h => h) (Or.inl ⟨by rfl, ?_⟩) (by assumption) ?_
        rotate_left
        · intro w hSw; (try dsimp only at hSw); go_simp; (try (with_reducible rfl))
        try simp only [Act.put, List.setIfInBounds_toArray, List.set_cons_zero, List.set_cons_succ]
        refine wpAnyH_take (i := 5) (oi := ⟨_, _, _, _, _, _⟩) (v := ?_) rfl (by kernel_rfl) (by kernel_rfl) (by kernel_rfl) (fun _ _ _ h => h) (Or.inl ⟨by rfl, ?_⟩) (by assumption) ?_
        rotate_left
        · intro w hSw; (try dsimp only at hSw); go_simp; (try (with_reducible rfl))
        try simp only [Act.put, List.setIfInBounds_toArray, List.set_cons_zero, List.set_cons_succ]
        refine wpAnyH_take (i := 6) (oi := ⟨_, _, _, _, _, _⟩) (v := ?_) rfl (by kernel_rfl) (by kernel_rfl) (by kernel_rfl) (fun _ _ _ h => h) (Or.inl ⟨by rfl, ?_⟩) (by assumption) ?_
        rotate_left
        · intro w hSw; (try dsimp only at hSw); go_simp; (try (with_reducible rfl))
        try simp only [Act.put, List.setIfInBounds_toArray, List.set_cons_zero, List.set_cons_succ]
        refine wpAnyH_take (i := 7) (oi := ⟨_, _, _, _, _, _⟩) (v := ?_) rfl (by kernel_rfl) (by kernel_rfl) (by kernel_rfl) (fun _ _ _ h => h) (Or.inl ⟨by rfl, ?_⟩) (by assumption) ?_
        rotate_left
        · intro w hSw; (try dsimp only at hSw); go_simp; (try (with_reducible rfl))
        try simp only [Act.put, List.setIfInBounds_toArray, List.set_cons_zero, List.set_cons_succ]
        refine wpAnyH_take (i := 8) (oi := ⟨_, _, _, _, _, _⟩) (v := ?_) rfl (by kernel_rfl) (by kernel_rfl) (by kernel_rfl) (fun _ _ _ h => h) (Or.inl ⟨by rfl, ?_⟩) (by assumption) ?_
        rotate_left
        · intro w hSw; (try dsimp only at hSw); go_simp; (try (with_reducible rfl))
        try simp only [Act.put, List.setIfInBounds_toArray, List.set_cons_zero, List.set_cons_succ]
        refine wpAnyH_ready (rs := [0]) (by kernel_rfl) (by simp) ?_
        refine AllReadyH.cons (o := ⟨_, _, _, _, _, _⟩) rfl (fun K hK => ?_) AllReadyH.nil
        go_simp
        refine hK.out _ _ trivial (fun hHeld => ?_)
        clear hK K
        try simp only [Act.put, List.setIfInBounds_toArray, List.set_cons_zero, List.set_cons_succ]
        refine wpAnyH_ready (rs := [4]) (by kernel_rfl) (by simp) ?_
        refine AllReadyH.cons (o := ⟨_, _, _, _, _, _⟩) rfl (fun K hK => ?_) (AllReadyH.nil)
        refine stepApp2 (by rfl) (.tmp 15) (.tmp 18) 22 rfl _ _ _ rfl rfl (HR1.out _) ?_
        try simp only [Act.put, List.setIfInBounds_toArray, List.set_cons_zero, List.set_cons_succ]
        refine hK.out _ _ trivial (fun hHeld => ?_)
        clear hK K
        try simp only [Act.put, List.setIfInBounds_toArray, List.set_cons_zero, List.set_cons_succ]
        refine wpAnyH_ready (rs := [9]) (by kernel_rfl) (by simp) ?_
        refine AllReadyH.cons (o := ⟨_, _, _, _, _, _⟩) rfl (fun K hK => ?_) (AllReadyH.nil)
        refine stepApp2 (by rfl) (.tmp 19) (.tmp 23) 22 rfl _ _ _ rfl rfl (HR2.out _) ?_
        try simp only [Act.put, List.setIfInBounds_toArray, List.set_cons_zero, List.set_cons_succ]
        refine hK.out _ _ trivial (fun hHeld => ?_)
        clear hK K
        try simp only [Act.put, List.setIfInBounds_toArray, List.set_cons_zero, List.set_cons_succ]
        refine wpAnyH_take (i := 10) (oi := ⟨_, _, _, _, _, _⟩) (v := ?_) rfl (by kernel_rfl) (by kernel_rfl) (by kernel_rfl) (fun _ _ _ h => h) (Or.inl ⟨by rfl, ?_⟩) (by assumption) ?_
        rotate_left
        · intro w hSw; (try dsimp only at hSw); go_simp; (try (with_reducible rfl))
        try simp only [Act.put, List.setIfInBounds_toArray, List.set_cons_zero, List.set_cons_succ]
        refine wpAnyH_take (i := 11) (oi := ⟨_, _, _, _, _, _⟩) (v := ?_) rfl (by kernel_rfl) (by kernel_rfl) (by kernel_rfl) (fun _ _ _ h => h) (Or.inl ⟨by rfl, ?_⟩) (by assumption) ?_
        rotate_left
        · intro w hSw; (try dsimp only at hSw); go_simp; (try (with_reducible rfl))
        try simp only [Act.put, List.setIfInBounds_toArray, List.set_cons_zero, List.set_cons_succ]
        refine wpAnyH_done (by kernel_rfl) ?_ _
        go_wp2
        go_ret2
        refine ⟨A2, k + (m - k), c2, by rw [HE.out]; rfl, ?_, HW2.out⟩
        rw [dropT_ok HE.out]
        have h9 := HO2.out
        rw [List.nil_append, HDL.out] at h9
        exact h9.ft (by omega) (drop_szs HSZ.out)
end Go.Proofs.YtaidggjnpnfdhaaGreatDoor
namespace Go.Proofs.YtaidggjnpnfdhaaGreatDoor
open Go.RowKit

end Go.Proofs.YtaidggjnpnfdhaaGreatDoor
namespace Go.Proofs.YtaidggjnpnfdhaaGreatDoor
open Go.RowKit

/-- A pair lies there. -/
def PairAt (w : World) (g : Nat) (l r : Int) : Prop := w.cell? ⟨g, 0, none⟩ = some (.int .i64 l) ∧ w.cell? ⟨g, 1, none⟩ = some (.int .i64 r)
theorem PairAt.below {w w' : World} {g : Nat} {l r : Int} (h : PairAt w g l r) (hb : Below w.heap.size w w') : PairAt w' g l r :=
  ⟨(hb.cell (World.block_lt_of_cell? w _ h.1)).trans h.1, (hb.cell (World.block_lt_of_cell? w _ h.2)).trans h.2⟩
theorem PairAt.lt {w : World} {g : Nat} {l r : Int} (h : PairAt w g l r) : g < w.heap.size := World.block_lt_of_cell? w _ h.1
theorem PairAt.new (w : World) (l r : Int) (t : TypeId) : PairAt (w.alloc (.cells #[.int .i64 l, .int .i64 r] t)) w.heap.size l r :=
  ⟨new_cells w t [.int .i64 l, .int .i64 r] 0 _ rfl, new_cells w t [.int .i64 l, .int .i64 r] 1 _ rfl⟩
theorem PairAt.alloc {w : World} {g : Nat} {l r : Int} (h : PairAt w g l r) (o : Obj) : PairAt (w.alloc o) g l r := h.below ((Below.refl _ _).alloc (Nat.le_refl _) o)

theorem below_al {w w' : World} (o : Obj) (h : Below (w.alloc o).heap.size (w.alloc o) w') : Below w.heap.size w w' := below2 ((Below.refl _ _).alloc (Nat.le_refl _) o) h
end Go.Proofs.YtaidggjnpnfdhaaGreatDoor
namespace Go.Proofs.YtaidggjnpnfdhaaGreatDoor
open Go.RowKit

end Go.Proofs.YtaidggjnpnfdhaaGreatDoor
namespace Go.Proofs.YtaidggjnpnfdhaaGreatDoor
open Go.RowKit

theorem and_bit (n : Int) : bits BinOp.and IntKind.i64 n 1 = n % 2 := by
  show IntKind.i64.wrap ((BitVec.ofInt 64 n &&& BitVec.ofInt 64 1).toNat : Int) = _
  rw [BitVec.toNat_and, show (BitVec.ofInt 64 1).toNat = 1 by decide, Nat.and_one_is_mod, BitVec.toNat_ofInt, IntKind.wrap_i64]
  have e : ((2 ^ 64 : Nat) : Int) = 18446744073709551616 := by decide
  rw [e]
  omega
theorem and_odd (n : Int) : (bits BinOp.and IntKind.i64 n 1 == 1) = odd n := by
  rw [and_bit]
  unfold odd
  rw [Bool.eq_iff_iff]
  simp only [beq_iff_eq, bne_iff_ne]
  omega

end Go.Proofs.YtaidggjnpnfdhaaGreatDoor
namespace Go.Proofs.YtaidggjnpnfdhaaGreatDoor
open Go.RowKit

/-- append of one, onto a row of the call's own. -/
theorem app_own2 {W : World} {n₀ : Nat} {v : Value} {k : Nat} {xs : List Value} {T E : TypeId} {z : Value} {size bytes : Nat} (hT : Tryz.prog.underlying T = some (.slice E)) (hinf : (Tryz.prog.info? E).map (fun i => (i.zero, i.size, i.bytes)) = some (some z, size, bytes)) (hz : z.cells.size = size) (h0 : 0 < size)
    (hrow : W.ownsRow n₀ E size v k xs) (hn : n₀ ≤ W.heap.size) (hk : (k + 1) * bytes ≤ 140737488355328) (hk2 : k + 1 ≤ maxLen) (cs : List Value) (hcs : cs.length = 1 * size) (hc1 : ∀ u ∈ cs, u.oneCell' = true) :
    ∃ A' c' w1, Hid ((Builtin.append_ #[T, T] T #[v, .slice (some ⟨W.heap.size, 0, none⟩) 1 1]).run Tryz.prog (W.alloc (.cells cs.toArray E)) = .ok (.slice A' (k + 1) c') w1) ∧ w1.ownsRow n₀ E size (.slice A' (k + 1) c') (k + 1) (xs ++ cs) ∧ (W.alloc (.cells cs.toArray E)).grownBy w1 v.ownBlock ∧ Below n₀ W w1 := by
  obtain ⟨i, hi, hz0, hz1, hz2⟩ := info_parts hinf
  obtain ⟨v', w1, h2, h3, h4, -⟩ := run_append_own (P := Tryz.prog) (W.alloc (.cells cs.toArray E)) n₀ T T E i z size bytes hT hi hz0 hz1 hz2 hz h0 v k xs (hrow.alloc _) ⟨W.heap.size, 0, none⟩ 1 1 cs hcs (new_cells W E cs) hc1 hk2 hk (by simp; omega)
  obtain ⟨g', cap', rfl⟩ := ownsRow_succ h3
  exact ⟨_, _, w1, h2, h3, h4, ((Below.refl n₀ W).alloc hn _).grown h4 (by simp; omega) fun j ej => (hrow.lt j ej).1⟩
theorem filesOf_more (es : List Ent) (j : Nat) (h : j < es.length) : filesOf (es.take (j + 1)) = filesOf (es.take j) ++ (if es[j].has then [(es[j].path, es[j].data)] else []) := by
  rw [List.take_add_one, List.getElem?_eq_getElem h, filesOf_append]
  congr 1
  simp only [Option.toList, filesOf_cons]
  rfl
/-! ### Right -/
def okE (es : List Ent) (i : Nat) (hi : i < es.length) : Prop := rightL (epth es[i]) = true ∧ fineE es[i] = true ∧ ∀ _ : 0 < i, epth es[i - 1] < epth es[i]
theorem arch_bad {es : List Ent} (h : archR es = true) (i : Nat) (hi : i < es.length) : okE es i hi := by
  have hR := (archR_iff es).1 h
  have hs := List.pairwise_iff_getElem.1 hR.srt
  exact ⟨hR.paths _ (List.getElem_mem hi), hR.fine _ (List.getElem_mem hi), fun h0 => hs (i - 1) i (by omega) hi (by omega)⟩
theorem arch_good {es : List Ent} (h32 : es.length ≤ 32) (h : ∀ i (hi : i < es.length), okE es i hi) : archR es = treeR (filesOf es) := by
  have hl : (es.map epth).length = es.length := by simp
  have e : ∀ i (hi : i < es.length), (es.map epth).getD i [] = epth es[i] := fun i hi => by simp [List.getD, hi]
  have h1 : es.all fineE = true := List.all_eq_true.2 fun f hf => by
    obtain ⟨i, hi, rfl⟩ := List.mem_iff_getElem.1 hf
    exact (h i hi).2.1
  have h2 : sortedL (es.map epth) = true := List.all_eq_true.2 fun i hi => by
    have hi' : i < es.length := by rw [← hl]; exact List.mem_range.1 hi
    unfold srtAt
    rw [Bool.and_eq_true, Bool.or_eq_true, e i hi']
    refine ⟨(h i hi').1, ?_⟩
    by_cases h0 : i = 0
    · left; simp [h0]
    · right
      rw [e (i - 1) (by omega), less_iff]
      exact (h i hi').2.2 (by omega)
  unfold archR
  rw [h1, h2, decide_eq_true h32]
  rfl
theorem fine_bool (e : Ent) : fineE e = (rt e.l e.r && !((e.l == 0) && (e.r == 0)) && (e.has || decide (e.data = noS))) := by
  unfold fineE
  rw [show decide (e.l = 0) = (e.l == 0) from rfl, show decide (e.r = 0) = (e.r == 0) from rfl]

end Go.Proofs.YtaidggjnpnfdhaaGreatDoor
namespace Go.Proofs.YtaidggjnpnfdhaaGreatDoor
open Go.RowKit

/-- append(v, x...), v the call's own, elements of one cell. -/
theorem run_app {P : Program} (w : World) (base : Nat) (t ty e : TypeId) (z : Value) (bytes : Nat) (ht : P.underlying t = some (.slice e)) (hinf : (P.info? e).map (fun i => (i.zero, i.size, i.bytes)) = some (some z, 1, bytes)) (hz : z.cells.size = 1)
    (A : Option Addr) (n c : Nat) (xs : List Value) (hown : w.ownsRow base e 1 (.slice A n c) n xs)
    (B : Option Addr) (m d : Nat) (news : List Value) (hl : news.length = m) (hr : Rd w B news) (h1 : ∀ u ∈ news, u.oneCell' = true)
    (hbytes : (n + m) * bytes ≤ 140737488355328) (hbase : base ≤ w.heap.size) (h63 : n + m ≤ maxLen) :
    ∃ A' c' w', (Builtin.append_ #[t, t] ty #[.slice A n c, .slice B m d]).run P w = .ok (.slice A' (n + m) c') w' ∧ w'.ownsRow base e 1 (.slice A' (n + m) c') (n + m) (xs ++ news) ∧ w.grownBy w' (Value.slice A n c).ownBlock := by
  obtain ⟨i, hi, hz0, hz1, hz2⟩ := info_parts hinf
  have own : ∀ ad, (∀ j u, news[j]? = some u → w.cell? (ad.add j) = some u) → ∃ A' c' w', (Builtin.append_ #[t, t] ty #[.slice A n c, .slice (some ad) m d]).run P w = .ok (.slice A' (n + m) c') w' ∧ w'.ownsRow base e 1 (.slice A' (n + m) c') (n + m) (xs ++ news) ∧ w.grownBy w' (Value.slice A n c).ownBlock := by
    intro ad hc
    obtain ⟨v', w', h2, h3, h4, _⟩ := run_append_own (P := P) w base t ty e i z 1 bytes ht hi hz0 hz1 hz2 hz (by decide) _ n xs hown ad m d news (by omega) hc h1 h63 hbytes hbase
    obtain ⟨_, A', c', rfl, _⟩ := own_form h3
    exact ⟨A', c', w', h2, h3, h4⟩
  rcases hr with rfl | ⟨ad, rfl, hc⟩
  · have hm : m = 0 := by simpa using hl.symm
    subst hm
    cases B with
    | none => exact ⟨A, c, w, run_app_nil (P := P) w base t ty e i ht hi _ n xs hown d, by simpa using hown, World.grownBy.refl _ _⟩
    | some ad => exact own ad (by simp)
  · exact own ad hc

/-- append where the order is open: its run is known. -/
theorem stepApp {P : Program} {w w' : World} {ops : Array Oper} {o : Oper} {a : Act} {K : Act → World → Prop} {Q : Exit → Act → World → Prop} {E : Prop} (hw : Region.wanted o (yielded ops a.tmps) = true) (s x : Operand) (t : TypeId)
    (ho : o.op = .call { callee := .builtin .append, args := #[s, x], argTypes := #[t, t] }) (v1 v2 v : Value) (hs : a.eval s = v1) (hx : a.eval x = v2)
    (hrun : (Builtin.append_ #[t, t] o.type #[v1, v2]).run P w = .ok v w') (h : K (a.put o.dst v) w') : if Region.wanted o (yielded ops a.tmps) = true then Oper.wp P o a w K Q else E := by
  rw [if_pos hw]
  unfold Oper.wp
  simp [execOp, ho, resolve, invoke, builtin, hs, hx, hrun, Result.andThen]
  exact h

/-- append behind a guard that holds: its run is known. -/
theorem wpAppG {P : Program} {w w' : World} {ops : Array Oper} {rest : List Oper} {o : Oper} {a : Act} {Q : Exit → Act → World → Prop} (hw : Region.wanted o (yielded ops a.tmps) = true) (s x : Operand) (t : TypeId)
    (ho : o.op = .call { callee := .builtin .append, args := #[s, x], argTypes := #[t, t] }) (v1 v2 v : Value) (hs : a.eval s = v1) (hx : a.eval x = v2)
    (hrun : (Builtin.append_ #[t, t] o.type #[v1, v2]).run P w = .ok v w') (h : wpList P ops Q rest (a.put o.dst v) w') : wpList P ops Q (o :: rest) a w :=
  wpList_step fun _ hK => stepApp hw s x t ho v1 v2 v hs hx hrun (hK _ _ h)

end Go.Proofs.YtaidggjnpnfdhaaGreatDoor
namespace Go.Proofs
open Go.Shelf
def Tryz.lays190_ren : Go.Shelf.Ren := ⟨fun | 190 => 36 | 125 => 55 | 258 => 54 | 128 => 76 | 129 => 77 | 302 => 67 | 303 => 68 | 304 => 69 | 305 => 70 | 306 => 71 | 307 => 72 | 308 => 73 | 309 => 74 | 310 => 75 | 333 => 89 | 329 => 90 | 330 => 91 | 334 => 92 | 335 => 93 | 336 => 94 | 344 => 104 | n => n, fun | 31 => 35 | 9 => 9 | 3 => 3 | 46 => 81 | 0 => 0 | 51 => 97 | 53 => 99 | 4 => 4 | 183 => 90 | 182 => 89 | 131 => 94 | 5 => 5 | 218 => 108 | 222 => 112 | 228 => 119 | 229 => 120 | n => n, fun | n => n⟩
theorem Tryz.lays190 : Go.Proofs.Lays.n190 Tryz.prog Tryz.lays190_ren := {
  mixed := by kernel_rfl
  f125 := Tryz.func55.trans (congrArg some (by kernel_rfl))
  f128 := Tryz.func76.trans (congrArg some (by kernel_rfl))
  f129 := Tryz.func77.trans (congrArg some (by kernel_rfl))
  f190 := Tryz.func36.trans (congrArg some (by kernel_rfl))
  f258 := Tryz.func54.trans (congrArg some (by kernel_rfl))
  f302 := Tryz.func67.trans (congrArg some (by kernel_rfl))
  f303 := Tryz.func68.trans (congrArg some (by kernel_rfl))
  f304 := Tryz.func69.trans (congrArg some (by kernel_rfl))
  f305 := Tryz.func70.trans (congrArg some (by kernel_rfl))
  f306 := Tryz.func71.trans (congrArg some (by kernel_rfl))
  f307 := Tryz.func72.trans (congrArg some (by kernel_rfl))
  f308 := Tryz.func73.trans (congrArg some (by kernel_rfl))
  f309 := Tryz.func74.trans (congrArg some (by kernel_rfl))
  f310 := Tryz.func75.trans (congrArg some (by kernel_rfl))
  f329 := Tryz.func90.trans (congrArg some (by kernel_rfl))
  f330 := Tryz.func91.trans (congrArg some (by kernel_rfl))
  f333 := Tryz.func89.trans (congrArg some (by kernel_rfl))
  f334 := Tryz.func92.trans (congrArg some (by kernel_rfl))
  f335 := Tryz.func93.trans (congrArg some (by kernel_rfl))
  f336 := Tryz.func94.trans (congrArg some (by kernel_rfl))
  f344 := Tryz.func104.trans (congrArg some (by kernel_rfl))
  t0 := Tryz.underlying0
  a0 := Tryz.isAgg0
  z0 := Tryz.sizeOf0
  v0 := Tryz.zeroValue0
  t3 := Tryz.underlying3
  a3 := Tryz.isAgg3
  z3 := Tryz.sizeOf3
  v3 := Tryz.zeroValue3
  t4 := Tryz.underlying4
  a4 := Tryz.isAgg4
  z4 := Tryz.sizeOf4
  v4 := Tryz.zeroValue4
  t5 := Tryz.underlying5
  a5 := Tryz.isAgg5
  z5 := Tryz.sizeOf5
  v5 := Tryz.zeroValue5
  t9 := Tryz.underlying9
  a9 := Tryz.isAgg9
  z9 := Tryz.sizeOf9
  v9 := Tryz.zeroValue9
  t31 := Tryz.underlying35
  a31 := Tryz.isAgg35
  z31 := Tryz.sizeOf35
  v31 := Tryz.zeroValue35
  t46 := Tryz.underlying81
  a46 := Tryz.isAgg81
  z46 := Tryz.sizeOf81
  v46 := Tryz.zeroValue81
  t51 := Tryz.underlying97
  a51 := Tryz.isAgg97
  z51 := Tryz.sizeOf97
  v51 := Tryz.zeroValue97
  t53 := Tryz.underlying99
  a53 := Tryz.isAgg99
  z53 := Tryz.sizeOf99
  v53 := Tryz.zeroValue99
  t131 := Tryz.underlying94
  a131 := Tryz.isAgg94
  z131 := Tryz.sizeOf94
  v131 := Tryz.zeroValue94
  t182 := Tryz.underlying89
  a182 := Tryz.isAgg89
  z182 := Tryz.sizeOf89
  v182 := Tryz.zeroValue89
  t183 := Tryz.underlying90
  a183 := Tryz.isAgg90
  z183 := Tryz.sizeOf90
  v183 := Tryz.zeroValue90
  t218 := Tryz.underlying108
  a218 := Tryz.isAgg108
  z218 := Tryz.sizeOf108
  v218 := Tryz.zeroValue108
  t222 := Tryz.underlying112
  a222 := Tryz.isAgg112
  z222 := Tryz.sizeOf112
  v222 := Tryz.zeroValue112
  t228 := Tryz.underlying119
  a228 := Tryz.isAgg119
  z228 := Tryz.sizeOf119
  v228 := Tryz.zeroValue119
  t229 := Tryz.underlying120
  a229 := Tryz.isAgg120
  z229 := Tryz.sizeOf120
  v229 := Tryz.zeroValue120 }
open Go.Sort Go.RowKit in
theorem Tryz.slices_Sort_string (blk off cap : Nat) (ss : List (List UInt8)) (w : World) (hH : Holds encStr w blk off ss.toArray) (hblk : blk < w.heap.size) (hsz : ss.length < 4611686018427387904) :
    Calls Tryz.prog 36 #[.slice (some ⟨blk, off, none⟩) ss.length cap] w fun e w' =>
      e = .returned (.tuple #[]) ∧ ∃ n os, w' = grow (putRow encStr (Sort.ahead w n) blk off (ss.mergeSort fun x y => decide (x ≤ y)).toArray) os := Any.slices_Sort_string Tryz.lays190 blk off cap ss w hH hblk hsz
def Tryz.lays194_ren : Go.Shelf.Ren := ⟨fun | 194 => 37 | n => n, fun | 31 => 35 | 9 => 9 | 3 => 3 | 4 => 4 | 0 => 0 | n => n, fun | n => n⟩
theorem Tryz.lays194 : Go.Proofs.Lays.n194 Tryz.prog Tryz.lays194_ren := {
  mixed := by kernel_rfl
  f194 := Tryz.func37.trans (congrArg some (by kernel_rfl))
  t0 := Tryz.underlying0
  a0 := Tryz.isAgg0
  z0 := Tryz.sizeOf0
  v0 := Tryz.zeroValue0
  t3 := Tryz.underlying3
  a3 := Tryz.isAgg3
  z3 := Tryz.sizeOf3
  v3 := Tryz.zeroValue3
  t4 := Tryz.underlying4
  a4 := Tryz.isAgg4
  z4 := Tryz.sizeOf4
  v4 := Tryz.zeroValue4
  t9 := Tryz.underlying9
  a9 := Tryz.isAgg9
  z9 := Tryz.sizeOf9
  v9 := Tryz.zeroValue9
  t31 := Tryz.underlying35
  a31 := Tryz.isAgg35
  z31 := Tryz.sizeOf35
  v31 := Tryz.zeroValue35 }
open Go.RowKit Go.Lib Go.Sort in
theorem Tryz.slices_Compact_string_arr (blk off cap : Nat) (d : Array (List UInt8)) (w : World) (hH : Holds encStr w blk off d) (hsz : d.size ≤ 9223372036854775807) (hcap : d.size ≤ cap) :
    Calls Tryz.prog 37 #[.slice (some ⟨blk, off, none⟩) d.size cap] w fun e w' => e = .returned (.slice (some ⟨blk, off, none⟩) (compactUpTo d d.size).length cap) ∧ ∃ q, w' = putRow encStr (Sort.ahead w q) blk off (compactUpTo d d.size ++ List.replicate (d.size - (compactUpTo d d.size).length) []).toArray := Any.slices_Compact_string_arr Tryz.lays194 blk off cap d w hH hsz hcap
open Go.RowKit Go.Lib Go.Sort in
theorem Tryz.slices_Compact_string (blk off cap : Nat) (zs : List (List UInt8)) (w : World) (hH : Holds encStr w blk off zs.toArray) (hsz : zs.length ≤ 9223372036854775807) (hcap : zs.length ≤ cap) :
    Calls Tryz.prog 37 #[.slice (some ⟨blk, off, none⟩) zs.length cap] w fun e w' => e = .returned (.slice (some ⟨blk, off, none⟩) (Lib.compact zs).length cap) ∧ ∃ q, w' = putRow encStr (Sort.ahead w q) blk off (Lib.compact zs ++ List.replicate (zs.length - (Lib.compact zs).length) []).toArray := Any.slices_Compact_string Tryz.lays194 blk off cap zs w hH hsz hcap
open Go.RowKit Go.Lib Go.Sort in
theorem Tryz.slices_Compact_string_empty (a : Option Addr) (cap : Nat) (w : World) :
    Calls Tryz.prog 37 #[.slice a 0 cap] w fun e w' => e = .returned (.slice a 0 cap) ∧ w' = w := Any.slices_Compact_string_empty Tryz.lays194 a cap w
open Go.RowKit Go.Sort in
theorem Tryz.slices_Sort_string_none (p : Option Addr) (cap : Nat) (w : World) :
    Calls Tryz.prog 36 #[.slice p 0 cap] w fun e w' => e = .returned (.tuple #[]) ∧ w' = w := Any.slices_Sort_string_none Tryz.lays190 p cap w
end Go.Proofs
namespace Go.Proofs.YtaidggjnpnfdhaaGreatDoor
open Go.RowKit Go.Sort

/-! ### Room for entries -/
/-- append of entries onto a row of the call's own. -/
theorem app_ents {W : World} {n₀ : Nat} {v : Value} {xs : List Ent} (hrow : W.ownsRow n₀ 66 5 v xs.length (entV xs)) (hn : n₀ ≤ W.heap.size) {B : Option Addr} {m d : Nat} {ys : List Ent} (hl : ys.length = m) (hr : Rd W B (entV ys)) (hk : xs.length + m ≤ 1000000) :
    ∃ v' w1, Hid ((Builtin.append_ #[40, 40] 40 #[v, .slice B m d]).run Tryz.prog W = .ok v' w1) ∧ w1.ownsRow n₀ 66 5 v' (xs ++ ys).length (entV (xs ++ ys)) ∧ Below n₀ W w1 := by
  obtain ⟨i, hi, hz0, hz1, hz2⟩ := info_parts Tryz.infoE
  have own : ∀ ad : Addr, (∀ j u, (entV ys)[j]? = some u → W.cell? (ad.add j) = some u) → ∃ v' w1, Hid ((Builtin.append_ #[40, 40] 40 #[v, .slice (some ad) m d]).run Tryz.prog W = .ok v' w1) ∧ w1.ownsRow n₀ 66 5 v' (xs ++ ys).length (entV (xs ++ ys)) ∧ Below n₀ W w1 := by
    intro ad hc
    obtain ⟨v', w', h2, h3, h4, -⟩ := run_append_own (P := Tryz.prog) W n₀ 40 40 66 i (eA zE) 5 56 Tryz.underlying40 hi hz0 hz1 hz2 rfl (by decide) v xs.length (entV xs) hrow ad m d (entV ys) (by rw [entV_length, hl]) hc (entV_one _) (by unfold maxLen; omega) (by omega) hn
    refine ⟨v', w', h2, ?_, (Below.refl n₀ W).grown h4 hn fun j ej => (hrow.lt j ej).1⟩
    rw [entV_append, List.length_append, hl]
    exact h3
  rcases hr with hr | ⟨ad, rfl, hc⟩
  · have hy : ys = [] := by
      have := entV_length ys
      rw [hr] at this
      exact List.eq_nil_of_length_eq_zero (by simp at this; omega)
    subst hy
    subst hl
    cases B with
    | none =>
      refine ⟨v, W, ?_, by rw [List.append_nil]; exact hrow, Below.refl _ _⟩
      show _ = _
      rcases hrow.2 with ⟨e1, e0⟩ | ⟨g, cap, cur, e1, _, _, hnc, _⟩
      · rw [e1]
        simp [Builtin.append_, run_underlying Tryz.underlying40, sizeOf, typeInfo, hi, Builtin.lenOf, Builtin.firstCells]
      · rw [e1]
        simp [Builtin.append_, run_underlying Tryz.underlying40, sizeOf, typeInfo, hi, Builtin.lenOf, Builtin.firstCells, hnc, storeCells]
    | some ad => exact own ad (by simp [entV])
  · exact own ad hc

end Go.Proofs.YtaidggjnpnfdhaaGreatDoor
namespace Go.Proofs.YtaidggjnpnfdhaaGreatDoor
open Go.RowKit Go.Sort

/-! ### Sorted, and each once: plain lists -/
theorem compact_has {zs : List (List UInt8)} {x : List UInt8} : x ∈ Lib.compact zs ↔ x ∈ zs := by
  unfold Lib.compact Lib.compactUpTo
  constructor
  · intro h
    obtain ⟨i, hi, rfl⟩ := List.mem_map.1 h
    have hi' : i < zs.length := List.mem_range.1 (List.mem_filter.1 hi).1
    simp [getElem!_pos, hi']
  · intro h
    obtain ⟨i, hi, rfl⟩ := List.mem_iff_getElem.1 h
    have key : ∀ i (hi : i < zs.length), ∃ j, j ≤ i ∧ Lib.keeps zs.toArray j = true ∧ zs.toArray[j]! = zs[i] := by
      intro i
      induction i with
      | zero => intro hi; exact ⟨0, Nat.le_refl _, Lib.keeps_lt_one _ 0 (by omega), by simp [getElem!_pos, hi]⟩
      | succ i ih =>
        intro hi
        by_cases e : zs.toArray[i + 1]! = zs.toArray[i + 1 - 1]!
        · obtain ⟨j, h1, h2, h3⟩ := ih (by omega)
          refine ⟨j, by omega, h2, ?_⟩
          rw [h3]
          simp only [Nat.add_sub_cancel] at e
          rw [getElem!_pos _ _ (by simpa using hi), getElem!_pos _ _ (by simp; omega)] at e
          simpa using e.symm
        · exact ⟨i + 1, Nat.le_refl _, Lib.keeps_pos e, by simp [getElem!_pos, hi]⟩
    obtain ⟨j, h1, h2, h3⟩ := key i hi
    exact List.mem_map.2 ⟨j, List.mem_filter.2 ⟨List.mem_range.2 (by omega), h2⟩, h3⟩
theorem compact_rises {zs : List (List UInt8)} (hs : zs.Pairwise fun a b => a ≤ b) : (Lib.compact zs).Pairwise fun a b => a < b := by
  have hle : ∀ i j (hi : i < zs.length) (hj : j < zs.length), i ≤ j → zs[i] ≤ zs[j] := fun i j hi hj h => by
    rcases Nat.lt_or_ge i j with e | e
    · exact List.pairwise_iff_getElem.1 hs i j hi hj e
    · have : i = j := by omega
      subst this
      exact List.le_refl _
  unfold Lib.compact Lib.compactUpTo
  rw [List.pairwise_map]
  have hr := (List.pairwise_lt_range (n := zs.toArray.size)).filter (Lib.keeps zs.toArray)
  refine hr.imp_of_mem ?_
  intro a b ha hb hab
  have hb1 : b < zs.length := by simpa using List.mem_range.1 (List.mem_filter.1 hb).1
  have hk := (List.mem_filter.1 hb).2
  have hne : zs.toArray[b]! ≠ zs.toArray[b - 1]! := fun e => by
    rw [Lib.keeps_neg (by omega) e] at hk
    cases hk
  rw [getElem!_pos zs.toArray b (by simpa using hb1), getElem!_pos zs.toArray (b - 1) (by simp; omega)] at hne
  rw [getElem!_pos zs.toArray b (by simpa using hb1), getElem!_pos zs.toArray a (by simp; omega)]
  simp only [List.getElem_toArray] at hne ⊢
  have h1 := hle a (b - 1) (by omega) (by omega) (by omega)
  have h2 := hle (b - 1) b (by omega) hb1 (by omega)
  rcases List.le_iff_lt_or_eq.1 h2 with e | e
  · exact List.lt_of_le_of_lt h1 e
  · exact absurd e.symm hne
def knownL (ss : List (List UInt8)) : List (List UInt8) := Lib.compact (ss.mergeSort fun x y => decide (x ≤ y))
theorem known_has {ss : List (List UInt8)} {x : List UInt8} : x ∈ knownL ss ↔ x ∈ ss := by
  rw [knownL, compact_has]
  exact (List.mergeSort_perm ss _).mem_iff
theorem known_rises (ss : List (List UInt8)) : (knownL ss).Pairwise fun a b => a < b := by
  refine compact_rises ?_
  have := List.pairwise_mergeSort (le := fun x y => decide (x ≤ y)) (fun a b c h1 h2 => by simp only [decide_eq_true_eq] at *; exact List.le_trans h1 h2) (fun a b => by
    simp only [Bool.or_eq_true, decide_eq_true_eq]; exact List.le_total a b) ss
  exact this.imp fun h => by simpa using h
theorem known_is {l m : List Ent} (hl : SrtE l) (hm : SrtE m) : (knownL ((l ++ m).map epth)).map mkS = (mrgL l m).map (·.1.path) := by
  refine mrg_paths hl hm ?_ fun x => ?_
  · refine List.pairwise_map.2 ((known_rises _).imp fun h => ?_)
    simpa [mkS] using h
  · rw [List.mem_map]
    constructor
    · rintro ⟨y, hy, rfl⟩
      obtain ⟨e, he, rfl⟩ := List.mem_map.1 (known_has.1 hy)
      have : mkS (epth e) = e.path := data_inj (by simp [mkS, epth])
      rw [this]
      rcases List.mem_append.1 he with h | h
      · exact .inl (List.mem_map.2 ⟨e, h, rfl⟩)
      · exact .inr (List.mem_map.2 ⟨e, h, rfl⟩)
    · intro h
      refine ⟨x.data.toList, known_has.2 ?_, data_inj (by simp [mkS])⟩
      rcases h with h | h <;> obtain ⟨e, he, rfl⟩ := List.mem_map.1 h
      · exact List.mem_map.2 ⟨e, List.mem_append_left _ he, rfl⟩
      · exact List.mem_map.2 ⟨e, List.mem_append_right _ he, rfl⟩

/-! ### known -/
def KnownPost (w : World) (ss : List (List UInt8)) (e : Ending) (w' : World) : Prop :=
  ∃ C q, e = .returned (.slice C (knownL ss).length q) ∧ Rd w' C (strV ((knownL ss).map mkS)) ∧ Below w.heap.size w w'
theorem strV_enc (L : List (List UInt8)) : strV (L.map mkS) = L.map encStr := by
  rw [strV, List.map_map]
  rfl
theorem known_end {w w1 : World} {g cap n nn q base : Nat} {os : Array Obj} {ss : List (List UInt8)} (hown : w1.ownsRow base 9 1 (.slice (some ⟨g, 0, none⟩) n cap) n (ss.map encStr)) (hbel : Below w.heap.size w w1) (hbg : base ≤ g) (hwb : w.heap.size ≤ base) (hlen : ss.length = n) :
    KnownPost w ss (.returned (.slice (some ⟨g, 0, none⟩) (knownL ss).length cap))
      (putRow encStr (Sort.ahead (grow (putRow encStr (Sort.ahead w1 nn) g 0 (ss.mergeSort fun x y => decide (x ≤ y)).toArray) os) q) g 0 (knownL ss ++ List.replicate (n - (knownL ss).length) []).toArray) := by
  have hl2 : (ss.mergeSort fun x y => decide (x ≤ y)).length = ss.length := List.length_mergeSort ss
  have hle : (knownL ss).length ≤ ss.length := by rw [← hl2]; exact Lib.compact_length_le _
  subst hlen
  rcases hown.2 with ⟨h0, _⟩ | ⟨g', cap', cur, hv, hbase, hb, h1, h2, h3, h4⟩
  · cases h0
  cases hv
  have hs := ownsRow_sorted (n := nn) (os := os) (ts := ss.mergeSort fun x y => decide (x ≤ y)) hl2 hbase hb h1 h2 h3
  have hc := Lib.ownsRow_putRow (q := q) (k := (knownL ss).length) (ys := knownL ss ++ List.replicate (ss.length - (knownL ss).length) []) hs (by simp; omega) (by omega)
  rw [List.take_left] at hc
  refine ⟨_, cap, rfl, ?_, Lib.below_putRow (hbel.grown (grownBy_sorted _) hbel.size (fun j hj => by cases hj; omega)) (by omega)⟩
  rw [strV_enc]
  exact Rd.of_own hc

end Go.Proofs.YtaidggjnpnfdhaaGreatDoor
namespace Go.Proofs.YtaidggjnpnfdhaaGreatDoor
open Go.RowKit

/-! ### A path is put at its place -/
def lessS (s p : ByteArray) : Bool := Op.bytesLess s.data.toList p.data.toList
def atS (out : List ByteArray) (p : ByteArray) : Nat := out.findIdx fun s => !lessS s p
def insP (out : List ByteArray) (p : ByteArray) : List ByteArray := if out[atS out p]? = some p then out else out.take (atS out p) ++ p :: out.drop (atS out p)
def SrtS (out : List ByteArray) : Prop := out.Pairwise fun a b => a.data.toList < b.data.toList
theorem atS_le (out : List ByteArray) (p : ByteArray) : atS out p ≤ out.length := List.findIdx_le_length
theorem atS_low {out : List ByteArray} {p : ByteArray} {k : Nat} (hk : k < out.length) (h : k < atS out p) : lessS out[k] p = true := by
  have := List.not_of_lt_findIdx h
  simpa using this
theorem atS_at {out : List ByteArray} {p : ByteArray} (h : atS out p < out.length) : lessS out[atS out p] p = false := by
  have h1 : (!lessS out[atS out p] p) = true := List.findIdx_getElem (p := fun s => !lessS s p) (w := h)
  simpa using h1
theorem atS_is {out : List ByteArray} {p : ByteArray} {k : Nat} (hk : k ≤ out.length) (h1 : ∀ i (hi : i < out.length), i < k → lessS out[i] p = true) (h2 : ∀ hi : k < out.length, lessS out[k] p = false) : atS out p = k := by
  by_cases hlt : k < out.length
  · exact (List.findIdx_eq hlt).2 ⟨by simp [h2 hlt], fun i hi => by simp [h1 i (by omega) hi]⟩
  · obtain rfl : k = out.length := by omega
    refine List.findIdx_eq_length.2 fun x hx => ?_
    obtain ⟨i, hi, rfl⟩ := List.mem_iff_getElem.1 hx
    simp [h1 i hi hi]
theorem ins_mem {out : List ByteArray} {p x : ByteArray} : x ∈ insP out p ↔ x = p ∨ x ∈ out := by
  unfold insP
  split
  · rename_i h
    have := List.mem_of_getElem? h
    constructor
    · exact .inr
    · rintro (rfl | h)
      · exact this
      · exact h
  · have e : ∀ y, y ∈ out ↔ y ∈ out.take (atS out p) ∨ y ∈ out.drop (atS out p) := fun y => by
      conv => lhs; rw [← List.take_append_drop (atS out p) out]
      rw [List.mem_append]
    rw [List.mem_append, List.mem_cons, e x]
    constructor
    · rintro (h | h | h)
      · exact .inr (.inl h)
      · exact .inl h
      · exact .inr (.inr h)
    · rintro (h | h | h)
      · exact .inr (.inl h)
      · exact .inl h
      · exact .inr (.inr h)
theorem ins_srt {out : List ByteArray} {p : ByteArray} (h : SrtS out) : SrtS (insP out p) := by
  unfold insP
  split
  · exact h
  · rename_i hne
    have hh := List.pairwise_iff_getElem.1 h
    have low : ∀ a ∈ out.take (atS out p), a.data.toList < p.data.toList := by
      intro a ha
      obtain ⟨i, hi, rfl⟩ := List.mem_iff_getElem.1 ha
      rw [List.length_take] at hi
      rw [List.getElem_take]
      exact (less_iff _ _).1 (atS_low (by omega) (by omega))
    have high : ∀ b ∈ out.drop (atS out p), p.data.toList < b.data.toList := by
      intro b hb
      obtain ⟨i, hi, rfl⟩ := List.mem_iff_getElem.1 hb
      rw [List.length_drop] at hi
      rw [List.getElem_drop]
      have h0 : atS out p < out.length := by omega
      have h1 : p.data.toList < out[atS out p].data.toList := by
        rcases lt_tri p.data.toList out[atS out p].data.toList with x | x | x
        · exact x
        · exact absurd ((List.getElem?_eq_getElem h0).trans (congrArg some (data_inj x).symm)) hne
        · have := atS_at h0
          rw [lessS, (less_iff _ _).2 x] at this
          cases this
      by_cases hi0 : i = 0
      · subst hi0; exact h1
      · exact List.lt_trans h1 (hh _ _ h0 (by omega) (by omega))
    refine List.pairwise_append.2 ⟨h.sublist (List.take_sublist _ _), List.pairwise_cons.2 ⟨high, h.sublist (List.drop_sublist _ _)⟩, ?_⟩
    intro a ha b hb
    rcases List.mem_cons.1 hb with rfl | hb
    · exact low a ha
    · exact List.lt_trans (low a ha) (high b hb)
def pthL (l : List Ent) (t : List Fil) : List ByteArray := l.map (·.path) ++ t.map (·.1)
def allL (l : List Ent) (t : List Fil) : List ByteArray := (pthL l t).foldl insP []
theorem fold_ins (xs : List ByteArray) : ∀ (out : List ByteArray), SrtS out → SrtS (xs.foldl insP out) ∧ ∀ x, x ∈ xs.foldl insP out ↔ x ∈ xs ∨ x ∈ out := by
  induction xs with
  | nil => exact fun out h => ⟨h, fun x => by simp⟩
  | cons y xs ih =>
    intro out h
    obtain ⟨h1, h2⟩ := ih (insP out y) (ins_srt h)
    refine ⟨h1, fun x => ?_⟩
    rw [List.foldl_cons, h2, ins_mem, List.mem_cons]
    constructor
    · rintro (h | h | h)
      · exact .inl (.inr h)
      · exact .inl (.inl h)
      · exact .inr h
    · rintro ((h | h) | h)
      · exact .inr (.inl h)
      · exact .inl h
      · exact .inr (.inr h)
theorem srtS_one : ∀ {a b : List ByteArray}, SrtS a → SrtS b → (∀ x, x ∈ a ↔ x ∈ b) → a = b := by
  intro a b ha hb h
  have e := Srt.unique (a := a.map fun s => (s, noS)) (b := b.map fun s => (s, noS)) (List.pairwise_map.2 ha) (List.pairwise_map.2 hb) (fun f => by
    simp only [List.mem_map]
    constructor
    · rintro ⟨x, hx, rfl⟩; exact ⟨x, (h x).1 hx, rfl⟩
    · rintro ⟨x, hx, rfl⟩; exact ⟨x, (h x).2 hx, rfl⟩)
  have := congrArg (List.map Prod.fst) e
  simpa [List.map_map, Function.comp_def] using this
theorem all_both {l : List Ent} {t : List Fil} (hl : SrtE l) (ht : Srt t) : allL l t = (bothL l t).map (·.2.path) := by
  obtain ⟨h1, h2⟩ := fold_ins (pthL l t) [] List.Pairwise.nil
  refine srtS_one h1 (List.pairwise_map.2 (both_srt l t hl ht)) fun x => ?_
  rw [show allL l t = (pthL l t).foldl insP [] from rfl] at *
  rw [h2, both_path, pthL, List.mem_append]
  simp
theorem ins_len (out : List ByteArray) (p : ByteArray) : (insP out p).length ≤ out.length + 1 := by
  unfold insP
  split
  · omega
  · rw [List.length_append, List.length_take, List.length_cons, List.length_drop]; have := atS_le out p; omega
theorem fold_len (xs : List ByteArray) : ∀ (out : List ByteArray), (xs.foldl insP out).length ≤ out.length + xs.length := by
  induction xs with
  | nil => simp
  | cons y xs ih => intro out; rw [List.foldl_cons]; have := ih (insP out y); have := ins_len out y; simp; omega

/-! ### Slices of strings, cut -/
theorem cut_pre (B : Option Addr) (n c k : Nat) (hk : k ≤ c) (w : World) : (Instr.slice 35 (.slice B n c) none (some (.int .i64 (k : Int))) none).run Tryz.prog w = .ok (.slice (if c = 0 then B else B.map (·.add 0)) k c) w := by
  simp [Instr.slice, Instr.sliceBounds, Instr.sliceBound, run_underlying Tryz.underlying35, Tryz.sizeOf9, asIntOf]
  intro h
  omega
theorem cut_post (B : Option Addr) (n c k : Nat) (hk : k ≤ n) (w : World) : (Instr.slice 35 (.slice B n c) (some (.int .i64 (k : Int))) none none).run Tryz.prog w = .ok (.slice (if c = k then B else B.map (·.add k)) (n - k) (c - k)) w := by
  simp [Instr.slice, Instr.sliceBounds, Instr.sliceBound, run_underlying Tryz.underlying35, Tryz.sizeOf9, asIntOf]
  intro h
  omega
theorem cuts {w : World} {B : Option Addr} {c k : Nat} {out : List ByteArray} (h : Rd w B (strV out)) (hc : out.length ≤ c) (hk : k ≤ out.length) :
    ∃ B1 B2, (∀ w, (Instr.slice 35 (.slice B out.length c) none (some (.int .i64 (k : Int))) none).run Tryz.prog w = .ok (.slice B1 k c) w) ∧ (∀ w, (Instr.slice 35 (.slice B out.length c) (some (.int .i64 (k : Int))) none none).run Tryz.prog w = .ok (.slice B2 (out.length - k) (c - k)) w) ∧
      Rd w B1 (strV (out.take k)) ∧ Rd w B2 (strV (out.drop k)) := by
  have hl := strV_length out
  refine ⟨_, _, cut_pre B out.length c k (by omega), cut_post B out.length c k hk, ?_, ?_⟩
  · have := h.cut (k := 0) (m := k) (cap := c) (by omega) (by omega)
    rw [List.drop_zero] at this
    rw [show strV (out.take k) = (strV out).take k by simp [strV, List.map_take]]
    exact this
  · have := h.cut (k := k) (m := out.length - k) (cap := c) (by omega) (by omega)
    rw [List.take_of_length_le (by rw [List.length_drop]; omega)] at this
    rw [show strV (out.drop k) = (strV out).drop k by simp [strV, List.map_drop]]
    exact this
/-- append of strings onto a row of the call's own. -/
theorem app_strs {W : World} {n₀ : Nat} {A : Option Addr} {k c : Nat} {xs : List ByteArray} (hrow : W.ownsRow n₀ 9 1 (.slice A k c) k (strV xs)) (hn : n₀ ≤ W.heap.size) {B : Option Addr} {m d : Nat} {ys : List ByteArray} (hl : ys.length = m) (hr : Rd W B (strV ys)) {t : Nat} (ht : k + m = t) (hk : t ≤ 1000000) :
    ∃ A' c' w1, Hid ((Builtin.append_ #[35, 35] 35 #[.slice A k c, .slice B m d]).run Tryz.prog W = .ok (.slice A' t c') w1) ∧ w1.ownsRow n₀ 9 1 (.slice A' t c') t (strV (xs ++ ys)) ∧ W.grownBy w1 (Value.slice A k c).ownBlock ∧ Below n₀ W w1 := by
  subst ht
  obtain ⟨A', c', w1, h1, h2, h3⟩ := run_app (P := Tryz.prog) W n₀ 35 35 9 (.string ⟨#[]⟩) 16 Tryz.underlying35 Tryz.infoS rfl A k c (strV xs) hrow B m d (strV ys) (by rw [strV_length]; exact hl) hr (strV_one _) (by omega) hn (by unfold maxLen; omega)
  exact ⟨A', c', w1, h1, by rw [strV_append]; exact h2, h3, (Below.refl n₀ W).grown h3 hn fun j ej => (hrow.lt j ej).1⟩
theorem own_none (w : World) (base : Nat) (h : base ≤ w.heap.size) : (w.alloc (.cells #[] 9)).ownsRow base 9 1 (.slice (some ⟨w.heap.size, 0, none⟩) 0 0) 0 (strV []) := World.ownsRow_made w #[] 0 h (by unfold maxLen; omega) (by simp)
theorem rd_one (w : World) (p : ByteArray) : Rd (w.alloc (.cells #[.string p] 9)) (some ⟨w.heap.size, 0, none⟩) (strV [p]) := (Blk.new w [.string p] 9).rd
theorem rd_apart {w w' : World} {g : Nat} {row : Option Nat} {ys : List Value} (h : Rd w (some ⟨g, 0, none⟩) ys) (hg : w.grownBy w' row) (hlt : g < w.heap.size) (hne : some g ≠ row) : Rd w' (some ⟨g, 0, none⟩) ys := by
  rcases h with h | ⟨ad, e, hc⟩
  · exact .inl h
  · injection e with e
    subst e
    refine .inr ⟨_, rfl, fun j u hu => ?_⟩
    rw [← hc j u hu]
    exact World.cell?_of_block (by rw [add_block]; exact hg.block g hlt hne)

end Go.Proofs.YtaidggjnpnfdhaaGreatDoor
namespace Go.Proofs.YtaidggjnpnfdhaaGreatDoor
open Go.RowKit

/-! ### Does one of these clash with a path? -/
def clB (a b : ByteArray) : Bool := clashL a.data.toList b.data.toList
def idxB (l : List ByteArray) (q : ByteArray → Bool) : Int := if l.any q then (l.findIdx q : Int) else -1
theorem idxB_at {l : List ByteArray} {q : ByteArray → Bool} {j : Nat} (hj : j < l.length) (h : q l[j] = true) (hn : ∀ k (hk : k < l.length), k < j → q l[k] = false) : idxB l q = j := by
  have h1 : l.any q = true := List.any_eq_true.2 ⟨_, List.getElem_mem hj, h⟩
  have h2 : l.findIdx q = j := by
    refine (List.findIdx_eq hj).2 ⟨h, fun k hk => ?_⟩
    rw [hn k (by omega) hk]
  rw [idxB, if_pos h1, h2]
theorem idxB_no {l : List ByteArray} {q : ByteArray → Bool} (hn : ∀ k (hk : k < l.length), q l[k] = false) : idxB l q = -1 := by
  have : l.any q = false := List.any_eq_false.2 fun x hx => by
    obtain ⟨k, hk, rfl⟩ := List.mem_iff_getElem.1 hx
    simp [hn k hk]
  rw [idxB, this]; rfl
theorem idxB_pos (l : List ByteArray) (q : ByteArray → Bool) : decide (0 ≤ idxB l q) = l.any q := by
  unfold idxB
  cases h : l.any q with
  | true => rw [if_pos rfl]; simp
  | false => rfl
theorem str_at {w : World} {B : Option Addr} {l : List ByteArray} (h : Rd w B (strV l)) {j : Nat} (hj : j < l.length) : ∃ g o, B = some ⟨g, o, none⟩ ∧ w.cell? ⟨g, o + j, none⟩ = some (.string l[j]) ∧ g < w.heap.size := by
  obtain ⟨g, o, e, hc, hg⟩ := h.at_ (k := j) (by rw [strV_length]; exact hj)
  exact ⟨g, o, e, by rw [hc]; simp [strV], hg⟩

/-! ### fits -/
def fpaths (es : List Ent) : List ByteArray := (filesOf es).map (·.1)
theorem fpaths_more (es : List Ent) (j : Nat) (h : j < es.length) : fpaths (es.take (j + 1)) = fpaths (es.take j) ++ (if es[j].has then [es[j].path] else []) := by
  rw [fpaths, filesOf_more es j h, List.map_append, fpaths]
  congr 1
  split <;> rfl
theorem fpaths_len (es : List Ent) : (fpaths es).length = (filesOf es).length := by rw [fpaths, List.length_map]
abbrev Apt (l : List ByteArray) : Prop := l.Pairwise fun b a => clB a b = false
def fitN (es : List Ent) : Nat := if 32 < es.length ∨ 16 < (filesOf es).length then 2 else if Apt (fpaths es) then 0 else 6
theorem apt_more {l : List ByteArray} {j : Nat} (hj : j < l.length) : Apt (l.take (j + 1)) ↔ Apt (l.take j) ∧ (l.take j).any (clB l[j]) = false := by
  rw [List.take_add_one, List.getElem?_eq_getElem hj]
  simp only [Option.toList_some, Apt, List.pairwise_append, List.any_eq_false, List.mem_singleton]
  constructor
  · rintro ⟨h1, -, h2⟩
    exact ⟨h1, fun x hx => by simp [h2 x hx _ rfl]⟩
  · rintro ⟨h1, h2⟩
    exact ⟨h1, List.pairwise_singleton .., fun x hx y hy => by subst hy; simpa using h2 x hx⟩
theorem apt_no {l : List ByteArray} {j : Nat} (hj : j < l.length) (h : (l.take j).any (clB l[j]) = true) : ¬ Apt l := fun hA => by
  have := (apt_more hj).1 (List.Pairwise.sublist (List.take_sublist _ _) hA)
  rw [h] at this
  cases this.2
end Go.Proofs.YtaidggjnpnfdhaaGreatDoor
namespace Go.Proofs.YtaidggjnpnfdhaaGreatDoor
open Go.RowKit

theorem eqF (f g : Fil) (w : World) : (binOp .eql 38 (.agg #[.string f.1, .string f.2]) (.agg #[.string g.1, .string g.2])).run Tryz.prog w = .ok (.bool (decide (f = g))) w := by
  have u9 := Tryz.underlying9
  have a9 := Tryz.isAgg9
  have z9 := Tryz.sizeOf9
  have hS : Tryz.prog.underlying 38 = some (.struct (Tryz.prog.fieldsOf 38)) := by kernel_rfl
  have hp : Tryz.prog.stoodInHeld 38 = false := by kernel_rfl
  rw [run_eql_struct, show (10000 : Nat) = 9999 + 1 from rfl, run_equalIn_agg w 9999 38 _ _ hS hp]
  simp only [Program.fieldsOf, Tryz.underlying38]
  go_simp
  have inj : ∀ {a b : ByteArray}, a.toList = b.toList → a = b := fun h => data_inj (by rw [← Lib.toList_data, ← Lib.toList_data]; exact h)
  by_cases h1 : f.1.toList = g.1.toList
  · by_cases h2 : f.2.toList = g.2.toList
    · have e : f = g := Prod.ext (inj h1) (inj h2)
      rw [if_pos h1, if_pos h2, decide_eq_true e]
    · have e : f ≠ g := fun e => h2 (by rw [e])
      rw [if_pos h1, if_neg h2, decide_eq_false e]
  · have e : f ≠ g := fun e => h1 (by rw [e])
    rw [if_neg h1, decide_eq_false e]

set_option maxHeartbeats 400000 in
theorem plan1_any (bx : Nat) (g : Fil) (p : ByteArray) (W : World) (hx : W.cell? ⟨bx, 0, none⟩ = some (.string p)) :
    Calls Tryz.prog 40 (#[.agg #[.string g.1, .string g.2]] ++ #[.pointer (some ⟨bx, 0, none⟩)]) W fun x w' => x = .returned (.bool (decide (g.1 = p))) ∧ Below W.heap.size W w' := by
  obtain ⟨x, d⟩ := g
  have hb := World.block_lt_of_cell? _ _ hx
  have HE := hid (str_eqb x p)
  go_enter Tryz.func40, Tryz.ntmps40
  go_wp2
  go_ret
  exact ⟨ret_bool HE.out, by go_grown⟩

set_option maxHeartbeats 1000000 in
theorem idxQ_any (bx : Nat) (A : Option Addr) (n c : Nat) (fs : List Fil) (p : ByteArray) (w : World) (hl : fs.length = n) (hx : w.cell? ⟨bx, 0, none⟩ = some (.string p)) (hr : Rd w A (filV fs)) (hn : n ≤ 140737488355328) :
    Calls Tryz.prog 31 #[.slice A n c, .func (.func 40) #[] #[.pointer (some ⟨bx, 0, none⟩)]] w (IdxPost w (fs.any fun g => decide (g.1 = p))) := by
  have eg := enters_of Tryz.func40 (by kernel_rfl) rfl
  have hbx := World.block_lt_of_cell? _ _ hx
  have HL := hid hl
  clear hl
  go_enter Tryz.func31, Tryz.ntmps31
  go_wp2_with fail
  go_loopw [8] (fun i wr => ∃ j : Nat, j ≤ n ∧ i = .int .i64 j ∧ Hid ((fs.take j).any (fun g => decide (g.1 = p)) = false) ∧ Below w.heap.size w wr) (fun i _ => n - (intOf i).toNat)
  case atStart => exact ⟨0, by omega, rfl, by simp [Hid], Below.refl _ _⟩
  case round =>
    obtain ⟨j, hj, rfl, HO, hb⟩ := hrel
    by_cases hjn : j < n
    · have hjl : j < fs.length := by rw [HL.out]; exact hjn
      obtain ⟨b, off, rfl, h1, h2, -⟩ := (hr.below hb).fil hjl
      have HK := hid (any_take_step (fun g => decide (g.1 = p)) fs j hjl)
      have HM := hid (List.getElem_mem hjl)
      have hx1 := (hb.cell (p := ⟨bx, 0, none⟩) hbx).trans hx
      have cc := plan1_any bx fs[j] p wr hx1
      generalize fs[j] = g at *
      have hz : (0 : Int) ≤ j := by omega
      have hlt : (j : Int) < n := by omega
      go_wp2_with fail
      refine cc.mono ?_
      rintro e w1 ⟨rfl, hb1'⟩
      have hb1 := below2 hb hb1'
      clear cc hb hb1' hx1
      cases hq : (decide (g.1 = p))
      · go_wp2
        go_roundw
        case rel => exact ⟨j + 1, by omega, by go_num, hid (by rw [HK.out, HO.out, hq]; rfl), hb1⟩
        case measure => simp [intOf]; omega
      · have HQ := hid hq
        clear hq
        go_wp2
        go_ret
        refine ⟨j, rfl, ?_, hb1⟩
        rw [decide_eq_true hz]
        exact (List.any_eq_true.2 ⟨g, HM.out, HQ.out⟩).symm
    · have HE := hid (show j = n by omega)
      have hnlt : ¬ (j : Int) < n := by omega
      go_wp2
      go_ret
      refine ⟨-1, rfl, ?_, hb⟩
      have ho := HO.out
      rw [HE.out, ← HL.out, List.take_length] at ho
      rw [ho]; rfl

set_option maxHeartbeats 400000 in
theorem contQ_any (bx : Nat) (A : Option Addr) (n c : Nat) (fs : List Fil) (p : ByteArray) (w : World) (hl : fs.length = n) (hx : w.cell? ⟨bx, 0, none⟩ = some (.string p)) (hr : Rd w A (filV fs)) (hn : n ≤ 140737488355328) :
    Calls Tryz.prog 39 #[.slice A n c, .func (.func 40) #[] #[.pointer (some ⟨bx, 0, none⟩)]] w fun x w' => x = .returned (.bool (fs.any (fun g => decide (g.1 = p)))) ∧ Below w.heap.size w w' := by
  have c0 := idxQ_any bx A n c fs p w hl hx hr hn
  clear hl hx hr
  generalize fs.any (fun g => decide (g.1 = p)) = b at *
  go_enter Tryz.func39, Tryz.ntmps39
  go_wp2_with fail
  refine c0.mono ?_
  rintro e w1 ⟨z, rfl, hz, hb1⟩
  clear c0
  have HZ := hid hz
  clear hz
  go_wp2
  go_ret
  exact ⟨ret_bool HZ.out, hb1⟩

set_option maxHeartbeats 1000000 in
theorem idxV_any (A : Option Addr) (n c : Nat) (fs : List Fil) (f : Fil) (w : World) (hl : fs.length = n) (hr : Rd w A (filV fs)) (hn : n ≤ 140737488355328) :
    Calls Tryz.prog 58 #[.slice A n c, .agg #[.string f.1, .string f.2]] w (IdxPost w (fs.any fun g => decide (f = g))) := by
  have HL := hid hl
  have hal : ∀ (W : World) (o : Obj), Below W.heap.size W (W.alloc o) := fun W o => (Below.refl _ _).alloc (Nat.le_refl _) o
  have P0 := Blk.new w [.string f.1, .string f.2] 38
  have b0 := hal w (.cells #[.string f.1, .string f.2] 38)
  clear hl
  go_enter Tryz.func58, Tryz.ntmps58
  go_wp2_with fail
  go_loopw [8] (fun i wr => ∃ j : Nat, j ≤ n ∧ i = .int .i64 j ∧ Hid ((fs.take j).any (fun g => decide (f = g)) = false) ∧ Blk wr w.heap.size [.string f.1, .string f.2] 38 ∧ Below w.heap.size w wr) (fun i _ => n - (intOf i).toNat)
  case atStart => exact ⟨0, by omega, rfl, by simp [Hid], Blk.new w [.string f.1, .string f.2] 38, b0⟩
  case round =>
    obtain ⟨j, hj, rfl, HO, pk, hb⟩ := hrel
    by_cases hjn : j < n
    · have hjl : j < fs.length := by rw [HL.out]; exact hjn
      obtain ⟨b, off, rfl, h1, h2, -⟩ := (hr.below hb).fil hjl
      have HK := hid (any_take_step (fun g => decide (f = g)) fs j hjl)
      have HM := hid (List.getElem_mem hjl)
      have c1 := pk.cell 0
      have c2 := pk.cell 1
      simp only [List.getElem?_cons_zero, List.getElem?_cons_succ] at c1 c2
      generalize fs[j] = g at *
      have hz : (0 : Int) ≤ j := by omega
      have hlt : (j : Int) < n := by omega
      have hep := eqF f g
      have hb1 := hb.drew
      go_wp2_with fail
      refine wp_region_held_drew (S := fun w' => (w'.cell? ⟨w.heap.size, 0, none⟩ = some (.string f.1) ∧ w'.cell? ⟨w.heap.size, 1, none⟩ = some (.string f.2)) ∧ w'.cell? ⟨b, off + j * 2, none⟩ = some (.string g.1) ∧ w'.cell? ⟨b, off + j * 2 + 1, none⟩ = some (.string g.2)) (by kernel_rfl) ⟨⟨c1, c2⟩, h1, h2⟩ (fun hHeld => ?_)
      refine wpAnyH_take (i := 0) (oi := ⟨_, _, _, _, _, _⟩) (v := ?_) rfl (by kernel_rfl) (by kernel_rfl) (by kernel_rfl) (fun _ _ _ h => h) (Or.inl ⟨by rfl, ?_⟩) (by assumption) ?_
      rotate_left
      · intro w hSw; (try dsimp only at hSw); go_simp; (try (with_reducible rfl))
      try simp only [Act.put, List.setIfInBounds_toArray, List.set_cons_zero, List.set_cons_succ]
      refine wpAnyH_take (i := 1) (oi := ⟨_, _, _, _, _, _⟩) (v := ?_) rfl (by kernel_rfl) (by kernel_rfl) (by kernel_rfl) (fun _ _ _ h => h) (Or.inl ⟨by rfl, ?_⟩) (by assumption) ?_
      rotate_left
      · intro w hSw; (try dsimp only at hSw); go_simp; (try (with_reducible rfl))
      try simp only [Act.put, List.setIfInBounds_toArray, List.set_cons_zero, List.set_cons_succ]
      refine wpAnyH_take (i := 2) (oi := ⟨_, _, _, _, _, _⟩) (v := ?_) rfl (by kernel_rfl) (by kernel_rfl) (by kernel_rfl) (fun _ _ _ h => h) (Or.inl ⟨by rfl, ?_⟩) (by assumption) ?_
      rotate_left
      · intro w hSw; (try dsimp only at hSw); go_simp; (try (with_reducible rfl))
      try simp only [Act.put, List.setIfInBounds_toArray, List.set_cons_zero, List.set_cons_succ]
      refine wpAnyH_take (i := 3) (oi := ⟨_, _, _, _, _, _⟩) (v := ?_) rfl (by kernel_rfl) (by kernel_rfl) (by kernel_rfl) (fun _ _ _ h => h) (Or.inl ⟨by rfl, ?_⟩) (by assumption) ?_
      rotate_left
      · intro w hSw; (try dsimp only at hSw); go_simp; (try (with_reducible rfl))
      try simp only [Act.put, List.setIfInBounds_toArray, List.set_cons_zero, List.set_cons_succ]
      refine wpAnyH_take (i := 4) (oi := ⟨_, _, _, _, _, _⟩) (v := ?_) rfl (by kernel_rfl) (by kernel_rfl) (by kernel_rfl) (fun _ _ _ h => h) (Or.inl ⟨by rfl, ?_⟩) (by assumption) ?_
      rotate_left
      · intro w hSw; (try dsimp only at hSw); go_simp; (try (with_reducible rfl))
      try simp only [Act.put, List.setIfInBounds_toArray, List.set_cons_zero, List.set_cons_succ]
      refine wpAnyH_take (i := 5) (oi := ⟨_, _, _, _, _, _⟩) (v := ?_) rfl (by kernel_rfl) (by kernel_rfl) (by kernel_rfl) (fun _ _ _ h => h) (Or.inl ⟨by rfl, ?_⟩) (by assumption) ?_
      rotate_left
      · intro w hSw; (try dsimp only at hSw); go_simp; (try (with_reducible rfl))
      try simp only [Act.put, List.setIfInBounds_toArray, List.set_cons_zero, List.set_cons_succ]
      refine wpAnyH_done (by kernel_rfl) ?_ _
      clear hHeld hep
      cases hq : (decide (f = g))
      · go_wp2
        go_roundw
        case rel => exact ⟨j + 1, by omega, by go_num, hid (by rw [HK.out, HO.out, hq]; rfl), pk.drew, hb1⟩
        case measure => simp [intOf]; omega
      · have HQ := hid hq
        clear hq
        go_wp2
        go_ret
        refine ⟨j, rfl, ?_, hb1⟩
        rw [decide_eq_true hz]
        exact (List.any_eq_true.2 ⟨g, HM.out, HQ.out⟩).symm
    · have HE := hid (show j = n by omega)
      have hnlt : ¬ (j : Int) < n := by omega
      go_wp2
      go_ret
      refine ⟨-1, rfl, ?_, hb⟩
      have ho := HO.out
      rw [HE.out, ← HL.out, List.take_length] at ho
      rw [ho]; rfl

set_option maxHeartbeats 400000 in
theorem contV_any (A : Option Addr) (n c : Nat) (fs : List Fil) (f : Fil) (w : World) (hl : fs.length = n) (hr : Rd w A (filV fs)) (hn : n ≤ 140737488355328) :
    Calls Tryz.prog 41 #[.slice A n c, .agg #[.string f.1, .string f.2]] w fun x w' => x = .returned (.bool (fs.any (fun g => decide (f = g)))) ∧ Below w.heap.size w w' := by
  have c0 := idxV_any A n c fs f (w.alloc (.cells #[.string f.1, .string f.2] 38)) hl (hr.alloc _) hn
  clear hl hr
  generalize fs.any (fun g => decide (f = g)) = b at *
  go_enter Tryz.func41, Tryz.ntmps41
  go_wp2_with fail
  refine c0.mono ?_
  rintro e w1 ⟨z, rfl, hz, hb1⟩
  clear c0
  have HZ := hid hz
  clear hz
  go_wp2
  go_ret
  exact ⟨ret_bool HZ.out, below_al _ hb1⟩

/-! ### Is a string there? -/
end Go.Proofs.YtaidggjnpnfdhaaGreatDoor
