/- TreeFull: the walk. -/
import Derived.Test.YtblfpmlnpaibkaaDoorTm
import Derived.Deep.OwnRows
namespace Go.Proofs.YtblfpmlnpaibkaaDoor
open Go.RowKit

/-- The path that is put as the j-th. -/
def pkL (j : Nat) : List UInt8 := [102, UInt8.ofNat (97 + j % 26), UInt8.ofNat (97 + j / 26)]
def pk (j : Nat) : ByteArray := mkS (pkL j)
def full (D : ByteArray) (m : Nat) : List Fil := (List.range m).map fun k => (pk k, D)
theorem full_len (D : ByteArray) (m : Nat) : (full D m).length = m := by simp [full]
theorem mem_full {D : ByteArray} {m : Nat} {f : Fil} : f ∈ full D m ↔ ∃ k < m, f = (pk k, D) := by
  simp only [full, List.mem_map, List.mem_range]
  constructor
  · rintro ⟨k, h, rfl⟩; exact ⟨k, h, rfl⟩
  · rintro ⟨k, h, rfl⟩; exact ⟨k, h, rfl⟩
theorem full_pth (D : ByteArray) (m : Nat) : (full D m).map pth = (List.range m).map pkL := by
  rw [full, List.map_map]
  rfl
theorem full_right {D : ByteArray} (hD : D.size ≤ 600) {m : Nat} (hm : m ≤ 16) : RightT (full D m) := by
  have h16 : RightT (full D 16) := by
    refine (treeR_iff _).1 ?_
    rw [treeR, full_pth, full_len, show sortedL ((List.range 16).map pkL) = true by kernel_rfl, show apartL ((List.range 16).map pkL) = true by kernel_rfl]
    simp only [Bool.and_true, Nat.le_refl, decide_true, Bool.true_and, List.all_eq_true, decide_eq_true_eq]
    intro f hf
    obtain ⟨k, _, rfl⟩ := mem_full.1 hf
    exact hD
  have sub : ∀ f ∈ full D m, f ∈ full D 16 := fun f hf => by
    obtain ⟨k, h, rfl⟩ := mem_full.1 hf
    exact mem_full.2 ⟨k, by omega, rfl⟩
  refine ⟨by rw [full_len]; omega, ?_, fun f hf => h16.paths f (sub f hf), fun f hf => h16.datas f (sub f hf), fun f hf g hg => h16.apart f (sub f hf) g (sub g hg)⟩
  have e : full D m = (full D 16).take m := by
    rw [full, full, ← List.map_take, List.take_range, Nat.min_eq_left hm]
  rw [e]
  exact List.Pairwise.sublist (List.take_sublist _ _) h16.srt
theorem pk_right {j : Nat} (hj : j < 40) : rightL (pk j).data.toList = true :=
  List.all_eq_true.1 (show (List.range 40).all (fun j => rightL (pk j).data.toList) = true by kernel_rfl) j (List.mem_range.2 hj)
theorem pk_clash {j k : Nat} (hj : j < 40) (hk : k < 16) : clashL (pkL k) (pkL j) = false := by
  have h := List.all_eq_true.1 (show (List.range 40).all (fun j => (List.range 16).all fun k => !clashL (pkL k) (pkL j)) = true by kernel_rfl) j (List.mem_range.2 hj)
  simpa using List.all_eq_true.1 h k (List.mem_range.2 hk)
theorem pk_apart {j k : Nat} (hj : j < 40) (hk : k < 16) (hne : k ≠ j) : pkL k ≠ pkL j := by
  have h := List.all_eq_true.1 (show (List.range 40).all (fun j => (List.range 16).all fun k => k == j || pkL k != pkL j) = true by kernel_rfl) j (List.mem_range.2 hj)
  have h2 := List.all_eq_true.1 h k (List.mem_range.2 hk)
  rw [Bool.or_eq_true, beq_iff_eq] at h2
  rcases h2 with h2 | h2
  · exact absurd h2 hne
  · simpa using h2
theorem full_clash {D : ByteArray} {m j : Nat} (hj : j < 40) (hm : m ≤ 16) : clashT (full D m) (pk j).data.toList = false := by
  refine not_true fun h => ?_
  obtain ⟨f, hf, hc⟩ := List.any_eq_true.1 h
  obtain ⟨k, hk, rfl⟩ := mem_full.1 hf
  have := pk_clash hj (show k < 16 by omega)
  rw [show clashL (pth (pk k, D)) (pk j).data.toList = clashL (pkL k) (pkL j) from rfl, this] at hc
  cases hc
theorem full_there {D : ByteArray} {m j : Nat} (hj : j < 40) (hm : m ≤ 16) (hmj : m ≤ j) : thereT (full D m) (pk j).data.toList = false := by
  refine there_no.2 fun f hf => ?_
  obtain ⟨k, hk, rfl⟩ := mem_full.1 hf
  exact pk_apart hj (by omega) (by omega)
theorem full_ok {D : ByteArray} (hD : D.size ≤ 600) {j : Nat} (hj : j < 16) : putE (full D j) (pk j) D = 0 :=
  putE_zero.2 ⟨full_right hD (by omega), pk_right (by omega), full_clash (by omega) (by omega), hD, .inr (by rw [full_len]; exact hj)⟩
theorem full_put {D : ByteArray} (hD : D.size ≤ 600) {j : Nat} (hj : j < 16) : putL (full D j) (pk j) D = full D (j + 1) := by
  refine Srt.unique (right_putT (full_ok hD hj)).srt (full_right hD (by omega)).srt fun f => ?_
  rw [mem_put, mem_full, mem_full]
  constructor
  · rintro (rfl | ⟨⟨k, hk, rfl⟩, _⟩)
    · exact ⟨j, by omega, rfl⟩
    · exact ⟨k, by omega, rfl⟩
  · rintro ⟨k, hk, rfl⟩
    by_cases e : k = j
    · subst e; exact .inl rfl
    · exact .inr ⟨⟨k, by omega, rfl⟩, pk_apart (by omega) (by omega) e⟩
theorem full_no {D : ByteArray} (hD : D.size ≤ 600) {j : Nat} (hj : j < 40) (h16 : 16 ≤ j) : putE (full D 16) (pk j) D = 2 :=
  putE_full ((treeR_iff _).2 (full_right hD (Nat.le_refl _))) (pk_right hj) (full_clash hj (Nat.le_refl _)) (.inr ⟨full_there hj (Nat.le_refl _) h16, full_len D 16⟩)
theorem full_big {D : ByteArray} (hD : 600 < D.size) {j : Nat} (hj : j < 40) : putE [] (pk j) D = 2 :=
  putE_full rfl (pk_right hj) rfl (.inl hD)
theorem full_size (D : ByteArray) (m : Nat) : sizeT (full D m) = m * D.size := by
  rw [sizeT, full, List.map_map]
  induction m with
  | zero => simp
  | succ m ih => rw [List.range_succ, List.map_append, List.sum_append, ih, Nat.succ_mul]; simp
theorem pk_size (j : Nat) : (pk j).size = 3 := rfl

theorem conv_one (W : World) (x : UInt8) (z : Int) (hz : z = (x.toNat : Int)) : (convert 49 9 (.slice (some ⟨W.heap.size, 0, none⟩) 1 1)).run Tryd.prog (W.alloc (.cells #[.int .u8 z] 5)) = .ok (.string ⟨#[x]⟩) (W.alloc (.cells #[.int .u8 z] 5)) := by
  subst hz
  exact conv_rd (P := Tryd.prog) _ 49 9 5 Tryd.underlying49 Tryd.underlying5 Tryd.underlying9 (some ⟨W.heap.size, 0, none⟩) 1 1 [x] rfl (.inr ⟨_, rfl, new_cells W 5 (by8 [x])⟩)
theorem pk_join (j : Nat) : (⟨#[102]⟩ : ByteArray) ++ ⟨#[UInt8.ofNat (97 + j % 26)]⟩ ++ ⟨#[UInt8.ofNat (97 + j / 26)]⟩ = pk j := by
  apply data_inj
  rw [app_data, app_data]
  rfl

set_option maxHeartbeats 1000000 in
set_option maxRecDepth 20000 in
theorem treeFull_walk (n z : Int) (w : World) (_ : (Lit.int .i64 n).wf = true) (_ : (Lit.int .i64 z).wf = true) :
    Calls Tryd.prog 9 #[.int .i64 n, .int .i64 z] w fun e w' => e = .returned (.bool true) ∧ Below w.heap.size w w' := by
  go_enter Tryd.func9, Tryd.ntmps9
  go_wp2_with fail
  refine (small_any _).mono ?_
  rintro e w1 ⟨rfl, b1⟩
  by_cases hn0 : n < 0
  · go_wp2
    go_ret
    exact ⟨rfl, b1⟩
  have hn0b : decide (n < 0) = false := by simp; omega
  by_cases hn4 : 40 < n
  · go_wp2
    go_ret
    exact ⟨rfl, b1⟩
  have hn4b : decide (40 < n) = false := by simp; omega
  by_cases hz0 : z < 0
  · go_wp2
    go_ret
    exact ⟨rfl, b1⟩
  have hz0b : decide (z < 0) = false := by simp; omega
  by_cases hz7 : 700 < z
  · go_wp2
    go_ret
    exact ⟨rfl, b1⟩
  have hz7b : decide (700 < z) = false := by simp; omega
  obtain ⟨N, rfl⟩ : ∃ N : Nat, n = N := ⟨n.toNat, by omega⟩
  obtain ⟨Z, rfl⟩ : ∃ Z : Nat, z = Z := ⟨z.toNat, by omega⟩
  have hmk : (Instr.makeSlice 49 (.int .i64 (Z : Int)) (.int .i64 (Z : Int))).run Tryd.prog w1 = .ok (.slice (some ⟨w1.heap.size, 0, none⟩) Z Z) (w1.alloc (.cells (List.replicate Z (Value.int .u8 0)).toArray 5)) := by
    rw [← made_one]
    exact run_make_row' 49 5 (.int .u8 0) 1 Tryd.underlying49 Tryd.info8 rfl .i64 .i64 Z (by omega) (by omega) w1
  have hrd : Rd (w1.alloc (.cells (List.replicate Z (Value.int .u8 0)).toArray 5)) (some ⟨w1.heap.size, 0, none⟩) (by8 (List.replicate Z 0)) := by
    have := new_cells w1 5 (List.replicate Z (Value.int .u8 0))
    refine .inr ⟨_, rfl, ?_⟩
    rw [show by8 (List.replicate Z 0) = List.replicate Z (Value.int .u8 0) by simp [by8]]
    exact this
  have hcv := conv_rd (P := Tryd.prog) (w1.alloc (.cells (List.replicate Z (Value.int .u8 0)).toArray 5)) 49 9 5 Tryd.underlying49 Tryd.underlying5 Tryd.underlying9 (some ⟨w1.heap.size, 0, none⟩) Z Z (List.replicate Z 0) (by simp) hrd
  have b2 := b1.alloc b1.size (.cells (List.replicate Z (Value.int .u8 0)).toArray 5)
  obtain ⟨W2, hW2⟩ : ∃ W2, w1.alloc (.cells (List.replicate Z (Value.int .u8 0)).toArray 5) = W2 := ⟨_, rfl⟩
  rw [hW2] at hmk hcv b2
  have hDs : (⟨(List.replicate Z (0 : UInt8)).toArray⟩ : ByteArray).size = Z := by simp [ByteArray.size]
  generalize (⟨(List.replicate Z (0 : UInt8)).toArray⟩ : ByteArray) = D at *
  clear hrd hW2 b1
  have hsD : Z ≤ 700 := by omega
  by_cases h600 : Z ≤ 600
  · have hD : D.size ≤ 600 := by omega
    have HD := hid hD
    go_wp2_with fail
    go_loopw [6, 8] (fun x i wr => ∃ (j : Nat) (A' : Option Addr) (c' : Nat), j ≤ N ∧ i = .int .i64 j ∧ x = .slice A' (min j 16) c' ∧ Ft wr A' (min j 16) c' (full D (min j 16)) ∧ Below w.heap.size w wr) (fun _ i _ => N - (intOf i).toNat)
    case atStart => exact ⟨0, none, 0, by omega, rfl, rfl, ⟨rfl, .inl rfl, Nat.le_refl _, by omega, by omega, by simp [full]⟩, b2⟩
    case round =>
      clear b2
      obtain ⟨j, Aj, cj, hj, rfl, rfl, tj, b⟩ := hrel
      by_cases hjN : j < N
      · have hlt : (j : Int) < N := by omega
        have hj40 : j < 40 := by omega
        have hcv1 := conv_one wr (UInt8.ofNat (97 + j % 26)) (97 + (j : Int) % 26) (by rw [UInt8.toNat_ofNat']; omega)
        have hcv2 := conv_one (wr.alloc (.cells #[.int .u8 (97 + (j : Int) % 26)] 5)) (UInt8.ofNat (97 + j / 26)) (97 + (j : Int) / 26) (by rw [UInt8.toNat_ofNat']; omega)
        rw [show (wr.alloc (.cells #[.int .u8 (97 + (j : Int) % 26)] 5)).heap.size = wr.heap.size + 1 by simp] at hcv2
        obtain ⟨x1, HX1⟩ : ∃ x1 : UInt8, Hid (UInt8.ofNat (97 + j % 26) = x1) := ⟨_, rfl⟩
        obtain ⟨x2, HX2⟩ : ∃ x2 : UInt8, Hid (UInt8.ofNat (97 + j / 26) = x2) := ⟨_, rfl⟩
        rw [HX1.out] at hcv1
        rw [HX2.out] at hcv2
        have t2 := tj.below (((Below.refl _ wr).alloc (Nat.le_refl _) (.cells #[.int .u8 (97 + (j : Int) % 26)] 5)).alloc (by simp) (.cells #[.int .u8 (97 + (j : Int) / 26)] 5))
        have b2 := below2 b (((Below.refl _ wr).alloc (Nat.le_refl _) (.cells #[.int .u8 (97 + (j : Int) % 26)] 5)).alloc (by simp) (.cells #[.int .u8 (97 + (j : Int) / 26)] 5))
        go_upto_region 10 with (fail)
        rw [show (⟨#[102]⟩ : ByteArray) ++ ⟨#[x1]⟩ ++ ⟨#[x2]⟩ = pk j by rw [← HX1.out, ← HX2.out]; exact pk_join j]
        clear hcv1 hcv2 tj b
        generalize (wr.alloc (.cells #[.int .u8 (97 + (j : Int) % 26)] 5)).alloc (.cells #[.int .u8 (97 + (j : Int) / 26)] 5) = wb at *
        by_cases h16 : j < 16
        · have hmj : min j 16 = j := by omega
          rw [hmj] at t2 ⊢
          have hmj1 : j + 1 = min (j + 1) 16 := by omega
          go_wp2_with fail
          refine (put_yes t2 (pk j) D (by rw [pk_size]; omega) (by omega) (full_ok HD.out h16)).mono ?_
          rw [full_put HD.out h16]
          rintro e w3 ⟨A3, n3, c3, rfl, x3, -, hb3⟩
          have hn3 : n3 = j + 1 := by rw [← x3.len, full_len]
          subst hn3
          have b3 := below2 b2 hb3
          clear t2 b2 hb3
          have hzb : decide ((Z : Int) ≤ 600) = true := by simp; omega
          have h16b : decide ((j : Int) < 16) = true := by simp; omega
          have HM := hid hmj1
          clear hmj1 hmj
          go_wp2
          go_roundw
          case rel => exact ⟨j + 1, A3, c3, by omega, by go_num, by rw [← HM.out], by rw [← HM.out]; exact x3, b3⟩
          case measure => simp [intOf]; omega
        · have hmj : min j 16 = 16 := by omega
          have hmj1 : min j 16 = min (j + 1) 16 := by omega
          have hE := full_no HD.out hj40 (by omega)
          rw [← hmj] at hE
          have HE := hid hE
          have hm16 : decide (((min j 16 : Nat) : Int) < 16) = false := by simp; omega
          have HM := hid hmj1
          clear hE hmj hmj1
          generalize min j 16 = m at *
          go_wp2_with fail
          refine (put_any t2 (pk j) D (by rw [pk_size]; omega) (by omega)).mono ?_
          rw [HE.out]
          rintro e w3 ⟨A3, n3, c3, rfl, -, hb3⟩
          have t3 := t2.below hb3
          have b3 := below2 b2 hb3
          clear t2 b2 hb3
          have hzb : decide ((Z : Int) ≤ 600) = true := by simp; omega
          go_wp2
          go_roundw
          case rel => exact ⟨j + 1, Aj, cj, by omega, by go_num, by rw [← HM.out], by rw [← HM.out]; exact t3, b3⟩
          case measure => simp [intOf]; omega
      · have hnlt : ¬ (j : Int) < N := by omega
        have hjN2 : j = N := by omega
        subst hjN2
        have hz6 : decide ((600 : Int) < Z) = false := by simp; omega
        have HFS := hid (full_size D (min j 16))
        have hms : min j 16 ≤ 16 := by omega
        have hmb : (((min j 16 : Nat) : Int) == min (j : Int) 16) = true := by rw [beq_iff_eq]; omega
        have HSZ := hid hDs
        have hbig : min j 16 * Z ≤ 16 * 700 := Nat.mul_le_mul hms hsD
        generalize min j 16 = m at *
        have hmw : wrap64 ((m : Int) * (Z : Int)) = (m : Int) * (Z : Int) := by
          rw [← Int.natCast_mul]
          generalize m * Z = k at *
          unfold wrap64
          omega
        go_wp2_with fail
        refine (size_any tj (by rw [HFS.out, HSZ.out]; omega)).mono ?_
        rw [HFS.out, HSZ.out]
        rintro e w3 ⟨rfl, hb3⟩
        have b3 := below2 b hb3
        go_wp2
        go_ret
        exact ⟨rfl, b3⟩
  · have hD : 600 < D.size := by omega
    have HD := hid hD
    go_wp2_with fail
    go_loopw [6, 8] (fun x i wr => ∃ j : Nat, j ≤ N ∧ i = .int .i64 j ∧ x = .slice none 0 0 ∧ Below w.heap.size w wr) (fun _ i _ => N - (intOf i).toNat)
    case atStart => exact ⟨0, by omega, rfl, rfl, b2⟩
    case round =>
      clear b2
      obtain ⟨j, hj, rfl, rfl, b⟩ := hrel
      by_cases hjN : j < N
      · have hlt : (j : Int) < N := by omega
        have hj40 : j < 40 := by omega
        have tj : Ft wr none 0 0 [] := ⟨rfl, .inl rfl, Nat.le_refl _, by omega, by omega, by simp⟩
        have hcv1 := conv_one wr (UInt8.ofNat (97 + j % 26)) (97 + (j : Int) % 26) (by rw [UInt8.toNat_ofNat']; omega)
        have hcv2 := conv_one (wr.alloc (.cells #[.int .u8 (97 + (j : Int) % 26)] 5)) (UInt8.ofNat (97 + j / 26)) (97 + (j : Int) / 26) (by rw [UInt8.toNat_ofNat']; omega)
        rw [show (wr.alloc (.cells #[.int .u8 (97 + (j : Int) % 26)] 5)).heap.size = wr.heap.size + 1 by simp] at hcv2
        obtain ⟨x1, HX1⟩ : ∃ x1 : UInt8, Hid (UInt8.ofNat (97 + j % 26) = x1) := ⟨_, rfl⟩
        obtain ⟨x2, HX2⟩ : ∃ x2 : UInt8, Hid (UInt8.ofNat (97 + j / 26) = x2) := ⟨_, rfl⟩
        rw [HX1.out] at hcv1
        rw [HX2.out] at hcv2
        have t2 := tj.below (((Below.refl _ wr).alloc (Nat.le_refl _) (.cells #[.int .u8 (97 + (j : Int) % 26)] 5)).alloc (by simp) (.cells #[.int .u8 (97 + (j : Int) / 26)] 5))
        have b2 := below2 b (((Below.refl _ wr).alloc (Nat.le_refl _) (.cells #[.int .u8 (97 + (j : Int) % 26)] 5)).alloc (by simp) (.cells #[.int .u8 (97 + (j : Int) / 26)] 5))
        go_upto_region 10 with (fail)
        rw [show (⟨#[102]⟩ : ByteArray) ++ ⟨#[x1]⟩ ++ ⟨#[x2]⟩ = pk j by rw [← HX1.out, ← HX2.out]; exact pk_join j]
        clear hcv1 hcv2 tj b
        generalize (wr.alloc (.cells #[.int .u8 (97 + (j : Int) % 26)] 5)).alloc (.cells #[.int .u8 (97 + (j : Int) / 26)] 5) = wb at *
        have HE := hid (full_big HD.out hj40)
        go_wp2_with fail
        refine (put_any t2 (pk j) D (by rw [pk_size]; omega) (by omega)).mono ?_
        rw [HE.out]
        rintro e w3 ⟨A3, n3, c3, rfl, -, hb3⟩
        have b3 := below2 b2 hb3
        clear t2 b2 hb3
        have hzb : decide ((Z : Int) ≤ 600) = false := by simp; omega
        go_wp2
        go_roundw
        case rel => exact ⟨j + 1, by omega, by go_num, rfl, b3⟩
        case measure => simp [intOf]; omega
      · have hnlt : ¬ (j : Int) < N := by omega
        have hz6 : decide ((600 : Int) < Z) = true := by simp; omega
        go_wp2
        go_ret
        exact ⟨rfl, b⟩
end Go.Proofs.YtblfpmlnpaibkaaDoor
