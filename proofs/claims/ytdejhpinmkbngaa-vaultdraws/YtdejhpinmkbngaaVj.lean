/- VaultDraws: the walk. -/
import Derived.Test.YtdejhpinmkbngaaVi
namespace Go.Proofs.Ytdejhpinmkbngaa
open Go.RowKit Go.Maps

abbrev b112 : ByteArray := ⟨#[112]⟩
def numI (x : Int) (j : Nat) : Int := (x % 4294967296 + j) % 4294967296
theorem numI_eq (x : Int) (j : Nat) : numI x j = (x + j) % 4294967296 := by unfold numI; omega
def drawsS (x : Int) (i : Nat) : List Sec := (List.range i).map fun j => ⟨numI x j, j, b97, b112⟩
def drawsN (x : Int) (i : Nat) : List Nam := (List.range i).map fun j => ⟨numI x j, j, b109⟩
theorem drawsS_len (x : Int) (i : Nat) : (drawsS x i).length = i := by simp [drawsS]
theorem drawsN_len (x : Int) (i : Nat) : (drawsN x i).length = i := by simp [drawsN]
theorem draws_eq (x : Int) (i : Nat) (hi : i ≤ 60) : draw ((List.range i).map (numI x)) x = numI x i := by
  refine draw_is (by simp; omega) (fun j hj => List.mem_map.2 ⟨j, List.mem_range.2 hj, rfl⟩) (fun h => ?_)
  obtain ⟨j, hj, e⟩ := List.mem_map.1 h
  have := List.mem_range.1 hj
  unfold numI at e
  omega
theorem drawsS_map (x : Int) (i : Nat) : (drawsS x i).map Sec.h = (List.range i).map (numI x) := by simp [drawsS, Function.comp_def]
theorem drawsN_map (x : Int) (i : Nat) : (drawsN x i).map Nam.h = (List.range i).map (numI x) := by simp [drawsN, Function.comp_def]
theorem drawsS_next (x : Int) (i : Nat) (hi : i ≤ 60) : sealI (drawsS x i) b112 x = numI x i ∧ sealC b112 = 0 ∧ sealT (drawsS x i) i b97 b112 x = drawsS x (i + 1) := by
  have e : draw ((drawsS x i).map Sec.h) x = numI x i := by rw [drawsS_map, draws_eq x i hi]
  refine ⟨?_, by decide, ?_⟩
  · rw [sealI, if_pos (by decide), e]
  · rw [sealT, if_pos (by decide), sealS, e]
    simp [drawsS, List.range_succ]
theorem drawsN_next (x : Int) (i : Nat) (hi : i ≤ 60) : nameI (drawsN x i) i b109 x = numI x i ∧ nameN (drawsN x i) i b109 x = drawsN x (i + 1) := by
  have e : draw ((drawsN x i).map Nam.h) x = numI x i := by rw [drawsN_map, draws_eq x i hi]
  have hf : findN (drawsN x i) i b109 = none := by
    refine findN_none.2 (fun m hm h => ?_)
    obtain ⟨j, hj, rfl⟩ := List.mem_map.1 hm
    have := List.mem_range.1 hj
    have := h.1
    simp at this
    omega
  unfold nameI nameN
  rw [hf, e]
  exact ⟨rfl, by simp [drawsN, List.range_succ]⟩

set_option maxHeartbeats 4000000 in
set_option maxRecDepth 20000 in
theorem vaultDraws_walk (x n : Int) (w : World) (_ : (Lit.int .i64 x).wf = true) (_ : (Lit.int .i64 n).wf = true) :
    Calls Try.prog 8 #[.int .i64 x, .int .i64 n] w fun e w' => e = .returned (.bool true) ∧ Below w.heap.size w w' := by
  go_enter Try.func8, Try.ntmps8
  go_wp2_with fail
  refine (small_any _).mono ?_
  rintro e w1 ⟨rfl, b1⟩
  go_wp2_with fail
  refine (st_new _).mono ?_
  rintro e w2 ⟨g, rfl, h2⟩
  by_cases h0 : n < 0
  · have b2 := below2 b1 h2.bel
    go_wp2
    go_ret
    exact ⟨rfl, b2⟩
  by_cases h60 : 60 < n
  · have b2 := below2 b1 h2.bel
    go_wp2
    go_ret
    exact ⟨rfl, b2⟩
  obtain ⟨m, rfl⟩ : ∃ m : Nat, n = (m : Int) := ⟨n.toNat, by omega⟩
  have hm : m ≤ 60 := by omega
  clear h60 h0
  have q1 : ¬ (m : Int) < 0 := by omega
  have q2 : ¬ 60 < (m : Int) := by omega
  go_wp2_with fail
  clear q1 q2
  go_loopw [7] (fun i wr => ∃ j : Nat, j ≤ m ∧ i = .int .i64 j ∧ St w1 wr g (drawsS x j) (drawsN x j)) (fun i _ => m - (intOf i).toNat)
  case atStart => exact ⟨0, by omega, rfl, h2⟩
  case round =>
    obtain ⟨j, hj, rfl, h3⟩ := hrel
    clear h2
    by_cases hjn : j < m
    · have hjz : (j : Int) < m := by omega
      have hm32 := mask32 x
      have hL1 : (drawsS x j).length < 16384 := by rw [drawsS_len]; omega
      have hL2 : (drawsN x j).length < 16384 := by rw [drawsN_len]; omega
      go_wp2_with fail
      refine (st_seal h3 j b97 b112 x (by decide) hL1).mono ?_
      rintro e w4 ⟨rfl, h4⟩
      rw [(drawsS_next x j (by omega)).1, (drawsS_next x j (by omega)).2.1, numI_eq]
      rw [(drawsS_next x j (by omega)).2.2] at h4
      clear h3
      go_wp2_with fail
      refine (st_name h4 x ⟨by omega, by omega⟩ (by decide) hL2).mono ?_
      rintro e w5 ⟨rfl, h5⟩
      rw [(drawsN_next x j (by omega)).1, numI_eq]
      rw [(drawsN_next x j (by omega)).2] at h5
      clear h4
      go_wp2
      go_roundw
      case rel => exact ⟨j + 1, by omega, by go_num, h5⟩
      case measure => simp [intOf]; omega
    · have e : m = j := by omega
      subst e
      have hjz : ¬ (m : Int) < m := by omega
      have b3 := below2 b1 h3.bel
      go_wp2_with fail
      refine (st_sealed h3).mono ?_
      rintro e wu ⟨rfl, rfl⟩
      rw [drawsS_len]
      go_wp2_with fail
      refine (st_named h3).mono ?_
      rintro e wu ⟨rfl, rfl⟩
      rw [drawsN_len]
      go_wp2
      go_ret
      exact ⟨rfl, b3⟩
end Go.Proofs.Ytdejhpinmkbngaa
