/- The text Ey. -/
import Derived.Test.YtgafjbmpaeejbaaDoorR0
namespace Go.Proofs.YtgafjbmpaeejbaaDoor
open Go.RowKit

/-- What pieces take. -/
def lenPs (ps : List Pce) : Nat := (ps.map fun p => 28 + p.path.size + 4 * p.chunks.length).sum
theorem lenPs_more (ps : List Pce) (j : Nat) (h : j < ps.length) : lenPs (ps.take (j + 1)) = lenPs (ps.take j) + (28 + ps[j].path.size + 4 * ps[j].chunks.length) := by
  unfold lenPs
  rw [List.take_add_one, List.getElem?_eq_getElem h, List.map_append, List.sum_append]
  simp
def filesPs (ps : List Pce) : Nat := (ps.filter (·.has)).length
theorem filesPs_more (ps : List Pce) (j : Nat) (h : j < ps.length) : filesPs (ps.take (j + 1)) = filesPs (ps.take j) + (if ps[j].has then 1 else 0) := by
  unfold filesPs
  rw [List.take_add_one, List.getElem?_eq_getElem h, List.filter_append, List.length_append]
  simp only [Option.toList, List.filter_cons, List.filter_nil]
  cases ps[j].has <;> simp
theorem lenPs_le : ∀ (ps : List Pce), (∀ p ∈ ps, p.path.size ≤ 200 ∧ p.chunks.length ≤ 30) → lenPs ps ≤ 348 * ps.length
  | [], _ => by simp [lenPs]
  | p :: ps, h => by
    have h1 := h p List.mem_cons_self
    have h2 := lenPs_le ps fun q hq => h q (List.mem_cons_of_mem _ hq)
    unfold lenPs at h2 ⊢
    rw [List.map_cons, List.sum_cons, List.length_cons]
    omega
theorem bdrew0 {g : Nat} {w w' : World} (h : Below g w w') (n : Nat) : Below g w (w'.drewN n) := ⟨h.1, h.2, h.3, h.4, h.5⟩
theorem bucket_ok12 {n : Nat} (h : n ≤ 5116) : 0 ≤ bucketI (n : Int) := by
  unfold bucketI
  (repeat' split) <;> omega
set_option maxHeartbeats 4000000 in
set_option maxRecDepth 20000 in
theorem recordSize_walk (A : Option Addr) (c : Nat) (m : Man) (w : World) (hm : Mt w A c m) :
    Calls Tryd.prog 6 #[manV m A c] w fun e w' => e = .returned (.bool true) ∧ Below w.heap.size w w' := by
  have hal : ∀ (W : World) (o : Obj), Below W.heap.size W (W.alloc o) := fun W o => (Below.refl _ _).alloc (Nat.le_refl _) o
  obtain ⟨a1, a2, a3, a4, a5, a6, a7, ps⟩ := m
  unfold manV
  dsimp only
  go_enter Tryd.func6, Tryd.ntmps6
  have bx := hal w (.cells #[.int .i64 a1, .int .i64 a2, .int .i64 a3, .int .i64 a4, .int .i64 a5, .int .i64 a6, .int .i64 a7, .slice A ps.length c] 24)
  have pm := Blk.new w [.int .i64 a1, .int .i64 a2, .int .i64 a3, .int .i64 a4, .int .i64 a5, .int .i64 a6, .int .i64 a7, .slice A ps.length c] 24
  replace hm := hm.below bx
  have cc := small12_any (w.alloc (.cells #[.int .i64 a1, .int .i64 a2, .int .i64 a3, .int .i64 a4, .int .i64 a5, .int .i64 a6, .int .i64 a7, .slice A ps.length c] 24))
  go_wp2_with fail
  refine cc.mono ?_
  clear cc
  have b1 := bx
  clear bx
  generalize w.alloc (.cells #[.int .i64 a1, .int .i64 a2, .int .i64 a3, .int .i64 a4, .int .i64 a5, .int .i64 a6, .int .i64 a7, .slice A ps.length c] 24) = w1 at *
  rintro e w2 ⟨rfl, bx⟩
  simp only
  replace hm := hm.below bx
  replace pm := pm.below bx
  have b2 := below2 b1 bx
  clear bx b1
  have q0 := pm.cell 0
  have q1 := pm.cell 1
  have q2 := pm.cell 2
  have q3 := pm.cell 3
  have q4 := pm.cell 4
  have q5 := pm.cell 5
  have q6 := pm.cell 6
  have q7 := pm.cell 7
  simp only [List.getElem?_cons_zero, List.getElem?_cons_succ] at q0 q1 q2 q3 q4 q5 q6 q7
  have cc := fewM_any hm
  go_wp2_with fail
  refine cc.mono ?_
  clear cc q0 q1 q2 q3 q4 q5 q6 q7
  rintro e w3 ⟨rfl, bx⟩
  simp only
  replace hm := hm.below bx
  replace pm := pm.below bx
  have b3 := below2 b2 bx
  clear bx b2
  cases hq : fewM (⟨a1, a2, a3, a4, a5, a6, a7, ps⟩ : Man)
  · clear hq
    go_wp2
    go_ret
    exact ⟨rfl, b3⟩
  have hqr := few_paths hq
  have hqb := few_bytes hq
  have hqp := few_pcs hq
  have HF := hid (fewM_sz hq)
  clear hq
  have q0 := pm.cell 0
  have q1 := pm.cell 1
  have q2 := pm.cell 2
  have q3 := pm.cell 3
  have q4 := pm.cell 4
  have q5 := pm.cell 5
  have q6 := pm.cell 6
  have q7 := pm.cell 7
  simp only [List.getElem?_cons_zero, List.getElem?_cons_succ] at q0 q1 q2 q3 q4 q5 q6 q7
  have cc := right12_any hm hqr
  go_wp2_with fail
  refine cc.mono ?_
  clear cc q0 q1 q2 q3 q4 q5 q6 q7
  rintro e w4 ⟨rfl, bx⟩
  simp only
  replace hm := hm.below bx
  replace pm := pm.below bx
  have b4 := below2 b3 bx
  clear bx b3
  cases hR : manR (⟨a1, a2, a3, a4, a5, a6, a7, ps⟩ : Man)
  · clear hR
    go_wp2
    go_ret
    exact ⟨rfl, b4⟩
  have HR := hid ((manR_iff _).1 hR)
  clear hR
  have HLE : Hid (∀ j, lenPs (ps.take j) ≤ 20880) := hid fun j => by
    have h1 := lenPs_le (ps.take j) fun p hp => HF.out.2 p (List.mem_of_mem_take hp)
    have h2 : ps.length ≤ 60 := HF.out.1
    rw [List.length_take] at h1
    omega
  have HPL : Hid (ps.length ≤ 60) := HF.out.1
  have hpl := HPL.out
  have lgm := pm.lt
  have k7 := pm.cell 7
  simp only [List.getElem?_cons_zero, List.getElem?_cons_succ] at k7
  have hpp := hm.ps
  go_wp2_with fail
  go_loopw [5, 6] (fun z i wr => ∃ j : Nat, j ≤ ps.length ∧ i = .int .i64 j ∧ z = .int .i64 ((32 + lenPs (ps.take j) : Nat) : Int) ∧ ∃ q, wr = w4.drewN q) (fun _ i _ => ps.length - (intOf i).toNat)
  case atStart => exact ⟨0, by omega, rfl, by simp [lenPs], 0, rfl⟩
  case round =>
    obtain ⟨j, hj, rfl, rfl, q, rfl⟩ := hrel
    by_cases hjn : j < ps.length
    · have hz : (0 : Int) ≤ j := by omega
      have hlt : (j : Int) < ps.length := by omega
      have HJ := hid hjn
      obtain ⟨b, og, C, cc, rfl, x0, -, -, x3, -, -, -, -, -, -, -⟩ := hpp.pc hjn
      have HM := hid (lenPs_more ps j hjn)
      have hl0 := HLE.out j
      have hxs : ps[j].path.size ≤ 200 ∧ ps[j].chunks.length ≤ 30 := HF.out.2 _ (List.getElem_mem hjn)
      generalize lenPs (ps.take j) = l0 at *
      generalize ps[j] = x at *
      generalize x.path = xp at *
      generalize x.chunks.length = xn at *
      have k7d : (w4.drewN q).cell? ⟨w.heap.size, 7, none⟩ = some (.slice (some ⟨b, og, none⟩) ps.length c) := k7
      have x0d : (w4.drewN q).cell? ⟨b, og + j * 7, none⟩ = some (.string xp) := x0
      have x3d : (w4.drewN q).cell? ⟨b, og + j * 7 + 3, none⟩ = some (.slice C xn cc) := x3
      go_wp2_with fail
      go_quiet (fail)
      go_wp2
      go_roundw
      case rel => exact ⟨j + 1, HJ.out, by go_num, by rw [HM.out]; congr 1; omega, _, rfl⟩
      case measure => have := HJ.out; simp [intOf]; omega
    · have hnl : ¬ (j : Int) < ps.length := by omega
      have HLP : Hid (lenPs (ps.take j) = lenPs ps) := by show _ = _; rw [List.take_of_length_le (by omega)]
      rw [HLP.out]
      have hl0 : lenPs ps ≤ 20880 := by have := HLE.out j; rw [HLP.out] at this; exact this
      have HLL : Hid (lenM (⟨a1, a2, a3, a4, a5, a6, a7, ps⟩ : Man) = 32 + lenPs ps) := rfl
      generalize lenPs ps = l0 at *
      have hmq := hm.drewN q
      have pmq := pm.drewN q
      have bq := bdrew0 b4 q
      have k7q : (w4.drewN q).cell? ⟨w.heap.size, 7, none⟩ = some (.slice A ps.length c) := k7
      have hppq := hmq.ps
      clear hm pm b4 k7 hpp
      generalize w4.drewN q = wd at *
      go_wp2_with fail
      go_loop [7, 8] (fun z i => ∃ j : Nat, j ≤ ps.length ∧ i = .int .i64 j ∧ z = .int .i64 (filesPs (ps.take j) : Nat)) (fun _ i => ps.length - (intOf i).toNat)
      case atStart => exact ⟨0, by omega, rfl, rfl⟩
      case round =>
        obtain ⟨j, hj, rfl, rfl⟩ := hrel
        by_cases hjn : j < ps.length
        · have hz : (0 : Int) ≤ j := by omega
          have hlt : (j : Int) < ps.length := by omega
          have HJ := hid hjn
          obtain ⟨b, og, C, cc, rfl, -, x1, -, -, -, -, -, -, -, -, -⟩ := hppq.pc hjn
          have HM := hid (filesPs_more ps j hjn)
          have hf0 : filesPs (ps.take j) ≤ 60 := by unfold filesPs; have := List.length_filter_le (·.has) (ps.take j); rw [List.length_take] at this; have := HPL.out; omega
          generalize filesPs (ps.take j) = f0 at *
          generalize ps[j].has = xh at *
          cases xh
          · have HM2 : Hid (filesPs (ps.take (j + 1)) = f0) := by show _ = _; rw [HM.out]; rfl
            go_wp2
            go_round
            case rel => exact ⟨j + 1, HJ.out, by go_num, by rw [HM2.out]⟩
            case measure => have := HJ.out; simp [intOf]; omega
          · have HM2 : Hid (filesPs (ps.take (j + 1)) = f0 + 1) := by show _ = _; rw [HM.out]; rfl
            go_wp2
            go_round
            case rel => exact ⟨j + 1, HJ.out, by go_num, by rw [HM2.out]; go_num⟩
            case measure => have := HJ.out; simp [intOf]; omega
        · have hnl : ¬ (j : Int) < ps.length := by omega
          have HFP : Hid (filesPs (ps.take j) = filesM (⟨a1, a2, a3, a4, a5, a6, a7, ps⟩ : Man)) := by show _ = _; rw [List.take_of_length_le (by omega)]; rfl
          rw [HFP.out]
          have HB := hid (fun h => lenM_le HR.out h)
          have hf0 : filesM (⟨a1, a2, a3, a4, a5, a6, a7, ps⟩ : Man) ≤ 60 := by unfold filesM; have := List.length_filter_le (·.has) ps; have := HPL.out; dsimp only; omega
          generalize filesM (⟨a1, a2, a3, a4, a5, a6, a7, ps⟩ : Man) = f0 at *
          obtain ⟨sB, hsB⟩ : ∃ s, toS (manB (⟨a1, a2, a3, a4, a5, a6, a7, ps⟩ : Man)) = s := ⟨_, rfl⟩
          have hsz : sB.size = 32 + l0 := by rw [← hsB, man_size, manB_len (fun p hp => by have := (HF.out.2 p hp).1; omega), HLL.out]
          rw [HLL.out] at HB
          have q0 := pmq.cell 0
          have q1 := pmq.cell 1
          have q2 := pmq.cell 2
          have q3 := pmq.cell 3
          have q4 := pmq.cell 4
          have q5 := pmq.cell 5
          have q6 := pmq.cell 6
          have q7 := pmq.cell 7
          simp only [List.getElem?_cons_zero, List.getElem?_cons_succ] at q0 q1 q2 q3 q4 q5 q6 q7
          have cc := bytes12_any hmq hqp hqb
          rw [hsB] at cc
          clear hsB
          go_wp2_with fail
          refine cc.mono ?_
          clear cc q0 q1 q2 q3 q4 q5 q6 q7
          rintro e w5 ⟨rfl, bx⟩
          simp only
          replace hmq := hmq.below bx
          replace pmq := pmq.below bx
          have b5 := below2 bq bx
          clear bx bq
          have hszi : ((sB.size : Nat) : Int) = ((32 + l0 : Nat) : Int) := by rw [hsz]
          by_cases hf : (16 : Int) < f0
          · go_wp2
            go_ret
            exact ⟨rfl, b5⟩
          have hbk := hid (bucket_ok12 (n := 32 + l0) (by have := HB.out (by omega); omega))
          clear HB
          go_wp2_with fail
          refine (bucket_any _ _).mono ?_
          rintro e w6 ⟨rfl, bx⟩
          simp only
          replace hmq := hmq.below bx
          replace pmq := pmq.below bx
          have b6 := below2 b5 bx
          clear bx b5
          have hb2 : 0 ≤ bucketI (32 + (l0 : Int)) := by have := hbk.out; rw [show ((32 + l0 : Nat) : Int) = 32 + (l0 : Int) by omega] at this; exact this
          go_wp2
          go_ret
          exact ⟨rfl, b6⟩
end Go.Proofs.YtgafjbmpaeejbaaDoor
