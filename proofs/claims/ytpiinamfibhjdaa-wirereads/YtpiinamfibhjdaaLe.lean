/- WireOne: the walk. -/
import Derived.Test.YtpiinamfibhjdaaPc
namespace Go.Proofs.Ytpiinamfibhjdaa
open Go.RowKit

theorem int_at {w : World} {A : Option Addr} {zs : List Int} {k : IntKind} (h : Rd w A (zs.map (Value.int k))) {j : Nat} (hj : j < zs.length) : ∃ b off, A = some ⟨b, off, none⟩ ∧ w.cell? ⟨b, off + j, none⟩ = some (.int k zs[j]) := by
  obtain ⟨b, off, rfl, hc, _⟩ := h.at_ (k := j) (by simpa using hj)
  exact ⟨b, off, rfl, by rw [hc]; simp⟩

/-- What holds at the head of the loop. -/
def OneInv (w : World) (g : Nat) (B : Option Addr) (d : Nat) (M : List UInt8) (j : Nat) (v : Value) (wr : World) : Prop :=
  ∃ p e A1 c1 out, v = .slice A1 out.length c1 ∧ RdrAt wr g B d M p e ∧ Rd wr A1 (by8 out) ∧ out.length ≤ j * 4200000 ∧ (e = 0 → out = M.take p) ∧ Below w.heap.size w wr

theorem one_step {w w2 w3 : World} {g : Nat} {B : Option Addr} {d : Nat} {M : List UInt8} {j p p' : Nat} {e e' : Int} {A2 : Option Addr} {c2 : Nat} {out more : List UInt8} (hb : Below w.heap.size w w2) (hq : RdrAt w2 g B d M p' e') (hb3 : Below w2.heap.size w2 w3)
    (hown : w3.ownsRow w2.heap.size 5 1 (.slice A2 (out.length + more.length) c2) (out.length + more.length) (by8 (out ++ more))) (hlen : out.length ≤ j * 4200000) (hm : more.length ≤ 4200000) (ho : e = 0 → out = M.take p)
    (hone : e' = 0 → e = 0 ∧ M.take p ++ more = M.take p') : OneInv w g B d M (j + 1) (.slice A2 (out.length + more.length) c2) w3 := by
  refine ⟨p', e', A2, c2, out ++ more, by simp, hq.below hb3, Rd.of_own hown, by simp; omega, ?_, hb.trans (hb3.mono hb.size)⟩
  intro h
  obtain ⟨h1, h2⟩ := hone h
  rw [ho h1, h2]

set_option maxHeartbeats 2000000 in
set_option maxRecDepth 100000 in
theorem wireOne_walk (A : Option Addr) (c : Nat) (M : List UInt8) (C : Option Addr) (cc : Nat) (zs : List Int) (w : World) (hr : Rd w A (by8 M)) (hlc : M.length ≤ c) (hc : c ≤ 140737488351232) (hz : Rd w C (zs.map (Value.int .i64))) (_ : zs.length ≤ cc) (hcc : cc * Try.prog.bytesOf 3 ≤ reachBytes) (_ : ∀ n ∈ zs, (Lit.int .i64 n).wf = true) :
    Calls Try.prog 6 #[.slice A M.length c, .slice C zs.length cc] w fun e w' => e = .returned (.bool true) ∧ Below w.heap.size w w' := by
  have hbo : Try.prog.bytesOf 3 = 8 := by kernel_rfl
  rw [hbo] at hcc
  have hcc' : cc ≤ 140737488351232 := by simp only [reachBytes] at hcc; omega
  clear hbo hcc
  go_enter Try.func6, Try.ntmps6
  go_wp2_with fail
  refine (small_any _).mono ?_
  rintro e w1 ⟨rfl, hb1⟩
  have hr1 := hr.below hb1
  go_wp2_with fail
  refine (read_any A M.length c M _ rfl hr1 (by omega)).mono ?_
  rintro e w2 ⟨g, B, d, rfl, hq2, hge, hb2⟩
  have hb2' := hb1.trans (hb2.mono hb1.size)
  have hg1 : w.heap.size ≤ g := Nat.le_trans hb1.size hge
  clear hr1 hb2 hb1 hge
  by_cases hM : M.length ≤ 5000 ∧ zs.length ≤ 100
  · obtain ⟨hM1, hz1⟩ := hM
    go_wp2_with fail
    go_loopw [7, 8] (fun v i wr => ∃ j : Nat, j ≤ zs.length ∧ i = .int .i64 j ∧ OneInv w g B d M j v wr) (fun _ i _ => zs.length - (intOf i).toNat)
    case atStart => exact ⟨0, by omega, rfl, 0, 0, none, 0, [], rfl, hq2, .inl rfl, by simp, fun _ => by simp, hb2'⟩
    case round =>
      clear hq2 hb2'
      obtain ⟨j, hj, rfl, p, e, A1, c1, out, rfl, hq3, hr3, hlen, ho, hb3⟩ := hrel
      have HO := hid ho
      clear ho
      by_cases hjn : j < zs.length
      · obtain ⟨b, off, rfl, hcell⟩ := int_at (hz.below hb3) hjn
        generalize zs[j] = z at *
        by_cases h0 : bits .and .i64 z 3 = 0
        · go_wp2_with fail
          refine (rdNumber g B d M p e 4294967295 _ hq3 (by omega)).mono ?_
          rintro r w4 ⟨rfl, hq4, hg4⟩
          have hr4 := hr3.grown hg4 (blk_not_by8 hq3.1)
          have hb4 := hb3.grown hg4 hb3.size (by intro k hk; simp at hk; omega)
          have HN := hid (one_num M p e 4294967295)
          generalize rNum M p e 4294967295 = y at *
          obtain ⟨y1, p4, e4⟩ := y
          simp only at hq4 HN ⊢
          clear hq3 hr3 hb3 hg4
          go_wp2_with fail
          refine (number_any A1 out.length c1 out y1 _ rfl hr4 (by omega)).mono ?_
          rintro r w5 ⟨A5, c5, rfl, hown5, hb5⟩
          have FIN := hid (one_step (more := numB y1) hb4 hq4 hb5 hown5 hlen (by rw [numB_length]; omega) HO.out HN.out)
          rw [numB_length] at FIN
          clear hown5 hb5 hb4 hq4 hr4 HO HN
          go_wp2
          go_roundw
          case rel => exact ⟨j + 1, by omega, by go_num, FIN.out⟩
          case measure => simp [intOf]; omega
        by_cases h3 : bits .and .i64 z 3 = 3
        · go_wp2_with fail
          refine (rdNumber g B d M p e 4294967295 _ hq3 (by omega)).mono ?_
          rintro r w4 ⟨rfl, hq4, hg4⟩
          have hr4 := hr3.grown hg4 (blk_not_by8 hq3.1)
          have hb4 := hb3.grown hg4 hb3.size (by intro k hk; simp at hk; omega)
          have HN := hid (one_num M p e 4294967295)
          generalize rNum M p e 4294967295 = y at *
          obtain ⟨y1, p4, e4⟩ := y
          simp only at hq4 HN ⊢
          clear hq3 hr3 hb3 hg4
          go_wp2_with fail
          refine (number_any A1 out.length c1 out y1 _ rfl hr4 (by omega)).mono ?_
          rintro r w5 ⟨A5, c5, rfl, hown5, hb5⟩
          have FIN := hid (one_step (more := numB y1) hb4 hq4 hb5 hown5 hlen (by rw [numB_length]; omega) HO.out HN.out)
          rw [numB_length] at FIN
          clear hown5 hb5 hb4 hq4 hr4 HO HN
          go_wp2
          go_roundw
          case rel => exact ⟨j + 1, by omega, by go_num, FIN.out⟩
          case measure => simp [intOf]; omega
        by_cases h1 : bits .and .i64 z 3 = 1
        · go_wp2_with fail
          refine (rdString g B d M p e 16384 _ hq3 (by omega)).mono ?_
          rintro r w4 ⟨rfl, hq4, hg4⟩
          have hr4 := hr3.grown hg4 (blk_not_by8 hq3.1)
          have hb4 := hb3.grown hg4 hb3.size (by intro k hk; simp at hk; omega)
          have HN := hid (one_str M p e 16384)
          have hsm := rStr_small M p e 16384
          generalize rStr M p e 16384 = y at *
          obtain ⟨y1, p4, e4⟩ := y
          simp only at hq4 HN hsm ⊢
          clear hq3 hr3 hb3 hg4
          have hty : (toS y1).size ≤ maxLen := by rw [toS_size]; unfold maxLen; omega
          have hsb := strB_le (toS y1)
          go_wp2_with fail
          refine (string_any A1 out.length c1 out (toS y1) _ rfl hr4 (by omega) hty).mono ?_
          rintro r w5 ⟨A5, c5, rfl, hown5, hb5⟩
          have FIN := hid (one_step (more := strB (toS y1)) hb4 hq4 hb5 hown5 hlen (by omega) HO.out HN.out)
          clear hown5 hb5 hb4 hq4 hr4 HO HN
          go_wp2
          go_roundw
          case rel => exact ⟨j + 1, by omega, by go_num, FIN.out⟩
          case measure => simp [intOf]; omega
        by_cases h2 : bits .and .i64 z 3 = 2
        · go_wp2_with fail
          refine (rdRow g B d M p e 256 16384 _ hq3 (by omega)).mono ?_
          rintro r w4 ⟨A4, c4, rfl, hown4, hq4, hg4⟩
          have hr4 := hr3.grown hg4 (blk_not_by8 hq3.1)
          have hb4 := hb3.grown hg4 hb3.size (by intro k hk; simp at hk; omega)
          have HN := hid (one_row M p e 256 16384)
          have HSm := hid (rRow_small M p e 256 16384)
          generalize rRow M p e 256 16384 = y at *
          obtain ⟨y1, p4, e4⟩ := y
          simp only at hq4 HN HSm hown4 ⊢
          obtain ⟨-, B4, d4, hv, hcc1, hcc2⟩ := own_form hown4
          injection hv with hv1 hv2 hv3
          subst hv1 hv3
          have hs4 := Rd.of_own hown4
          clear hq3 hr3 hb3 hg4 hown4 hv2
          have hsb := rowB_le (y1.map toS)
          go_wp2_with fail
          refine (row_any A1 out.length c1 out A4 y1.length c4 (y1.map toS) _ rfl hr4 (by simp) hcc1 hcc2 hs4 (fun s hs => by have := HSm.out s hs; unfold maxLen; omega) (by omega)).mono ?_
          rintro r w5 ⟨A5, c5, rfl, hown5, hb5⟩
          have FIN := hid (one_step (more := rowB (y1.map toS)) hb4 hq4 hb5 hown5 hlen hsb HO.out HN.out)
          clear hown5 hb5 hb4 hq4 hr4 HO HN hs4 HSm
          go_wp2
          go_roundw
          case rel => exact ⟨j + 1, by omega, by go_num, FIN.out⟩
          case measure => simp [intOf]; omega
        · have g0 : (bits .and .i64 z 3 == 0) = false := by simpa using h0
          have g1 : (bits .and .i64 z 3 == 1) = false := by simpa using h1
          have g2 : (bits .and .i64 z 3 == 2) = false := by simpa using h2
          have g3 : (bits .and .i64 z 3 == 3) = false := by simpa using h3
          have hlen' : out.length ≤ (j + 1) * 4200000 := Nat.le_trans hlen (Nat.mul_le_mul_right _ (Nat.le_succ j))
          clear h0 h1 h2 h3
          have fin : OneInv w g B d M (j + 1) (.slice A1 out.length c1) wr := ⟨p, e, A1, c1, out, rfl, hq3, hr3, hlen', HO.out, hb3⟩
          have FIN := hid fin
          clear fin hlen'
          go_wp2
          go_roundw
          case rel => exact ⟨j + 1, by omega, by go_num, FIN.out⟩
          case measure => simp [intOf]; omega
      · have hrw := hr.below hb3
        go_wp2_with fail
        refine (rdEnd g B d M p e _ hq3 (by omega)).mono ?_
        rintro r w4 ⟨rfl, hq4, hg4⟩
        have hr4 := hr3.grown hg4 (blk_not_by8 hq3.1)
        have hw4 := hrw.grown hg4 (blk_not_by8 hq3.1)
        have hb4 := hb3.grown hg4 hb3.size (by intro k hk; simp at hk; omega)
        have hpl := hq3.2.2.2.2
        by_cases he : rEnd M p e = 0
        · have hpe : e = 0 ∧ ¬ p < M.length := by
            unfold rEnd at he
            split at he
            · simp at he
            · rename_i h5; exact ⟨he, fun h6 => h5 ⟨he, h6⟩⟩
          have hout : out = M := by rw [HO.out hpe.1, List.take_of_length_le (by omega)]
          rw [he]
          subst hout
          have hc1 := conv_rd (P := Try.prog) w4 22 9 5 Try.underlying22 Try.underlying5 Try.underlying9 A1 out.length c1 out rfl hr4
          have hc2 := conv_rd (P := Try.prog) w4 22 9 5 Try.underlying22 Try.underlying5 Try.underlying9 A out.length c out rfl hw4
          clear hq4 hg4 hb3 hq3 hr3 HO he
          go_wp2
          go_ret
          exact ⟨rfl, hb4⟩
        · have hne : (rEnd M p e != 0) = true := by simp [he]
          generalize rEnd M p e = y at *
          clear hq3 hr3 hb3 HO
          go_wp2_with fail
          refine (rdErr g B d M p y _ hq4).mono ?_
          rintro r w5 ⟨rfl, rfl⟩
          go_wp2
          go_ret
          exact ⟨rfl, hb4⟩
  · go_wp2
    all_goals
      go_ret
      exact ⟨rfl, hb2'⟩
end Go.Proofs.Ytpiinamfibhjdaa
