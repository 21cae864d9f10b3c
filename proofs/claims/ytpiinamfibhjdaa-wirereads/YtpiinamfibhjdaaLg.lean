/- WireStops: the walk. -/
import Derived.Test.YtpiinamfibhjdaaLf
import Derived.Test.YtpiinamfibhjdaaLe
namespace Go.Proofs.Ytpiinamfibhjdaa
open Go.RowKit

/-- A call that leaves the world as it was leaves whatever holds of it. -/
theorem still_call {P : Program} {f : FuncId} {args : Array Value} {W : World} {v : Value} {R : World → Prop} (h : Calls P f args W fun e w' => e = .returned v ∧ w' = W) (hR : R W) : Calls P f args W fun e w' => e = .returned v ∧ R w' :=
  h.mono fun _ _ hx => ⟨hx.1, by rw [hx.2]; exact hR⟩
theorem turn_call {P : Program} {f : FuncId} {args : Array Value} {W : World} {v : Value} (h : Calls P f args W fun e w' => e = .returned v ∧ W = w') : Calls P f args W fun e w' => e = .returned v ∧ w' = W := h.mono fun _ _ hx => ⟨hx.1, hx.2.symm⟩

def StopsInv (w : World) (g : Nat) (B : Option Addr) (d : Nat) (M : List UInt8) (p : Nat) (e : Int) (wr : World) : Prop := RdrAt wr g B d M p e ∧ Below w.heap.size w wr

set_option maxHeartbeats 4000000 in
set_option maxRecDepth 100000 in
theorem wireStops_walk (A : Option Addr) (c : Nat) (M : List UInt8) (most : Int) (C : Option Addr) (cc : Nat) (zs : List Int) (w : World) (hr : Rd w A (by8 M)) (hlc : M.length ≤ c) (hc : c ≤ 140737488351232) (_ : (Lit.int .i64 most).wf = true) (hz : Rd w C (zs.map (Value.int .i64))) (_ : zs.length ≤ cc) (hcc : cc * Try.prog.bytesOf 3 ≤ reachBytes) (_ : ∀ n ∈ zs, (Lit.int .i64 n).wf = true) :
    Calls Try.prog 7 #[.slice A M.length c, .int .i64 most, .slice C zs.length cc] w fun e w' => e = .returned (.bool true) ∧ Below w.heap.size w w' := by
  have hbo : Try.prog.bytesOf 3 = 8 := by kernel_rfl
  rw [hbo] at hcc
  have hcc' : cc ≤ 140737488351232 := by simp only [reachBytes] at hcc; omega
  clear hbo hcc
  go_enter Try.func7, Try.ntmps7
  go_wp2_with fail
  refine (small_any _).mono ?_
  rintro e w1 ⟨rfl, hb1⟩
  have hr1 := hr.below hb1
  clear hr
  go_wp2_with fail
  refine (read_any A M.length c M _ rfl hr1 (by omega)).mono ?_
  rintro e w2 ⟨g, B, d, rfl, hq2, hge, hb2⟩
  have hb2' := hb1.trans (hb2.mono hb1.size)
  have hg1 : w.heap.size ≤ g := Nat.le_trans hb1.size hge
  clear hr1 hb2 hb1 hge
  by_cases hM : M.length ≤ 3000 ∧ zs.length ≤ 50
  · obtain ⟨hM1, hz1⟩ := hM
    go_wp2_with fail
    go_loopw [9] (fun i wr => ∃ j : Nat, j ≤ 50 ∧ i = .int .i64 j ∧ ∃ p e, StopsInv w g B d M p e wr) (fun i _ => 50 - (intOf i).toNat)
    case atStart => exact ⟨0, by omega, rfl, 0, 0, hq2, hb2'⟩
    case round =>
      clear hq2 hb2'
      obtain ⟨j, hj, rfl, p, e, hq3, hb3⟩ := hrel
      by_cases hj5 : j < 50
      · by_cases he : e = 0
        · subst he
          go_wp2_with fail
          refine (rdErr g B d M p 0 _ hq3).mono ?_
          rintro r wx ⟨rfl, rfl⟩
          go_wp2_with fail
          refine (rdRow g B d M p 0 most _ _ hq3 (by omega)).mono ?_
          rintro r w4 ⟨A4, c4, rfl, -, hq4, hg4⟩
          have hb4 := hb3.grown hg4 hb3.size (by intro k hk; simp at hk; omega)
          have FIN : Hid (StopsInv w g B d M (rRow M p 0 most j).2.1 (rRow M p 0 most j).2.2 w4) := ⟨hq4, hb4⟩
          clear hq3 hb3 hg4 hq4 hb4
          go_wp2
          go_roundw
          case rel => exact ⟨j + 1, by omega, by go_num, _, _, FIN.out⟩
          case measure => simp [intOf]; omega
        · have he1 : (e != 0) = true := by simp [he]
          have he2 : (e == 0) = false := by simp [he]
          have hpl := hq3.2.2.2.2
          have hzr := hz.below hb3
          go_wp2_with fail
          refine (rdErr g B d M p e _ hq3).mono ?_
          rintro r wx ⟨rfl, rfl⟩
          go_wp2_with fail
          refine (rdErr g B d M p e _ hq3).mono ?_
          rintro r wx ⟨rfl, rfl⟩
          go_wp2_with fail
          refine (rdErr g B d M p e _ hq3).mono ?_
          rintro r wx ⟨rfl, rfl⟩
          go_wp2_with fail
          refine (rdAt g B d M p e _ hq3).mono ?_
          rintro r wx ⟨rfl, rfl⟩
          go_wp2_with fail
          go_loopw [12] (fun i wx => ∃ j : Nat, j ≤ zs.length ∧ i = .int .i64 j ∧ ∃ k, wx = wr.drewN k) (fun i _ => zs.length - (intOf i).toNat)
          case atStart => exact ⟨0, by omega, rfl, 0, rfl⟩
          case round =>
            obtain ⟨j2, hj2, rfl, k2, rfl⟩ := hrel
            by_cases hjz : j2 < zs.length
            · obtain ⟨b, off, rfl, hcell⟩ := int_at hzr hjz
              have hlt : (j2 : Int) < zs.length := by omega
              generalize zs[j2] = z at *
              go_wp2_with fail
              go_quiet (first | (go_at_call 22; exact still_call (rdNumber_bad g B d M p e _ _ (hq3.drewN _) he1) ⟨_, rfl⟩) | (go_at_call 24; exact still_call (rdString_bad g B d M p e _ _ (hq3.drewN _) he1) ⟨_, rfl⟩) | (go_at_call 27; exact still_call (rdRow_bad g B d M p e _ _ _ (hq3.drewN _) he1) ⟨_, rfl⟩) | (go_at_call 29; exact still_call (rdEnd_bad g B d M p e _ (hq3.drewN _) he2) ⟨_, rfl⟩) | (go_at_call 31; exact still_call (turn_call (rdErr g B d M p e _ (hq3.drewN _))) ⟨_, rfl⟩) | (go_at_call 32; exact still_call (turn_call (rdAt g B d M p e _ (hq3.drewN _))) ⟨_, rfl⟩))
              go_wp2
              go_roundw
              case rel => exact ⟨j2 + 1, by omega, by go_num, _, rfl⟩
              case measure => simp [intOf]; omega
            · go_wp2
              go_ret
              exact ⟨rfl, hb3.trans ⟨rfl, rfl, rfl, Nat.le_refl _, fun _ _ => rfl⟩⟩
      · by_cases he : e = 0
        · subst he
          go_wp2_with fail
          refine (rdErr g B d M p 0 _ hq3).mono ?_
          rintro r wx ⟨rfl, rfl⟩
          go_wp2
          go_ret
          exact ⟨rfl, hb3⟩
        · have he1 : (e != 0) = true := by simp [he]
          have he2 : (e == 0) = false := by simp [he]
          have hpl := hq3.2.2.2.2
          have hzr := hz.below hb3
          go_wp2_with fail
          refine (rdErr g B d M p e _ hq3).mono ?_
          rintro r wx ⟨rfl, rfl⟩
          go_wp2_with fail
          refine (rdErr g B d M p e _ hq3).mono ?_
          rintro r wx ⟨rfl, rfl⟩
          go_wp2_with fail
          refine (rdAt g B d M p e _ hq3).mono ?_
          rintro r wx ⟨rfl, rfl⟩
          go_wp2_with fail
          go_loopw [12] (fun i wx => ∃ j : Nat, j ≤ zs.length ∧ i = .int .i64 j ∧ ∃ k, wx = wr.drewN k) (fun i _ => zs.length - (intOf i).toNat)
          case atStart => exact ⟨0, by omega, rfl, 0, rfl⟩
          case round =>
            obtain ⟨j2, hj2, rfl, k2, rfl⟩ := hrel
            by_cases hjz : j2 < zs.length
            · obtain ⟨b, off, rfl, hcell⟩ := int_at hzr hjz
              have hlt : (j2 : Int) < zs.length := by omega
              generalize zs[j2] = z at *
              go_wp2_with fail
              go_quiet (first | (go_at_call 22; exact still_call (rdNumber_bad g B d M p e _ _ (hq3.drewN _) he1) ⟨_, rfl⟩) | (go_at_call 24; exact still_call (rdString_bad g B d M p e _ _ (hq3.drewN _) he1) ⟨_, rfl⟩) | (go_at_call 27; exact still_call (rdRow_bad g B d M p e _ _ _ (hq3.drewN _) he1) ⟨_, rfl⟩) | (go_at_call 29; exact still_call (rdEnd_bad g B d M p e _ (hq3.drewN _) he2) ⟨_, rfl⟩) | (go_at_call 31; exact still_call (turn_call (rdErr g B d M p e _ (hq3.drewN _))) ⟨_, rfl⟩) | (go_at_call 32; exact still_call (turn_call (rdAt g B d M p e _ (hq3.drewN _))) ⟨_, rfl⟩))
              go_wp2
              go_roundw
              case rel => exact ⟨j2 + 1, by omega, by go_num, _, rfl⟩
              case measure => simp [intOf]; omega
            · go_wp2
              go_ret
              exact ⟨rfl, hb3.trans ⟨rfl, rfl, rfl, Nat.le_refl _, fun _ _ => rfl⟩⟩
  · go_wp2
    all_goals
      go_ret
      exact ⟨rfl, hb2'⟩
end Go.Proofs.Ytpiinamfibhjdaa
