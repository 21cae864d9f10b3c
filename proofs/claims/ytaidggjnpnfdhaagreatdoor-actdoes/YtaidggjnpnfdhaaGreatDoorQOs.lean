/- The text Os. -/
import Derived.Test.YtaidggjnpnfdhaaGreatDoorQ0
namespace Go.Proofs.YtaidggjnpnfdhaaGreatDoor
open Go.RowKit

abbrev ysp : ByteArray := ⟨#[115, 112, 111, 105, 108, 116]⟩
set_option maxRecDepth 20000 in
set_option maxHeartbeats 4000000 in
theorem actDoes_walk (A : Option Addr) (ca : Nat) (t : List Fil) (B : Option Addr) (cb : Nat) (l : List Ac) (room : Int) (w : World) (hr : Rd w A (filV t)) (hlc : t.length ≤ ca) (hc : ca ≤ maxLen) (_ : True) (hr2 : Rd w B (actV l)) (hlc2 : l.length ≤ cb) (hc2 : cb ≤ maxLen) (_ : True) (_ : (Lit.int .i64 room).wf = true) :
    Calls Tryz.prog 3 #[.slice A t.length ca, .slice B l.length cb, .int .i64 room] w fun e w' => e = .returned (.bool true) ∧ Below w.heap.size w w' := by
  generalize hl : t.length = n at *
  generalize hl2 : l.length = m at *
  have hmx : m ≤ 9223372036854775807 := by unfold maxLen at hc2; omega
  go_enter Tryz.func3, Tryz.ntmps3
  go_wp2_with fail
  refine (small11_any _).mono ?_
  rintro e w1 ⟨rfl, b1⟩
  go_wp2_with fail
  refine (few_any A n ca t _ hl (hr.below b1)).mono ?_
  rintro e wx ⟨rfl, rfl⟩
  go_wp2_with fail
  refine (fewA_any B m cb l _ hl2 (hr2.below b1) hmx).mono ?_
  rintro e wx ⟨rfl, rfl⟩
  cases hf : fewB t
  · go_wp2
    go_ret
    exact ⟨rfl, b1⟩
  cases hf2 : fewA l
  · go_wp2
    go_ret
    exact ⟨rfl, b1⟩
  have T1 := few_ft hf hl (hr.below b1) hlc hc
  have L1 := fewA_at hf2 hl2 (hr2.below b1) hlc2 hc2
  have hn40 : n ≤ 40 := by have := (few_sz hf).1; omega
  clear hf hf2 hr hr2 hl hl2
  have hal1 : Below w1.heap.size w1 (w1.alloc (.cells #[] 38)) := (Below.refl _ _).alloc (Nat.le_refl _) _
  obtain ⟨A2, c2, w2, HR2, o2, g2⟩ := run_appF (OwnR.empty w1) A n ca t T1.len (T1.rd.below hal1) (by omega) hal1.size
  have hb2 := hal1.trans (below_grown hal1.size (OwnR.block (OwnR.empty w1)) g2)
  rw [Nat.zero_add, List.nil_append] at o2
  simp only [Nat.zero_add] at HR2
  have I2 := o2.ft (by omega) T1.sz
  have T2 := T1.below hb2
  have L2 := L1.below hb2
  have b2 := below2 b1 hb2
  clear T1 L1 b1 hal1 hb2 g2 o2
  go_wp2_with (at_builtin; refine Lib.wpList_append_run _ rfl _ _ _ _ rfl _ _ rfl rfl _ _ (HR2.out _) ?_)
  refine (do_ft I2 L2 room).mono ?_
  rintro e w3 ⟨A3, c3, rfl, X3, ox, hb3⟩
  have T3 := T2.below hb3
  have L3 := L2.below hb3
  clear HR2
  go_wp2_with fail
  refine (rdo_any T3 L3 room).mono ?_
  rintro e w4 ⟨A4, n4, c4, rfl, Y4, hb4'⟩
  have hb4 := below2 hb3 hb4'
  have X4 := X3.below hb4'
  have ox4 := ox.below hb4'
  clear X3 ox hb3 hb4' T3 L3
  have T4 := T2.below hb4
  have L4 := L2.below hb4
  have hY := Y4.len
  subst hY
  generalize doT t l room = x at *
  generalize ((doN t l room : Nat) : Int) = z at *
  have cs := refSame X4 Y4
  rw [decide_eq_true rfl] at cs
  go_wp2_with fail
  refine cs.mono ?_
  rintro e w5 ⟨rfl, hb5'⟩
  have ox5 := ox4.below hb5'
  have hb5 := below2 hb4 hb5'
  clear cs X4 Y4 ox4 hb4 hb5' T4 L4
  go_wp2_with fail
  refine (undo_any (T2.below hb5) (L2.below hb5)).mono ?_
  rintro e w6 ⟨C6, q6, rfl, o6, hb6'⟩
  have ox6 := ox5.below hb6'
  have r6 := rd_own3 rfl o6
  have hb6 := below2 hb5 hb6'
  clear o6 ox5 hb5 hb6'
  go_wp2_with fail
  refine (rundo_any (T2.below hb6) (L2.below hb6)).mono ?_
  rintro e w7 ⟨C7, q7, rfl, o7, hb7'⟩
  have ox7 := ox6.below hb7'
  have r7 := rd_own3 rfl o7
  have s7 := r6.below hb7'
  have hb7 := below2 hb6 hb7'
  clear o7 ox6 hb6 hb7' r6
  have hul : (undoL t l).length ≤ 1000000 := by have := undo_len t l; have := L2.len; have := L2.big; omega
  go_wp2_with fail
  refine (racts_any rfl s7 r7 hul).mono ?_
  rintro e w8 ⟨rfl, hb8'⟩
  have ox8 := ox7.below hb8'
  have hb8 := below2 hb7 hb8'
  clear ox7 hb7 hb8' r7 s7 hul
  generalize undoL t l = u1 at *
  go_wp2_with fail
  refine (net_any (L2.below hb8)).mono ?_
  rintro e w9 ⟨C9, q9, rfl, o9, hb9'⟩
  have ox9 := ox8.below hb9'
  have r9 := rd_own3 rfl o9
  have hb9 := below2 hb8 hb9'
  clear o9 ox8 hb8 hb9'
  go_wp2_with fail
  refine (rnet_any (L2.below hb9)).mono ?_
  rintro e wa ⟨Ca, qa, rfl, oa, hba'⟩
  have oxa := ox9.below hba'
  have ra := rd_own3 rfl oa
  have sa := r9.below hba'
  have hba := below2 hb9 hba'
  clear oa ox9 hb9 hba' r9
  have hnl : (netL l).length ≤ 1000000 := by have := net_len l; have := L2.len; have := L2.big; omega
  go_wp2_with fail
  refine (racts_any rfl sa ra hnl).mono ?_
  rintro e wb ⟨rfl, hbb'⟩
  have oxb := oxa.below hbb'
  have hbb := below2 hba hbb'
  clear oxa hba hbb' ra sa hnl
  generalize netL l = u2 at *
  go_wp2_with fail
  refine (paths_any (L2.below hbb)).mono ?_
  rintro e wc ⟨Cc, qc, rfl, oc, hbc'⟩
  have oxc := oxb.below hbc'
  have rc := Rd.of_own oc
  have hbc := below2 hbb hbc'
  clear oc oxb hbb hbc'
  go_wp2_with fail
  refine (rpaths11_any (L2.below hbc)).mono ?_
  rintro e wd ⟨Cd, qd, rfl, -, rd, hbd'⟩
  have oxd := oxc.below hbd'
  have sd := rc.below hbd'
  have hbd := below2 hbc hbd'
  clear oxc hbc hbd' rc
  have hpl : (pathsA l).length ≤ 1000000 := by have := paths_len l; have := L2.len; have := L2.big; omega
  generalize pathsA l = P at *
  go_wp2_with fail
  refine (rows_same Cc Cd P.length qc qd P wd rfl (by omega) sd rd).mono ?_
  rintro e we ⟨rfl, hbe'⟩
  have oxe := oxd.below hbe'
  have hbe := below2 hbd hbe'
  clear oxd hbd hbe' rd sd hpl
  have hx16 : x.length ≤ 9223372036854775807 := by have := oxe.1; have := oxe.2.1; have := oxe.2.2.1; omega
  have HBK : Hid (∀ i, i < x.length → ∃ g, A3 = some ⟨g, 0, none⟩ ∧ w2.heap.size ≤ g ∧ ∃ cs : List Value, x.length * 2 ≤ cs.length ∧ Blk we g cs 38) := fun i hi => by
    rcases oxe.2.2.2 with h0 | ⟨g, rest, ha, hg, hB⟩
    · subst h0; exact absurd hi (by simp)
    · exact ⟨g, ha, hg, _, by rw [List.length_append, filV_length]; omega, hB⟩
  clear oxe
  go_wp2_with fail
  go_loopw [16] (fun i W => ∃ j : Nat, j ≤ x.length ∧ i = .int .i64 j ∧ (∀ i, i < x.length → ∃ g, A3 = some ⟨g, 0, none⟩ ∧ w2.heap.size ≤ g ∧ ∃ cs : List Value, x.length * 2 ≤ cs.length ∧ Blk W g cs 38) ∧ Below w2.heap.size w2 W) (fun i _ => x.length - (intOf i).toNat)
  case atStart => exact ⟨0, by omega, rfl, HBK.out, hbe⟩
  case round =>
    clear HBK hbe
    obtain ⟨j, hj, rfl, HB, bW⟩ := hrel
    by_cases hjx : j < x.length
    · have hz : (0 : Int) ≤ j := by omega
      have hlt : (j : Int) < x.length := by omega
      obtain ⟨g, hA3, hg, cs, hcs, pk⟩ := HB j hjx
      subst hA3
      have c0 := pk.cell (j * 2)
      rw [List.getElem?_eq_getElem (show j * 2 < cs.length by omega)] at c0
      have f0 := pk.frozen (j * 2)
      have P3 := pk.set_ (j * 2) (.string ysp)
      have b3 := bW.setCell (p := ⟨g, j * 2, none⟩) hg (.string ysp)
      have HB2 : Hid (∀ i, i < x.length → ∃ g', (some ⟨g, 0, none⟩ : Option Addr) = some ⟨g', 0, none⟩ ∧ w2.heap.size ≤ g' ∧ ∃ cs : List Value, x.length * 2 ≤ cs.length ∧ Blk (wr.setCell ⟨g, j * 2, none⟩ (.string ysp)) g' cs 38) := fun i _ => ⟨g, rfl, hg, _, by rw [List.length_set]; exact hcs, P3⟩
      clear HB P3 pk bW
      generalize cs[j * 2]'(by omega) = c0v at *
      go_wp2
      go_roundw
      case rel => exact ⟨j + 1, by omega, by go_num, HB2.out, b3⟩
      case measure => simp [intOf]; omega
    · have hnlt : ¬ (j : Int) < x.length := by omega
      have cs := refSame (I2.below bW) (T2.below bW)
      rw [decide_eq_true rfl] at cs
      have b3 := below2 b2 bW
      clear HB bW I2 T2 L2
      go_wp2_with fail
      refine cs.mono ?_
      rintro e wf ⟨rfl, hbf⟩
      have b4 := below2 b3 hbf
      go_wp2
      go_ret
      exact ⟨rfl, b4⟩
end Go.Proofs.YtaidggjnpnfdhaaGreatDoor
