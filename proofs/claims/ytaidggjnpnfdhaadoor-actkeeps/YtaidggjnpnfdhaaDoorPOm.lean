/- The text Om. -/
import Derived.Test.YtaidggjnpnfdhaaDoorPOl
namespace Go.Proofs.YtaidggjnpnfdhaaDoor
open Go.RowKit

theorem getV_is (g : Option ByteArray) : getV g = .tuple #[.string (g.getD noS), .bool g.isSome] := by cases g <;> rfl

set_option maxRecDepth 20000 in
set_option maxHeartbeats 4000000 in
theorem actKeeps_walk (A : Option Addr) (ca : Nat) (t : List Fil) (B : Option Addr) (cb : Nat) (l : List Ac) (room : Int) (p : ByteArray) (w : World) (hr : Rd w A (filV t)) (hlc : t.length ≤ ca) (hc : ca ≤ maxLen) (_ : True) (hr2 : Rd w B (actV l)) (hlc2 : l.length ≤ cb) (hc2 : cb ≤ maxLen) (_ : True) (_ : (Lit.int .i64 room).wf = true) (hp : p.size ≤ 140737488351232) :
    Calls Tryd.prog 3 #[.slice A t.length ca, .slice B l.length cb, .int .i64 room, .string p] w fun e w' => e = .returned (.bool true) ∧ Below w.heap.size w w' := by
  generalize hl : t.length = n at *
  generalize hl2 : l.length = m at *
  have hmx : m ≤ 9223372036854775807 := by unfold maxLen at hc2; omega
  go_enter Tryd.func3, Tryd.ntmps3
  go_wp2_with fail
  refine (small11_any _).mono ?_
  rintro e w1 ⟨rfl, b1⟩
  go_wp2_with fail
  refine (few_any A n ca t _ hl (hr.below b1)).mono ?_
  rintro e wx ⟨rfl, rfl⟩
  go_wp2_with fail
  refine (fewA_any B m cb l _ hl2 (hr2.below b1) hmx).mono ?_
  rintro e wx ⟨rfl, rfl⟩
  cases hf : fewB t
  · go_wp2
    go_ret
    exact ⟨rfl, b1⟩
  cases hf2 : fewA l
  · go_wp2
    go_ret
    exact ⟨rfl, b1⟩
  by_cases hp0 : (100 : Int) < p.size
  · go_wp2
    go_ret
    exact ⟨rfl, b1⟩
  have T1 := few_ft hf hl (hr.below b1) hlc hc
  have L1 := fewA_at hf2 hl2 (hr2.below b1) hlc2 hc2
  have R1 := hid (fun h => @keptA t l room h p)
  have R2 := hid (fun h => @doT_right t l room h)
  have R3 := hid (fun h => @doT_not t l room h)
  clear hf hf2 hr hr2
  go_wp2_with fail
  refine (do_ft T1 L1 room).mono ?_
  rintro e w2 ⟨A2, c2, rfl, X2, -, hb2⟩
  have T2 := T1.below hb2
  have L2 := L1.below hb2
  have b2 := below2 b1 hb2
  clear T1 L1 b1 hb2
  by_cases h0 : doN t l room = 0
  · obtain ⟨e1, e2⟩ := R1.out h0
    have hR := R2.out h0
    have hg := size_le hR
    have HR : Hid (treeR (doT t l room) = true) := (treeR_iff _).2 hR
    have HG := hid e1
    rw [h0]
    clear R1 R2 R3 h0 e1 hR
    generalize doT t l room = x at *
    go_wp2_with fail
    have kg := get_any T2 p
    rw [getV_is] at kg
    refine kg.mono ?_
    rintro e w3 ⟨rfl, hb3⟩
    have L3 := L2.below hb3
    have X3 := X2.below hb3
    have b3 := below2 b2 hb3
    clear T2 L2 X2 b2 hb3 kg
    generalize hgt : getT t p.data.toList = g0 at *
    have hmm := L3.big
    have HL := hid L3.len
    have hrd := L3.rd
    clear hgt
    go_wp2_with fail
    go_loop [14, 15, 16] (fun d h i => ∃ (j : Nat) (g : Option ByteArray), j ≤ m ∧ i = .int .i64 j ∧ Hid (g = saysA (l.take j) p g0) ∧ d = .string (g.getD noS) ∧ h = .bool g.isSome) (fun _ _ i => m - (intOf i).toNat)
    case atStart => exact ⟨0, g0, by omega, rfl, rfl, rfl, rfl⟩
    case round =>
      obtain ⟨j, g, hj, rfl, HS, rfl, rfl⟩ := hrel
      by_cases hjm : j < m
      · have hjl : j < l.length := by rw [HL.out]; exact hjm
        have hz : (0 : Int) ≤ j := by omega
        have hlt : (j : Int) < m := by omega
        obtain ⟨b, og, rfl, x0, x1, x2, -⟩ := hrd.act hjl
        have HM := hid (says_more l p g0 j hjl)
        rw [← HS.out] at HM
        generalize l[j] = a at *
        obtain ⟨q, v, dd⟩ := a
        dsimp only at x0 x1 x2
        have hsq := str_eqb q p
        by_cases hq : q = p
        · rw [decide_eq_true hq] at hsq
          rw [if_pos (show (q, v, dd).1 = p from hq)] at HM
          clear hq HS
          cases v with
          | true =>
            have HM2 : Hid (some dd = saysA (l.take (j + 1)) p g0) := HM.out.symm
            clear HM
            go_wp2
            go_round
            case rel => exact ⟨j + 1, some dd, by omega, by go_num, HM2, rfl, rfl⟩
            case measure => simp [intOf]; omega
          | false =>
            have HM2 : Hid (none = saysA (l.take (j + 1)) p g0) := HM.out.symm
            clear HM
            go_wp2
            go_round
            case rel => exact ⟨j + 1, none, by omega, by go_num, HM2, rfl, rfl⟩
            case measure => simp [intOf]; omega
        · rw [decide_eq_false hq] at hsq
          rw [if_neg (show ¬ (q, v, dd).1 = p from hq)] at HM
          have HM2 : Hid (g = saysA (l.take (j + 1)) p g0) := HM.out.symm
          clear hq HS HM
          go_wp2
          go_round
          case rel => exact ⟨j + 1, g, by omega, by go_num, HM2, rfl, rfl⟩
          case measure => simp [intOf]; omega
      · have HJ := hid (show j = m by omega)
        have hnlt : ¬ (j : Int) < m := by omega
        have HGG : Hid (getT x p.data.toList = g) := by show _ = _; rw [HG.out, HS.out, HJ.out, ← HL.out, List.take_length]
        have kg := get_any X3 p
        rw [getV_is, HGG.out] at kg
        clear HS HG HGG
        go_wp2_with fail
        refine kg.mono ?_
        rintro e w4 ⟨rfl, hb4⟩
        have X4 := X3.below hb4
        have b4 := below2 b3 hb4
        clear kg X3 b3 hb4 L3 hrd
        have kt := tree_any X4
        rw [HR.out] at kt
        generalize g.getD noS = s at *
        generalize g.isSome = bb at *
        go_wp2_with fail
        refine kt.mono ?_
        rintro e w5 ⟨rfl, hb5⟩
        have X5 := X4.below hb5
        have b5 := below2 b4 hb5
        clear kt X4 b4 hb5
        go_wp2_with fail
        refine (size_any X5 (by omega)).mono ?_
        rintro e w6 ⟨rfl, hb6⟩
        have b6 := below2 b5 hb6
        go_wp2
        go_ret
        exact ⟨rfl, b6⟩
  · have hx := R3.out h0
    have hz : ¬ ((doN t l room : Nat) : Int) = 0 := by omega
    clear R1 R2 R3 h0
    generalize ((doN t l room : Nat) : Int) = z at *
    generalize doT t l room = x at *
    subst hx
    go_wp2
    go_ret
    exact ⟨rfl, b2⟩
end Go.Proofs.YtaidggjnpnfdhaaDoor
