/- The text Jq. -/
import Derived.Test.YtlmccjdpmhancaaDoorKJp
namespace Go.Proofs.YtlmccjdpmhancaaDoor
open Go.RowKit

theorem nil_of_sum {a b c : List ByteArray} (h : a.length + b.length + c.length = 0) : a = [] ∧ b = [] ∧ c = [] :=
  ⟨List.eq_nil_of_length_eq_zero (by omega), List.eq_nil_of_length_eq_zero (by omega), List.eq_nil_of_length_eq_zero (by omega)⟩

set_option maxRecDepth 20000 in
set_option maxHeartbeats 4000000 in
theorem reconThree_walk (A : Option Addr) (ca : Nat) (es : List Ent) (B : Option Addr) (cb : Nat) (fs : List Ent) (C : Option Addr) (cc : Nat) (gs : List Ent) (w : World) (hr : Rd w A (entV es)) (hlc : es.length ≤ ca) (hc : ca ≤ maxLen) (_ : True) (hr2 : Rd w B (entV fs)) (hlc2 : fs.length ≤ cb) (hc2 : cb ≤ maxLen) (_ : True) (hr3 : Rd w C (entV gs)) (hlc3 : gs.length ≤ cc) (hc3 : cc ≤ maxLen) (_ : True) :
    Calls Tryd.prog 4 #[.slice A es.length ca, .slice B fs.length cb, .slice C gs.length cc] w fun e w' => e = .returned (.bool true) ∧ Below w.heap.size w w' := by
  generalize hl : es.length = n at *
  generalize hl2 : fs.length = m at *
  generalize hl3 : gs.length = k at *
  go_enter Tryd.func4, Tryd.ntmps4
  go_wp2_with fail
  refine (small_any _).mono ?_
  rintro e w1 ⟨rfl, b1⟩
  go_wp2_with fail
  refine (few9_any A n ca es _ hl (hr.below b1)).mono ?_
  rintro e wx ⟨rfl, rfl⟩
  go_wp2_with fail
  refine (few9_any B m cb fs _ hl2 (hr2.below b1)).mono ?_
  rintro e wx ⟨rfl, rfl⟩
  go_wp2_with fail
  refine (few9_any C k cc gs _ hl3 (hr3.below b1)).mono ?_
  rintro e wx ⟨rfl, rfl⟩
  cases hf : few9 es
  · go_wp2
    go_ret
    exact ⟨rfl, b1⟩
  cases hf2 : few9 fs
  · go_wp2
    go_ret
    exact ⟨rfl, b1⟩
  cases hf3 : few9 gs
  · go_wp2
    go_ret
    exact ⟨rfl, b1⟩
  have E1 := few9_et hf hl (hr.below b1) hlc hc
  have F1 := few9_et hf2 hl2 (hr2.below b1) hlc2 hc2
  have G1 := few9_et hf3 hl3 (hr3.below b1) hlc3 hc3
  clear hf hf2 hf3 hr hr2 hr3
  go_wp2_with fail
  refine (merge_out E1 F1).mono ?_
  rintro e w2 ⟨A2, c2, B2, d2, rfl, X2, -, hb2⟩
  have E2 := E1.below hb2
  have F2 := F1.below hb2
  have G2 := G1.below hb2
  have b2 := below2 b1 hb2
  clear E1 F1 G1 b1 hb2
  go_wp2_with fail
  refine (merge_out F2 G2).mono ?_
  rintro e w3 ⟨A3, c3, B3, d3, rfl, Y3, -, hb3⟩
  have E3 := E2.below hb3
  have G3 := G2.below hb3
  have X3 := X2.below hb3
  have b3 := below2 b2 hb3
  clear E2 F2 G2 X2 b2 hb3
  go_wp2_with fail
  refine (merge_out E3 G3).mono ?_
  rintro e w4 ⟨A4, c4, B4, d4, rfl, -, -, hb4⟩
  have E4 := E3.below hb4
  have G4 := G3.below hb4
  have X4 := X3.below hb4
  have Y4 := Y3.below hb4
  have b4 := below2 b3 hb4
  clear E3 G3 X3 Y3 b3 hb4
  have l1 := mrgC_len es fs
  have l2 := mrgC_len fs gs
  have l3 := mrgC_len es gs
  by_cases n1 : mrgN es fs = 0
  · by_cases n2 : mrgN fs gs = 0
    · by_cases n3 : mrgN es gs = 0
      · by_cases hs : (mrgC es fs).length + (mrgC fs gs).length + (mrgC es gs).length = 0
        · have HC := hid (nil_of_sum hs)
          have N1 := hid n1
          have N2 := hid n2
          have N3 := hid n3
          rw [n1, n2, n3, HC.out.1, HC.out.2.1, HC.out.2.2]
          clear n1 n2 n3 hs l1 l2 l3
          go_wp2_with fail
          refine (merge_out X4 G4).mono ?_
          rintro e w5 ⟨A5, c5, B5, d5, rfl, L5, -, hb5⟩
          have E5 := E4.below hb5
          have Y5 := Y4.below hb5
          have b5 := below2 b4 hb5
          clear E4 G4 X4 Y4 b4 hb5
          go_wp2_with fail
          refine (merge_out E5 Y5).mono ?_
          rintro e w6 ⟨A6, c6, B6, d6, rfl, M6, -, hb6⟩
          have L6 := L5.below hb6
          have b6 := below2 b5 hb6
          clear E5 Y5 L5 b5 hb6
          have l1 := mrgC_len (mrgA es fs) gs
          have l2 := mrgC_len es (mrgA fs gs)
          by_cases n4 : mrgN (mrgA es fs) gs = 0
          · by_cases n5 : mrgN es (mrgA fs gs) = 0
            · by_cases hs : (mrgC (mrgA es fs) gs).length + (mrgC es (mrgA fs gs)).length = 0
              · have e4 : mrgC (mrgA es fs) gs = [] := List.eq_nil_of_length_eq_zero (by omega)
                have e5 : mrgC es (mrgA fs gs) = [] := List.eq_nil_of_length_eq_zero (by omega)
                have key := three_same N1.out N2.out N3.out HC.out.1 HC.out.2.1 HC.out.2.2 n4 n5 e4 e5
                have ss := sameE_any (c := c5) (d := c6) L6.len L6.rd M6.len M6.rd L6.big
                rw [decide_eq_true key] at ss
                rw [n4, n5, e4, e5]
                clear key n4 n5 e4 e5 hs l1 l2 L6 M6
                go_wp2_with fail
                refine ss.mono ?_
                rintro e w7 ⟨rfl, hb7⟩
                have b7 := below2 b6 hb7
                clear ss hb7 b6
                go_wp2
                go_ret
                exact ⟨rfl, b7⟩
              · have hs' : ¬ ((mrgC (mrgA es fs) gs).length : Int) + ((mrgC es (mrgA fs gs)).length : Int) = 0 := by omega
                rw [n4, n5]
                clear n4 n5 hs L6 M6
                generalize (mrgC (mrgA es fs) gs).length = x1 at *
                generalize (mrgC es (mrgA fs gs)).length = x2 at *
                go_wp2
                go_ret
                exact ⟨rfl, b6⟩
            · have n5' : ¬ ((mrgN es (mrgA fs gs) : Nat) : Int) = 0 := by omega
              rw [n4]
              clear n4 n5
              go_wp2
              go_ret
              exact ⟨rfl, b6⟩
          · have n4' : ¬ ((mrgN (mrgA es fs) gs : Nat) : Int) = 0 := by omega
            clear n4
            go_wp2
            go_ret
            exact ⟨rfl, b6⟩
        · have hs' : ¬ ((mrgC es fs).length : Int) + ((mrgC fs gs).length : Int) + ((mrgC es gs).length : Int) = 0 := by omega
          rw [n1, n2, n3]
          clear n1 n2 n3 hs E4 G4 X4 Y4
          generalize (mrgC es fs).length = x1 at *
          generalize (mrgC fs gs).length = x2 at *
          generalize (mrgC es gs).length = x3 at *
          go_wp2
          go_ret
          exact ⟨rfl, b4⟩
      · have n3' : ¬ ((mrgN es gs : Nat) : Int) = 0 := by omega
        rw [n1, n2]
        clear n1 n2 n3
        go_wp2
        go_ret
        exact ⟨rfl, b4⟩
    · have n2' : ¬ ((mrgN fs gs : Nat) : Int) = 0 := by omega
      rw [n1]
      clear n1 n2
      go_wp2
      go_ret
      exact ⟨rfl, b4⟩
  · have n1' : ¬ ((mrgN es fs : Nat) : Int) = 0 := by omega
    clear n1
    go_wp2
    go_ret
    exact ⟨rfl, b4⟩
end Go.Proofs.YtlmccjdpmhancaaDoor
