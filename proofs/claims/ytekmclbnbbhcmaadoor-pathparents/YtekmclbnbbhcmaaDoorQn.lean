/- PathOrder: the walk. -/
import Derived.Test.YtekmclbnbbhcmaaDoorQm
namespace Go.Proofs.YtekmclbnbbhcmaaDoor
open Go.RowKit

theorem mkS_list (l : List UInt8) : (mkS l).toList = l := by rw [Lib.toList_data, mkS_data]
theorem pne {a b : ByteArray} {P : List UInt8} (h : underL a.data.toList b.data.toList = true) (hP : parentL a.data.toList = P) : P ≠ [] := by rw [← hP]; exact under_some h
theorem uap' {a b : ByteArray} {P : List UInt8} (h : underL a.data.toList b.data.toList = true) (hP : parentL a.data.toList = P) : underL a.data.toList (mkS P).data.toList = true := by
  rw [mkS_data, ← hP]
  exact parent_under (under_some h)
theorem uapn {a : ByteArray} {P : List UInt8} (hP : parentL a.data.toList = P) (h : ((mkS P).toList == []) = false) : underL a.data.toList (mkS P).data.toList = true := by
  rw [mkS_list] at h
  rw [mkS_data, ← hP]
  exact parent_under (by rw [hP]; simpa using h)
theorem under_parent' {a b : ByteArray} {P : List UInt8} (h : underL a.data.toList b.data.toList = true) (hP : parentL a.data.toList = P) (hne : ((mkS P).toList == b.toList) = false) : underL (mkS P).data.toList b.data.toList = true := by
  rw [mkS_list, Lib.toList_data] at hne
  rw [mkS_data, ← hP]
  exact under_parent h (by rw [hP]; simpa using hne)
theorem clash' {a b c : ByteArray} (h : underL a.data.toList b.data.toList = true) (h2 : underL a.data.toList c.data.toList = true) (hne : (b.toList == c.toList) = false) : clashL b.data.toList c.data.toList = true := by
  rw [Lib.toList_data, Lib.toList_data] at hne
  exact under_both h h2 (by simpa using hne)
theorem less' {a b : ByteArray} (h : underL a.data.toList b.data.toList = true) : (!(Op.bytesLess a.toList b.toList || a.toList == b.toList)) = true := by
  rw [Lib.toList_data, Lib.toList_data]
  exact under_less h
theorem less2 {a b : ByteArray} (h : underL a.data.toList b.data.toList = true) : (Op.bytesLess a.toList b.toList || a.toList == b.toList) = false := by
  have := less' h
  simpa using this

set_option maxHeartbeats 4000000 in
set_option maxRecDepth 100000 in
theorem pathOrder_walk (a b c : ByteArray) (w : World) (ha0 : a.size ≤ 140737488351232) (hb0 : b.size ≤ 140737488351232) (hc0 : c.size ≤ 140737488351232) :
    Calls Tryd.prog 6 #[.string a, .string b, .string c] w fun e w' => e = .returned (.bool true) ∧ Below w.heap.size w w' := by
  go_enter Tryd.func6, Tryd.ntmps6
  go_wp2_with fail
  refine (small_any _).mono ?_
  rintro e w1 ⟨rfl, b1⟩
  by_cases h1 : (300 : Int) < a.size
  · go_wp2
    go_ret
    exact ⟨rfl, b1⟩
  by_cases h2 : (300 : Int) < b.size
  · go_wp2
    go_ret
    exact ⟨rfl, b1⟩
  by_cases h3 : (300 : Int) < c.size
  · go_wp2
    go_ret
    exact ⟨rfl, b1⟩
  have ha : a.size < 4294967281 := by omega
  have hb : b.size < 4294967281 := by omega
  have hc : c.size < 4294967281 := by omega
  obtain ⟨P, hP⟩ : ∃ P, parentL a.data.toList = P := ⟨_, rfl⟩
  have hp : (mkS P).size < 4294967281 := by
    rw [← hP, size_len, mkS_data]
    have := joinN_len (namesL a.data.toList).dropLast
    unfold parentL
    omega
  go_wp2_with fail
  refine (under_any a a _ ha ha).mono ?_
  rintro e w2 ⟨he, hb2⟩
  obtain rfl : e = .returned (.bool false) := he.trans (ret_bool (under_self _))
  have b2 := below2 b1 hb2
  clear he hb2 b1
  cases uab : underL a.data.toList b.data.toList
  · go_wp2_with fail
    refine (under_any a b _ ha hb).mono ?_
    rintro e w3 ⟨he, hb3⟩
    obtain rfl : e = .returned (.bool false) := he.trans (ret_bool uab)
    have b3 := below2 b2 hb3
    clear he hb3 b2
    go_wp2_with fail
    refine (under_any a b _ ha hb).mono ?_
    rintro e w4 ⟨he, hb4⟩
    obtain rfl : e = .returned (.bool false) := he.trans (ret_bool uab)
    have b4 := below2 b3 hb4
    clear he hb4 b3
    go_wp2_with fail
    refine (under_any a b _ ha hb).mono ?_
    rintro e w5 ⟨he, hb5⟩
    obtain rfl : e = .returned (.bool false) := he.trans (ret_bool uab)
    have b5 := below2 b4 hb5
    clear he hb5 b4
    cases hP0 : ((mkS P).toList == [])
    · have uap := uapn hP hP0
      have c6 := parent_any a w5 ha
      rw [hP] at c6
      go_wp2_with fail
      refine c6.mono ?_
      clear c6
      rintro e w6 ⟨rfl, hb6⟩
      have b6 := below2 b5 hb6
      clear hb6 b5
      go_wp2_with fail
      refine (under_any a (mkS P) _ ha hp).mono ?_
      rintro e w7 ⟨he, hb7⟩
      obtain rfl : e = .returned (.bool true) := he.trans (ret_bool uap)
      have b7 := below2 b6 hb7
      clear he hb7 b6
      go_wp2_with fail
      refine (under_any a b _ ha hb).mono ?_
      rintro e w8 ⟨he, hb8⟩
      obtain rfl : e = .returned (.bool false) := he.trans (ret_bool uab)
      have b8 := below2 b7 hb8
      clear he hb8 b7
      go_wp2_with fail
      refine (under_any a b _ ha hb).mono ?_
      rintro e w9 ⟨he, hb9⟩
      obtain rfl : e = .returned (.bool false) := he.trans (ret_bool uab)
      have b9 := below2 b8 hb9
      clear he hb9 b8
      go_wp2
      go_ret
      exact ⟨rfl, b9⟩
    · have c6 := parent_any a w5 ha
      rw [hP] at c6
      go_wp2_with fail
      refine c6.mono ?_
      clear c6
      rintro e w6 ⟨rfl, hb6⟩
      have b6 := below2 b5 hb6
      clear hb6 b5
      go_wp2_with fail
      refine (under_any a b _ ha hb).mono ?_
      rintro e w7 ⟨he, hb7⟩
      obtain rfl : e = .returned (.bool false) := he.trans (ret_bool uab)
      have b7 := below2 b6 hb7
      clear he hb7 b6
      go_wp2_with fail
      refine (under_any a b _ ha hb).mono ?_
      rintro e w8 ⟨he, hb8⟩
      obtain rfl : e = .returned (.bool false) := he.trans (ret_bool uab)
      have b8 := below2 b7 hb8
      clear he hb8 b7
      go_wp2
      go_ret
      exact ⟨rfl, b8⟩
  · have hls := less2 uab
    go_wp2_with fail
    refine (under_any a b _ ha hb).mono ?_
    rintro e w3 ⟨he, hb3⟩
    obtain rfl : e = .returned (.bool true) := he.trans (ret_bool uab)
    have b3 := below2 b2 hb3
    clear he hb3 b2
    go_wp2_with fail
    refine (under_any b a _ hb ha).mono ?_
    rintro e w4 ⟨he, hb4⟩
    obtain rfl : e = .returned (.bool false) := he.trans (ret_bool (under_flip uab))
    have b4 := below2 b3 hb4
    clear he hb4 b3
    go_wp2_with fail
    refine (under_any a b _ ha hb).mono ?_
    rintro e w5 ⟨he, hb5⟩
    obtain rfl : e = .returned (.bool true) := he.trans (ret_bool uab)
    have b5 := below2 b4 hb5
    clear he hb5 b4
    cases ubc : underL b.data.toList c.data.toList
    · go_wp2_with fail
      refine (under_any b c _ hb hc).mono ?_
      rintro e w6 ⟨he, hb6⟩
      obtain rfl : e = .returned (.bool false) := he.trans (ret_bool ubc)
      have b6 := below2 b5 hb6
      clear he hb6 b5
      cases uac : underL a.data.toList c.data.toList
      · go_wp2_with fail
        refine (under_any a b _ ha hb).mono ?_
        rintro e w7 ⟨he, hb7⟩
        obtain rfl : e = .returned (.bool true) := he.trans (ret_bool uab)
        have b7 := below2 b6 hb7
        clear he hb7 b6
        go_wp2_with fail
        refine (under_any a c _ ha hc).mono ?_
        rintro e w8 ⟨he, hb8⟩
        obtain rfl : e = .returned (.bool false) := he.trans (ret_bool uac)
        have b8 := below2 b7 hb8
        clear he hb8 b7
        have hP0 : ((mkS P).toList == []) = false := by rw [mkS_list]; simpa using pne uab hP
        have uap := uap' uab hP
        have c9 := parent_any a w8 ha
        rw [hP] at c9
        go_wp2_with fail
        refine c9.mono ?_
        clear c9
        rintro e w9 ⟨rfl, hb9⟩
        have b9 := below2 b8 hb9
        clear hb9 b8
        go_wp2_with fail
        refine (under_any a (mkS P) _ ha hp).mono ?_
        rintro e w10 ⟨he, hb10⟩
        obtain rfl : e = .returned (.bool true) := he.trans (ret_bool uap)
        have b10 := below2 b9 hb10
        clear he hb10 b9
        go_wp2_with fail
        refine (under_any a b _ ha hb).mono ?_
        rintro e w11 ⟨he, hb11⟩
        obtain rfl : e = .returned (.bool true) := he.trans (ret_bool uab)
        have b11 := below2 b10 hb11
        clear he hb11 b10
        cases hpb : ((mkS P).toList == b.toList)
        · have upb := under_parent' uab hP hpb
          go_wp2_with fail
          refine (under_any (mkS P) b _ hp hb).mono ?_
          rintro e w12 ⟨he, hb12⟩
          obtain rfl : e = .returned (.bool true) := he.trans (ret_bool upb)
          have b12 := below2 b11 hb12
          clear he hb12 b11
          go_wp2_with fail
          refine (under_any a b _ ha hb).mono ?_
          rintro e w13 ⟨he, hb13⟩
          obtain rfl : e = .returned (.bool true) := he.trans (ret_bool uab)
          have b13 := below2 b12 hb13
          clear he hb13 b12
          go_wp2
          go_ret
          exact ⟨rfl, b13⟩
        · go_wp2_with fail
          refine (under_any a b _ ha hb).mono ?_
          rintro e w12 ⟨he, hb12⟩
          obtain rfl : e = .returned (.bool true) := he.trans (ret_bool uab)
          have b12 := below2 b11 hb12
          clear he hb12 b11
          go_wp2
          go_ret
          exact ⟨rfl, b12⟩
      · go_wp2_with fail
        refine (under_any a b _ ha hb).mono ?_
        rintro e w7 ⟨he, hb7⟩
        obtain rfl : e = .returned (.bool true) := he.trans (ret_bool uab)
        have b7 := below2 b6 hb7
        clear he hb7 b6
        go_wp2_with fail
        refine (under_any a c _ ha hc).mono ?_
        rintro e w8 ⟨he, hb8⟩
        obtain rfl : e = .returned (.bool true) := he.trans (ret_bool uac)
        have b8 := below2 b7 hb8
        clear he hb8 b7
        cases hbc : (b.toList == c.toList)
        · go_wp2_with fail
          refine (clash_any b c _ hb hc).mono ?_
          rintro e w9 ⟨he, hb9⟩
          obtain rfl : e = .returned (.bool true) := he.trans (ret_bool (clash' uab uac hbc))
          have b9 := below2 b8 hb9
          clear he hb9 b8
          have hP0 : ((mkS P).toList == []) = false := by rw [mkS_list]; simpa using pne uab hP
          have uap := uap' uab hP
          have c10 := parent_any a w9 ha
          rw [hP] at c10
          go_wp2_with fail
          refine c10.mono ?_
          clear c10
          rintro e w10 ⟨rfl, hb10⟩
          have b10 := below2 b9 hb10
          clear hb10 b9
          go_wp2_with fail
          refine (under_any a (mkS P) _ ha hp).mono ?_
          rintro e w11 ⟨he, hb11⟩
          obtain rfl : e = .returned (.bool true) := he.trans (ret_bool uap)
          have b11 := below2 b10 hb11
          clear he hb11 b10
          go_wp2_with fail
          refine (under_any a b _ ha hb).mono ?_
          rintro e w12 ⟨he, hb12⟩
          obtain rfl : e = .returned (.bool true) := he.trans (ret_bool uab)
          have b12 := below2 b11 hb12
          clear he hb12 b11
          cases hpb : ((mkS P).toList == b.toList)
          · have upb := under_parent' uab hP hpb
            go_wp2_with fail
            refine (under_any (mkS P) b _ hp hb).mono ?_
            rintro e w13 ⟨he, hb13⟩
            obtain rfl : e = .returned (.bool true) := he.trans (ret_bool upb)
            have b13 := below2 b12 hb13
            clear he hb13 b12
            go_wp2_with fail
            refine (under_any a b _ ha hb).mono ?_
            rintro e w14 ⟨he, hb14⟩
            obtain rfl : e = .returned (.bool true) := he.trans (ret_bool uab)
            have b14 := below2 b13 hb14
            clear he hb14 b13
            go_wp2
            go_ret
            exact ⟨rfl, b14⟩
          · go_wp2_with fail
            refine (under_any a b _ ha hb).mono ?_
            rintro e w13 ⟨he, hb13⟩
            obtain rfl : e = .returned (.bool true) := he.trans (ret_bool uab)
            have b13 := below2 b12 hb13
            clear he hb13 b12
            go_wp2
            go_ret
            exact ⟨rfl, b13⟩
        · have hP0 : ((mkS P).toList == []) = false := by rw [mkS_list]; simpa using pne uab hP
          have uap := uap' uab hP
          have c9 := parent_any a w8 ha
          rw [hP] at c9
          go_wp2_with fail
          refine c9.mono ?_
          clear c9
          rintro e w9 ⟨rfl, hb9⟩
          have b9 := below2 b8 hb9
          clear hb9 b8
          go_wp2_with fail
          refine (under_any a (mkS P) _ ha hp).mono ?_
          rintro e w10 ⟨he, hb10⟩
          obtain rfl : e = .returned (.bool true) := he.trans (ret_bool uap)
          have b10 := below2 b9 hb10
          clear he hb10 b9
          go_wp2_with fail
          refine (under_any a b _ ha hb).mono ?_
          rintro e w11 ⟨he, hb11⟩
          obtain rfl : e = .returned (.bool true) := he.trans (ret_bool uab)
          have b11 := below2 b10 hb11
          clear he hb11 b10
          cases hpb : ((mkS P).toList == b.toList)
          · have upb := under_parent' uab hP hpb
            go_wp2_with fail
            refine (under_any (mkS P) b _ hp hb).mono ?_
            rintro e w12 ⟨he, hb12⟩
            obtain rfl : e = .returned (.bool true) := he.trans (ret_bool upb)
            have b12 := below2 b11 hb12
            clear he hb12 b11
            go_wp2_with fail
            refine (under_any a b _ ha hb).mono ?_
            rintro e w13 ⟨he, hb13⟩
            obtain rfl : e = .returned (.bool true) := he.trans (ret_bool uab)
            have b13 := below2 b12 hb13
            clear he hb13 b12
            go_wp2
            go_ret
            exact ⟨rfl, b13⟩
          · go_wp2_with fail
            refine (under_any a b _ ha hb).mono ?_
            rintro e w12 ⟨he, hb12⟩
            obtain rfl : e = .returned (.bool true) := he.trans (ret_bool uab)
            have b12 := below2 b11 hb12
            clear he hb12 b11
            go_wp2
            go_ret
            exact ⟨rfl, b12⟩
    · go_wp2_with fail
      refine (under_any b c _ hb hc).mono ?_
      rintro e w6 ⟨he, hb6⟩
      obtain rfl : e = .returned (.bool true) := he.trans (ret_bool ubc)
      have b6 := below2 b5 hb6
      clear he hb6 b5
      have uac := under_trans uab ubc
      go_wp2_with fail
      refine (under_any a c _ ha hc).mono ?_
      rintro e w7 ⟨he, hb7⟩
      obtain rfl : e = .returned (.bool true) := he.trans (ret_bool uac)
      have b7 := below2 b6 hb7
      clear he hb7 b6
      go_wp2_with fail
      refine (under_any a b _ ha hb).mono ?_
      rintro e w8 ⟨he, hb8⟩
      obtain rfl : e = .returned (.bool true) := he.trans (ret_bool uab)
      have b8 := below2 b7 hb8
      clear he hb8 b7
      go_wp2_with fail
      refine (under_any a c _ ha hc).mono ?_
      rintro e w9 ⟨he, hb9⟩
      obtain rfl : e = .returned (.bool true) := he.trans (ret_bool uac)
      have b9 := below2 b8 hb9
      clear he hb9 b8
      cases hbc : (b.toList == c.toList)
      · go_wp2_with fail
        refine (clash_any b c _ hb hc).mono ?_
        rintro e w10 ⟨he, hb10⟩
        obtain rfl : e = .returned (.bool true) := he.trans (ret_bool (clash' uab uac hbc))
        have b10 := below2 b9 hb10
        clear he hb10 b9
        have hP0 : ((mkS P).toList == []) = false := by rw [mkS_list]; simpa using pne uab hP
        have uap := uap' uab hP
        have c11 := parent_any a w10 ha
        rw [hP] at c11
        go_wp2_with fail
        refine c11.mono ?_
        clear c11
        rintro e w11 ⟨rfl, hb11⟩
        have b11 := below2 b10 hb11
        clear hb11 b10
        go_wp2_with fail
        refine (under_any a (mkS P) _ ha hp).mono ?_
        rintro e w12 ⟨he, hb12⟩
        obtain rfl : e = .returned (.bool true) := he.trans (ret_bool uap)
        have b12 := below2 b11 hb12
        clear he hb12 b11
        go_wp2_with fail
        refine (under_any a b _ ha hb).mono ?_
        rintro e w13 ⟨he, hb13⟩
        obtain rfl : e = .returned (.bool true) := he.trans (ret_bool uab)
        have b13 := below2 b12 hb13
        clear he hb13 b12
        cases hpb : ((mkS P).toList == b.toList)
        · have upb := under_parent' uab hP hpb
          go_wp2_with fail
          refine (under_any (mkS P) b _ hp hb).mono ?_
          rintro e w14 ⟨he, hb14⟩
          obtain rfl : e = .returned (.bool true) := he.trans (ret_bool upb)
          have b14 := below2 b13 hb14
          clear he hb14 b13
          go_wp2_with fail
          refine (under_any a b _ ha hb).mono ?_
          rintro e w15 ⟨he, hb15⟩
          obtain rfl : e = .returned (.bool true) := he.trans (ret_bool uab)
          have b15 := below2 b14 hb15
          clear he hb15 b14
          go_wp2
          go_ret
          exact ⟨rfl, b15⟩
        · go_wp2_with fail
          refine (under_any a b _ ha hb).mono ?_
          rintro e w14 ⟨he, hb14⟩
          obtain rfl : e = .returned (.bool true) := he.trans (ret_bool uab)
          have b14 := below2 b13 hb14
          clear he hb14 b13
          go_wp2
          go_ret
          exact ⟨rfl, b14⟩
      · have hP0 : ((mkS P).toList == []) = false := by rw [mkS_list]; simpa using pne uab hP
        have uap := uap' uab hP
        have c10 := parent_any a w9 ha
        rw [hP] at c10
        go_wp2_with fail
        refine c10.mono ?_
        clear c10
        rintro e w10 ⟨rfl, hb10⟩
        have b10 := below2 b9 hb10
        clear hb10 b9
        go_wp2_with fail
        refine (under_any a (mkS P) _ ha hp).mono ?_
        rintro e w11 ⟨he, hb11⟩
        obtain rfl : e = .returned (.bool true) := he.trans (ret_bool uap)
        have b11 := below2 b10 hb11
        clear he hb11 b10
        go_wp2_with fail
        refine (under_any a b _ ha hb).mono ?_
        rintro e w12 ⟨he, hb12⟩
        obtain rfl : e = .returned (.bool true) := he.trans (ret_bool uab)
        have b12 := below2 b11 hb12
        clear he hb12 b11
        cases hpb : ((mkS P).toList == b.toList)
        · have upb := under_parent' uab hP hpb
          go_wp2_with fail
          refine (under_any (mkS P) b _ hp hb).mono ?_
          rintro e w13 ⟨he, hb13⟩
          obtain rfl : e = .returned (.bool true) := he.trans (ret_bool upb)
          have b13 := below2 b12 hb13
          clear he hb13 b12
          go_wp2_with fail
          refine (under_any a b _ ha hb).mono ?_
          rintro e w14 ⟨he, hb14⟩
          obtain rfl : e = .returned (.bool true) := he.trans (ret_bool uab)
          have b14 := below2 b13 hb14
          clear he hb14 b13
          go_wp2
          go_ret
          exact ⟨rfl, b14⟩
        · go_wp2_with fail
          refine (under_any a b _ ha hb).mono ?_
          rintro e w13 ⟨he, hb13⟩
          obtain rfl : e = .returned (.bool true) := he.trans (ret_bool uab)
          have b13 := below2 b12 hb13
          clear he hb13 b12
          go_wp2
          go_ret
          exact ⟨rfl, b13⟩
end Go.Proofs.YtekmclbnbbhcmaaDoor
