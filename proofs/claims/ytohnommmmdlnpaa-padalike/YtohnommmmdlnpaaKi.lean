/- PadOne: the walk. -/
import Derived.Test.YtohnommmmdlnpaaKd
namespace Go.Proofs.Ytohnommmmdlnpaa
open Go.RowKit

theorem xor_u8 (a b : UInt8) : bits .xor .u8 (a.toNat : Int) (b.toNat : Int) = ((a ^^^ b).toNat : Int) := by
  have ha := a.toNat_lt
  have hb := b.toNat_lt
  have e1 : (BitVec.ofInt 8 (a.toNat : Int)).toNat = a.toNat := by
    rw [BitVec.ofInt_natCast, BitVec.toNat_ofNat]
    exact Nat.mod_eq_of_lt (by omega)
  have e2 : (BitVec.ofInt 8 (b.toNat : Int)).toNat = b.toNat := by
    rw [BitVec.ofInt_natCast, BitVec.toNat_ofNat]
    exact Nat.mod_eq_of_lt (by omega)
  have h3 : a.toNat ^^^ b.toNat < 2 ^ 8 := Nat.xor_lt_two_pow (by omega) (by omega)
  show IntKind.u8.wrap ((BitVec.ofInt 8 (a.toNat : Int) ^^^ BitVec.ofInt 8 (b.toNat : Int)).toNat : Int) = _
  rw [BitVec.toNat_xor, e1, e2, UInt8.toNat_xor]
  show (((a.toNat ^^^ b.toNat : Nat) : Int) % 256) = _
  omega
theorem xor_ne {a b : UInt8} (h : b ≠ 0) : a ^^^ b ≠ a := by
  intro e
  exact h (UInt8.xor_right_inj a |>.1 (by rw [e, UInt8.xor_zero]))
theorem set_ne {l : List UInt8} {k : Nat} {c : UInt8} (hk : k < l.length) (h : c ≠ l[k]) : toS (l.set k c) ≠ toS l := by
  intro e
  have h1 := toS_inj e
  have h2 : (l.set k c)[k]? = l[k]? := by rw [h1]
  rw [List.getElem?_set_self hk, List.getElem?_eq_getElem hk] at h2
  injection h2 with h2
  exact h h2
/-- What is stripped of other bytes is another string. -/
theorem strip_other {s y : ByteArray} (hne : y ≠ padB s) (h : stripE y = 0) : stripV y ≠ s := by
  intro e
  have := (strip_yes h).1
  rw [e] at this
  exact hne this.symm

set_option maxHeartbeats 4000000 in
set_option maxRecDepth 20000 in
theorem padOne_walk (s : ByteArray) (at_ z : Int) (w : World) (_ : s.size ≤ 140737488351232) (_ : (Lit.int .i64 at_).wf = true) (hz : (Lit.int .u8 z).wf = true) :
    Calls Try.prog 5 #[.string s, .int .i64 at_, .int .u8 z] w fun e w' => e = .returned (.bool true) ∧ Below w.heap.size w w' := by
  obtain ⟨b, rfl⟩ : ∃ b : UInt8, (b.toNat : Int) = z := ⟨UInt8.ofNat z.toNat, by have := bounds_u8 hz; simp; omega⟩
  clear hz
  go_enter Try.func5, Try.ntmps5
  go_wp2_with fail
  refine (small_any _).mono ?_
  rintro e w1 ⟨rfl, b1⟩
  go_wp2_with fail
  by_cases hs : s.size ≤ 5116
  · refine (pad_yes s _ hs).mono ?_
    rintro e w2 ⟨rfl, b2⟩
    replace b2 := below2 b1 b2
    clear b1
    have hs6 : ¬ (6000 : Int) < s.size := by omega
    have HN := hid (padB_size s hs)
    have HLe := hid (sizeN_le s.size)
    obtain ⟨p, hp⟩ : ∃ p, padB s = p := ⟨_, rfl⟩
    rw [hp] at HN ⊢
    have HP := hid hp
    clear hp
    have hpN := HN.out
    generalize sizeN s.size = N at *
    by_cases h1 : at_ < 0
    · go_wp2
      go_ret
      exact ⟨rfl, b2⟩
    by_cases h2 : (N : Int) ≤ at_
    · go_wp2
      go_ret
      exact ⟨rfl, b2⟩
    by_cases h3 : b = 0
    · subst h3
      go_wp2
      go_ret
      exact ⟨rfl, b2⟩
    obtain ⟨k, rfl⟩ : ∃ k : Nat, at_ = k := ⟨at_.toNat, by omega⟩
    have h3' : ((b.toNat : Int) == 0) = false := by
      rw [beq_eq_false_iff_ne]
      intro e
      exact h3 (UInt8.toNat_inj.1 (by simp; omega))
    have hkl : k < p.data.toList.length := by rw [size_list]; omega
    obtain ⟨c3, w3, hcv, hbs, hb3⟩ := conv_bytes p w2
    have b3 := below2 b2 hb3
    have hc0 := hbs.cell k hkl
    have hf0 := hbs.frozen k hkl
    have HNE := hid (set_ne hkl (xor_ne (a := p.data.toList[k]) h3))
    have hx := xor_u8 p.data.toList[k] b
    have hst := hbs.set_ k (p.data.toList[k] ^^^ b)
    rw [toS_data] at HNE
    generalize p.data.toList[k] = a at *
    generalize a ^^^ b = c at *
    have b4 : Below w.heap.size w (w3.setCell ⟨w2.heap.size, k, none⟩ (.int .u8 (c.toNat : Int))) := b3.setCell (p := ⟨w2.heap.size, k, none⟩) b2.size _
    have hcv2 : (convert 23 9 (.slice (some ⟨w2.heap.size, 0, none⟩) N c3)).run Try.prog (w3.setCell ⟨w2.heap.size, k, none⟩ (.int .u8 (c.toNat : Int))) = .ok (.string (toS (p.data.toList.set k c))) (w3.setCell ⟨w2.heap.size, k, none⟩ (.int .u8 (c.toNat : Int))) :=
      conv_rd _ 23 9 5 Try.underlying23 Try.underlying5 Try.underlying9 _ N c3 (p.data.toList.set k c) (by rw [List.length_set, size_list, hpN]) hst.rd
    obtain ⟨y, hy⟩ : ∃ y, toS (p.data.toList.set k c) = y := ⟨_, rfl⟩
    rw [hy] at hcv2 HNE
    have HYD : Hid (y.data.toList = p.data.toList.set k c) := by show _ = _; rw [← hy]; rfl
    rw [← HYD.out] at hst
    have HYZ : Hid (y.data.toList.length = N) := by show _ = _; rw [HYD.out, List.length_set, size_list, hpN]
    have HO := hid (fun h => strip_other (s := s) (y := y) (by rw [HP.out]; exact HNE.out) h)
    clear hy hbs hb3 b3 h3 HYD HNE HP
    go_wp2_with fail
    generalize w3.setCell ⟨w2.heap.size, k, none⟩ (.int .u8 (c.toNat : Int)) = w4 at *
    refine (strip_any _ _).mono ?_
    rintro e w5 ⟨rfl, b5⟩
    have hst5 := hst.below b5
    replace b5 := below2 b4 b5
    clear b4 hst hcv2 hc0 hf0 hx hcv
    by_cases hE : stripE y = 0
    · have HV := hid (strip_yes hE)
      have hne := strs_ne (HO.out hE)
      rw [hE]
      clear HO hE
      obtain ⟨x, hx⟩ : ∃ x, stripV y = x := ⟨_, rfl⟩
      rw [hx] at HV hne ⊢
      clear hx
      go_wp2_with fail
      refine (pad_yes x _ HV.out.2).mono ?_
      rintro e w6 ⟨rfl, b6⟩
      rw [HV.out.1]
      have hcv6 : (convert 23 9 (.slice (some ⟨w2.heap.size, 0, none⟩) N c3)).run Try.prog w6 = .ok (.string y) w6 := by
        have := conv_rd _ 23 9 5 Try.underlying23 Try.underlying5 Try.underlying9 _ N c3 y.data.toList HYZ.out (hst5.below b6).rd
        exact this
      replace b6 := below2 b5 b6
      clear b5 hst5
      go_wp2
      go_ret
      exact ⟨rfl, b6⟩
    · have HV := hid (strip_no hE)
      rw [HV.out.1, HV.out.2]
      clear HO hE
      go_wp2
      go_ret
      exact ⟨rfl, b5⟩
  · refine (pad_no s _ (by omega)).mono ?_
    rintro e w2 ⟨rfl, b2⟩
    replace b2 := below2 b1 b2
    clear b1
    go_wp2
    all_goals
      go_ret
      exact ⟨rfl, b2⟩
end Go.Proofs.Ytohnommmmdlnpaa
