/- Bytes of a row turned by one byte. -/
import Derived.Test.YtdejhpinmkbngaaByt
namespace Go.Proofs.Ytdejhpinmkbngaa
open Go.RowKit

theorem xor_u8 (a b : UInt8) : bits .xor .u8 (a.toNat : Int) (b.toNat : Int) = ((a ^^^ b).toNat : Int) := by
  have ha := a.toNat_lt
  have hb := b.toNat_lt
  have e1 : (BitVec.ofInt 8 (a.toNat : Int)).toNat = a.toNat := by
    rw [BitVec.ofInt_natCast, BitVec.toNat_ofNat]
    exact Nat.mod_eq_of_lt (by omega)
  have e2 : (BitVec.ofInt 8 (b.toNat : Int)).toNat = b.toNat := by
    rw [BitVec.ofInt_natCast, BitVec.toNat_ofNat]
    exact Nat.mod_eq_of_lt (by omega)
  have h3 : a.toNat ^^^ b.toNat < 2 ^ 8 := Nat.xor_lt_two_pow (by omega) (by omega)
  show IntKind.u8.wrap ((BitVec.ofInt 8 (a.toNat : Int) ^^^ BitVec.ofInt 8 (b.toNat : Int)).toNat : Int) = _
  rw [BitVec.toNat_xor, e1, e2, UInt8.toNat_xor]
  show (((a.toNat ^^^ b.toNat : Nat) : Int) % 256) = _
  omega
/-- The first j bytes are others. -/
def xorL (b : UInt8) (l : List UInt8) (j : Nat) : List UInt8 := (l.take j).map (· ^^^ b) ++ l.drop j
theorem xorL_length (b : UInt8) (l : List UInt8) (j : Nat) : (xorL b l j).length = l.length := by
  simp [xorL]
  omega
theorem xorL_at (b : UInt8) (l : List UInt8) (j : Nat) (h : j < l.length) : (xorL b l j)[j]? = some l[j] := by
  unfold xorL
  rw [List.getElem?_append_right (by simp; omega)]
  simp [show min j l.length = j by omega, h]
theorem xorL_step (b : UInt8) (l : List UInt8) (j : Nat) (h : j < l.length) : (xorL b l j).set j (l[j] ^^^ b) = xorL b l (j + 1) := by
  unfold xorL
  have hm : ((l.take j).map (· ^^^ b)).length = j := by simp; omega
  rw [List.set_append_right _ _ (by omega), hm, Nat.sub_self, List.drop_eq_getElem_cons h, List.set_cons_zero, List.take_succ_eq_append_getElem h, List.map_append, List.append_assoc]
  rfl
theorem xorL_zero (b : UInt8) (l : List UInt8) : xorL b l 0 = l := by simp [xorL]
end Go.Proofs.Ytdejhpinmkbngaa
