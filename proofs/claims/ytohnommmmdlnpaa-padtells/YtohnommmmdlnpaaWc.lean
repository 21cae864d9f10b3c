/- Package wire: the reader. -/
import Derived.Test.YtohnommmmdlnpaaWb
import Derived.Test.YtohnommmmdlnpaaBlk
import Derived.Deep.QuietTactic
import Derived.BigQuiet
namespace Go.Proofs.Ytohnommmmdlnpaa
open Go.RowKit

/-! ### The reader, plainly -/
/-- The number that four bytes tell. -/
def num4 (l : List UInt8) (p : Nat) : Nat := (((l.getD p 0).toNat * 256 + (l.getD (p + 1) 0).toNat) * 256 + (l.getD (p + 2) 0).toNat) * 256 + (l.getD (p + 3) 0).toNat
/-- What Number tells, the place, the error. -/
def rNum (l : List UInt8) (p : Nat) (e : Int) (most : Int) : Int × Nat × Int :=
  if e ≠ 0 then (0, p, e) else if l.length < p + 4 then (0, p, 4) else if most < num4 l p then (0, p, 5) else (num4 l p, p + 4, 0)

/-- A reader lies in block g. -/
def RdrAt (w : World) (g : Nat) (A : Option Addr) (c : Nat) (l : List UInt8) (p : Nat) (e : Int) : Prop :=
  Blk w g [.slice A l.length c, .int .i64 p, .int .i64 e] 52 ∧ Rd w A (by8 l) ∧ l.length ≤ c ∧ c ≤ maxLen ∧ p ≤ l.length

theorem RdrAt.drewN {w : World} {g : Nat} {A : Option Addr} {c : Nat} {l : List UInt8} {p : Nat} {e : Int} (h : RdrAt w g A c l p e) (n : Nat) : RdrAt (w.drewN n) g A c l p e := h
theorem blk_not_by8 {w : World} {g : Nat} {A : Option Addr} {n c : Nat} {p e : Int} {t : TypeId} {l : List UInt8} (h : Blk w g [.slice A n c, .int .i64 p, .int .i64 e] t) : ∀ o u, w.cell? ⟨g, o, none⟩ = some u → u ∉ by8 l := by
  intro o u hu hm
  obtain ⟨b, _, rfl⟩ := List.mem_map.1 hm
  rw [h.cell o] at hu
  match o, hu with
  | 0, hu => simp at hu
  | 1, hu => simp at hu
  | 2, hu => simp at hu

set_option maxHeartbeats 400000 in
theorem left_any (g : Nat) (A : Option Addr) (c : Nat) (l : List UInt8) (p : Nat) (e : Int) (w : World) (h : RdrAt w g A c l p e) (hl : l.length ≤ 140737488355328) :
    Calls Try.prog 34 #[.pointer (some ⟨g, 0, none⟩)] w fun r w' => r = .returned (.int .i64 ((l.length : Int) - p)) ∧ ∃ m, w' = w.drewN m := by
  obtain ⟨hb, hr, h1, h2, h3⟩ := h
  have c0 := hb.cell 0
  have c1 := hb.cell 1
  simp only [List.getElem?_cons_zero, List.getElem?_cons_succ] at c0 c1
  go_enter Try.func34, Try.ntmps34
  go_wp2_with fail
  go_quiet (fail)
  go_wp2
  go_ret
  exact ⟨rfl, _, rfl⟩

theorem rNum_bad {l : List UInt8} {p : Nat} {e most : Int} (h : e ≠ 0) : rNum l p e most = (0, p, e) := by simp [rNum, h]
theorem rNum_short {l : List UInt8} {p : Nat} {most : Int} (h : l.length < p + 4) : rNum l p 0 most = (0, p, 4) := by simp [rNum, h]
theorem rNum_great {l : List UInt8} {p : Nat} {most : Int} (h : p + 4 ≤ l.length) (h' : most < num4 l p) : rNum l p 0 most = (0, p, 5) := by
  simp [rNum, h', show ¬ l.length < p + 4 by omega]
theorem rNum_ok {l : List UInt8} {p : Nat} {most : Int} (h : p + 4 ≤ l.length) (h' : (num4 l p : Int) ≤ most) : rNum l p 0 most = ((num4 l p : Int), p + 4, 0) := by
  simp [rNum, show ¬ most < num4 l p by omega, show ¬ l.length < p + 4 by omega]
theorem num4_lt (l : List UInt8) (p : Nat) : num4 l p < 4294967296 := by
  unfold num4
  have h0 := (l.getD p 0).toNat_lt
  have h1 := (l.getD (p + 1) 0).toNat_lt
  have h2 := (l.getD (p + 2) 0).toNat_lt
  have h3 := (l.getD (p + 3) 0).toNat_lt
  omega

/-- The number that the first k bytes tell. -/
def pnum (l : List UInt8) (p : Nat) : Nat → Nat
  | 0 => 0
  | k + 1 => pnum l p k * 256 + (l.getD (p + k) 0).toNat
theorem pnum_four (l : List UInt8) (p : Nat) : pnum l p 4 = num4 l p := by simp [pnum, num4]
theorem pnum_lt (l : List UInt8) (p : Nat) : ∀ k, pnum l p k < 256 ^ k
  | 0 => by simp [pnum]
  | k + 1 => by
    have := pnum_lt l p k
    have := (l.getD (p + k) 0).toNat_lt
    rw [pnum, Nat.pow_succ]
    omega
theorem pnum_small (l : List UInt8) (p k : Nat) (h : k < 4) : pnum l p k < 16777216 := by
  have h1 := pnum_lt l p k
  have : 256 ^ k ≤ 256 ^ 3 := Nat.pow_le_pow_right (by decide) (by omega)
  omega
/-- n<<8 | c. -/
theorem or_byte (n c : Nat) (hn : n < 16777216) (hc : c < 256) : bits .or .i64 ((n : Int) * 256) (c : Int) = ((n * 256 + c : Nat) : Int) := by
  have e1 : (BitVec.ofInt 64 ((n : Int) * 256)).toNat = n * 256 := by
    rw [show (n : Int) * 256 = ((n * 256 : Nat) : Int) by omega, BitVec.ofInt_natCast, BitVec.toNat_ofNat]
    exact Nat.mod_eq_of_lt (by omega)
  have e2 : (BitVec.ofInt 64 (c : Int)).toNat = c := by
    rw [BitVec.ofInt_natCast, BitVec.toNat_ofNat]
    exact Nat.mod_eq_of_lt (by omega)
  have e3 : n * 256 ||| c = n * 256 + c := by
    have := Nat.shiftLeft_add_eq_or_of_lt (i := 8) (b := c) (by omega) n
    rw [Nat.shiftLeft_eq] at this
    exact this.symm
  show IntKind.i64.wrap ((BitVec.ofInt 64 ((n : Int) * 256) ||| BitVec.ofInt 64 (c : Int)).toNat : Int) = _
  rw [BitVec.toNat_or, e1, e2, e3, IntKind.wrap_i64]
  omega

/-- What a call of the reader leaves. -/
def RdrPost (w : World) (g : Nat) (A : Option Addr) (c : Nat) (l : List UInt8) (v : Value) (q : Nat × Int) (r : Ending) (w' : World) : Prop :=
  r = .returned v ∧ RdrAt w' g A c l q.1 q.2 ∧ w.grownBy w' (some g)

theorem rdr_err {w w' : World} {g : Nat} {A : Option Addr} {c : Nat} {l : List UInt8} {p : Nat} {e e' : Int} (h : RdrAt w g A c l p e) (hg : w' = w.setCell ⟨g, 2, none⟩ (.int .i64 e')) : RdrAt w' g A c l p e' := by
  subst hg
  obtain ⟨hb, hr, h1, h2, h3⟩ := h
  exact ⟨hb.set_ 2 _, hr.grown (grown_set 2 _) (blk_not_by8 hb), h1, h2, h3⟩
theorem rdr_pos {w w' : World} {g : Nat} {A : Option Addr} {c : Nat} {l : List UInt8} {p p' : Nat} {e : Int} (h : RdrAt w g A c l p e) (hp : p' ≤ l.length) (hg : w' = w.setCell ⟨g, 1, none⟩ (.int .i64 p')) : RdrAt w' g A c l p' e := by
  subst hg
  obtain ⟨hb, hr, h1, h2, h3⟩ := h
  exact ⟨hb.set_ 1 _, hr.grown (grown_set 1 _) (blk_not_by8 hb), h1, h2, hp⟩

theorem byte_at {w : World} {b off : Nat} {l : List UInt8} {j : Nat} (h : Rd w (some ⟨b, off, none⟩) (by8 l)) (hj : j < l.length) : w.cell? ⟨b, off + j, none⟩ = some (.int .u8 ((l.getD j 0).toNat : Int)) := by
  obtain ⟨b', off', he, hc, _⟩ := h.at_ (k := j) (by rw [by8_length]; exact hj)
  injection he with he
  injection he with h1 h2
  subst h1 h2
  rw [hc]
  simp [by8, hj]

set_option maxHeartbeats 400000 in
theorem rdNumber (g : Nat) (A : Option Addr) (c : Nat) (l : List UInt8) (p : Nat) (e : Int) (most : Int) (w : World) (h : RdrAt w g A c l p e) (hl : l.length ≤ 140737488355328) :
    Calls Try.prog 33 #[.pointer (some ⟨g, 0, none⟩), .int .i64 most] w (RdrPost w g A c l (.int .i64 (rNum l p e most).1) (rNum l p e most).2) := by
  have h' := h
  obtain ⟨hb, hr, h1, h2, h3⟩ := h'
  have c0 := hb.cell 0
  have c1 := hb.cell 1
  have c2 := hb.cell 2
  have f1 := hb.frozen 1
  have f2 := hb.frozen 2
  simp only [List.getElem?_cons_zero, List.getElem?_cons_succ] at c0 c1 c2
  by_cases he : e = 0
  · subst he
    by_cases hs : l.length < p + 4
    · rw [rNum_short hs]
      go_enter Try.func33, Try.ntmps33
      go_wp2_with fail
      refine (left_any g _ c l p 0 _ h hl).mono ?_
      rintro e w' ⟨rfl, m, rfl⟩
      go_wp2
      go_ret
      exact ⟨rfl, rdr_err (h.drewN m) rfl, grown_trans (grown_drewN (World.grownBy.refl _ _) m) (grown_set 2 _)⟩
    · have hdc : decide ((l.length : Int) - p < 4) = false := by simp; omega
      go_enter Try.func33, Try.ntmps33
      go_wp2_with fail
      refine (left_any g _ c l p 0 _ h hl).mono ?_
      rintro e w' ⟨rfl, m, rfl⟩
      obtain ⟨b, off, rfl, -, hbl⟩ := hr.at_ (k := p) (by rw [by8_length]; omega)
      have hcp : ¬ c = p := by omega
      go_wp2_with fail
      go_quiet (fail)
      rw [World.drewN_drewN]
      generalize m + nq = M
      go_wp2_with fail
      go_loop [5, 34] (fun n i => ∃ k : Nat, k ≤ 4 ∧ i = .int .i64 k ∧ n = .int .i64 (pnum l p k)) (fun _ i => 4 - (intOf i).toNat)
      case atStart => exact ⟨0, by omega, rfl, rfl⟩
      case round =>
        obtain ⟨k, hk, rfl, rfl⟩ := hrel
        by_cases hk4 : k < 4
        · have hpk : p + k < l.length := by omega
          have hc := byte_at hr hpk
          rw [← Nat.add_assoc] at hc
          have hx : (l.getD (p + k) 0).toNat < 256 := (l.getD (p + k) 0).toNat_lt
          have hsm := pnum_small l p k hk4
          have HO := hid (or_byte (pnum l p k) (l.getD (p + k) 0).toNat hsm hx)
          have HP : Hid (pnum l p (k + 1) = pnum l p k * 256 + (l.getD (p + k) 0).toNat) := rfl
          generalize (l.getD (p + k) 0).toNat = x at *
          generalize pnum l p k = y at *
          go_wp2
          go_round
          case rel => exact ⟨k + 1, by omega, by go_num, by rw [HP.out]; exact congrArg _ HO.out⟩
          case measure => simp [intOf]; omega
        · have e : k = 4 := by omega
          subst e
          rw [pnum_four]
          have hnl := num4_lt l p
          by_cases hgt : most < (num4 l p : Int)
          · have HR := hid (rNum_great (by omega) hgt)
            generalize num4 l p = y at *
            go_wp2
            go_ret
            rw [HR.out]
            exact ⟨rfl, rdr_err (h.drewN M) rfl, grown_trans (grown_drewN (World.grownBy.refl _ _) M) (grown_set 2 _)⟩
          · have HR := hid (rNum_ok (l := l) (p := p) (most := most) (by omega) (by omega))
            generalize num4 l p = y at *
            go_wp2
            go_ret
            rw [HR.out]
            exact ⟨rfl, rdr_pos (p' := p + 4) (h.drewN M) (by omega) rfl, grown_trans (grown_drewN (World.grownBy.refl _ _) M) (grown_set 1 _)⟩
  · have he' : (e != 0) = true := by simp [he]
    rw [rNum_bad he]
    go_enter Try.func33, Try.ntmps33
    go_wp2
    go_ret
    exact ⟨rfl, h, World.grownBy.refl _ _⟩

set_option maxHeartbeats 400000 in
theorem rdErr (g : Nat) (A : Option Addr) (c : Nat) (l : List UInt8) (p : Nat) (e : Int) (w : World) (h : RdrAt w g A c l p e) :
    Calls Try.prog 25 #[.pointer (some ⟨g, 0, none⟩)] w fun r w' => r = .returned (.int .i64 e) ∧ w = w' := by
  obtain ⟨hb, _⟩ := h
  have c2 := hb.cell 2
  simp only [List.getElem?_cons_zero, List.getElem?_cons_succ] at c2
  go_enter Try.func25, Try.ntmps25
  go_wp2
  go_ret
  exact ⟨rfl, rfl⟩

/-- What End tells. -/
def rEnd (l : List UInt8) (p : Nat) (e : Int) : Int := if e = 0 ∧ p < l.length then 4 else e

set_option maxHeartbeats 400000 in
theorem read_any (A : Option Addr) (n c : Nat) (l : List UInt8) (w : World) (hl : l.length = n) (hr : Rd w A (by8 l)) (hn : n ≤ 140737488354000) :
    Calls Try.prog 23 #[.slice A n c] w fun r w' => ∃ g A' c', r = .returned (.pointer (some ⟨g, 0, none⟩)) ∧ RdrAt w' g A' c' l 0 0 ∧ w.heap.size ≤ g ∧ Below w.heap.size w w' := by
  have HL := hid hl
  clear hl
  go_enter Try.func23, Try.ntmps23
  go_wp2_with fail
  refine (copied_any A n c l 0 _ HL.out hr (by omega) (by omega)).mono ?_
  rintro e w1 ⟨A1, c1, rfl, hown1, hb1⟩
  go_wp2
  go_ret
  have hl := HL.out
  subst hl
  obtain ⟨_, A2, c2, hv, hc1, hc2⟩ := own_form hown1
  injection hv with e1 e2 e3
  subst e1 e3
  exact ⟨_, A1, c1, rfl, ⟨heap_alloc_new w1 _, (Rd.of_own hown1).alloc _, hc1, hc2, Nat.zero_le _⟩, hb1.size, hb1.alloc hb1.size _⟩
end Go.Proofs.Ytohnommmmdlnpaa
