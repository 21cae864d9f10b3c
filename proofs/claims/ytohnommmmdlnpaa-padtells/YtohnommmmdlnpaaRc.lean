/- The document's answer of layer 1: its reader. -/
import Derived.Test.YtohnommmmdlnpaaRb
import Derived.Test.YtohnommmmdlnpaaLg
import Derived.Test.YtohnommmmdlnpaaLd
namespace Go.Proofs.Ytohnommmmdlnpaa
open Go.RowKit

theorem Rd.drewN {w : World} {A : Option Addr} {xs : List Value} (h : Rd w A xs) (n : Nat) : Rd (w.drewN n) A xs := h

/-- The document's reader lies in block g. -/
def RefAt (w : World) (g : Nat) (A : Option Addr) (c : Nat) (l : List UInt8) (p : Nat) (e : Int) : Prop :=
  Blk w g [.slice A l.length c, .int .i64 p, .int .i64 e] 45 ∧ Rd w A (by8 l) ∧ l.length ≤ c ∧ c ≤ maxLen ∧ p ≤ l.length
theorem RefAt.drewN {w : World} {g : Nat} {A : Option Addr} {c : Nat} {l : List UInt8} {p : Nat} {e : Int} (h : RefAt w g A c l p e) (n : Nat) : RefAt (w.drewN n) g A c l p e := h
theorem ref_err {w w' : World} {g : Nat} {A : Option Addr} {c : Nat} {l : List UInt8} {p : Nat} {e e' : Int} (h : RefAt w g A c l p e) (hg : w' = w.setCell ⟨g, 2, none⟩ (.int .i64 e')) : RefAt w' g A c l p e' := by
  subst hg
  obtain ⟨hb, hr, h1, h2, h3⟩ := h
  exact ⟨hb.set_ 2 _, hr.grown (grown_set 2 _) (blk_not_by8 hb), h1, h2, h3⟩
theorem ref_pos {w w' : World} {g : Nat} {A : Option Addr} {c : Nat} {l : List UInt8} {p p' : Nat} {e : Int} (h : RefAt w g A c l p e) (hp : p' ≤ l.length) (hg : w' = w.setCell ⟨g, 1, none⟩ (.int .i64 p')) : RefAt w' g A c l p' e := by
  subst hg
  obtain ⟨hb, hr, h1, h2, h3⟩ := h
  exact ⟨hb.set_ 1 _, hr.grown (grown_set 1 _) (blk_not_by8 hb), h1, h2, hp⟩
theorem RefAt.far {w0 w w' : World} {g : Nat} {A : Option Addr} {c : Nat} {l : List UInt8} {p p0 : Nat} {e e0 : Int} {row : Option Nat} (h0 : RefAt w0 g A c l p0 e0) (h : RefAt w g A c l p e) (hg : w.grownBy w' row) (hsz : w0.heap.size ≤ w.heap.size)
    (hrow : ∀ k, row = some k → w0.heap.size ≤ k) : RefAt w' g A c l p e := by
  obtain ⟨hb, hr, h1, h2, h3⟩ := h
  have hlt := h0.1.lt
  refine ⟨?_, Rd.far h0.2.1 hr hg hrow, h1, h2, h3⟩
  unfold Blk
  rw [hg.block g (by omega) (fun e => by have := hrow g e.symm; omega)]
  exact hb
theorem RefAt.below {w w' : World} {g : Nat} {A : Option Addr} {c : Nat} {l : List UInt8} {p : Nat} {e : Int} (h : RefAt w g A c l p e) (hb : Below w.heap.size w w') : RefAt w' g A c l p e :=
  RefAt.far (row := none) h h (grown_below hb) (Nat.le_refl _) (by simp)
theorem RefAt.apart {w w' : World} {g g' : Nat} {A : Option Addr} {c : Nat} {l : List UInt8} {p : Nat} {e : Int} {n' c' : Nat} {A' : Option Addr} {p' e' : Int} {t : TypeId} (h : RefAt w g A c l p e) (hb : Blk w g' [.slice A' n' c', .int .i64 p', .int .i64 e'] t) (hg : w.grownBy w' (some g')) (hne : g ≠ g') : RefAt w' g A c l p e := by
  obtain ⟨h0, hr, h1, h2, h3⟩ := h
  refine ⟨?_, hr.grown hg (blk_not_by8 hb), h1, h2, h3⟩
  unfold Blk
  rw [hg.block g (Blk.lt h0) (by simpa using hne)]
  exact h0
def RefPost (w : World) (g : Nat) (A : Option Addr) (c : Nat) (l : List UInt8) (v : Value) (q : Nat × Int) (r : Ending) (w' : World) : Prop :=
  r = .returned v ∧ RefAt w' g A c l q.1 q.2 ∧ w.grownBy w' (some g)
theorem rNum_place (l : List UInt8) (p : Nat) (e most : Int) (hp : p ≤ l.length) : (rNum l p e most).2.1 ≤ l.length := by
  rcases rNum_cases l p e most with ⟨e', _, hx⟩ | ⟨n, _, _, _, h4, _, hx⟩ <;> rw [hx] <;> simp only <;> omega
theorem rStr_place (l : List UInt8) (p : Nat) (e most : Int) (hp : p ≤ l.length) : (rStr l p e most).2.1 ≤ l.length := by
  unfold rStr strOf
  split
  · exact hp
  · split
    · exact hp
    · simp only; omega

set_option maxHeartbeats 1000000 in
theorem refRString (g : Nat) (A : Option Addr) (c : Nat) (l : List UInt8) (p : Nat) (e : Int) (most : Int) (w : World) (h : RefAt w g A c l p e) (hl : l.length ≤ 140737488355328) :
    Calls Try.prog 26 #[.pointer (some ⟨g, 0, none⟩), .int .i64 most] w (RefPost w g A c l (.string ⟨(rStr l p e most).1.toArray⟩) (rStr l p e most).2) := by
  have h' := h
  obtain ⟨hb, hr, h1, h2, h3⟩ := h'
  have c0 := hb.cell 0
  have c1 := hb.cell 1
  have c2 := hb.cell 2
  have f1 := hb.frozen 1
  have f2 := hb.frozen 2
  simp only [List.getElem?_cons_zero, List.getElem?_cons_succ] at c0 c1 c2
  by_cases he : e = 0
  · subst he
    have hpl := rStr_place l p 0 most h3
    have K := fun m => still_call (R := fun w' => ∃ k, w' = w.drewN k) (turn_call (reftext A l.length c l p most (w.drewN m) rfl (hr.drewN m) h1 hl h3)) ⟨m, rfl⟩
    have HK := hid K
    clear K
    generalize rStr l p 0 most = z at *
    obtain ⟨z1, z2, z3⟩ := z
    simp only at HK hpl ⊢
    go_enter Try.func26, Try.ntmps26
    go_wp2_with fail
    go_quiet ((go_at_call 35; exact HK.out _))
    go_wp2
    go_ret
    exact ⟨rfl, ref_err (ref_pos (h.drewN nq) hpl rfl) rfl, grown_trans (grown_trans (grown_drewN (World.grownBy.refl _ _) nq) (grown_set 1 _)) (grown_set 2 _)⟩
  · have he' : (e != 0) = true := by simp [he]
    rw [rStr_bad he]
    go_enter Try.func26, Try.ntmps26
    go_wp2
    go_ret
    exact ⟨rfl, h, World.grownBy.refl _ _⟩

end Go.Proofs.Ytohnommmmdlnpaa
