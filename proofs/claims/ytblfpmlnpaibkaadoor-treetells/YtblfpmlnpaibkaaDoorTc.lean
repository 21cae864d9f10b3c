/- Reading files; where a path stands: tree.place. -/
import Derived.Test.YtblfpmlnpaibkaaDoorTa
import Derived.Test.YtblfpmlnpaibkaaDoorTb
namespace Go.Proofs.YtblfpmlnpaibkaaDoor
open Go.RowKit

theorem Rd.fil {w : World} {A : Option Addr} {fs : List Fil} (h : Rd w A (filV fs)) {j : Nat} (hj : j < fs.length) :
    ∃ b off, A = some ⟨b, off, none⟩ ∧ w.cell? ⟨b, off + j * 2, none⟩ = some (.string fs[j].1) ∧ w.cell? ⟨b, off + j * 2 + 1, none⟩ = some (.string fs[j].2) ∧ b < w.heap.size := by
  have hl := filV_length fs
  obtain ⟨b, off, rfl, h1, hb⟩ := h.at_ (k := j * 2) (by omega)
  have e1 := filV_at0 fs j hj
  have e2 := filV_at1 fs j hj
  rw [List.getElem?_eq_getElem (by omega)] at e1
  refine ⟨b, off, rfl, by rw [h1]; exact e1, ?_, hb⟩
  rw [Nat.add_assoc]
  rcases h with h | ⟨ad, he, hc⟩
  · rw [h] at hl
    simp at hl
    omega
  · injection he with he
    subst he
    have := hc _ _ e2
    rwa [Addr.add_lit] at this
theorem below_drewN {B : Nat} {a b : World} (h : Below B a b) (n : Nat) : Below B a (b.drewN n) := ⟨h.os, h.tape, h.output, h.size, h.block⟩

set_option maxHeartbeats 400000 in
theorem geq_any (ba bx : Nat) (A : Option Addr) (n c : Nat) (fs : List Fil) (p : ByteArray) (i : Nat) (W : World) (hl : fs.length = n) (hi : i < n)
    (ha : W.cell? ⟨ba, 0, none⟩ = some (.slice A n c)) (hx : W.cell? ⟨bx, 0, none⟩ = some (.string p)) (hr : Rd W A (filV fs)) :
    Calls Tryd.prog 54 (#[.int .i64 i] ++ #[.pointer (some ⟨ba, 0, none⟩), .pointer (some ⟨bx, 0, none⟩)]) W fun e w' => e = .returned (.bool (!Op.bytesLess (pth (fs[i]'(by omega))) p.data.toList)) ∧ Below W.heap.size W w' := by
  have hif : i < fs.length := by omega
  obtain ⟨b, off, rfl, h1, -, -⟩ := hr.fil hif
  unfold pth
  generalize fs[i].1 = x at h1 ⊢
  clear hr hl hif
  have hz : (0 : Int) ≤ i := by omega
  have hlt : (i : Int) < n := by omega
  go_enter Tryd.func54, Tryd.ntmps54
  go_wp2
  go_quiet (fail)
  go_wp2
  go_ret
  exact ⟨ret_bool (by rw [Lib.toList_data, Lib.toList_data]), below_drewN (Below.refl _ _) _⟩

theorem box2 (w : World) (v u : Value) (s t : TypeId) : ((w.alloc (.cells #[v] s)).alloc (.cells #[u] t)).cell? ⟨w.heap.size, 0, none⟩ = some v ∧ ((w.alloc (.cells #[v] s)).alloc (.cells #[u] t)).cell? ⟨w.heap.size + 1, 0, none⟩ = some u := by
  constructor
  · rw [World.cell?_alloc_past _ _ _ (by simp), World.cell?_alloc_at _ _ _ _ (by simp)]; rfl
  · rw [World.cell?_alloc_at _ _ _ _ (by simp)]; rfl

set_option maxHeartbeats 1000000 in
theorem place_any (A : Option Addr) (n c : Nat) (fs : List Fil) (p : ByteArray) (w : World) (hl : fs.length = n) (hs : Srt fs) (hr : Rd w A (filV fs)) (hn : n ≤ 140737488355328) :
    Calls Tryd.prog 34 #[.slice A n c, .string p] w fun e w' => e = .returned (.tuple #[.int .i64 ((lowT fs p.data.toList).length : Nat), .bool (thereT fs p.data.toList)]) ∧ Below w.heap.size w w' := by
  have hmf : ∀ (fn : Fn) (first cap : Array Value) (w : World), (Instr.makeFunc fn first cap).run Tryd.prog w = .ok (.func fn first cap) w := fun _ _ _ _ => rfl
  have HA := hid (@there_at fs p.data.toList hs)
  have hk : (lowT fs p.data.toList).length ≤ n := by rw [← hl]; exact low_len _
  have HS := hid (fun i (hi : i < fs.length) => @low_at fs p.data.toList hs i hi)
  generalize (lowT fs p.data.toList).length = k at *
  generalize thereT fs p.data.toList = th at *
  go_enter Tryd.func34, Tryd.ntmps34
  go_wp2_with fail
  obtain ⟨c1, c2⟩ := box2 w (.slice A n c) (.string p) 22 9
  have hr2 : Rd ((w.alloc (.cells #[.slice A n c] 22)).alloc (.cells #[.string p] 9)) A (filV fs) := (hr.alloc _).alloc _
  have hbb : Below w.heap.size w ((w.alloc (.cells #[.slice A n c] 22)).alloc (.cells #[.string p] 9)) := ((Below.refl _ _).alloc (Nat.le_refl _) _).alloc (by simp) _
  have hsz : w.heap.size + 1 < ((w.alloc (.cells #[.slice A n c] 22)).alloc (.cells #[.string p] 9)).heap.size := by simp
  generalize ((w.alloc (.cells #[.slice A n c] 22)).alloc (.cells #[.string p] 9)) = w2 at c1 c2 hr2 hbb hsz ⊢
  refine (search_any 54 _ n k w2 (enters_of Tryd.func54 (by kernel_rfl) rfl) (by omega) hk ?_).mono ?_
  · intro W i hi hbW
    refine (geq_any w.heap.size (w.heap.size + 1) A n c fs p i W hl hi ((hbW.cell (by show w.heap.size < _; omega)).trans c1) ((hbW.cell (by show w.heap.size + 1 < _; omega)).trans c2) (hr2.below hbW)).mono ?_
    rintro e w' ⟨rfl, hb'⟩
    refine ⟨ret_bool ?_, below2 hbW hb'⟩
    rw [HS.out i (by omega)]
    by_cases h : i < k
    · simp [h]
    · simp [h]; omega
  rintro e w3 ⟨rfl, hb3⟩
  have d1 := (hb3.cell (p := ⟨w.heap.size, 0, none⟩) (by show w.heap.size < _; omega)).trans c1
  have d2 := (hb3.cell (p := ⟨w.heap.size + 1, 0, none⟩) (by show w.heap.size + 1 < _; omega)).trans c2
  have hr3 := hr2.below hb3
  have hb3' := hbb.trans (hb3.mono hbb.size)
  clear c1 c2 hr2 hbb hb3 hr hsz
  by_cases hkn : k < n
  · obtain ⟨b, off, rfl, h1, -, -⟩ := hr3.fil (j := k) (by omega)
    have HT := hid (show th = true ↔ fs[k].1.data.toList = p.data.toList from ⟨fun h => (HA.out.1 h).2, fun h => HA.out.2 ⟨by omega, h⟩⟩)
    generalize fs[k].1 = x at h1 HT
    have hz : (0 : Int) ≤ k := by omega
    have hlt : (k : Int) < n := by omega
    clear hr3
    go_wp2_with fail
    go_quiet (fail)
    go_wp2
    go_ret2
    have et : (x.toList == p.toList) = th := by
      rw [Lib.toList_data, Lib.toList_data, Bool.eq_iff_iff, beq_iff_eq]
      exact HT.out.symm
    exact ⟨by rw [← et]; rfl, below_drewN hb3' _⟩
  · have hnlt : ¬ (k : Int) < n := by omega
    go_wp2_with fail
    go_quiet (fail)
    go_wp2
    go_ret2
    have et : th = false := not_true fun h => absurd (HA.out.1 h).1 (by omega)
    exact ⟨by rw [et]; rfl, below_drewN hb3' _⟩
end Go.Proofs.YtblfpmlnpaibkaaDoor
