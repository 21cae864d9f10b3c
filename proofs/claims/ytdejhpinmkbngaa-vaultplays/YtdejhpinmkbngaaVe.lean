/- A number is drawn. -/
import Derived.Test.YtdejhpinmkbngaaVd
namespace Go.Proofs.Ytdejhpinmkbngaa
open Go.RowKit

theorem insert_any {w : World} {v : Value} {h : List Int} {k i : Nat} {x : Int} (hr : w.ownsRow 0 3 1 v h.length (intV h)) (hK : Blk w k [.int .i64 x] 3) (hne : v.ownBlock ≠ some k) (hn : h.length ≤ 100000) (hi : i ≤ h.length) :
    Calls Try.prog 35 #[v, .int .i64 i, .slice (some ⟨k, 0, none⟩) 1 1] w (InsPost w v h i x) := by
  rcases Nat.lt_or_ge i h.length with hlt | hge
  · rcases own_split hr with ⟨rfl, h0⟩ | ⟨g, c, r, rfl, hB, hc, hcm⟩
    · omega
    · have hkg : k ≠ g := fun e => hne (by rw [e]; rfl)
      by_cases hr0 : r = []
      · subst hr0
        rw [List.append_nil] at hB
        have e : c = h.length := by simpa using hc.symm
        subst e
        exact insert_grow hB hK rfl hn hlt
      · have := List.length_pos_iff.2 hr0
        exact insert_shift hB hK hkg rfl hn hlt hc (by omega) hcm
  · have e : i = h.length := by omega
    subst e
    exact insert_end hr hK hn

theorem mask32 (n : Int) : bits .and .i64 n 4294967295 = n % 4294967296 := by
  have h1 : (BitVec.ofInt 64 4294967295).toNat = 2 ^ 32 - 1 := by decide
  have key : (BitVec.ofInt 64 n &&& BitVec.ofInt 64 4294967295).toNat = (n % ((2 ^ 64 : Nat) : Int)).toNat % 2 ^ 32 := by
    rw [BitVec.toNat_and, BitVec.toNat_ofInt, h1, Nat.and_two_pow_sub_one_eq_mod]
  show IntKind.i64.wrap ((BitVec.ofInt 64 n &&& BitVec.ofInt 64 4294967295).toNat : Nat) = n % 4294967296
  rw [key, IntKind.wrap_i64]
  omega

/-- What draw leaves. -/
def DrawPost (w : World) (g off : Nat) (cs : List Value) (t : TypeId) (v : Value) (h : List Int) (x : Int) (e : Ending) (w' : World) : Prop :=
  ∃ v' h', e = .returned (.int .i64 (draw h x)) ∧ Blk w' g (cs.set off v') t ∧ w'.ownsRow 0 3 1 v' h'.length (intV h') ∧ Rises h' ∧ (∀ y, y ∈ h' ↔ y ∈ h ∨ y = draw h x) ∧ h'.length = h.length + 1 ∧
    Fr (fun i => i = g ∨ v.ownBlock = some i) w w' ∧ ∀ i, v'.ownBlock = some i → v.ownBlock = some i ∨ w.heap.size ≤ i
/-- The second half: the number is put in. -/
theorem draw_tail {w w1 : World} {g off : Nat} {cs : List Value} {t : TypeId} {v : Value} {h : List Int} {x : Int} {i : Nat} {e : Ending} {w3 : World} (hv : cs[off]? = some v) (hb1 : Below w.heap.size w w1) (hB : Blk w g cs t) (ht : t ≠ 3) (hr : w.ownsRow 0 3 1 v h.length (intV h)) (hs : Rises h) (hm : h.length ≤ 16384)
    (hc : Cut h (draw h x) i) (hp : InsPost (w1.alloc (.cells #[.int .i64 (draw h x)] 3)) v h i (draw h x) e w3) :
    ∃ A' c', e = .returned (.slice A' (h.length + 1) c') ∧ w3.cell? ⟨g, off, none⟩ = some v ∧ w3.frozen? ⟨g, off, none⟩ = false ∧ DrawPost w g off cs t v h x (.returned (.int .i64 (draw h x))) (w3.setCell ⟨g, off, none⟩ (.slice A' (h.length + 1) c')) := by
  obtain ⟨v', rfl, h1, h2, h3⟩ := hp
  have hvg : v.ownBlock ≠ some g := by
    obtain ⟨-, A, c, rfl, -⟩ := own_form hr
    exact row_type hr hB ht
  have hB3 : Blk w3 g cs t := ((hB.below hb1).below ((Below.refl _ _).alloc (Nat.le_refl _) _)).grown h2 hvg
  obtain ⟨-, A', c', rfl, -⟩ := own_form h1
  have hvg' := row_type h1 hB3 ht
  have hl : (putAt h i (draw h x)).length = h.length + 1 := putAt_length _ hc.1
  have hsz : w.heap.size ≤ (w1.alloc (.cells #[.int .i64 (draw h x)] 3)).heap.size := Nat.le_trans hb1.size (by simp)
  refine ⟨A', c', rfl, (hB3.cell off).trans hv, hB3.frozen off, _, putAt h i (draw h x), rfl, hB3.set_ off _, ?_, rises_putAt hs hc (draw_free h (by omega) x), fun y => mem_putAt, hl, ?_, ?_⟩
  · rw [hl]
    exact h1.kept (grown_set (g := g) off _) (.inr hvg')
  · have f1 : Fr (fun i => i = g ∨ v.ownBlock = some i) w (w1.alloc (.cells #[.int .i64 (draw h x)] 3)) := Fr.of_below _ (below2 hb1 ((Below.refl _ _).alloc (Nat.le_refl _) _))
    have f2 := f1.trans (Fr.of_grown (F := fun i => i = g ∨ v.ownBlock = some i) h2 (fun k hk => .inr hk)) (fun i hi => .inl hi)
    exact f2.trans (Fr.of_grown (F := fun i => i = g ∨ v.ownBlock = some i) (grown_set (g := g) off _) (fun k hk => .inl (by injection hk with hk; exact hk.symm))) (fun i hi => .inl hi)
  · intro j hj
    rcases h3 with h4 | h4
    · exact .inl (h4 ▸ hj)
    · rw [h4] at hj
      injection hj with hj
      exact .inr (by omega)

set_option maxHeartbeats 4000000 in
set_option maxRecDepth 20000 in
theorem draw_any {w : World} {g off : Nat} {cs : List Value} {t : TypeId} {v : Value} {h : List Int} (x : Int) (hB : Blk w g cs t) (ht : t ≠ 3) (hv : cs[off]? = some v) (hr : w.ownsRow 0 3 1 v h.length (intV h)) (hs : Rises h) (hm : h.length ≤ 16384) :
    Calls Try.prog 24 #[.pointer (some ⟨g, off, none⟩), .int .i64 x] w (DrawPost w g off cs t v h x) := by
  obtain ⟨-, A, c, rfl, hnc, hcm⟩ := own_form hr
  have HT : Hid (∀ {w1 : World} {i : Nat} {e : Ending} {w3 : World}, Below w.heap.size w w1 → Cut h (draw h x) i → InsPost (w1.alloc (.cells #[.int .i64 (draw h x)] 3)) (.slice A h.length c) h i (draw h x) e w3 → _) := fun hb1 hc hp => draw_tail hv hb1 hB ht hr hs hm hc hp
  have c0 := (hB.cell off).trans hv
  have HR := hid hr
  have HRd := hid (Rd.of_own hr)
  have HS := hid hs
  have hgl := hB.lt
  obtain ⟨n, hn⟩ : ∃ n, n = h.length := ⟨_, rfl⟩
  rw [← hn] at c0 hm hnc HR ⊢
  have HN := hid hn
  clear hr hs hB hv hn
  go_enter Try.func24, Try.ntmps24
  go_wp2_with fail
  rw [mask32]
  refine (free_any A n c h (x % 4294967296) _ HN.out.symm HRd.out HS.out (by omega) hnc (by omega)).mono ?_
  rintro e w1 ⟨⟨r, rfl, hf⟩, hb1⟩
  have c1 := (hb1.cell (p := ⟨g, off, none⟩) hgl).trans c0
  by_cases hrm : 4294967295 < r
  · have HF := hid hf
    have HRM := hid hrm
    clear hf
    go_wp2_with fail
    refine (free_any A n c h 0 _ HN.out.symm (HRd.out.below hb1) HS.out (by omega) hnc (by omega)).mono ?_
    rintro e w2 ⟨⟨q, rfl, hq⟩, hb2⟩
    obtain rfl : q = draw h x := (draw_round (by have := HN.out; omega) HF.out (by have := HRM.out; omega) hq).symm
    have c2 := ((below2 hb1 hb2).cell (p := ⟨g, off, none⟩) hgl).trans c0
    have hb3 := below2 hb1 hb2
    clear c1 hq hrm HF HRM c0 hb1 hb2
    go_wp2_with fail
    refine (bsearch_any A n c h (draw h x) _ HN.out.symm (HRd.out.below hb3) HS.out (by omega)).mono ?_
    rintro e wu ⟨⟨i, b, rfl, hcut⟩, rfl⟩
    have HC := hid hcut
    have hil : i ≤ n := by have := hcut.1; have := HN.out; omega
    clear hcut
    go_wp2_with fail
    have hi' : i ≤ h.length := by rw [← HN.out]; exact hil
    have hro : World.ownsRow (wu.alloc (.cells #[.int .i64 (draw h x)] 3)) 0 3 1 (.slice A h.length c) h.length (intV h) := by
      have := HR.out
      rw [HN.out] at this
      exact (this.kept (grown_below (row := none) hb3) (by cases (Value.slice A h.length c).ownBlock <;> simp)).alloc _
    have hkb : (Value.slice A h.length c).ownBlock ≠ some wu.heap.size := by
      intro e
      have hlt := (HR.out.lt wu.heap.size (by rw [HN.out]; exact e)).2
      have := (hb3).size
      omega
    rw [HN.out]
    refine (insert_any hro (Blk.new wu [.int .i64 (draw h x)] 3) hkb (by rw [← HN.out]; omega) hi').mono ?_
    intro e w3 hp
    obtain ⟨A', c', rfl, c3, f3, hpost⟩ := HT.out (hb3) HC.out hp
    have HPO := hid hpost
    clear hpost hp hro hkb hi'
    go_wp2
    go_ret
    rw [HN.out]
    exact HPO.out
  · obtain rfl : r = draw h x := (draw_low (by have := HN.out; omega) hf (by omega)).symm
    clear hf c0
    go_wp2_with fail
    refine (bsearch_any A n c h (draw h x) _ HN.out.symm (HRd.out.below hb1) HS.out (by omega)).mono ?_
    rintro e wu ⟨⟨i, b, rfl, hcut⟩, rfl⟩
    have HC := hid hcut
    have hil : i ≤ n := by have := hcut.1; have := HN.out; omega
    clear hcut
    go_wp2_with fail
    have hi' : i ≤ h.length := by rw [← HN.out]; exact hil
    have hro : World.ownsRow (wu.alloc (.cells #[.int .i64 (draw h x)] 3)) 0 3 1 (.slice A h.length c) h.length (intV h) := by
      have := HR.out
      rw [HN.out] at this
      exact (this.kept (grown_below (row := none) hb1) (by cases (Value.slice A h.length c).ownBlock <;> simp)).alloc _
    have hkb : (Value.slice A h.length c).ownBlock ≠ some wu.heap.size := by
      intro e
      have hlt := (HR.out.lt wu.heap.size (by rw [HN.out]; exact e)).2
      have := (hb1).size
      omega
    rw [HN.out]
    refine (insert_any hro (Blk.new wu [.int .i64 (draw h x)] 3) hkb (by rw [← HN.out]; omega) hi').mono ?_
    intro e w3 hp
    obtain ⟨A', c', rfl, c3, f3, hpost⟩ := HT.out (hb1) HC.out hp
    have HPO := hid hpost
    clear hpost hp hro hkb hi'
    go_wp2
    go_ret
    rw [HN.out]
    exact HPO.out
end Go.Proofs.Ytdejhpinmkbngaa
