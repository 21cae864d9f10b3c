/- Contracts of package vault: New, Sealed, Named, Size, Open. -/
import Derived.Test.YtdejhpinmkbngaaVf
namespace Go.Proofs.Ytdejhpinmkbngaa
open Go.RowKit Go.Maps

/-! ### New -/
def NewPost (w : World) (e : Ending) (w' : World) : Prop := ∃ g F, e = .returned (.pointer (some ⟨g, 0, none⟩)) ∧ Vlt w' g [] [] F ∧ Below w.heap.size w w' ∧ ∀ i, F i → w.heap.size ≤ i
theorem vlt_new (w : World) : Vlt (((w.alloc (.map #[] 0)).alloc (.map #[] 0)).alloc (.cells #[.map (some w.heap.size), .slice none 0 0, .map (some (w.heap.size + 1)), .slice none 0 0] 53)) (w.heap.size + 2) [] [] (fun i => i = w.heap.size + 2 ∨ i = w.heap.size ∨ i = w.heap.size + 1) := by
  have h1 := (World.ownsMap_made (H := Unit) w Try.prog 3 secR).alloc (.map #[] 0)
  have h2 := World.ownsMap_made (H := Unit) (w.alloc (.map #[] 0)) Try.prog 55 (plainElem Try.prog 3)
  rw [World.size_alloc] at h2
  refine ⟨w.heap.size, .slice none 0 0, w.heap.size + 1, .slice none 0 0, ?_, ⟨.map [], [], h1.alloc _, rfl, knowsS_nil, World.ownsRow_nil _ _ _ _, List.Pairwise.nil, rfl, by simp, by simp⟩, ⟨.map [], [], h2.alloc _, rfl, knowsN_nil, World.ownsRow_nil _ _ _ _, List.Pairwise.nil, rfl, by simp⟩, by omega, by simp [Value.ownBlock], fun i => by simp [Value.ownBlock]⟩
  have h := Blk.new ((w.alloc (.map #[] 0)).alloc (.map #[] 0)) [.map (some w.heap.size), .slice none 0 0, .map (some (w.heap.size + 1)), .slice none 0 0] 53
  rw [World.size_alloc, World.size_alloc] at h
  exact h
set_option maxHeartbeats 1000000 in
theorem new_any (w : World) : Calls Try.prog 12 #[] w (NewPost w) := by
  have hmm := @run_makeMap Try.prog
  go_enter Try.func12, Try.ntmps12
  go_wp2
  go_ret
  exact ⟨w.heap.size + 2, _, rfl, vlt_new w, (((Below.refl _ _).alloc (Nat.le_refl _) _).alloc (by simp) _).alloc (by simp; omega) _, by rintro i (h | h | h) <;> omega⟩

/-! ### Sealed, Named -/
theorem sealed_any {w : World} {g : Nat} {S : List Sec} {N : List Nam} {F : Nat → Prop} (h : Vlt w g S N F) :
    Calls Try.prog 21 #[.pointer (some ⟨g, 0, none⟩)] w fun e w' => e = .returned (.int .i64 S.length) ∧ w' = w := by
  obtain ⟨bm, v1, bn, v2, hB, ⟨D, H, hm, hz, -⟩, -⟩ := h
  have hrun := hm.len Try.underlying49 3
  rw [hz] at hrun
  have c0 := hB.cell 0
  simp only [List.getElem?_cons_zero] at c0
  clear hB hm hz
  go_enter Try.func21, Try.ntmps21
  go_wp2
  go_ret
  exact ⟨rfl, rfl⟩
theorem named_any {w : World} {g : Nat} {S : List Sec} {N : List Nam} {F : Nat → Prop} (h : Vlt w g S N F) :
    Calls Try.prog 22 #[.pointer (some ⟨g, 0, none⟩)] w fun e w' => e = .returned (.int .i64 N.length) ∧ w' = w := by
  obtain ⟨bm, v1, bn, v2, hB, -, ⟨D, H, hm, hz, -⟩, -⟩ := h
  have hrun := hm.len Try.underlying50 3
  rw [hz] at hrun
  have c0 := hB.cell 2
  simp only [List.getElem?_cons_zero, List.getElem?_cons_succ] at c0
  clear hB hm hz
  go_enter Try.func22, Try.ntmps22
  go_wp2
  go_ret
  exact ⟨rfl, rfl⟩

/-! ### Looking up -/
theorem lookS {w : World} {b : Nat} {v : Value} {S : List Sec} (h : PartS w b v S) {x : Int} (hx : I64 x) :
    ∃ k a p, (Instr.lookup 49 (.map (some b)) (.int .i64 x) true).run Try.prog w = .ok (.tuple #[.agg #[.int .i64 k, .string a, .string p], .bool (findS S x).isSome]) w ∧ ∀ s, findS S x = some s → s.key = k ∧ s.ad = a ∧ s.plain = p := by
  obtain ⟨D, H, hm, -, hk, -⟩ := h
  obtain ⟨v, ps, hrun, hv⟩ := hm.look_ok Try.keyI Try.underlying49 (Try.zeroSec _) (secR_mk _ _ _) (keyOf_int_mk Try.underlying3 (wf_i64 hx))
  obtain ⟨k, a, p, rfl, hd⟩ := secR_inv hv
  obtain ⟨h1, h2⟩ := hk x hx
  refine ⟨k, a, p, by rw [hrun, h1], fun s hs => ?_⟩
  have h3 := h2 s hs
  rw [hd] at h3
  obtain ⟨e1, e2, e3⟩ := secD_inj h3
  exact ⟨e1.symm, e2.symm, e3.symm⟩
theorem lookN {w : World} {b : Nat} {v : Value} {N : List Nam} (h : PartN w b v N) {k : Int} {l : ByteArray} (hk : I64 k) (hl : l.size ≤ maxLen) :
    ∃ c : Int, (Instr.lookup 50 (.map (some b)) (.agg #[.int .i64 k, .string l]) true).run Try.prog w = .ok (.tuple #[.int .i64 c, .bool (findN N k l).isSome]) w ∧ ∀ m, findN N k l = some m → c = m.h := by
  obtain ⟨D, H, hm, -, hkn, -⟩ := h
  obtain ⟨v, ps, hrun, hv⟩ := hm.look_ok Try.keyL Try.underlying50 (Try.zeroI _) (plainElem_int Try.underlying3 (by decide)) (lock_key hk hl)
  obtain ⟨c, rfl, hc, _⟩ := plainElem_int_inv Try.underlying3 hv
  obtain ⟨h1, h2⟩ := hkn k l hk hl
  refine ⟨c, by rw [hrun, h1], fun m hm => ?_⟩
  have h4 := (congrArg Prod.fst hc).symm.trans (h2 m hm)
  injection h4 with h4
  injection h4

/-! ### Size -/
def sizeV (S : List Sec) (x : Int) : Int := match findS S x with | some s => sizeI (bucketI s.plain.size) | none => 0
set_option maxHeartbeats 1000000 in
theorem vsize_any {w : World} {g : Nat} {S : List Sec} {N : List Nam} {F : Nat → Prop} (h : Vlt w g S N F) {x : Int} (hx : I64 x) :
    Calls Try.prog 19 #[.pointer (some ⟨g, 0, none⟩), .int .i64 x] w fun e w' => e = .returned (.int .i64 (sizeV S x)) ∧ Below w.heap.size w w' := by
  obtain ⟨bm, v1, bn, v2, hB, hp, -⟩ := h
  obtain ⟨k, a, p, hrun, hs⟩ := lookS hp hx
  have c0 := hB.cell 0
  simp only [List.getElem?_cons_zero] at c0
  clear hB hp
  cases hf : findS S x with
  | none =>
    have HV : Hid (sizeV S x = 0) := by show sizeV S x = 0; unfold sizeV; rw [hf]
    rw [hf] at hrun
    simp only [Option.isSome_none] at hrun
    clear hs hf hx
    go_enter Try.func19, Try.ntmps19
    go_wp2
    go_ret
    exact ⟨ret_int HV.out.symm, (Below.refl _ _).alloc (Nat.le_refl _) _⟩
  | some s =>
    have HV : Hid (sizeV S x = sizeI (bucketI s.plain.size)) := by show sizeV S x = _; unfold sizeV; rw [hf]
    rw [hf] at hrun
    simp only [Option.isSome_some] at hrun
    obtain ⟨rfl, rfl, rfl⟩ := hs s hf
    clear hs hf hx
    go_enter Try.func19, Try.ntmps19
    go_wp2_with fail
    refine (bucket_any _ _).mono ?_
    rintro e w1 ⟨rfl, hb1⟩
    go_wp2_with fail
    refine (size_any _ _).mono ?_
    rintro e w2 ⟨rfl, hb2⟩
    go_wp2
    go_ret
    exact ⟨ret_int HV.out.symm, below_new _ (below2 hb1 hb2)⟩

/-! ### Open -/
theorem strs_apart {a b : ByteArray} (h : a ≠ b) : (a.toList == b.toList) = false := by
  rw [beq_eq_false_iff_ne]
  intro e
  rw [ByteArray.toList_eq, ByteArray.toList_eq] at e
  refine h ?_
  cases a; cases b
  simpa using e
def openV (S : List Sec) (k : Int) (a : ByteArray) (x : Int) : Option ByteArray := match findS S x with | some s => if s.key = k ∧ s.ad = a then some s.plain else none | none => none
def OpenPost (w : World) (o : Option ByteArray) (e : Ending) (w' : World) : Prop := e = .returned (match o with | some p => .tuple #[.string p, .int .i64 0] | none => .tuple #[.string ⟨#[]⟩, .int .i64 7]) ∧ Below w.heap.size w w'
set_option maxHeartbeats 1000000 in
theorem open_any {w : World} {g : Nat} {S : List Sec} {N : List Nam} {F : Nat → Prop} (h : Vlt w g S N F) {x : Int} (hx : I64 x) (k : Int) (a : ByteArray) :
    Calls Try.prog 15 #[.pointer (some ⟨g, 0, none⟩), .int .i64 k, .string a, .int .i64 x] w (OpenPost w (openV S k a x)) := by
  obtain ⟨bm, v1, bn, v2, hB, hp, -⟩ := h
  obtain ⟨k', a', p', hrun, hs⟩ := lookS hp hx
  have hz : ∀ s, findS S x = some s → s.plain.size ≤ 5116 := fun s e => by
    obtain ⟨D, H, _, _, _, _, _, _, _, h9⟩ := hp
    exact h9 s (findS_mem e)
  have c0 := hB.cell 0
  simp only [List.getElem?_cons_zero] at c0
  clear hB hp
  cases hf : findS S x with
  | none =>
    have HV : Hid (openV S k a x = none) := by show openV S k a x = none; unfold openV; rw [hf]
    rw [hf] at hrun
    simp only [Option.isSome_none] at hrun
    clear hs hf hx hz
    go_enter Try.func15, Try.ntmps15
    go_wp2
    go_ret2
    rw [HV.out]
    exact ⟨rfl, (Below.refl _ _).alloc (Nat.le_refl _) _⟩
  | some s =>
    have hsz := hz s hf
    rw [hf] at hrun
    simp only [Option.isSome_some] at hrun
    obtain ⟨rfl, rfl, rfl⟩ := hs s hf
    clear hs hx hz
    by_cases hka : s.key = k ∧ s.ad = a
    · have HV : Hid (openV S k a x = some s.plain) := by show openV S k a x = _; unfold openV; rw [hf]; exact if_pos hka
      obtain ⟨rfl, rfl⟩ := hka
      clear hf
      go_enter Try.func15, Try.ntmps15
      go_wp2_with fail
      refine (clone_any _ _ (by omega)).mono ?_
      rintro e w1 ⟨rfl, b1⟩
      go_wp2
      go_ret2
      rw [HV.out]
      exact ⟨rfl, below_new _ b1⟩
    · have HV : Hid (openV S k a x = none) := by show openV S k a x = _; unfold openV; rw [hf]; exact if_neg hka
      clear hf
      by_cases hk : s.key = k
      · subst hk
        have hne := strs_apart (fun e => hka ⟨rfl, e⟩)
        clear hka
        go_enter Try.func15, Try.ntmps15
        go_wp2
        go_ret2
        rw [HV.out]
        exact ⟨rfl, (Below.refl _ _).alloc (Nat.le_refl _) _⟩
      · have hne : (s.key == k) = false := beq_eq_false_iff_ne.2 hk
        clear hka
        go_enter Try.func15, Try.ntmps15
        go_wp2
        go_ret2
        rw [HV.out]
        exact ⟨rfl, (Below.refl _ _).alloc (Nat.le_refl _) _⟩
end Go.Proofs.Ytdejhpinmkbngaa
