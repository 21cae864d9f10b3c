/- The document's vault: Open, Seal, Name. -/
import Derived.Test.YtdejhpinmkbngaaVr
namespace Go.Proofs.Ytdejhpinmkbngaa
open Go.RowKit Go.Maps

theorem open_at {S : List Sec} (nd : (S.map Sec.h).Nodup) {j : Nat} (hj : j < S.length) {k x : Int} {a : ByteArray} (e : S[j].h = x ∧ S[j].key = k ∧ S[j].ad = a) : openV S k a x = some S[j].plain := by
  obtain ⟨rfl, h2⟩ := e
  rw [open_own nd hj, if_pos h2]
theorem open_none {S : List Sec} {k x : Int} {a : ByteArray} (h : ∀ i (hi : i < S.length), ¬ (S[i].h = x ∧ S[i].key = k ∧ S[i].ad = a)) : openV S k a x = none := by
  unfold openV
  cases e : findS S x with
  | none => rfl
  | some s =>
    obtain ⟨i, hi, rfl⟩ := List.mem_iff_getElem.1 (findS_mem e)
    exact if_neg (fun hk => h i hi ⟨findS_h e, hk⟩)
set_option maxHeartbeats 2000000 in
set_option maxRecDepth 10000 in
theorem ropen_any {w : World} {g : Nat} {S : List Sec} {N : List Nam} {F : Nat → Prop} (h : RVt w g S N F) (hn : S.length ≤ 100000) (nd : (S.map Sec.h).Nodup) (k : Int) (a : ByteArray) (x : Int) :
    Calls Try.prog 16 #[.pointer (some ⟨g, 0, none⟩), .int .i64 k, .string a, .int .i64 x] w fun e w' => e = openE (openV S k a x) ∧ Below w.heap.size w w' := by
  have hgl : g < w.heap.size := by obtain ⟨_, _, _, _, hB, _⟩ := h; exact hB.lt
  obtain ⟨A1, c1, A2, c2, k0, -, r1, -⟩ := h.reads
  obtain ⟨n, hn'⟩ : ∃ n, n = S.length := ⟨_, rfl⟩
  rw [← hn'] at k0 hn
  have HN := hid hn'
  have HK := hid k0
  have HR := hid r1
  have ND := hid nd
  clear h hn' k0 r1 nd
  go_enter Try.func16, Try.ntmps16
  go_wp2
  go_loopw [10] (fun i wr => ∃ j : Nat, j ≤ n ∧ i = .int .i64 j ∧ Below w.heap.size w wr ∧ Hid (∀ i (hi : i < S.length), i < j → ¬ (S[i].h = x ∧ S[i].key = k ∧ S[i].ad = a))) (fun i _ => n - (intOf i).toNat)
  case atStart => exact ⟨0, by omega, rfl, Below.refl _ _, hid (fun i _ h => absurd h (by omega))⟩
  case round =>
    obtain ⟨j, hj, rfl, hb, HO⟩ := hrel
    have k0 := (hb.cell (p := ⟨g, 0, none⟩) hgl).trans HK.out
    by_cases hjn : j < n
    · have hjl : j < S.length := by rw [← HN.out]; exact hjn
      obtain ⟨b, off, rfl, q0, q1, q2, q3⟩ := (HR.out.below hb).sec hjl
      have hlt : (j : Int) < n := by omega
      have hz : (0 : Int) ≤ j := by omega
      have hb2 := hb.alloc hb.size (.cells #[.int .i64 S[j].h, .int .i64 S[j].key, .string S[j].ad, .string S[j].plain] 62)
      by_cases e : S[j].h = x ∧ S[j].key = k ∧ S[j].ad = a
      · have HV := hid (open_at ND.out hjl e)
        obtain ⟨e1, e2, e3⟩ := e
        rw [e1] at q0 hb2
        rw [e2] at q1 hb2
        rw [e3] at q2 hb2
        generalize S[j].plain = p at *
        have HB := hid hb2
        clear hb2 e1 e2 e3
        go_wp2
        go_ret2
        rw [HV.out, openE_some]
        exact ⟨rfl, HB.out⟩
      · have HO2 : Hid (∀ i (hi : i < S.length), i < j + 1 → ¬ (S[i].h = x ∧ S[i].key = k ∧ S[i].ad = a)) := hid (fun i hi hij => by
          by_cases ej : i = j
          · subst ej; exact e
          · exact HO.out i hi (by omega))
        have HB := hid hb2
        clear hb2
        generalize S[j] = s at *
        by_cases e1 : s.h = x
        · by_cases e2 : s.key = k
          · have hne := strs_apart (fun e3 => e ⟨e1, e2, e3⟩)
            rw [e1] at q0 HB
            rw [e2] at q1 HB
            clear e e1 e2
            go_wp2
            go_roundw
            case rel => exact ⟨j + 1, by omega, by go_num, HB.out, HO2⟩
            case measure => simp [intOf]; omega
          · have hne : (s.key == k) = false := beq_eq_false_iff_ne.2 e2
            rw [e1] at q0 HB
            clear e e1 e2
            go_wp2
            go_roundw
            case rel => exact ⟨j + 1, by omega, by go_num, HB.out, HO2⟩
            case measure => simp [intOf]; omega
        · have hne : (s.h == x) = false := beq_eq_false_iff_ne.2 e1
          clear e e1
          go_wp2
          go_roundw
          case rel => exact ⟨j + 1, by omega, by go_num, HB.out, HO2⟩
          case measure => simp [intOf]; omega
    · have e : n = j := by omega
      subst e
      have hlt : ¬ (n : Int) < n := by omega
      have HV := hid (open_none (fun i hi => HO.out i hi (by rw [HN.out]; exact hi)))
      go_wp2
      go_ret2
      rw [HV.out, openE_none]
      exact ⟨rfl, hb⟩

/-! ### What is left when something is put in -/
def RPost (w : World) (g : Nat) (S : List Sec) (N : List Nam) (F : Nat → Prop) (x : Int) (e : Ending) (w' : World) : Prop :=
  ∃ F', e = .returned (.tuple #[.int .i64 x, .int .i64 0]) ∧ RVt w' g S N F' ∧ Fr F w w' ∧ ∀ i, F' i → F i ∨ w.heap.size ≤ i
theorem rowN_type {w : World} {v : Value} {n size : Nat} {xs : List Value} {g : Nat} {cs : List Value} {t : TypeId} {e : TypeId} (hr : w.ownsRow 0 e size v n xs) (hB : Blk w g cs t) (hne : t ≠ e) : v.ownBlock ≠ some g := by
  intro h
  rcases hr.2 with ⟨h1, _⟩ | ⟨g', cap, cur, h1, _, h2, _⟩
  · rw [h1] at h
    simp [Value.ownBlock] at h
  · rw [h1] at h
    simp [Value.ownBlock] at h
    subst h
    unfold Blk at hB
    rw [hB] at h2
    injection h2 with h2
    injection h2 with _ h2 _
    exact hne h2
section
variable {w w1 w2 : World} {g : Nat} {S : List Sec} {N : List Nam} {F : Nat → Prop} {A1 A2 : Option Addr} {c1 c2 : Nat}
theorem rput1 {A' : Option Addr} {c' : Nat} {s : Sec} (hB : Blk w g [.slice A1 S.length c1, .slice A2 N.length c2] 31) (h1 : w.ownsRow 0 62 4 (.slice A1 S.length c1) S.length (secC S)) (h2 : w.ownsRow 0 66 3 (.slice A2 N.length c2) N.length (namC N))
    (h3 : ∀ i, (Value.slice A1 S.length c1).ownBlock = some i → (Value.slice A2 N.length c2).ownBlock ≠ some i) (hF : ∀ i, F i ↔ i = g ∨ (Value.slice A1 S.length c1).ownBlock = some i ∨ (Value.slice A2 N.length c2).ownBlock = some i)
    (hb : Below w.heap.size w w1) (hr : w2.ownsRow 0 62 4 (.slice A' (S.length + 1) c') (S.length + 1) (secC S ++ secV s)) (hg : w1.grownBy w2 (Value.slice A1 S.length c1).ownBlock) (hloc : (Value.slice A' (S.length + 1) c').ownBlock = (Value.slice A1 S.length c1).ownBlock ∨ (Value.slice A' (S.length + 1) c').ownBlock = some w1.heap.size) :
    w2.cell? ⟨g, 0, none⟩ = some (.slice A1 S.length c1) ∧ w2.frozen? ⟨g, 0, none⟩ = false ∧ RPost w g (S ++ [s]) N F s.h (.returned (.tuple #[.int .i64 s.h, .int .i64 0])) (w2.setCell ⟨g, 0, none⟩ (.slice A' (S.length + 1) c')) := by
  have n1 := rowN_type h1 hB (by decide)
  have hB2 : Blk w2 g [.slice A1 S.length c1, .slice A2 N.length c2] 31 := (hB.below hb).grown hg n1
  have n2 := rowN_type hr hB2 (by decide)
  have hB3 := hB2.set_ 0 (.slice A' (S.length + 1) c')
  simp only [List.set_cons_zero] at hB3
  have h2' : w2.ownsRow 0 66 3 (.slice A2 N.length c2) N.length (namC N) := row_keep' h2 (fun i hi => (hg.block i (Nat.lt_of_lt_of_le (h2.lt i hi).2 hb.size) (fun e => h3 i e.symm hi)).trans (hb.block i ((h2.lt i hi).2)))
  have n3 := rowN_type h2' hB2 (by decide)
  have hr3 := hr.kept (grown_set (g := g) 0 (.slice A' (S.length + 1) c')) (.inr n2)
  have h23 := h2'.kept (grown_set (g := g) 0 (.slice A' (S.length + 1) c')) (.inr n3)
  have hl : (S ++ [s]).length = S.length + 1 := by simp
  have hs : w.heap.size ≤ w1.heap.size := hb.size
  refine ⟨hB2.cell 0, hB2.frozen 0, fun i => i = g ∨ (Value.slice A' (S.length + 1) c').ownBlock = some i ∨ (Value.slice A2 N.length c2).ownBlock = some i, rfl, ⟨A', c', A2, c2, by rw [hl]; exact hB3, by rw [hl, secC_append]; simpa [secC] using hr3, h23, ?_, by rw [hl]; exact fun i => Iff.rfl⟩, ?_, ?_⟩
  · rw [hl]
    intro i hi hi2
    rcases hloc with e | e
    · exact h3 i (e ▸ hi) hi2
    · rw [e] at hi
      injection hi with hi
      have := (h2.lt i hi2).2
      omega
  · have f1 : Fr F w w1 := Fr.of_below F hb
    have f2 := f1.trans (Fr.of_grown (F := F) hg (fun k hk => (hF k).2 (.inr (.inl hk)))) (fun i hi => .inl hi)
    exact f2.trans (Fr.of_grown (F := F) (grown_set (g := g) 0 _) (fun k hk => (hF k).2 (.inl (by injection hk with hk; exact hk.symm)))) (fun i hi => .inl hi)
  · rintro i (h | h | h)
    · exact .inl ((hF i).2 (.inl h))
    · rcases hloc with e | e
      · exact .inl ((hF i).2 (.inr (.inl (e ▸ h))))
      · rw [e] at h
        injection h with h
        exact .inr (by omega)
    · exact .inl ((hF i).2 (.inr (.inr h)))
theorem rput2 {A' : Option Addr} {c' : Nat} {s : Nam} (hB : Blk w g [.slice A1 S.length c1, .slice A2 N.length c2] 31) (h1 : w.ownsRow 0 62 4 (.slice A1 S.length c1) S.length (secC S)) (h2 : w.ownsRow 0 66 3 (.slice A2 N.length c2) N.length (namC N))
    (h3 : ∀ i, (Value.slice A1 S.length c1).ownBlock = some i → (Value.slice A2 N.length c2).ownBlock ≠ some i) (hF : ∀ i, F i ↔ i = g ∨ (Value.slice A1 S.length c1).ownBlock = some i ∨ (Value.slice A2 N.length c2).ownBlock = some i)
    (hb : Below w.heap.size w w1) (hr : w2.ownsRow 0 66 3 (.slice A' (N.length + 1) c') (N.length + 1) (namC N ++ namV s)) (hg : w1.grownBy w2 (Value.slice A2 N.length c2).ownBlock) (hloc : (Value.slice A' (N.length + 1) c').ownBlock = (Value.slice A2 N.length c2).ownBlock ∨ (Value.slice A' (N.length + 1) c').ownBlock = some w1.heap.size) :
    w2.cell? ⟨g, 1, none⟩ = some (.slice A2 N.length c2) ∧ w2.frozen? ⟨g, 1, none⟩ = false ∧ RPost w g S (N ++ [s]) F s.h (.returned (.tuple #[.int .i64 s.h, .int .i64 0])) (w2.setCell ⟨g, 1, none⟩ (.slice A' (N.length + 1) c')) := by
  have n1 := rowN_type h2 hB (by decide)
  have hB2 : Blk w2 g [.slice A1 S.length c1, .slice A2 N.length c2] 31 := (hB.below hb).grown hg n1
  have n2 := rowN_type hr hB2 (by decide)
  have hB3 := hB2.set_ 1 (.slice A' (N.length + 1) c')
  simp only [List.set_cons_zero, List.set_cons_succ] at hB3
  have h2' : w2.ownsRow 0 62 4 (.slice A1 S.length c1) S.length (secC S) := row_keep' h1 (fun i hi => (hg.block i (Nat.lt_of_lt_of_le (h1.lt i hi).2 hb.size) (fun e => h3 i hi e.symm)).trans (hb.block i ((h1.lt i hi).2)))
  have n3 := rowN_type h2' hB2 (by decide)
  have hr3 := hr.kept (grown_set (g := g) 1 (.slice A' (N.length + 1) c')) (.inr n2)
  have h23 := h2'.kept (grown_set (g := g) 1 (.slice A' (N.length + 1) c')) (.inr n3)
  have hl : (N ++ [s]).length = N.length + 1 := by simp
  have hs : w.heap.size ≤ w1.heap.size := hb.size
  refine ⟨hB2.cell 1, hB2.frozen 1, fun i => i = g ∨ (Value.slice A1 S.length c1).ownBlock = some i ∨ (Value.slice A' (N.length + 1) c').ownBlock = some i, rfl, ⟨A1, c1, A', c', by rw [hl]; exact hB3, h23, by rw [hl, namC_append]; simpa [namC] using hr3, ?_, by rw [hl]; exact fun i => Iff.rfl⟩, ?_, ?_⟩
  · rw [hl]
    intro i hi2 hi
    rcases hloc with e | e
    · exact h3 i hi2 (e ▸ hi)
    · rw [e] at hi
      injection hi with hi
      have := (h1.lt i hi2).2
      omega
  · have f1 : Fr F w w1 := Fr.of_below F hb
    have f2 := f1.trans (Fr.of_grown (F := F) hg (fun k hk => (hF k).2 (.inr (.inr hk)))) (fun i hi => .inl hi)
    exact f2.trans (Fr.of_grown (F := F) (grown_set (g := g) 1 _) (fun k hk => (hF k).2 (.inl (by injection hk with hk; exact hk.symm)))) (fun i hi => .inl hi)
  · rintro i (h | h | h)
    · exact .inl ((hF i).2 (.inl h))
    · exact .inl ((hF i).2 (.inr (.inl h)))
    · rcases hloc with e | e
      · exact .inl ((hF i).2 (.inr (.inr (e ▸ h))))
      · rw [e] at h
        injection h with h
        exact .inr (by omega)
end
end Go.Proofs.Ytdejhpinmkbngaa
