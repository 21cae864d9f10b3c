/- Contracts of package vault: Seal, Name. -/
import Derived.Test.YtdejhpinmkbngaaVg
namespace Go.Proofs.Ytdejhpinmkbngaa
open Go.RowKit Go.Maps

set_option maxHeartbeats 1000000 in
theorem lock_any (k : Int) (s : ByteArray) (w : World) (hs : s.size ≤ 281474976710656) : Calls Try.prog 25 #[.int .i64 k, .string s] w fun e w' => e = .returned (.agg #[.int .i64 k, .string s]) ∧ Below w.heap.size w w' := by
  go_enter Try.func25, Try.ntmps25
  go_wp2_with fail
  refine (clone_any _ _ hs).mono ?_
  rintro e w1 ⟨rfl, b1⟩
  have b2 := below_new _ b1
  have hB := (Blk.new w [.int .i64 0, .string ⟨#[]⟩] 55).below b1
  have c0 := hB.cell 0
  have c1 := hB.cell 1
  have f0 := hB.frozen 0
  have f1 := hB.frozen 1
  have d0 := (hB.set_ 0 (.int .i64 k)).cell 0
  have d1 := ((hB.set_ 0 (.int .i64 k)).set_ 1 (.string s)).cell 1
  have HG : Hid (Below w.heap.size w ((w1.setCell ⟨w.heap.size, 0, none⟩ (.int .i64 k)).setCell ⟨w.heap.size, 1, none⟩ (.string s))) := (b2.setCell (Nat.le_refl _) _).setCell (Nat.le_refl _) _
  simp only [List.set_cons_zero, List.set_cons_succ, List.getElem?_cons_zero, List.getElem?_cons_succ] at c0 c1 d0 d1
  clear hB
  go_wp2
  refine bodyPost_ret (by simp [results, Try.results25, go_sem, d0, d1]; rfl) rfl ?_
  exact ⟨rfl, HG.out⟩

/-! ### What is left when something is put in -/
def PutPost (w : World) (g : Nat) (S : List Sec) (N : List Nam) (F : Nat → Prop) (x : Int) (e : Ending) (w' : World) : Prop :=
  ∃ F', e = .returned (.tuple #[.int .i64 x, .int .i64 0]) ∧ Vlt w' g S N F' ∧ Fr F w w' ∧ ∀ i, F' i → F i ∨ w.heap.size ≤ i
theorem PutPost.before {w0 w w' : World} {g : Nat} {S : List Sec} {N : List Nam} {F : Nat → Prop} {x : Int} {e : Ending} (hb : Below w0.heap.size w0 w) (h : PutPost w g S N F x e w') : PutPost w0 g S N F x e w' := by
  obtain ⟨F', h1, h2, h3, h4⟩ := h
  exact ⟨F', h1, h2, (Fr.of_below F hb).trans h3 (fun i hi => .inl hi), fun i hi => (h4 i hi).imp id (Nat.le_trans hb.size)⟩
section
variable {w w2 : World} {g bm bn : Nat} {v1 v2 : Value} {S : List Sec} {N : List Nam} {F : Nat → Prop} {D : DataW Unit} {H : List Int} {x : Int} {e : Ending}
theorem seal_mid (hB : Blk w g [.map (some bm), v1, .map (some bn), v2] 53) (hm : w.ownsMap Try.prog 3 secR bm S.length D) (hz : Maps.size D = S.length) (hk : KnowsS D S) (hr : w.ownsRow 0 3 1 v1 H.length (intV H)) (hl : H.length = S.length) (hmem : ∀ y, y ∈ H ↔ y ∈ S.map Sec.h) (hpl : ∀ s ∈ S, s.plain.size ≤ 5116)
    (hN : PartN w bn v2 N) (hne : bm ≠ bn) (hd : ∀ i, v1.ownBlock = some i → v2.ownBlock ≠ some i) (hF : ∀ i, F i ↔ i = g ∨ i = bm ∨ i = bn ∨ v1.ownBlock = some i ∨ v2.ownBlock = some i) (hlen : S.length < 16384)
    (hp : DrawPost w g 1 [.map (some bm), v1, .map (some bn), v2] 53 v1 H x e w2) :
    e = .returned (.int .i64 (draw (S.map Sec.h) x)) ∧ w2.ownsMap Try.prog 3 secR bm S.length D ∧ w2.cell? ⟨g, 0, none⟩ = some (.map (some bm)) ∧ g < w2.heap.size ∧
      ∀ (k : Int) (a p : ByteArray) (w4 w5 : World), p.size ≤ 5116 → Below w2.heap.size w2 w4 → w4.grownBy w5 (some bm) → w5.ownsMap Try.prog 3 secR bm (S.length + 1) (D.put (.int .i64 (draw (S.map Sec.h) x)) (secD k a p)) →
        PutPost w g (S ++ [⟨draw (S.map Sec.h) x, k, a, p⟩]) N F (draw (S.map Sec.h) x) (.returned (.tuple #[.int .i64 (draw (S.map Sec.h) x), .int .i64 0])) w5 := by
  obtain ⟨v1', H', rfl, hB2, hr2, hs2, hmem2, hl2, hf2, hloc⟩ := hp
  have e0 : draw H x = draw (S.map Sec.h) x := draw_congr (by omega) (by rw [List.length_map]; omega) hmem x
  rw [e0] at hmem2 ⊢
  have hfree : draw (S.map Sec.h) x ∉ S.map Sec.h := draw_free _ (by rw [List.length_map]; omega) x
  have rm : ∀ {b n D k R}, World.ownsMap w Try.prog k R b n D → v1.ownBlock ≠ some b := fun hm => by
    obtain ⟨-, A, c, rfl, -⟩ := own_form hr
    exact row_map hr hm
  obtain ⟨-, A1, c1, e1, -⟩ := own_form hr2
  obtain ⟨E, M, n1, n2, n3, n4, n5⟩ := hN
  have bmg := blk_map hB hm
  have bng := blk_map hB n1
  have same : ∀ i, i < w.heap.size → i ≠ g → v1.ownBlock ≠ some i → w2.heap[i]? = w.heap[i]? := fun i hi h1 h2 => hf2.block i hi (fun h => h.elim h1 h2)
  have hm2 := map_keep hm (same bm hm.lt bmg (rm hm))
  have n1' := map_keep n1 (same bn n1.lt bng (rm n1))
  have hv2g : v2.ownBlock ≠ some g := by
    obtain ⟨-, A, c, rfl, -⟩ := own_form n4
    exact row_type n4 hB (by decide)
  have n4' := row_keep n4 (fun i hi => same i ((n4.lt i hi).2) (fun e => hv2g (e ▸ hi)) (fun h => hd i h hi))
  have c0 := hB2.cell 0
  simp only [List.set_cons_succ, List.set_cons_zero, List.getElem?_cons_zero] at c0
  refine ⟨rfl, hm2, c0, hB2.lt, ?_⟩
  intro k a p w4 w5 hp5 hb hg hm5
  have hB4 := hB2.below hb
  have hB5 := hB4.grown hg (fun h => bmg (by injection h))
  have hm4 := hm2.kept (grown_below (row := none) hb) (by simp)
  have hr4 : w4.ownsRow 0 3 1 v1' H'.length (intV H') := row_keep hr2 (fun i hi => hb.block i ((hr2.lt i hi).2))
  have n4'' : w4.ownsRow 0 3 1 v2 M.length (intV M) := row_keep n4' (fun i hi => hb.block i ((n4'.lt i hi).2))
  have hr5 := hr4.kept hg (.inr (by subst e1; exact row_map hr4 hm4))
  have n4r := n4''.kept hg (.inr (by obtain ⟨-, A, c, rfl, -⟩ := own_form n4; exact row_map n4'' hm4))
  have n1r := (n1'.kept (grown_below (row := none) hb) (by simp)).kept hg (fun h => hne (by injection h with h; exact h.symm))
  have hlt : ∀ i, v1'.ownBlock = some i → v2.ownBlock ≠ some i := fun i h1 h2 => by
    rcases hloc i h1 with h3 | h3
    · exact hd i h3 h2
    · have := (n4.lt i h2).2
      omega
  refine ⟨fun i => i = g ∨ i = bm ∨ i = bn ∨ v1'.ownBlock = some i ∨ v2.ownBlock = some i, rfl, ⟨bm, v1', bn, v2, hB5, ⟨_, H', by rw [List.length_append]; exact hm5, ?_, knowsS_put hk hm.isMap hfree, hr5, hs2, by rw [List.length_append, hl2, hl]; rfl, ?_, ?_⟩, ⟨E, M, n1r, n2, n3, n4r, n5⟩, hne, hlt, fun i => Iff.rfl⟩, ?_, ?_⟩
  · rw [Maps.size_put (hm.tidy Try.keyI), List.length_append, hz]
    obtain ⟨q1, q2⟩ := draw_range (S.map Sec.h) (by rw [List.length_map]; omega) x
    have hh := (hk (draw (S.map Sec.h) x) ⟨by omega, by omega⟩).1
    rw [findS_none.2 hfree] at hh
    rw [hh]
    rfl
  · intro y
    rw [hmem2, hmem, List.map_append, List.mem_append]
    simp
  · intro s hs
    rcases List.mem_append.1 hs with h | h
    · exact hpl s h
    · rw [List.mem_singleton.1 h]
      exact hp5
  · have f1 : Fr F w w2 := ⟨hf2.os, hf2.tape, hf2.output, hf2.size, fun i hi hn => hf2.block i hi (fun h => hn ((hF i).2 (h.elim .inl (fun h => .inr (.inr (.inr (.inl h)))))))⟩
    have f2 := f1.trans (Fr.of_below (fun _ => False) hb) (fun _ h => h.elim)
    exact f2.trans (Fr.of_grown (F := F) hg (fun k hk => (hF k).2 (.inr (.inl (by injection hk with hk; exact hk.symm))))) (fun i hi => .inl hi)
  · rintro i (h | h | h | h | h)
    · exact .inl ((hF i).2 (.inl h))
    · exact .inl ((hF i).2 (.inr (.inl h)))
    · exact .inl ((hF i).2 (.inr (.inr (.inl h))))
    · rcases hloc i h with h3 | h3
      · exact .inl ((hF i).2 (.inr (.inr (.inr (.inl h3)))))
      · exact .inr h3
    · exact .inl ((hF i).2 (.inr (.inr (.inr (.inr h)))))
theorem name_mid (hB : Blk w g [.map (some bm), v1, .map (some bn), v2] 53) (hm : w.ownsMap Try.prog 55 (plainElem (H := Unit) Try.prog 3) bn N.length D) (hz : Maps.size D = N.length) (hk : KnowsN D N) (hr : w.ownsRow 0 3 1 v2 H.length (intV H)) (hl : H.length = N.length) (hmem : ∀ y, y ∈ H ↔ y ∈ N.map Nam.h)
    (hS : PartS w bm v1 S) (hne : bm ≠ bn) (hd : ∀ i, v1.ownBlock = some i → v2.ownBlock ≠ some i) (hF : ∀ i, F i ↔ i = g ∨ i = bm ∨ i = bn ∨ v1.ownBlock = some i ∨ v2.ownBlock = some i) (hlen : N.length < 16384)
    (hp : DrawPost w g 3 [.map (some bm), v1, .map (some bn), v2] 53 v2 H x e w2) :
    e = .returned (.int .i64 (draw (N.map Nam.h) x)) ∧ w2.ownsMap Try.prog 55 (plainElem (H := Unit) Try.prog 3) bn N.length D ∧ w2.cell? ⟨g, 2, none⟩ = some (.map (some bn)) ∧ g < w2.heap.size ∧
      ∀ (k : Int) (l : ByteArray) (w4 w5 : World), findN N k l = none → I64 k → l.size ≤ maxLen → Below w2.heap.size w2 w4 → w4.grownBy w5 (some bn) → w5.ownsMap Try.prog 55 (plainElem (H := Unit) Try.prog 3) bn (N.length + 1) (D.put (lockL k l) (.lit (.int .i64 (draw (N.map Nam.h) x)))) →
        PutPost w g S (N ++ [⟨draw (N.map Nam.h) x, k, l⟩]) F (draw (N.map Nam.h) x) (.returned (.tuple #[.int .i64 (draw (N.map Nam.h) x), .int .i64 0])) w5 := by
  obtain ⟨v2', H', rfl, hB2, hr2, hs2, hmem2, hl2, hf2, hloc⟩ := hp
  have e0 : draw H x = draw (N.map Nam.h) x := draw_congr (by omega) (by rw [List.length_map]; omega) hmem x
  rw [e0] at hmem2 ⊢
  have rm : ∀ {b n D k R}, World.ownsMap w Try.prog k R b n D → v2.ownBlock ≠ some b := fun hm => by
    obtain ⟨-, A, c, rfl, -⟩ := own_form hr
    exact row_map hr hm
  obtain ⟨-, A1, c1, e1, -⟩ := own_form hr2
  obtain ⟨E, M, n1, n2, n3, n4, n5⟩ := hS
  have bmg := blk_map hB n1
  have bng := blk_map hB hm
  have same : ∀ i, i < w.heap.size → i ≠ g → v2.ownBlock ≠ some i → w2.heap[i]? = w.heap[i]? := fun i hi h1 h2 => hf2.block i hi (fun h => h.elim h1 h2)
  have hm2 := map_keep hm (same bn hm.lt bng (rm hm))
  have n1' := map_keep n1 (same bm n1.lt bmg (rm n1))
  have hv1g : v1.ownBlock ≠ some g := by
    obtain ⟨-, A, c, rfl, -⟩ := own_form n4
    exact row_type n4 hB (by decide)
  have n4' := row_keep n4 (fun i hi => same i ((n4.lt i hi).2) (fun e => hv1g (e ▸ hi)) (fun h => hd i hi h))
  have c0 := hB2.cell 2
  simp only [List.set_cons_succ, List.set_cons_zero, List.getElem?_cons_zero, List.getElem?_cons_succ] at c0
  refine ⟨rfl, hm2, c0, hB2.lt, ?_⟩
  intro k l w4 w5 hno hkI hlI hb hg hm5
  have hB4 := hB2.below hb
  have hB5 := hB4.grown hg (fun h => bng (by injection h))
  have hm4 := hm2.kept (grown_below (row := none) hb) (by simp)
  have hr4 : w4.ownsRow 0 3 1 v2' H'.length (intV H') := row_keep hr2 (fun i hi => hb.block i ((hr2.lt i hi).2))
  have n4'' : w4.ownsRow 0 3 1 v1 M.length (intV M) := row_keep n4' (fun i hi => hb.block i ((n4'.lt i hi).2))
  have hr5 := hr4.kept hg (.inr (by subst e1; exact row_map hr4 hm4))
  have n4r := n4''.kept hg (.inr (by obtain ⟨-, A, c, rfl, -⟩ := own_form n4; exact row_map n4'' hm4))
  have n1r := (n1'.kept (grown_below (row := none) hb) (by simp)).kept hg (fun h => hne (by injection h))
  have hlt : ∀ i, v1.ownBlock = some i → v2'.ownBlock ≠ some i := fun i h1 h2 => by
    rcases hloc i h2 with h3 | h3
    · exact hd i h1 h3
    · have := (n4.lt i h1).2
      omega
  refine ⟨fun i => i = g ∨ i = bm ∨ i = bn ∨ v1.ownBlock = some i ∨ v2'.ownBlock = some i, rfl, ⟨bm, v1, bn, v2', hB5, ⟨E, M, n1r, n2, n3, n4r, n5⟩, ⟨_, H', by rw [List.length_append]; exact hm5, ?_, knowsN_put (s := ⟨draw (N.map Nam.h) x, k, l⟩) hk hm.isMap hno hkI hlI, hr5, hs2, by rw [List.length_append, hl2, hl]; rfl, ?_⟩, hne, hlt, fun i => Iff.rfl⟩, ?_, ?_⟩
  · rw [Maps.size_put (hm.tidy Try.keyL), List.length_append, hz]
    have hh := (hk k l hkI hlI).1
    rw [hno] at hh
    rw [hh]
    rfl
  · intro y
    rw [hmem2, hmem, List.map_append, List.mem_append]
    simp
  · have f1 : Fr F w w2 := ⟨hf2.os, hf2.tape, hf2.output, hf2.size, fun i hi hn => hf2.block i hi (fun h => hn ((hF i).2 (h.elim .inl (fun h => .inr (.inr (.inr (.inr h)))))))⟩
    have f2 := f1.trans (Fr.of_below (fun _ => False) hb) (fun _ h => h.elim)
    exact f2.trans (Fr.of_grown (F := F) hg (fun k hk => (hF k).2 (.inr (.inr (.inl (by injection hk with hk; exact hk.symm)))))) (fun i hi => .inl hi)
  · rintro i (h | h | h | h | h)
    · exact .inl ((hF i).2 (.inl h))
    · exact .inl ((hF i).2 (.inr (.inl h)))
    · exact .inl ((hF i).2 (.inr (.inr (.inl h))))
    · exact .inl ((hF i).2 (.inr (.inr (.inr (.inl h)))))
    · rcases hloc i h with h3 | h3
      · exact .inl ((hF i).2 (.inr (.inr (.inr (.inr h3)))))
      · exact .inr h3
end

/-! ### Seal -/
set_option maxHeartbeats 1000000 in
theorem seal_no {w : World} (g : Nat) (k : Int) (a p : ByteArray) (x : Int) (hp : 5116 < p.size) :
    Calls Try.prog 13 #[.pointer (some ⟨g, 0, none⟩), .int .i64 k, .string a, .string p, .int .i64 x] w fun e w' => e = .returned (.tuple #[.int .i64 0, .int .i64 5]) ∧ Below w.heap.size w w' := by
  have HK := hid (bucket_no p.size hp)
  go_enter Try.func13, Try.ntmps13
  go_wp2_with fail
  refine (bucket_any _ _).mono ?_
  rintro e w1 ⟨rfl, b1⟩
  rw [HK.out]
  go_wp2
  go_ret2
  exact ⟨rfl, b1⟩
def sealS (S : List Sec) (k : Int) (a p : ByteArray) (x : Int) : List Sec := S ++ [⟨draw (S.map Sec.h) x, k, a, p⟩]
set_option maxHeartbeats 4000000 in
set_option maxRecDepth 20000 in
theorem seal_yes {w : World} {g : Nat} {S : List Sec} {N : List Nam} {F : Nat → Prop} (h : Vlt w g S N F) (k : Int) (a p : ByteArray) (x : Int) (hp : p.size ≤ 5116) (ha : a.size ≤ 281474976710656) (hlen : S.length < 16384) :
    Calls Try.prog 13 #[.pointer (some ⟨g, 0, none⟩), .int .i64 k, .string a, .string p, .int .i64 x] w (PutPost w g (sealS S k a p x) N F (draw (S.map Sec.h) x)) := by
  have HBY := hid (bucket_yes p.size hp)
  have hgl : g < w.heap.size := by obtain ⟨_, _, _, _, hB, _⟩ := h; exact hB.lt
  go_enter Try.func13, Try.ntmps13
  go_wp2_with fail
  refine (bucket_any _ _).mono ?_
  rintro e w1 ⟨rfl, b1⟩
  have hbn : ¬ (bucketI p.size < 0) := by have := HBY.out; omega
  have h1 := h.below b1
  go_wp2_with fail
  refine (sealed_any h1).mono ?_
  rintro e wu ⟨rfl, rfl⟩
  have hn1 : ¬ ((S.length : Int) = 16384) := by omega
  go_wp2_with fail
  obtain ⟨bm, v1, bn, v2, hB, ⟨D, H, hm, hz, hk, hr, hs, hl, hmem, hpl⟩, hN, hne, hd, hF⟩ := h1
  refine (draw_any x hB (by decide) rfl hr hs (by omega)).mono ?_
  intro e w2 hdp
  obtain ⟨rfl, hm2, c2, hg2, hfin⟩ := seal_mid hB hm hz hk hr hl hmem hpl hN hne hd hF hlen hdp
  have HFIN := hid hfin
  have HM := hid hm2
  have NE := hid (blk_map hB hm)
  have HI : Hid (I64 (draw (S.map Sec.h) x)) := by
    have := draw_range (S.map Sec.h) (by rw [List.length_map]; omega) x
    exact ⟨by omega, by omega⟩
  clear hfin hdp hm hz hk hr hs hl hmem hpl hN hne hd hF hB hm2 h HBY hn1 hbn
  have HLN := hid hlen
  obtain ⟨d, hd⟩ : ∃ d, draw (S.map Sec.h) x = d := ⟨_, rfl⟩
  have HD := hid hd
  rw [hd] at HFIN HI ⊢
  clear hd
  go_upto_region 6 with (fail)
  refine wp_region_held_drew (S := fun w' => w'.cell? ⟨g, 0, none⟩ = some (.map (some bm))) (by kernel_rfl) c2 (fun hHeld => ?_)
  refine wpAnyH_take (i := 0) (oi := ⟨_, _, _, _, _, _⟩) (v := ?_) rfl (by kernel_rfl) (by kernel_rfl) (by kernel_rfl) (fun _ _ _ h => h) (Or.inl ⟨by rfl, ?_⟩) (by assumption) ?_
  rotate_left
  · intro w hSw; (try dsimp only at hSw); go_simp; (try (with_reducible rfl))
  try simp only [Act.put, List.setIfInBounds_toArray, List.set_cons_zero, List.set_cons_succ]
  refine wpAnyH_take (i := 1) (oi := ⟨_, _, _, _, _, _⟩) (v := ?_) rfl (by kernel_rfl) (by kernel_rfl) (by kernel_rfl) (fun _ _ _ h => h) (Or.inl ⟨by rfl, ?_⟩) (by assumption) ?_
  rotate_left
  · intro w hSw; (try dsimp only at hSw); go_simp; (try (with_reducible rfl))
  try simp only [Act.put, List.setIfInBounds_toArray, List.set_cons_zero, List.set_cons_succ]
  refine wpAnyH_take (i := 2) (oi := ⟨_, _, _, _, _, _⟩) (v := ?_) rfl (by kernel_rfl) (by kernel_rfl) (by kernel_rfl) (fun _ _ _ h => h) (Or.inl ⟨by rfl, ?_⟩) (by assumption) ?_
  rotate_left
  · intro w hSw; (try dsimp only at hSw); go_simp; (try (with_reducible rfl))
  try simp only [Act.put, List.setIfInBounds_toArray, List.set_cons_zero, List.set_cons_succ]
  refine wpAnyH_take (i := 3) (oi := ⟨_, _, _, _, _, _⟩) (v := ?_) rfl (by kernel_rfl) (by kernel_rfl) (by kernel_rfl) (fun _ _ _ h => h) (Or.inl ⟨by rfl, ?_⟩) (by assumption) ?_
  rotate_left
  · intro w hSw; (try dsimp only at hSw); go_simp; (try (with_reducible rfl))
  try simp only [Act.put, List.setIfInBounds_toArray, List.set_cons_zero, List.set_cons_succ]
  refine wpAnyH_take (i := 4) (oi := ⟨_, _, _, _, _, _⟩) (v := ?_) rfl (by kernel_rfl) (by kernel_rfl) (by kernel_rfl) (fun _ _ _ h => h) (Or.inl ⟨by rfl, ?_⟩) (by assumption) ?_
  rotate_left
  · intro w hSw; (try dsimp only at hSw); go_simp; (try (with_reducible rfl))
  try simp only [Act.put, List.setIfInBounds_toArray, List.set_cons_zero, List.set_cons_succ]
  refine wpAnyH_take (i := 5) (oi := ⟨_, _, _, _, _, _⟩) (v := ?_) rfl (by kernel_rfl) (by kernel_rfl) (by kernel_rfl) (fun _ _ _ h => h) (Or.inl ⟨by rfl, ?_⟩) (by assumption) ?_
  rotate_left
  · intro w hSw; (try dsimp only at hSw); go_simp; (try (with_reducible rfl))
  try simp only [Act.put, List.setIfInBounds_toArray, List.set_cons_zero, List.set_cons_succ]
  refine wpAnyH_take (i := 6) (oi := ⟨_, _, _, _, _, _⟩) (v := ?_) rfl (by kernel_rfl) (by kernel_rfl) (by kernel_rfl) (fun _ _ _ h => h) (Or.inl ⟨by rfl, ?_⟩) (by assumption) ?_
  rotate_left
  · intro w hSw; (try dsimp only at hSw); go_simp; (try (with_reducible rfl))
  try simp only [Act.put, List.setIfInBounds_toArray, List.set_cons_zero, List.set_cons_succ]
  refine wpAnyH_take (i := 8) (oi := ⟨_, _, _, _, _, _⟩) (v := ?_) rfl (by kernel_rfl) (by kernel_rfl) (by kernel_rfl) (fun _ _ _ h => h) (Or.inl ⟨by rfl, ?_⟩) (by assumption) ?_
  rotate_left
  · intro w hSw; (try dsimp only at hSw); go_simp; (try (with_reducible rfl))
  try simp only [Act.put, List.setIfInBounds_toArray, List.set_cons_zero, List.set_cons_succ]
  refine wpAnyH_ready (rs := [7]) (by kernel_rfl) (by simp) ?_
  refine AllReadyH.cons (o := ⟨_, _, _, _, _, _⟩) rfl (fun K hK => ?_) AllReadyH.nil
  go_simp
  refine (lock_any k a _ ha).mono ?_
  rintro e w3 ⟨rfl, b3'⟩
  have b3 : Below w2.heap.size w2 w3 := ⟨b3'.os, b3'.tape, b3'.output, b3'.size, b3'.block⟩
  have c3 := (b3.cell (p := ⟨g, 0, none⟩) hg2).trans c2
  refine hK.out _ _ c3 (fun hHeld => ?_)
  clear hK K
  try simp only [Act.put, List.setIfInBounds_toArray, List.set_cons_zero, List.set_cons_succ]
  refine wpAnyH_ready (rs := [9]) (by kernel_rfl) (by simp) ?_
  refine AllReadyH.cons (o := ⟨_, _, _, _, _, _⟩) rfl (fun K hK => ?_) AllReadyH.nil
  go_simp
  refine (clone_any p _ (by omega)).mono ?_
  rintro e w4 ⟨rfl, b4⟩
  have c4 := (b4.cell (p := ⟨g, 0, none⟩) (Nat.lt_of_lt_of_le hg2 b3.size)).trans c3
  refine hK.out _ _ c4 (fun hHeld => ?_)
  clear hK K
  try simp only [Act.put, List.setIfInBounds_toArray, List.set_cons_zero, List.set_cons_succ]
  refine wpAnyH_take (i := 10) (oi := ⟨_, _, _, _, _, _⟩) (v := ?_) rfl (by kernel_rfl) (by kernel_rfl) (by kernel_rfl) (fun _ _ _ h => h) (Or.inl ⟨by rfl, ?_⟩) (by assumption) ?_
  rotate_left
  · intro w hSw; (try dsimp only at hSw); go_simp; (try (with_reducible rfl))
  try simp only [Act.put, List.setIfInBounds_toArray, List.set_cons_zero, List.set_cons_succ]
  refine wpAnyH_ready (rs := [11]) (by kernel_rfl) (by simp) ?_
  refine AllReadyH.cons (o := ⟨_, _, _, _, _, _⟩) rfl (fun K hK => ?_) AllReadyH.nil
  go_simp
  obtain ⟨w5, hu, hm5, hg5⟩ := (map_keep HM.out ((below2 b3 b4).block bm HM.out.lt)).update Try.keyI Try.underlying49 (by have := HLN.out; unfold maxLen; omega) (keyOf_int_mk Try.underlying3 (wf_i64 HI.out)) (secR_mk k a p)
  rw [hu]
  go_simp
  have c5 : w5.cell? ⟨g, 0, none⟩ = some (.map (some bm)) := (World.cell?_of_block (hg5.block g (Nat.lt_of_lt_of_le hg2 (below2 b3 b4).size) (fun e => NE.out (by injection e with e; exact e.symm)))).trans c4
  refine hK.out _ _ c5 (fun hHeld => ?_)
  clear hK K
  try simp only [Act.put, List.setIfInBounds_toArray, List.set_cons_zero, List.set_cons_succ]
  refine wpAnyH_done (by kernel_rfl) ?_ _
  go_wp2
  go_ret2
  rw [sealS, HD.out]
  exact PutPost.before b1 (HFIN.out k a p _ w5 hp (below2 b3 b4) hg5 hm5)

/-! ### Name -/
def nameN (N : List Nam) (k : Int) (l : ByteArray) (x : Int) : List Nam := match findN N k l with | some _ => N | none => N ++ [⟨draw (N.map Nam.h) x, k, l⟩]
def nameI (N : List Nam) (k : Int) (l : ByteArray) (x : Int) : Int := match findN N k l with | some m => m.h | none => draw (N.map Nam.h) x
set_option maxHeartbeats 4000000 in
set_option maxRecDepth 20000 in
theorem name_any {w : World} {g : Nat} {S : List Sec} {N : List Nam} {F : Nat → Prop} (h : Vlt w g S N F) {k : Int} {l : ByteArray} (x : Int) (hkI : I64 k) (hlI : l.size ≤ 281474976710656) (hlen : N.length < 16384) :
    Calls Try.prog 17 #[.pointer (some ⟨g, 0, none⟩), .int .i64 k, .string l, .int .i64 x] w (PutPost w g S (nameN N k l x) F (nameI N k l x)) := by
  have hlm : l.size ≤ maxLen := by unfold maxLen; omega
  have hnam := named_any h
  have HV := hid h
  obtain ⟨bm, v1, bn, v2, hB, hS, hN, hne, hd, hF⟩ := h
  obtain ⟨c, hrun, hc⟩ := lookN hN hkI hlm
  have c0 := hB.cell 2
  simp only [List.getElem?_cons_zero, List.getElem?_cons_succ] at c0
  cases hf : findN N k l with
  | some m =>
    have hcm := hc m hf
    subst hcm
    rw [hf] at hrun
    simp only [Option.isSome_some] at hrun
    have HN : Hid (nameN N k l x = N ∧ nameI N k l x = m.h) := by show _ ∧ _; unfold nameN nameI; rw [hf]; exact ⟨rfl, rfl⟩
    clear hB hS hN hne hd hF hc hf hnam
    go_enter Try.func17, Try.ntmps17
    go_wp2
    go_ret2
    rw [HN.out.1, HN.out.2]
    exact ⟨F, rfl, HV.out, Fr.refl _ _, fun i hi => .inl hi⟩
  | none =>
    rw [hf] at hrun
    simp only [Option.isSome_none] at hrun
    have HN : Hid (nameN N k l x = N ++ [⟨draw (N.map Nam.h) x, k, l⟩] ∧ nameI N k l x = draw (N.map Nam.h) x) := by show _ ∧ _; unfold nameN nameI; rw [hf]; exact ⟨rfl, rfl⟩
    have HNO := hid hf
    clear hc hf
    have hn1 : ¬ ((N.length : Int) = 16384) := by omega
    go_enter Try.func17, Try.ntmps17
    go_wp2_with fail
    refine hnam.mono ?_
    rintro e wu ⟨rfl, rfl⟩
    clear hnam
    go_wp2_with fail
    obtain ⟨D, H, hm, hz, hk, hr, hs, hl, hmem⟩ := hN
    refine (draw_any x hB (by decide) rfl hr hs (by omega)).mono ?_
    intro e w2 hdp
    obtain ⟨rfl, hm2, c2, hg2, hfin⟩ := name_mid hB hm hz hk hr hl hmem hS hne hd hF hlen hdp
    have HFIN := hid hfin
    have HM := hid hm2
    have NE := hid (blk_map hB hm)
    have HI : Hid (I64 (draw (N.map Nam.h) x)) := by
      have := draw_range (N.map Nam.h) (by rw [List.length_map]; omega) x
      exact ⟨by omega, by omega⟩
    clear hfin hdp hm hz hk hr hs hl hmem hS hne hd hF hB hm2 HV hn1 hrun c0
    have HLN := hid hlen
    have HKI := hid hkI
    obtain ⟨d, hd⟩ : ∃ d, draw (N.map Nam.h) x = d := ⟨_, rfl⟩
    have HD := hid hd
    rw [hd] at HFIN HI ⊢
    clear hd
    go_upto_region 7 with (fail)
    refine wp_region_held_drew (S := fun w' => w'.cell? ⟨g, 2, none⟩ = some (.map (some bn))) (by kernel_rfl) c2 (fun hHeld => ?_)
    refine wpAnyH_take (i := 0) (oi := ⟨_, _, _, _, _, _⟩) (v := ?_) rfl (by kernel_rfl) (by kernel_rfl) (by kernel_rfl) (fun _ _ _ h => h) (Or.inl ⟨by rfl, ?_⟩) (by assumption) ?_
    rotate_left
    · intro w hSw; (try dsimp only at hSw); go_simp; (try (with_reducible rfl))
    try simp only [Act.put, List.setIfInBounds_toArray, List.set_cons_zero, List.set_cons_succ]
    refine wpAnyH_take (i := 1) (oi := ⟨_, _, _, _, _, _⟩) (v := ?_) rfl (by kernel_rfl) (by kernel_rfl) (by kernel_rfl) (fun _ _ _ h => h) (Or.inl ⟨by rfl, ?_⟩) (by assumption) ?_
    rotate_left
    · intro w hSw; (try dsimp only at hSw); go_simp; (try (with_reducible rfl))
    try simp only [Act.put, List.setIfInBounds_toArray, List.set_cons_zero, List.set_cons_succ]
    refine wpAnyH_take (i := 2) (oi := ⟨_, _, _, _, _, _⟩) (v := ?_) rfl (by kernel_rfl) (by kernel_rfl) (by kernel_rfl) (fun _ _ _ h => h) (Or.inl ⟨by rfl, ?_⟩) (by assumption) ?_
    rotate_left
    · intro w hSw; (try dsimp only at hSw); go_simp; (try (with_reducible rfl))
    try simp only [Act.put, List.setIfInBounds_toArray, List.set_cons_zero, List.set_cons_succ]
    refine wpAnyH_take (i := 3) (oi := ⟨_, _, _, _, _, _⟩) (v := ?_) rfl (by kernel_rfl) (by kernel_rfl) (by kernel_rfl) (fun _ _ _ h => h) (Or.inl ⟨by rfl, ?_⟩) (by assumption) ?_
    rotate_left
    · intro w hSw; (try dsimp only at hSw); go_simp; (try (with_reducible rfl))
    try simp only [Act.put, List.setIfInBounds_toArray, List.set_cons_zero, List.set_cons_succ]
    refine wpAnyH_take (i := 4) (oi := ⟨_, _, _, _, _, _⟩) (v := ?_) rfl (by kernel_rfl) (by kernel_rfl) (by kernel_rfl) (fun _ _ _ h => h) (Or.inl ⟨by rfl, ?_⟩) (by assumption) ?_
    rotate_left
    · intro w hSw; (try dsimp only at hSw); go_simp; (try (with_reducible rfl))
    try simp only [Act.put, List.setIfInBounds_toArray, List.set_cons_zero, List.set_cons_succ]
    refine wpAnyH_take (i := 5) (oi := ⟨_, _, _, _, _, _⟩) (v := ?_) rfl (by kernel_rfl) (by kernel_rfl) (by kernel_rfl) (fun _ _ _ h => h) (Or.inl ⟨by rfl, ?_⟩) (by assumption) ?_
    rotate_left
    · intro w hSw; (try dsimp only at hSw); go_simp; (try (with_reducible rfl))
    try simp only [Act.put, List.setIfInBounds_toArray, List.set_cons_zero, List.set_cons_succ]
    refine wpAnyH_take (i := 7) (oi := ⟨_, _, _, _, _, _⟩) (v := ?_) rfl (by kernel_rfl) (by kernel_rfl) (by kernel_rfl) (fun _ _ _ h => h) (Or.inl ⟨by rfl, ?_⟩) (by assumption) ?_
    rotate_left
    · intro w hSw; (try dsimp only at hSw); go_simp; (try (with_reducible rfl))
    try simp only [Act.put, List.setIfInBounds_toArray, List.set_cons_zero, List.set_cons_succ]
    refine wpAnyH_ready (rs := [6]) (by kernel_rfl) (by simp) ?_
    refine AllReadyH.cons (o := ⟨_, _, _, _, _, _⟩) rfl (fun K hK => ?_) AllReadyH.nil
    go_simp
    refine (lock_any k l _ hlI).mono ?_
    rintro e w3 ⟨rfl, b3'⟩
    have b3 : Below w2.heap.size w2 w3 := ⟨b3'.os, b3'.tape, b3'.output, b3'.size, b3'.block⟩
    have c3 := (b3.cell (p := ⟨g, 2, none⟩) hg2).trans c2
    refine hK.out _ _ c3 (fun hHeld => ?_)
    clear hK K
    try simp only [Act.put, List.setIfInBounds_toArray, List.set_cons_zero, List.set_cons_succ]
    refine wpAnyH_ready (rs := [8]) (by kernel_rfl) (by simp) ?_
    refine AllReadyH.cons (o := ⟨_, _, _, _, _, _⟩) rfl (fun K hK => ?_) AllReadyH.nil
    go_simp
    obtain ⟨w5, hu, hm5, hg5⟩ := (map_keep HM.out (b3.block bn HM.out.lt)).update Try.keyL Try.underlying50 (by have := HLN.out; unfold maxLen; omega) (lock_key HKI.out hlm) (plainElem_int Try.underlying3 (wf_i64 HI.out))
    rw [hu]
    go_simp
    have c5 : w5.cell? ⟨g, 2, none⟩ = some (.map (some bn)) := (World.cell?_of_block (hg5.block g (Nat.lt_of_lt_of_le hg2 b3.size) (fun e => NE.out (by injection e with e; exact e.symm)))).trans c3
    refine hK.out _ _ c5 (fun hHeld => ?_)
    clear hK K
    try simp only [Act.put, List.setIfInBounds_toArray, List.set_cons_zero, List.set_cons_succ]
    refine wpAnyH_done (by kernel_rfl) ?_ _
    go_wp2
    go_ret2
    rw [HN.out.1, HN.out.2, HD.out]
    exact HFIN.out k l _ w5 HNO.out HKI.out hlm b3 hg5 hm5
end Go.Proofs.Ytdejhpinmkbngaa
