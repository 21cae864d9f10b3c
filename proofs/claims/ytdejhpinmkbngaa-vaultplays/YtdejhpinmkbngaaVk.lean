/- VaultTwice: the walk. -/
import Derived.Test.YtdejhpinmkbngaaVi
namespace Go.Proofs.Ytdejhpinmkbngaa
open Go.RowKit Go.Maps

theorem call_cells {w : World} {q : Nat} {x : Cal} (h : Blk w q (callV x) 33) : w.cell? ⟨q, 0, none⟩ = some (.int .i64 x.which) ∧ w.cell? ⟨q, 1, none⟩ = some (.int .i64 x.key) ∧ w.cell? ⟨q, 2, none⟩ = some (.int .i64 x.num) ∧ w.cell? ⟨q, 3, none⟩ = some (.string x.ad) ∧ w.cell? ⟨q, 4, none⟩ = some (.string x.plain) :=
  ⟨h.cell 0, h.cell 1, h.cell 2, h.cell 3, h.cell 4⟩
theorem draw_i64 (u : List Int) (hu : u.length < 4294967296) (x : Int) : I64 (draw u x) := by
  have := draw_range u hu x
  exact ⟨by omega, by omega⟩
theorem few_both {c o : Cal} (h : fewB [c, o] = true) : c.ad.size ≤ 200 ∧ c.plain.size ≤ 6000 := (of_decide_eq_true h).2 c (by simp)
section
variable (k : Int) (a p : ByteArray) (x y : Int)
/-- Sealed twice alike. -/
theorem twice_open (hp : p.size ≤ 5116) : openV (sealT (sealT [] k a p x) k a p y) k a (sealI [] p x) = some p ∧ openV (sealT (sealT [] k a p x) k a p y) k a (sealI (sealT [] k a p x) p y) = some p ∧
    sealI [] p x ≠ sealI (sealT [] k a p x) p y ∧ (sealT (sealT [] k a p x) k a p y).length = 2 ∧ sealC p = 0 ∧ I64 (sealI [] p x) ∧ I64 (sealI (sealT [] k a p x) p y) := by
  have e1 : sealT [] k a p x = [⟨draw [] x, k, a, p⟩] := by rw [sealT, if_pos hp]; rfl
  have e2 : sealT [⟨draw [] x, k, a, p⟩] k a p y = [⟨draw [] x, k, a, p⟩, ⟨draw [draw [] x] y, k, a, p⟩] := by rw [sealT, if_pos hp]; rfl
  have e3 : sealI [] p x = draw [] x := by rw [sealI, if_pos hp]; rfl
  have e4 : sealI [⟨draw [] x, k, a, p⟩] p y = draw [draw [] x] y := by rw [sealI, if_pos hp]; rfl
  have hne : draw [draw [] x] y ≠ draw [] x := by
    have := draw_free [draw [] x] (by simp) y
    simpa using this
  rw [e1, e2, e3, e4]
  refine ⟨?_, ?_, fun h => hne h.symm, rfl, by rw [sealC, if_pos hp], draw_i64 _ (by simp) _, draw_i64 _ (by simp) _⟩
  · simp [openV, findS]
  · have : findS ([⟨draw [] x, k, a, p⟩] ++ [⟨draw [draw [] x] y, k, a, p⟩]) (draw [draw [] x] y) = some ⟨draw [draw [] x] y, k, a, p⟩ := by
      rw [findS_app (by simpa using hne), if_pos rfl]
    unfold openV
    rw [show ([⟨draw [] x, k, a, p⟩, ⟨draw [draw [] x] y, k, a, p⟩] : List Sec) = [⟨draw [] x, k, a, p⟩] ++ [⟨draw [draw [] x] y, k, a, p⟩] from rfl, this]
    simp
theorem twice_not (hp : 5116 < p.size) : sealT (sealT [] k a p x) k a p y = [] ∧ sealC p = 5 := by
  have h : ¬ p.size ≤ 5116 := by omega
  simp [sealT, sealC, h]
end
theorem sealT_len1 (k : Int) (a p : ByteArray) (x : Int) (S : List Sec) : (sealT S k a p x).length ≤ S.length + 1 := by
  unfold sealT
  split
  · simp [sealS]
  · omega

set_option maxHeartbeats 4000000 in
set_option maxRecDepth 20000 in
theorem vaultTwice_walk (c o : Cal) (w : World) (_ : CalOk c) (_ : CalOk o) :
    Calls Try.prog 9 #[.agg (callV c).toArray, .agg (callV o).toArray] w fun e w' => e = .returned (.bool true) ∧ Below w.heap.size w w' := by
  have hq1 := (Blk.new w (callV c) 33).below ((Below.refl _ _).alloc (Nat.le_refl _) (.cells (callV o).toArray 33))
  have hq2 := Blk.new (w.alloc (.cells (callV c).toArray 33)) (callV o) 33
  rw [World.size_alloc] at hq2
  have b0 : Below w.heap.size w ((w.alloc (.cells (callV c).toArray 33)).alloc (.cells (callV o).toArray 33)) := ((Below.refl _ _).alloc (Nat.le_refl _) _).alloc (by simp) _
  rw [show (callV c).toArray = #[.int .i64 c.which, .int .i64 c.key, .int .i64 c.num, .string c.ad, .string c.plain] from rfl, show (callV o).toArray = #[.int .i64 o.which, .int .i64 o.key, .int .i64 o.num, .string o.ad, .string o.plain] from rfl] at hq1 hq2 b0 ⊢
  go_enter Try.func9, Try.ntmps9
  go_wp2_with fail
  generalize (w.alloc (.cells #[.int .i64 c.which, .int .i64 c.key, .int .i64 c.num, .string c.ad, .string c.plain] 33)).alloc (.cells #[.int .i64 o.which, .int .i64 o.key, .int .i64 o.num, .string o.ad, .string o.plain] 33) = w0 at hq1 hq2 b0 ⊢
  refine (small_any _).mono ?_
  rintro e w1 ⟨rfl, b1⟩
  have hc1 := hq1.below b1
  have hc2 := hq2.below b1
  obtain ⟨c0, c1, c2, c3, c4⟩ := call_cells hc1
  obtain ⟨d0, d1, d2, d3, d4⟩ := call_cells hc2
  go_wp2_with fail
  refine (few_any (some ⟨w1.heap.size, 0, none⟩) 2 2 [c, o] _ rfl (by decide) (.inr ⟨_, rfl, new_cells w1 _ (calV [c, o])⟩)).mono ?_
  rintro e wu ⟨rfl, rfl⟩
  have b2 : Below w.heap.size w (w1.alloc (.cells (calV [c, o]).toArray 33)) := below2 (b0.trans (b1.mono b0.size)) ((Below.refl _ _).alloc (Nat.le_refl _) _)
  have hc1 := hc1.below ((Below.refl _ _).alloc (Nat.le_refl _) (.cells (calV [c, o]).toArray 33))
  have hc2 := hc2.below ((Below.refl _ _).alloc (Nat.le_refl _) (.cells (calV [c, o]).toArray 33))
  generalize w1.alloc (.cells (calV [c, o]).toArray 33) = w2 at b2 hc1 hc2 ⊢
  clear c0 c1 c2 c3 c4 d0 d1 d2 d3 d4 b1 b0 hq1 hq2
  go_wp2_with fail
  refine (st_new _).mono ?_
  rintro e w3 ⟨g, rfl, h3⟩
  cases hf : fewB [c, o]
  · clear hf
    have b3 := below2 b2 h3.bel
    go_wp2
    go_ret
    exact ⟨rfl, b3⟩
  have hsz := few_both hf
  clear hf
  obtain ⟨-, c1, c2, c3, c4⟩ := call_cells (hc1.below h3.bel)
  go_wp2_with fail
  refine (st_seal h3 c.key c.ad c.plain c.num (by omega) (by decide)).mono ?_
  rintro e w4 ⟨rfl, h4⟩
  clear c1 c2 c3 c4 h3
  obtain ⟨-, c1, -, c3, c4⟩ := call_cells (hc1.below h4.bel)
  obtain ⟨-, -, d2, -, -⟩ := call_cells (hc2.below h4.bel)
  have hl4 := sealT_len1 c.key c.ad c.plain c.num []
  simp only [List.length_nil] at hl4
  go_wp2_with fail
  refine (st_seal h4 c.key c.ad c.plain o.num (by omega) (by omega)).mono ?_
  rintro e w5 ⟨rfl, h5⟩
  clear c1 c3 c4 d2 h4 hl4
  by_cases hp : c.plain.size ≤ 5116
  · obtain ⟨t1, t2, t3, t4, t5, t6, t7⟩ := twice_open c.key c.ad c.plain c.num o.num hp
    rw [t5]
    have T3 := hid t3
    have T4 := hid t4
    generalize sealI (sealT [] c.key c.ad c.plain c.num) c.plain o.num = y at *
    generalize sealT (sealT [] c.key c.ad c.plain c.num) c.key c.ad c.plain o.num = S at *
    generalize sealI [] c.plain c.num = x at *
    clear t3 t4 t5 hp
    obtain ⟨-, c1, -, c3, -⟩ := call_cells (hc1.below h5.bel)
    go_wp2_with fail
    refine (st_open h5 t6 c.key c.ad).mono ?_
    rintro e w6 ⟨rfl, h6⟩
    rw [t1, openE_some]
    clear h5 c1 c3
    obtain ⟨-, c1, -, c3, -⟩ := call_cells (hc1.below h6.bel)
    go_wp2_with fail
    refine (st_open h6 t7 c.key c.ad).mono ?_
    rintro e w7 ⟨rfl, h7⟩
    rw [t2, openE_some]
    clear h6 c1 c3
    obtain ⟨-, -, -, -, c4⟩ := call_cells (hc1.below h7.bel)
    have hne : (x == y) = false := beq_eq_false_iff_ne.2 T3.out
    have b7 := below2 b2 h7.bel
    clear t1 t2
    go_wp2_with fail
    refine (st_sealed h7).mono ?_
    rintro e wu ⟨rfl, rfl⟩
    rw [T4.out]
    go_wp2
    go_ret
    exact ⟨ret_bool (bne_iff_ne.2 T3.out), b7⟩
  · obtain ⟨t1, t2⟩ := twice_not c.key c.ad c.plain c.num o.num (by omega)
    rw [t2]
    rw [t1] at h5
    have b5 := below2 b2 h5.bel
    clear t1 t2 hp
    go_wp2_with fail
    refine (st_sealed h5).mono ?_
    rintro e wu ⟨rfl, rfl⟩
    go_wp2
    go_ret
    exact ⟨rfl, b5⟩
end Go.Proofs.Ytdejhpinmkbngaa
