/- The small case. -/
import Derived.Test.YtpiinamfibhjdaaWf
namespace Go.Proofs.Ytpiinamfibhjdaa
open Go.RowKit

theorem RdrAt.below {w w' : World} {g : Nat} {A : Option Addr} {c : Nat} {l : List UInt8} {p : Nat} {e : Int} (h : RdrAt w g A c l p e) (hb : Below w.heap.size w w') : RdrAt w' g A c l p e :=
  RdrAt.far (row := none) h h (grown_below hb) (Nat.le_refl _) (by simp)
theorem RdrAt.apart {w w' : World} {g g' : Nat} {A : Option Addr} {c : Nat} {l : List UInt8} {p : Nat} {e : Int} {n' c' : Nat} {A' : Option Addr} {p' e' : Int} {t : TypeId} (h : RdrAt w g A c l p e) (hb : Blk w g' [.slice A' n' c', .int .i64 p', .int .i64 e'] t) (hg : w.grownBy w' (some g')) (hne : g ≠ g') : RdrAt w' g A c l p e := by
  obtain ⟨h0, hr, h1, h2, h3⟩ := h
  refine ⟨?_, hr.grown hg (blk_not_by8 hb), h1, h2, h3⟩
  unfold Blk
  rw [hg.block g (Blk.lt h0) (by simpa using hne)]
  exact h0

theorem rn1 : rNum [0, 0, 0, 9, 0, 0, 0, 1] 0 0 9 = (9, 4, 0) := by decide
theorem rn2 : rNum [0, 0, 0, 9, 0, 0, 0, 1] 4 0 0 = (0, 4, 5) := by decide
def L6 : List UInt8 := [0, 0, 0, 7, 0, 0, 0, 2, 97, 98, 0, 0, 0, 2, 0, 0, 0, 1, 99, 0, 0, 0, 0]
theorem L6eq : numB 7 ++ strB ⟨#[97, 98]⟩ ++ rowB [⟨#[99]⟩, ⟨#[]⟩] = L6 := by decide
theorem sl2 : (numB 7 ++ strB ⟨#[97, 98]⟩).length = 10 := by decide
theorem sl3 : 10 + (rowB [⟨#[99]⟩, ⟨#[]⟩]).length = 23 := by decide
theorem rn3 : rNum L6 0 0 9 = (7, 4, 0) := by decide
theorem rs3 : rStr L6 4 0 2 = ([97, 98], 10, 0) := by decide
theorem rr3 : rRow L6 10 0 2 1 = ([[99], []], 23, 0) := by decide
theorem re1 : rEnd [0, 0, 0, 9, 0, 0, 0, 1] 4 5 = 5 := by decide
theorem re2 : rEnd L6 23 0 = 0 := by decide
theorem sb1 : strB ⟨#[97, 98]⟩ = [0, 0, 0, 2, 97, 98] := by decide
theorem ft1 : fitsB (ByteArray.size ⟨#[97, 98]⟩) 2 = true := by decide
theorem ft2 : fitsB (ByteArray.size ⟨#[97, 98]⟩) 1 = false := by decide
theorem blk_not_str {w : World} {g : Nat} {A : Option Addr} {n c : Nat} {p e : Int} {t : TypeId} {l : List ByteArray} (h : Blk w g [.slice A n c, .int .i64 p, .int .i64 e] t) : ∀ o u, w.cell? ⟨g, o, none⟩ = some u → u ∉ strV l := by
  intro o u hu hm
  obtain ⟨b, _, rfl⟩ := List.mem_map.1 hm
  rw [h.cell o] at hu
  match o, hu with
  | 0, hu => simp at hu
  | 1, hu => simp at hu
  | 2, hu => simp at hu
theorem sl1 : (strB ⟨#[97, 98]⟩).length = 6 := by decide

set_option maxHeartbeats 1000000 in
set_option maxRecDepth 100000 in
theorem small_any (w : World) :
    Calls Try.prog 11 #[] w fun e w' => e = .returned (.bool true) ∧ Below w.heap.size w w' := by
  have hin : Rd (w.alloc (.cells #[.int .u8 0, .int .u8 0, .int .u8 0, .int .u8 9, .int .u8 0, .int .u8 0, .int .u8 0, .int .u8 1] 5)) (some ⟨w.heap.size, 0, none⟩) (by8 [0, 0, 0, 9, 0, 0, 0, 1]) := .inr ⟨_, rfl, new_cells w 5 _⟩
  go_enter Try.func11, Try.ntmps11
  go_wp2_with fail
  refine (read_any _ 8 8 [0, 0, 0, 9, 0, 0, 0, 1] _ rfl hin (by omega)).mono ?_
  rintro e w1 ⟨g, A, c, rfl, hq, hge, hb1⟩
  go_wp2_with fail
  refine (rdNumber g A c _ 0 0 9 _ hq (by decide)).mono ?_
  rintro e w2 ⟨rfl, hq2, hg2⟩
  rw [rn1] at hq2 ⊢
  simp only at hq2 ⊢
  go_wp2_with fail
  refine (rdNumber g A c _ 4 0 0 _ hq2 (by decide)).mono ?_
  rintro e w3 ⟨rfl, hq3, hg3⟩
  rw [rn2] at hq3 ⊢
  simp only at hq3 ⊢
  have hb3 : Below w.heap.size w w3 := by
    have hx := hb1.mono (B' := w.heap.size) (by simp)
    have hy := hx.trans (below_grown (by have := hb1.size; simp at this; omega) (by intro k hk; simp at hk; simp at hge; omega) hg2)
    exact (((Below.refl _ _).alloc (Nat.le_refl _) _).trans hy).trans (below_grown (by have := hb1.size; have := hg2.size; simp at *; omega) (by intro k hk; simp at hk; simp at hge; omega) hg3)
  have hz3 : w.heap.size ≤ w3.heap.size := hb3.size
  clear hg2 hg3 hq hq2 hin hb1
  go_wp2_with fail
  refine (number_any none 0 0 [] 7 _ rfl (.inl rfl) (by omega)).mono ?_
  rintro e w4 ⟨A4, c4, rfl, hown4, hb4⟩
  have hq4 := hq3.below hb4
  have hr4 : Rd w4 A4 (by8 (numB 7)) := Rd.of_own hown4
  clear hown4 hq3
  have hb4' := hb3.trans (hb4.mono hz3)
  clear hb4 hb3 hz3
  go_wp2_with fail
  refine (string_any A4 4 c4 (numB 7) _ _ rfl hr4 (by omega) (by decide)).mono ?_
  rintro e w5 ⟨A5, c5, rfl, hown5, hb5⟩
  have hq5 := hq4.below hb5
  have hr5 : Rd w5 A5 (by8 (numB 7 ++ strB ⟨#[97, 98]⟩)) := Rd.of_own hown5
  have hb5' := hb4'.trans (hb5.mono hb4'.size)
  clear hown5 hq4 hb5 hb4' hr4
  rw [sl1]
  have hrs : Rd (w5.alloc (.cells #[.string ⟨#[99]⟩, .string ⟨#[]⟩] 9)) (some ⟨w5.heap.size, 0, none⟩) (strV [⟨#[99]⟩, ⟨#[]⟩]) := .inr ⟨_, rfl, new_cells w5 9 _⟩
  have hq5' := hq5.below ((Below.refl _ _).alloc (Nat.le_refl _) (.cells #[.string ⟨#[99]⟩, .string ⟨#[]⟩] 9))
  have hb5'' := hb5'.alloc hb5'.size (.cells #[.string ⟨#[99]⟩, .string ⟨#[]⟩] 9)
  have hr5' := hr5.alloc (.cells #[.string ⟨#[99]⟩, .string ⟨#[]⟩] 9)
  clear hq5 hb5' hr5
  go_wp2_with fail
  refine (row_any A5 10 c5 _ _ 2 2 [⟨#[99]⟩, ⟨#[]⟩] _ sl2 hr5' rfl (by omega) (by decide) hrs (by decide) (by omega)).mono ?_
  rintro e w6 ⟨A6, c6, rfl, hown6, hb6⟩
  have hq6 := hq5'.below hb6
  have hr6 := Rd.of_own hown6
  rw [L6eq] at hr6
  have hb6' := hb5''.trans (hb6.mono hb5''.size)
  clear hown6 hq5' hb6 hb5'' hr5' hrs
  rw [sl3]
  go_wp2_with fail
  refine (read_any A6 23 c6 L6 _ rfl hr6 (by omega)).mono ?_
  rintro e w7 ⟨g', A', c', rfl, hq', hge', hb7⟩
  have hq7 := hq6.below hb7
  have hlt : g < w6.heap.size := hq6.1.lt
  have hne : g ≠ g' := by omega
  have hge2 : w.heap.size ≤ g' := Nat.le_trans hb6'.size hge'
  have hb7' := hb6'.trans (hb7.mono hb6'.size)
  clear hq6 hb7 hb6' hr6 hlt hge'
  go_wp2_with fail
  refine (rdNumber g' A' c' _ 0 0 9 _ hq' (by decide)).mono ?_
  rintro e w8 ⟨rfl, hq8, hg8⟩
  rw [rn3] at hq8 ⊢
  simp only at hq8 ⊢
  have hp8 := hq7.apart hq'.1 hg8 hne
  have hb8 := hb7'.grown hg8 hb7'.size (by intro k hk; simp at hk; omega)
  clear hq' hq7 hg8 hb7'
  go_wp2_with fail
  refine (rdString g' A' c' _ 4 0 2 _ hq8 (by decide)).mono ?_
  rintro e w9 ⟨rfl, hq9, hg9⟩
  rw [rs3] at hq9 ⊢
  simp only at hq9 ⊢
  have hp9 := hp8.apart hq8.1 hg9 hne
  have hb9 := hb8.grown hg9 hb8.size (by intro k hk; simp at hk; omega)
  clear hq8 hp8 hg9 hb8
  go_wp2_with fail
  refine (rdRow g' A' c' _ 10 0 2 1 _ hq9 (by decide)).mono ?_
  rintro e w10 ⟨A10, c10, rfl, hown10, hq10, hg10⟩
  rw [rr3] at hown10 hq10 ⊢
  simp only [List.length_cons, List.length_nil, Nat.zero_add, Nat.reduceAdd] at hown10 hq10 ⊢
  have hp10 := hp9.apart hq9.1 hg10 hne
  have hb10 := hb9.grown hg10 hb9.size (by intro k hk; simp at hk; omega)
  have hr10 : Rd w10 A10 (strV [⟨#[99]⟩, ⟨#[]⟩]) := Rd.of_own hown10
  clear hq9 hp9 hg10 hb9 hown10
  go_wp2_with fail
  refine (rdErr g A c _ 4 5 _ hp10).mono ?_
  rintro e w' ⟨rfl, rfl⟩
  go_wp2_with fail
  refine (rdAt g A c _ 4 5 _ hp10).mono ?_
  rintro e w' ⟨rfl, rfl⟩
  go_wp2_with fail
  refine (rdEnd g A c _ 4 5 _ hp10 (by decide)).mono ?_
  rintro e w11 ⟨rfl, hp11, hg11⟩
  rw [re1] at hp11 ⊢
  simp only at hp11 ⊢
  have hq11 := hq10.apart hp10.1 hg11 (Ne.symm hne)
  have hb11 := hb10.grown hg11 hb10.size (by intro k hk; simp at hk; simp at hge; omega)
  have hr11 : Rd w11 A10 (strV [⟨#[99]⟩, ⟨#[]⟩]) := hr10.grown hg11 (blk_not_str hp10.1)
  clear hp10 hq10 hb10 hg11 hr10 hp11
  go_wp2_with fail
  have hrs : Rd (w11.alloc (.cells #[.string ⟨#[99]⟩, .string ⟨#[]⟩] 9)) (some ⟨w11.heap.size, 0, none⟩) (strV [⟨#[99]⟩, ⟨#[]⟩]) := .inr ⟨_, rfl, new_cells w11 9 _⟩
  refine (rows_same A10 _ 2 c10 2 [⟨#[99]⟩, ⟨#[]⟩] _ rfl (by omega) (hr11.alloc _) hrs).mono ?_
  rintro e w12 ⟨rfl, hb12⟩
  have hq12 := (hq11.below ((Below.refl _ _).alloc (Nat.le_refl _) _)).below hb12
  have hb12' := (hb11.alloc hb11.size _).trans (hb12.mono (by have := hb11.size; simp; omega))
  clear hq11 hb11 hr11 hrs hb12
  go_wp2_with fail
  refine (rdEnd g' A' c' _ 23 0 _ hq12 (by decide)).mono ?_
  rintro e w13 ⟨rfl, hq13, hg13⟩
  rw [re2] at hq13 ⊢
  simp only at hq13 ⊢
  have hb13 := hb12'.grown hg13 hb12'.size (by intro k hk; simp at hk; omega)
  clear hq12 hb12' hg13 hq13
  go_wp2_with fail
  refine (string_any none 0 0 [] ⟨#[97, 98]⟩ _ rfl (.inl rfl) (by omega) (by decide)).mono ?_
  rintro e w14 ⟨A14, c14, rfl, hown14, hb14⟩
  rw [sl1] at hown14 ⊢
  simp only [List.nil_append, Nat.zero_add] at hown14 ⊢
  have hcv := conv_rd (P := Try.prog) w14 22 9 5 Try.underlying22 Try.underlying5 Try.underlying9 A14 6 c14 _ sl1 (Rd.of_own hown14)
  rw [sb1] at hcv
  have hb14' := hb13.trans (hb14.mono hb13.size)
  clear hown14 hb13 hb14
  go_wp2_with fail
  refine (fits_any _ _ _).mono ?_
  rintro e w' ⟨rfl, rfl⟩
  rw [ft1]
  go_wp2_with fail
  refine (fits_any _ _ _).mono ?_
  rintro e w' ⟨rfl, rfl⟩
  rw [ft2]
  go_wp2
  go_ret
  exact ⟨rfl, hb14'⟩
end Go.Proofs.Ytpiinamfibhjdaa
