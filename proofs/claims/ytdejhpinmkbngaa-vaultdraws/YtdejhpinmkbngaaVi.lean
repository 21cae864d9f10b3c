/- A vault since a start; the small case. -/
import Derived.Test.YtdejhpinmkbngaaCal
namespace Go.Proofs.Ytdejhpinmkbngaa
open Go.RowKit Go.Maps

/-! ### A vault that was made since the world w0 -/
def St (w0 w : World) (g : Nat) (S : List Sec) (N : List Nam) : Prop := ∃ F, Vlt w g S N F ∧ Below w0.heap.size w0 w ∧ ∀ i, F i → w0.heap.size ≤ i
def openE (o : Option ByteArray) : Ending := .returned (match o with | some p => .tuple #[.string p, .int .i64 0] | none => .tuple #[.string ⟨#[]⟩, .int .i64 7])
theorem openE_some (p : ByteArray) : openE (some p) = .returned (.tuple #[.string p, .int .i64 0]) := rfl
theorem openE_none : openE none = .returned (.tuple #[.string ⟨#[]⟩, .int .i64 7]) := rfl
def sealI (S : List Sec) (p : ByteArray) (x : Int) : Int := if p.size ≤ 5116 then draw (S.map Sec.h) x else 0
def sealC (p : ByteArray) : Int := if p.size ≤ 5116 then 0 else 5
def sealT (S : List Sec) (k : Int) (a p : ByteArray) (x : Int) : List Sec := if p.size ≤ 5116 then sealS S k a p x else S
section
variable {w0 w w' : World} {g : Nat} {S : List Sec} {N : List Nam}
theorem St.bel (h : St w0 w g S N) : Below w0.heap.size w0 w := by obtain ⟨F, _, hb, _⟩ := h; exact hb
theorem St.below (h : St w0 w g S N) (hb : Below w.heap.size w w') : St w0 w' g S N := by
  obtain ⟨F, hT, h1, h2⟩ := h
  exact ⟨F, hT.below hb, below2 h1 hb, h2⟩
theorem St.drew (h : St w0 w g S N) : St w0 w.drew g S N := h.below ⟨rfl, rfl, rfl, Nat.le_refl _, fun _ _ => rfl⟩
def StPost (w0 : World) (e : Ending) (w' : World) : Prop := ∃ g, e = .returned (.pointer (some ⟨g, 0, none⟩)) ∧ St w0 w' g [] []
theorem st_new (w : World) : Calls Try.prog 12 #[] w (StPost w) := by
  refine (new_any w).mono ?_
  rintro e w' ⟨g, F, rfl, hT, hb, hF⟩
  exact ⟨g, rfl, F, hT, hb, hF⟩
theorem St.put {S' : List Sec} {N' : List Nam} {x : Int} {e : Ending} {F : Nat → Prop} (hb : Below w0.heap.size w0 w) (hF : ∀ i, F i → w0.heap.size ≤ i) (h : PutPost w g S' N' F x e w') : e = .returned (.tuple #[.int .i64 x, .int .i64 0]) ∧ St w0 w' g S' N' := by
  obtain ⟨F', rfl, hT', hf, hF'⟩ := h
  exact ⟨rfl, F', hT', hb.trans (hf.to_below hF hb.size), fun i hi => (hF' i hi).elim (hF i) (fun h => Nat.le_trans hb.size h)⟩
theorem st_seal (h : St w0 w g S N) (k : Int) (a p : ByteArray) (x : Int) (ha : a.size ≤ 281474976710656) (hl : S.length < 16384) :
    Calls Try.prog 13 #[.pointer (some ⟨g, 0, none⟩), .int .i64 k, .string a, .string p, .int .i64 x] w fun e w' => e = .returned (.tuple #[.int .i64 (sealI S p x), .int .i64 (sealC p)]) ∧ St w0 w' g (sealT S k a p x) N := by
  unfold sealI sealC sealT
  by_cases hp : p.size ≤ 5116
  · rw [if_pos hp, if_pos hp, if_pos hp]
    obtain ⟨F, hT, hb, hF⟩ := h
    refine (seal_yes hT k a p x hp ha hl).mono ?_
    intro e w' hpp
    exact St.put hb hF hpp
  · rw [if_neg hp, if_neg hp, if_neg hp]
    refine (seal_no g k a p x (by omega)).mono ?_
    rintro e w' ⟨rfl, b⟩
    exact ⟨rfl, h.below b⟩
theorem st_open (h : St w0 w g S N) {x : Int} (hx : I64 x) (k : Int) (a : ByteArray) :
    Calls Try.prog 15 #[.pointer (some ⟨g, 0, none⟩), .int .i64 k, .string a, .int .i64 x] w fun e w' => e = openE (openV S k a x) ∧ St w0 w' g S N := by
  have h' := h
  obtain ⟨F, hT, hb, hF⟩ := h
  refine (open_any hT hx k a).mono ?_
  rintro e w' ⟨rfl, b⟩
  exact ⟨rfl, h'.below b⟩
theorem st_size (h : St w0 w g S N) {x : Int} (hx : I64 x) :
    Calls Try.prog 19 #[.pointer (some ⟨g, 0, none⟩), .int .i64 x] w fun e w' => e = .returned (.int .i64 (sizeV S x)) ∧ St w0 w' g S N := by
  have h' := h
  obtain ⟨F, hT, hb, hF⟩ := h
  refine (vsize_any hT hx).mono ?_
  rintro e w' ⟨rfl, b⟩
  exact ⟨rfl, h'.below b⟩
theorem st_name (h : St w0 w g S N) {k : Int} {l : ByteArray} (x : Int) (hk : I64 k) (hs : l.size ≤ 281474976710656) (hl : N.length < 16384) :
    Calls Try.prog 17 #[.pointer (some ⟨g, 0, none⟩), .int .i64 k, .string l, .int .i64 x] w fun e w' => e = .returned (.tuple #[.int .i64 (nameI N k l x), .int .i64 0]) ∧ St w0 w' g S (nameN N k l x) := by
  obtain ⟨F, hT, hb, hF⟩ := h
  refine (name_any hT x hk hs hl).mono ?_
  intro e w' hpp
  exact St.put hb hF hpp
theorem st_sealed (h : St w0 w g S N) : Calls Try.prog 21 #[.pointer (some ⟨g, 0, none⟩)] w fun e w' => e = .returned (.int .i64 S.length) ∧ w' = w := by
  obtain ⟨F, hT, _⟩ := h
  exact sealed_any hT
theorem st_named (h : St w0 w g S N) : Calls Try.prog 22 #[.pointer (some ⟨g, 0, none⟩)] w fun e w' => e = .returned (.int .i64 N.length) ∧ w' = w := by
  obtain ⟨F, hT, _⟩ := h
  exact named_any hT
end

/-! ### The small case -/
abbrev b97 : ByteArray := ⟨#[97]⟩
abbrev b98 : ByteArray := ⟨#[98]⟩
abbrev b109 : ByteArray := ⟨#[109]⟩
abbrev b120 : ByteArray := ⟨#[120]⟩
abbrev b121 : ByteArray := ⟨#[121]⟩
abbrev sec1 : List Sec := [⟨9, 1, b97, b120⟩]
abbrev sec2 : List Sec := [⟨9, 1, b97, b120⟩, ⟨10, 1, b97, b121⟩]
abbrev nam1 : List Nam := [⟨4294967295, 1, b109⟩]
abbrev nam2 : List Nam := [⟨4294967295, 1, b109⟩, ⟨0, 2, b109⟩]
theorem sm1 : sealI [] b120 9 = 9 ∧ sealC b120 = 0 ∧ sealT [] 1 b97 b120 9 = sec1 := ⟨by decide, by decide, rfl⟩
theorem sm2 : sealI sec1 b121 9 = 10 ∧ sealC b121 = 0 ∧ sealT sec1 1 b97 b121 9 = sec2 := ⟨by decide, by decide, rfl⟩
theorem sm3 : openV sec2 1 b97 9 = some b120 := by decide
theorem sm4 : openV sec2 2 b97 9 = none := by decide
theorem sm5 : openV sec2 1 b98 9 = none := by decide
theorem sm6 : nameI [] 1 b109 (-1) = 4294967295 ∧ nameN [] 1 b109 (-1) = nam1 := ⟨by decide, rfl⟩
theorem sm7 : nameI nam1 2 b109 (-1) = 0 ∧ nameN nam1 2 b109 (-1) = nam2 := ⟨by decide, rfl⟩
theorem sm8 : nameI nam2 1 b109 5 = 4294967295 ∧ nameN nam2 1 b109 5 = nam2 := ⟨by decide, rfl⟩
theorem sm9 : sizeV sec2 9 = 80 ∧ sizeV sec2 11 = 0 := by decide
set_option maxHeartbeats 4000000 in
set_option maxRecDepth 20000 in
theorem small_any (w : World) : Calls Try.prog 10 #[] w fun e w' => e = .returned (.bool true) ∧ Below w.heap.size w w' := by
  go_enter Try.func10, Try.ntmps10
  go_wp2_with fail
  refine (st_new _).mono ?_
  rintro e w1 ⟨g, rfl, h1⟩
  go_wp2_with fail
  refine (st_seal h1 1 b97 b120 9 (by decide) (by decide)).mono ?_
  rintro e w2 ⟨rfl, h2⟩
  rw [sm1.1, sm1.2.1]
  rw [sm1.2.2] at h2
  clear h1
  go_wp2_with fail
  refine (st_seal h2 1 b97 b121 9 (by decide) (by decide)).mono ?_
  rintro e w3 ⟨rfl, h3⟩
  rw [sm2.1, sm2.2.1]
  rw [sm2.2.2] at h3
  clear h2
  go_wp2_with fail
  refine (st_open h3 (x := 9) (by decide) 1 b97).mono ?_
  rintro e w4 ⟨rfl, h4⟩
  rw [sm3, openE_some]
  clear h3
  go_wp2_with fail
  refine (st_open h4 (x := 9) (by decide) 2 b97).mono ?_
  rintro e w5 ⟨rfl, h5⟩
  rw [sm4, openE_none]
  clear h4
  go_wp2_with fail
  refine (st_open h5 (x := 9) (by decide) 1 b98).mono ?_
  rintro e w6 ⟨rfl, h6⟩
  rw [sm5, openE_none]
  clear h5
  go_wp2_with fail
  refine (st_name h6 (k := 1) (l := b109) (-1) (by decide) (by decide) (by decide)).mono ?_
  rintro e w7 ⟨rfl, h7⟩
  rw [sm6.1]
  rw [sm6.2] at h7
  clear h6
  go_wp2_with fail
  refine (st_name h7 (k := 2) (l := b109) (-1) (by decide) (by decide) (by decide)).mono ?_
  rintro e w8 ⟨rfl, h8⟩
  rw [sm7.1]
  rw [sm7.2] at h8
  clear h7
  go_wp2_with fail
  refine (st_name h8 (k := 1) (l := b109) 5 (by decide) (by decide) (by decide)).mono ?_
  rintro e w9 ⟨rfl, h9⟩
  rw [sm8.1]
  rw [sm8.2] at h9
  clear h8
  go_wp2_with fail
  refine (st_size h9 (x := 9) (by decide)).mono ?_
  rintro e w10 ⟨rfl, h10⟩
  rw [sm9.1]
  clear h9
  go_wp2_with fail
  refine (st_size h10 (x := 11) (by decide)).mono ?_
  rintro e w11 ⟨rfl, h11⟩
  rw [sm9.2]
  clear h10
  go_wp2_with fail
  refine (st_sealed h11).mono ?_
  rintro e wu ⟨rfl, rfl⟩
  go_wp2_with fail
  refine (st_named h11).mono ?_
  rintro e wu ⟨rfl, rfl⟩
  go_wp2
  go_ret
  exact ⟨rfl, h11.bel⟩
end Go.Proofs.Ytdejhpinmkbngaa
