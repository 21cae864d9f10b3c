/- The small case. -/
import Derived.Test.YtblfpmlnpaibkaaDoorTk
namespace Go.Proofs.YtblfpmlnpaibkaaDoor
open Go.RowKit

theorem put_small {w : World} {A : Option Addr} {n c : Nat} {fs : List Fil} (h : Ft w A n c fs) (p d : ByteArray) (out : List Fil) (er m : Nat) (hp : p.size < 4294967281) (hd : d.size ≤ 140737488355328)
    (h1 : putT fs p d = out) (h2 : putE fs p d = er) (h3 : out.length = m) (h4 : fewB out = true) :
    Calls Tryd.prog 12 #[.slice A n c, .string p, .string d] w fun e w' => ∃ A' c', e = .returned (.tuple #[.slice A' m c', .int .i64 (er : Nat)]) ∧ Ft w' A' m c' out ∧ Below w.heap.size w w' := by
  refine (put_any h p d hp hd).mono ?_
  rintro e w' ⟨A', n', c', rfl, ho, hb⟩
  rw [h1] at ho
  rw [h2]
  obtain ⟨k1, k2⟩ := few_sz h4
  have hn : n' = m := by rw [← ho.1]; exact h3
  subst hn
  exact ⟨A', c', rfl, ho.ft (by omega) (fun f hm => by have := k2 f hm; omega), hb⟩
theorem drop_small {w : World} {A : Option Addr} {n c : Nat} {fs : List Fil} (h : Ft w A n c fs) (p : ByteArray) (out : List Fil) (er m : Nat)
    (h1 : dropT fs p.data.toList = out) (h2 : dropE fs p.data.toList = er) (h3 : out.length = m) (h4 : fewB out = true) :
    Calls Tryd.prog 14 #[.slice A n c, .string p] w fun e w' => ∃ A' c', e = .returned (.tuple #[.slice A' m c', .int .i64 (er : Nat)]) ∧ Ft w' A' m c' out ∧ Below w.heap.size w w' := by
  refine (drop_any h p).mono ?_
  rintro e w' ⟨A', n', c', rfl, ho, hb⟩
  rw [h1] at ho
  rw [h2]
  obtain ⟨k1, k2⟩ := few_sz h4
  have hn : n' = m := by rw [← ho.1]; exact h3
  subst hn
  exact ⟨A', c', rfl, ho.ft (by omega) (fun f hm => by have := k2 f hm; omega), hb⟩

set_option maxHeartbeats 4000000 in
set_option maxRecDepth 20000 in
theorem small_any (w : World) : Calls Tryd.prog 10 #[] w fun e w' => e = .returned (.bool true) ∧ Below w.heap.size w w' := by
  have t0 : Ft w none 0 0 [] := ⟨rfl, .inl rfl, Nat.le_refl _, by omega, by omega, by simp⟩
  have b0 := Below.refl w.heap.size w
  go_enter Tryd.func10, Tryd.ntmps10
  go_wp2_with fail
  refine (put_small t0 ⟨#[98]⟩ ⟨#[49]⟩ [(⟨#[98]⟩, ⟨#[49]⟩)] 0 1 (by decide) (by decide) (by kernel_rfl) (by kernel_rfl) rfl (by kernel_rfl)).mono ?_
  rintro e w1 ⟨A1, c1, rfl, t1, hb1⟩
  have b1 := b0.trans (hb1.mono b0.size)
  clear b0 hb1 
  clear t0
  go_wp2_with fail
  refine (put_small t1 ⟨#[97, 47, 120]⟩ ⟨#[50, 50]⟩ [(⟨#[97, 47, 120]⟩, ⟨#[50, 50]⟩), (⟨#[98]⟩, ⟨#[49]⟩)] 0 2 (by decide) (by decide) (by kernel_rfl) (by kernel_rfl) rfl (by kernel_rfl)).mono ?_
  rintro e w2 ⟨A2, c2, rfl, t2, hb2⟩
  have b2 := b1.trans (hb2.mono b1.size)
  clear b1 hb2 
  clear t1
  go_wp2_with fail
  refine (put_small t2 ⟨#[97]⟩ ⟨#[51]⟩ [] 6 0 (by decide) (by decide) (by kernel_rfl) (by kernel_rfl) rfl (by kernel_rfl)).mono ?_
  rintro e w3 ⟨A3, c3, rfl, -, hb3⟩
  have b3 := b2.trans (hb3.mono b2.size)
  have t2' := t2.below hb3
  clear b2 hb3 t2
  have t2 := t2'
  clear t2'
  go_wp2_with fail
  refine (put_small t2 ⟨#[66]⟩ ⟨#[51]⟩ [] 6 0 (by decide) (by decide) (by kernel_rfl) (by kernel_rfl) rfl (by kernel_rfl)).mono ?_
  rintro e w4 ⟨A4, c4, rfl, -, hb4⟩
  have b4 := b3.trans (hb4.mono b3.size)
  have t2' := t2.below hb4
  clear b3 hb4 t2
  have t2 := t2'
  clear t2'
  go_wp2_with fail
  refine (put_small t2 ⟨#[98]⟩ ⟨#[52]⟩ [(⟨#[97, 47, 120]⟩, ⟨#[50, 50]⟩), (⟨#[98]⟩, ⟨#[52]⟩)] 0 2 (by decide) (by decide) (by kernel_rfl) (by kernel_rfl) rfl (by kernel_rfl)).mono ?_
  rintro e w5 ⟨A5, c5, rfl, u, hb5⟩
  have b5 := b4.trans (hb5.mono b4.size)
  have t2' := t2.below hb5
  clear b4 hb5 t2
  have t2 := t2'
  clear t2'
  go_wp2_with fail
  refine (drop_small u ⟨#[97, 47, 120]⟩ [(⟨#[98]⟩, ⟨#[52]⟩)] 0 1 (by kernel_rfl) (by kernel_rfl) rfl (by kernel_rfl)).mono ?_
  rintro e w6 ⟨A6, c6, rfl, v, hb6⟩
  have b6 := b5.trans (hb6.mono b5.size)
  have t2' := t2.below hb6
  have u' := u.below hb6
  clear b5 hb6 t2 u
  have t2 := t2'
  have u := u'
  clear t2' u'
  go_wp2_with fail
  refine (drop_small v ⟨#[97, 47, 120]⟩ [] 3 0 (by kernel_rfl) (by kernel_rfl) rfl (by kernel_rfl)).mono ?_
  rintro e w7 ⟨A7, c7, rfl, -, hb7⟩
  have b7 := b6.trans (hb7.mono b6.size)
  have t2' := t2.below hb7
  have u' := u.below hb7
  clear b6 hb7 t2 u
  have t2 := t2'
  have u := u'
  clear t2' u'
  clear v
  go_wp2_with fail
  refine (get_any u ⟨#[98]⟩).mono ?_
  rintro e w8 ⟨he, hb8⟩
  obtain rfl : e = .returned (.tuple #[.string ⟨#[52]⟩, .bool true]) := he.trans (congrArg Ending.returned (by kernel_rfl))
  clear he
  have b8 := b7.trans (hb8.mono b7.size)
  have t2' := t2.below hb8
  have u' := u.below hb8
  clear b7 hb8 t2 u
  have t2 := t2'
  have u := u'
  clear t2' u'
  go_wp2_with fail
  refine (in_any t2 ⟨#[97]⟩ (by decide)).mono ?_
  rw [show inT [(⟨#[97, 47, 120]⟩, ⟨#[50, 50]⟩), (⟨#[98]⟩, ⟨#[49]⟩)] (⟨#[97]⟩ : ByteArray).data.toList = [⟨#[97, 47, 120]⟩] by kernel_rfl]
  rintro e w9 ⟨A9, c9, rfl, hr9, -, -, hb9⟩
  rw [show ([⟨#[97, 47, 120]⟩] : List ByteArray).length = 1 from rfl]
  have b9 := b8.trans (hb9.mono b8.size)
  have t2' := t2.below hb9
  have u' := u.below hb9
  clear b8 hb9 t2 u
  have t2 := t2'
  have u := u'
  clear t2' u'
  obtain ⟨g2, o2, rfl, k1, -, -⟩ := t2.rd.fil (j := 0) (by decide)
  simp only [Nat.zero_mul, Nat.add_zero, List.getElem_cons_zero] at k1
  obtain ⟨g9, o9, rfl, k9, -⟩ := hr9.at_ (k := 0) (by decide)
  have k9' : w9.cell? ⟨g9, o9, none⟩ = some (.string ⟨#[97, 47, 120]⟩) := by rw [Nat.add_zero] at k9; exact k9
  clear k9
  go_wp2_with fail
  refine (size_any t2 (by decide)).mono ?_
  rintro e w10 ⟨he, hb10⟩
  obtain rfl : e = .returned (.int .i64 3) := he.trans (ret_int (by kernel_rfl))
  clear he
  have hr10 := hr9.below hb10
  clear hr9 k9' k1
  have b10 := b9.trans (hb10.mono b9.size)
  have t2' := t2.below hb10
  have u' := u.below hb10
  clear b9 hb10 t2 u
  have t2 := t2'
  have u := u'
  clear t2' u'
  go_wp2_with fail
  refine (same_any t2 t2).mono ?_
  rintro e w11 ⟨he, hb11⟩
  obtain rfl : e = .returned (.bool true) := he.trans (ret_bool (decide_eq_true rfl))
  clear he
  have hr11 := hr10.below hb11
  clear hr10
  have b11 := b10.trans (hb11.mono b10.size)
  have t2' := t2.below hb11
  have u' := u.below hb11
  clear b10 hb11 t2 u
  have t2 := t2'
  have u := u'
  clear t2' u'
  go_wp2_with fail
  refine (same_any t2 u).mono ?_
  rintro e w12 ⟨he, hb12⟩
  obtain rfl : e = .returned (.bool false) := he.trans (ret_bool (decide_eq_false (by decide)))
  clear he
  have hr12 := hr11.below hb12
  clear hr11
  have b12 := b11.trans (hb12.mono b11.size)
  have t2' := t2.below hb12
  clear b11 hb12 t2
  have t2 := t2'
  clear t2'
  obtain ⟨g9', o9', e9, k9, -⟩ := hr12.at_ (k := 0) (by decide)
  injection e9 with e9
  injection e9 with e91 e92
  subst e91 e92
  have k9' : w12.cell? ⟨g9, o9, none⟩ = some (.string ⟨#[97, 47, 120]⟩) := by rw [Nat.add_zero] at k9; exact k9
  clear k9 hr12
  go_wp2_with fail
  refine (find_any t2 ⟨#[98]⟩).mono ?_
  rintro e w13 ⟨he, hb13⟩
  obtain rfl : e = .returned (.int .i64 1) := he.trans (ret_int (by kernel_rfl))
  clear he k9'
  have b13 := b12.trans (hb13.mono b12.size)
  have t2' := t2.below hb13
  clear b12 hb13 t2
  have t2 := t2'
  clear t2'
  go_wp2_with fail
  refine (tree_any t2).mono ?_
  rintro e w14 ⟨he, hb14⟩
  obtain rfl : e = .returned (.bool true) := he.trans (ret_bool (by kernel_rfl))
  clear he
  have b14 := b13.trans (hb14.mono b13.size)
  clear b13 hb14 
  go_wp2_with fail
  have tw : Ft (w14.alloc (.cells #[.string ⟨#[98]⟩, zS, .string ⟨#[97]⟩, zS] 33)) (some ⟨w14.heap.size, 0, none⟩) 2 2 [(⟨#[98]⟩, ⟨#[]⟩), (⟨#[97]⟩, ⟨#[]⟩)] := ⟨rfl, .inr ⟨_, rfl, new_cells w14 33 (filV [(⟨#[98]⟩, ⟨#[]⟩), (⟨#[97]⟩, ⟨#[]⟩)])⟩, Nat.le_refl _, by omega, by omega, fun f hm => by have := (few_sz (fs := [(⟨#[98]⟩, ⟨#[]⟩), (⟨#[97]⟩, ⟨#[]⟩)]) (by kernel_rfl)).2 f hm; omega⟩
  refine (tree_any tw).mono ?_
  rintro e w15 ⟨he, hb15⟩
  obtain rfl : e = .returned (.bool false) := he.trans (ret_bool (by kernel_rfl))
  clear he
  have b15 := b14.trans ((below_new _ hb15).mono b14.size)
  go_wp2
  go_ret
  exact ⟨rfl, b15⟩
end Go.Proofs.YtblfpmlnpaibkaaDoor
