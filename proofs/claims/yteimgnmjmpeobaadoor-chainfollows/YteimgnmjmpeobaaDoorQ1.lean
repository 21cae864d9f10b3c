/- The texts Ij, In, Io, in one. -/
import Derived.Test.YteimgnmjmpeobaaDoorQ0
namespace Go.Proofs.YteimgnmjmpeobaaDoor
open Go.RowKit

set_option maxHeartbeats 1000000 in
theorem rdigest_any (A : Option Addr) (n c : Nat) (own : List Int) (v : Int) (w : World) (hl : own.length = n) (hr : Rd w A (intV own)) (hn : n ≤ 9223372036854775807) :
    Calls Tryd.prog 23 #[.slice A n c, .int .i64 v] w fun e w' => e = .returned (.int .i64 (ownD own v)) ∧ w' = w := by
  by_cases h0 : v = 0
  · subst h0
    go_enter Tryd.func23, Tryd.ntmps23
    go_wp2
    go_ret
    exact ⟨rfl, rfl⟩
  by_cases h1 : v < 0
  · have HV := hid (ownD_none (own := own) h0 (.inl h1))
    have hb : (v == 0) = false := by simp [h0]
    go_enter Tryd.func23, Tryd.ntmps23
    go_wp2
    go_ret
    exact ⟨ret_int HV.out.symm, rfl⟩
  by_cases h2 : (n : Int) < v
  · have HV := hid (ownD_none (own := own) h0 (.inr (by rw [hl]; exact h2)))
    have hb : (v == 0) = false := by simp [h0]
    go_enter Tryd.func23, Tryd.ntmps23
    go_wp2
    go_ret
    exact ⟨ret_int HV.out.symm, rfl⟩
  obtain ⟨k, hk⟩ : ∃ k : Nat, k = (v - 1).toNat := ⟨_, rfl⟩
  have hkl : k < own.length := by omega
  have hv : v = (k : Int) + 1 := by omega
  have HV := hid (ownD_some hkl)
  rw [← hv] at HV
  obtain ⟨b, off, rfl, x, -⟩ := int_at hr hkl
  have hb : (v == 0) = false := by simp [h0]
  have hz : 0 ≤ v - 1 := by omega
  have hlt : v - 1 < n := by omega
  generalize own[k] = y at *
  rw [show k = v.toNat - 1 by omega] at x
  clear hk hkl hv hl hr
  go_enter Tryd.func23, Tryd.ntmps23
  go_wp2
  go_ret
  exact ⟨ret_int HV.out.symm, rfl⟩


set_option maxHeartbeats 8000000 in
set_option maxRecDepth 20000 in
theorem raccept_any {w : World} {A O : Option Addr} {c n k : Nat} {u : Cur} {m : Man} {own : List Int} (au head : Int) (hm : Mt w A c m) (hs : ∀ p ∈ m.pieces, p.path.size < 4294967281) (hol : own.length = n) (hor : Rd w O (intV own)) (hon : n ≤ 9223372036854775807) :
    Calls Tryd.prog 12 #[curV u, .int .i64 au, manV m A c, .int .i64 head, .slice O n k] w (AccPost w (accC u au m head own) (accN u au m own)) := by
  have hal : ∀ (W : World) (o : Obj), Below W.heap.size W (W.alloc o) := fun W o => (Below.refl _ _).alloc (Nat.le_refl _) o
  obtain ⟨v, h, e, a⟩ := u
  obtain ⟨a1, a2, a3, a4, a5, a6, a7, ps⟩ := m
  unfold manV
  dsimp only at hs ⊢
  have b1 := hal w (.cells #[.int .i64 v, .int .i64 h, .int .i64 e, .int .i64 a] 23)
  have b2 := hal (w.alloc (.cells #[.int .i64 v, .int .i64 h, .int .i64 e, .int .i64 a] 23)) (.cells #[.int .i64 a1, .int .i64 a2, .int .i64 a3, .int .i64 a4, .int .i64 a5, .int .i64 a6, .int .i64 a7, .slice A ps.length c] 26)
  have b3 := hal ((w.alloc (.cells #[.int .i64 v, .int .i64 h, .int .i64 e, .int .i64 a] 23)).alloc (.cells #[.int .i64 a1, .int .i64 a2, .int .i64 a3, .int .i64 a4, .int .i64 a5, .int .i64 a6, .int .i64 a7, .slice A ps.length c] 26)) (.cells #[.int .i64 0, .int .i64 0, .int .i64 0, .int .i64 0] 23)
  have pc := ((Blk.new w [.int .i64 v, .int .i64 h, .int .i64 e, .int .i64 a] 23).below b2).below b3
  have pm := (Blk.new (w.alloc (.cells #[.int .i64 v, .int .i64 h, .int .i64 e, .int .i64 a] 23)) [.int .i64 a1, .int .i64 a2, .int .i64 a3, .int .i64 a4, .int .i64 a5, .int .i64 a6, .int .i64 a7, .slice A ps.length c] 26).below b3
  have pz := Blk.new ((w.alloc (.cells #[.int .i64 v, .int .i64 h, .int .i64 e, .int .i64 a] 23)).alloc (.cells #[.int .i64 a1, .int .i64 a2, .int .i64 a3, .int .i64 a4, .int .i64 a5, .int .i64 a6, .int .i64 a7, .slice A ps.length c] 26)) [.int .i64 0, .int .i64 0, .int .i64 0, .int .i64 0] 23
  simp only [World.size_alloc] at pc pm pz
  have bw := below2 (below2 b1 b2) b3
  have cc := rright12_any (hm.below bw) hs
  have cD := fun {W : World} (hb : Below w.heap.size w W) => rdigest_any O n k own a6 W hol (hor.below hb) hon
  have HACC : Hid (∀ n, accN (⟨v, h, e, a⟩ : Cur) au (⟨a1, a2, a3, a4, a5, a6, a7, ps⟩ : Man) own = n → n ≠ 0 → accC (⟨v, h, e, a⟩ : Cur) au (⟨a1, a2, a3, a4, a5, a6, a7, ps⟩ : Man) head own = (⟨v, h, e, a⟩ : Cur)) := hid fun n h1 h2 => accC_no (by rw [h1]; exact h2)
  have HACY : Hid (accN (⟨v, h, e, a⟩ : Cur) au (⟨a1, a2, a3, a4, a5, a6, a7, ps⟩ : Man) own = 0 → accC (⟨v, h, e, a⟩ : Cur) au (⟨a1, a2, a3, a4, a5, a6, a7, ps⟩ : Man) head own = ⟨a2, head, a5, a6⟩) := hid fun h1 => accC_yes h1
  have HOD : Hid (ownD own a6 = ownD own a6) := rfl
  have H4 := hid (@acc_four (⟨v, h, e, a⟩ : Cur) au (⟨a1, a2, a3, a4, a5, a6, a7, ps⟩ : Man) own)
  have H9 := hid (@acc_nine (⟨v, h, e, a⟩ : Cur) au (⟨a1, a2, a3, a4, a5, a6, a7, ps⟩ : Man) own)
  have H10 := hid (@acc_ten (⟨v, h, e, a⟩ : Cur) au (⟨a1, a2, a3, a4, a5, a6, a7, ps⟩ : Man) own)
  have HP := hid (@acc_prev (⟨v, h, e, a⟩ : Cur) au (⟨a1, a2, a3, a4, a5, a6, a7, ps⟩ : Man) own)
  have HE := hid (@acc_epoch (⟨v, h, e, a⟩ : Cur) au (⟨a1, a2, a3, a4, a5, a6, a7, ps⟩ : Man) own)
  have HS := hid (@acc_seen (⟨v, h, e, a⟩ : Cur) au (⟨a1, a2, a3, a4, a5, a6, a7, ps⟩ : Man) own)
  have HY := hid (@acc_iff (⟨v, h, e, a⟩ : Cur) au (⟨a1, a2, a3, a4, a5, a6, a7, ps⟩ : Man) own)
  have HRI := hid (manR_iff (⟨a1, a2, a3, a4, a5, a6, a7, ps⟩ : Man))
  dsimp only at H4 H9 H10 HP HE HS
  generalize accN (⟨v, h, e, a⟩ : Cur) au (⟨a1, a2, a3, a4, a5, a6, a7, ps⟩ : Man) own = AN at *
  generalize accC (⟨v, h, e, a⟩ : Cur) au (⟨a1, a2, a3, a4, a5, a6, a7, ps⟩ : Man) head own = AC at *
  go_enter Tryd.func12, Tryd.ntmps12
  go_wp2_with fail
  refine cc.mono ?_
  clear cc b1 b2 b3 hm hor
  generalize (((w.alloc (.cells #[.int .i64 v, .int .i64 h, .int .i64 e, .int .i64 a] 23)).alloc (.cells #[.int .i64 a1, .int .i64 a2, .int .i64 a3, .int .i64 a4, .int .i64 a5, .int .i64 a6, .int .i64 a7, .slice A ps.length c] 26)).alloc (.cells #[.int .i64 0, .int .i64 0, .int .i64 0, .int .i64 0] 23)) = w1 at *
  rintro _ w2 ⟨rfl, bx⟩
  simp only
  replace pc := pc.below bx
  replace pm := pm.below bx
  replace pz := pz.below bx
  replace bw := below2 bw bx
  clear bx hs
  have lc := pc.lt
  have lm := pm.lt
  have lz := pz.lt
  cases hR : manR (⟨a1, a2, a3, a4, a5, a6, a7, ps⟩ : Man)
  · have HR := hid hR
    clear hR
    have q0 := pc.cell 0
    have q1 := pc.cell 1
    have q2 := pc.cell 2
    have q3 := pc.cell 3
    have m0 := pm.cell 0
    have m1 := pm.cell 1
    have m2 := pm.cell 2
    have m3 := pm.cell 3
    have m4 := pm.cell 4
    have m5 := pm.cell 5
    have m6 := pm.cell 6
    have m7 := pm.cell 7
    simp only [List.getElem?_cons_zero, List.getElem?_cons_succ] at q0 q1 q2 q3 m0 m1 m2 m3 m4 m5 m6 m7
    have HN : Hid (AN = 4) := hid (H4.out (.inl HR.out))
    have HC : Hid (AC = (⟨v, h, e, a⟩ : Cur)) := hid (HACC.out _ HN.out (by decide))
    have z0 := pz.cell 0
    have z1 := pz.cell 1
    have z2 := pz.cell 2
    have z3 := pz.cell 3
    have f0 := pz.frozen 0
    have f1 := pz.frozen 1
    have f2 := pz.frozen 2
    have f3 := pz.frozen 3
    have ks := ((((pz.set_ 0 (.int .i64 v)).set_ 1 (.int .i64 h)).set_ 2 (.int .i64 e)).set_ 3 (.int .i64 a))
    simp only [List.getElem?_cons_zero, List.getElem?_cons_succ, List.set_cons_zero, List.set_cons_succ] at z0 z1 z2 z3 ks
    have r0 := ks.cell 0
    have r1 := ks.cell 1
    have r2 := ks.cell 2
    have r3 := ks.cell 3
    simp only [List.getElem?_cons_zero, List.getElem?_cons_succ] at r0 r1 r2 r3
    have gs := sets4 w2 (w.heap.size + 1 + 1) (.int .i64 v) (.int .i64 h) (.int .i64 e) (.int .i64 a)
    have bwS := bw.trans (below_grown bw.size (far13 (by omega)) gs)
    clear ks gs bw pz pm pc cD
    go_wp2
    refine bodyPost_ret (v := .tuple #[.agg #[.int .i64 v, .int .i64 h, .int .i64 e, .int .i64 a], .int .i64 4]) (by simp [results, Tryd.results12, go_sem, r0, r1, r2, r3]) rfl ?_
    exact ⟨by rw [HC.out, HN.out], bwS⟩
  have HR := hid hR
  have hRI := HRI.out.1 hR
  have hv1 := hRI.v0
  have hv2 := hRI.v1
  dsimp only at hv1 hv2
  clear hR hRI
  by_cases ha : a1 = au
  rotate_left
  · have HA := hid ha
    have hb : (a1 != au) = true := by simp [ha]
    clear ha
    have q0 := pc.cell 0
    have q1 := pc.cell 1
    have q2 := pc.cell 2
    have q3 := pc.cell 3
    have m0 := pm.cell 0
    have m1 := pm.cell 1
    have m2 := pm.cell 2
    have m3 := pm.cell 3
    have m4 := pm.cell 4
    have m5 := pm.cell 5
    have m6 := pm.cell 6
    have m7 := pm.cell 7
    simp only [List.getElem?_cons_zero, List.getElem?_cons_succ] at q0 q1 q2 q3 m0 m1 m2 m3 m4 m5 m6 m7
    have HN : Hid (AN = 4) := hid (H4.out (.inr HA.out))
    have HC : Hid (AC = (⟨v, h, e, a⟩ : Cur)) := hid (HACC.out _ HN.out (by decide))
    have z0 := pz.cell 0
    have z1 := pz.cell 1
    have z2 := pz.cell 2
    have z3 := pz.cell 3
    have f0 := pz.frozen 0
    have f1 := pz.frozen 1
    have f2 := pz.frozen 2
    have f3 := pz.frozen 3
    have ks := ((((pz.set_ 0 (.int .i64 v)).set_ 1 (.int .i64 h)).set_ 2 (.int .i64 e)).set_ 3 (.int .i64 a))
    simp only [List.getElem?_cons_zero, List.getElem?_cons_succ, List.set_cons_zero, List.set_cons_succ] at z0 z1 z2 z3 ks
    have r0 := ks.cell 0
    have r1 := ks.cell 1
    have r2 := ks.cell 2
    have r3 := ks.cell 3
    simp only [List.getElem?_cons_zero, List.getElem?_cons_succ] at r0 r1 r2 r3
    have gs := sets4 w2 (w.heap.size + 1 + 1) (.int .i64 v) (.int .i64 h) (.int .i64 e) (.int .i64 a)
    have bwS := bw.trans (below_grown bw.size (far13 (by omega)) gs)
    clear ks gs bw pz pm pc cD
    go_wp2
    refine bodyPost_ret (v := .tuple #[.agg #[.int .i64 v, .int .i64 h, .int .i64 e, .int .i64 a], .int .i64 4]) (by simp [results, Tryd.results12, go_sem, r0, r1, r2, r3]) rfl ?_
    exact ⟨by rw [HC.out, HN.out], bwS⟩
  have HA := hid ha
  have hba : (a1 != au) = false := by simp [ha]
  clear ha
  by_cases hv : a2 ≤ v
  · have q0 := pc.cell 0
    have q1 := pc.cell 1
    have q2 := pc.cell 2
    have q3 := pc.cell 3
    have m0 := pm.cell 0
    have m1 := pm.cell 1
    have m2 := pm.cell 2
    have m3 := pm.cell 3
    have m4 := pm.cell 4
    have m5 := pm.cell 5
    have m6 := pm.cell 6
    have m7 := pm.cell 7
    simp only [List.getElem?_cons_zero, List.getElem?_cons_succ] at q0 q1 q2 q3 m0 m1 m2 m3 m4 m5 m6 m7
    have HN : Hid (AN = 9) := hid (H9.out HR.out HA.out hv)
    have HC : Hid (AC = (⟨v, h, e, a⟩ : Cur)) := hid (HACC.out _ HN.out (by decide))
    have z0 := pz.cell 0
    have z1 := pz.cell 1
    have z2 := pz.cell 2
    have z3 := pz.cell 3
    have f0 := pz.frozen 0
    have f1 := pz.frozen 1
    have f2 := pz.frozen 2
    have f3 := pz.frozen 3
    have ks := ((((pz.set_ 0 (.int .i64 v)).set_ 1 (.int .i64 h)).set_ 2 (.int .i64 e)).set_ 3 (.int .i64 a))
    simp only [List.getElem?_cons_zero, List.getElem?_cons_succ, List.set_cons_zero, List.set_cons_succ] at z0 z1 z2 z3 ks
    have r0 := ks.cell 0
    have r1 := ks.cell 1
    have r2 := ks.cell 2
    have r3 := ks.cell 3
    simp only [List.getElem?_cons_zero, List.getElem?_cons_succ] at r0 r1 r2 r3
    have gs := sets4 w2 (w.heap.size + 1 + 1) (.int .i64 v) (.int .i64 h) (.int .i64 e) (.int .i64 a)
    have bwS := bw.trans (below_grown bw.size (far13 (by omega)) gs)
    clear ks gs bw pz pm pc cD
    go_wp2
    refine bodyPost_ret (v := .tuple #[.agg #[.int .i64 v, .int .i64 h, .int .i64 e, .int .i64 a], .int .i64 9]) (by simp [results, Tryd.results12, go_sem, r0, r1, r2, r3]) rfl ?_
    exact ⟨by rw [HC.out, HN.out], bwS⟩
  by_cases hg : v < a2 - 1
  · have q0 := pc.cell 0
    have q1 := pc.cell 1
    have q2 := pc.cell 2
    have q3 := pc.cell 3
    have m0 := pm.cell 0
    have m1 := pm.cell 1
    have m2 := pm.cell 2
    have m3 := pm.cell 3
    have m4 := pm.cell 4
    have m5 := pm.cell 5
    have m6 := pm.cell 6
    have m7 := pm.cell 7
    simp only [List.getElem?_cons_zero, List.getElem?_cons_succ] at q0 q1 q2 q3 m0 m1 m2 m3 m4 m5 m6 m7
    have HN : Hid (AN = 10) := hid (H10.out HR.out HA.out (by omega))
    have HC : Hid (AC = (⟨v, h, e, a⟩ : Cur)) := hid (HACC.out _ HN.out (by decide))
    have z0 := pz.cell 0
    have z1 := pz.cell 1
    have z2 := pz.cell 2
    have z3 := pz.cell 3
    have f0 := pz.frozen 0
    have f1 := pz.frozen 1
    have f2 := pz.frozen 2
    have f3 := pz.frozen 3
    have ks := ((((pz.set_ 0 (.int .i64 v)).set_ 1 (.int .i64 h)).set_ 2 (.int .i64 e)).set_ 3 (.int .i64 a))
    simp only [List.getElem?_cons_zero, List.getElem?_cons_succ, List.set_cons_zero, List.set_cons_succ] at z0 z1 z2 z3 ks
    have r0 := ks.cell 0
    have r1 := ks.cell 1
    have r2 := ks.cell 2
    have r3 := ks.cell 3
    simp only [List.getElem?_cons_zero, List.getElem?_cons_succ] at r0 r1 r2 r3
    have gs := sets4 w2 (w.heap.size + 1 + 1) (.int .i64 v) (.int .i64 h) (.int .i64 e) (.int .i64 a)
    have bwS := bw.trans (below_grown bw.size (far13 (by omega)) gs)
    clear ks gs bw pz pm pc cD
    go_wp2
    refine bodyPost_ret (v := .tuple #[.agg #[.int .i64 v, .int .i64 h, .int .i64 e, .int .i64 a], .int .i64 10]) (by simp [results, Tryd.results12, go_sem, r0, r1, r2, r3]) rfl ?_
    exact ⟨by rw [HC.out, HN.out], bwS⟩
  have HV := hid (show a2 = v + 1 by omega)
  by_cases hp : a3 = h
  rotate_left
  · have HX := hid hp
    have hb : (a3 != h) = true := by simp [hp]
    clear hp
    have q0 := pc.cell 0
    have q1 := pc.cell 1
    have q2 := pc.cell 2
    have q3 := pc.cell 3
    have m0 := pm.cell 0
    have m1 := pm.cell 1
    have m2 := pm.cell 2
    have m3 := pm.cell 3
    have m4 := pm.cell 4
    have m5 := pm.cell 5
    have m6 := pm.cell 6
    have m7 := pm.cell 7
    simp only [List.getElem?_cons_zero, List.getElem?_cons_succ] at q0 q1 q2 q3 m0 m1 m2 m3 m4 m5 m6 m7
    have HN : Hid (AN = 11) := hid (HP.out HR.out HA.out HV.out HX.out)
    have HC : Hid (AC = (⟨v, h, e, a⟩ : Cur)) := hid (HACC.out _ HN.out (by decide))
    have z0 := pz.cell 0
    have z1 := pz.cell 1
    have z2 := pz.cell 2
    have z3 := pz.cell 3
    have f0 := pz.frozen 0
    have f1 := pz.frozen 1
    have f2 := pz.frozen 2
    have f3 := pz.frozen 3
    have ks := ((((pz.set_ 0 (.int .i64 v)).set_ 1 (.int .i64 h)).set_ 2 (.int .i64 e)).set_ 3 (.int .i64 a))
    simp only [List.getElem?_cons_zero, List.getElem?_cons_succ, List.set_cons_zero, List.set_cons_succ] at z0 z1 z2 z3 ks
    have r0 := ks.cell 0
    have r1 := ks.cell 1
    have r2 := ks.cell 2
    have r3 := ks.cell 3
    simp only [List.getElem?_cons_zero, List.getElem?_cons_succ] at r0 r1 r2 r3
    have gs := sets4 w2 (w.heap.size + 1 + 1) (.int .i64 v) (.int .i64 h) (.int .i64 e) (.int .i64 a)
    have bwS := bw.trans (below_grown bw.size (far13 (by omega)) gs)
    clear ks gs bw pz pm pc cD
    go_wp2
    refine bodyPost_ret (v := .tuple #[.agg #[.int .i64 v, .int .i64 h, .int .i64 e, .int .i64 a], .int .i64 11]) (by simp [results, Tryd.results12, go_sem, r0, r1, r2, r3]) rfl ?_
    exact ⟨by rw [HC.out, HN.out], bwS⟩
  have HPR := hid hp
  have hbp : (a3 != h) = false := by simp [hp]
  clear hp
  by_cases he : a4 = e
  rotate_left
  · have HX := hid he
    have hb : (a4 != e) = true := by simp [he]
    clear he
    have q0 := pc.cell 0
    have q1 := pc.cell 1
    have q2 := pc.cell 2
    have q3 := pc.cell 3
    have m0 := pm.cell 0
    have m1 := pm.cell 1
    have m2 := pm.cell 2
    have m3 := pm.cell 3
    have m4 := pm.cell 4
    have m5 := pm.cell 5
    have m6 := pm.cell 6
    have m7 := pm.cell 7
    simp only [List.getElem?_cons_zero, List.getElem?_cons_succ] at q0 q1 q2 q3 m0 m1 m2 m3 m4 m5 m6 m7
    have HN : Hid (AN = 12) := hid (HE.out HR.out HA.out HV.out HPR.out HX.out)
    have HC : Hid (AC = (⟨v, h, e, a⟩ : Cur)) := hid (HACC.out _ HN.out (by decide))
    have z0 := pz.cell 0
    have z1 := pz.cell 1
    have z2 := pz.cell 2
    have z3 := pz.cell 3
    have f0 := pz.frozen 0
    have f1 := pz.frozen 1
    have f2 := pz.frozen 2
    have f3 := pz.frozen 3
    have ks := ((((pz.set_ 0 (.int .i64 v)).set_ 1 (.int .i64 h)).set_ 2 (.int .i64 e)).set_ 3 (.int .i64 a))
    simp only [List.getElem?_cons_zero, List.getElem?_cons_succ, List.set_cons_zero, List.set_cons_succ] at z0 z1 z2 z3 ks
    have r0 := ks.cell 0
    have r1 := ks.cell 1
    have r2 := ks.cell 2
    have r3 := ks.cell 3
    simp only [List.getElem?_cons_zero, List.getElem?_cons_succ] at r0 r1 r2 r3
    have gs := sets4 w2 (w.heap.size + 1 + 1) (.int .i64 v) (.int .i64 h) (.int .i64 e) (.int .i64 a)
    have bwS := bw.trans (below_grown bw.size (far13 (by omega)) gs)
    clear ks gs bw pz pm pc cD
    go_wp2
    refine bodyPost_ret (v := .tuple #[.agg #[.int .i64 v, .int .i64 h, .int .i64 e, .int .i64 a], .int .i64 12]) (by simp [results, Tryd.results12, go_sem, r0, r1, r2, r3]) rfl ?_
    exact ⟨by rw [HC.out, HN.out], bwS⟩
  have HEP := hid he
  have hbe : (a4 != e) = false := by simp [he]
  clear he
  generalize hod : ownD own a6 = od at *
  by_cases hs : a6 < a
  · have HX := hid hs
    have hd : decide (a6 < a) = true := decide_eq_true hs
    clear hs
    have q0 := pc.cell 0
    have q1 := pc.cell 1
    have q2 := pc.cell 2
    have q3 := pc.cell 3
    have m0 := pm.cell 0
    have m1 := pm.cell 1
    have m2 := pm.cell 2
    have m3 := pm.cell 3
    have m4 := pm.cell 4
    have m5 := pm.cell 5
    have m6 := pm.cell 6
    have m7 := pm.cell 7
    simp only [List.getElem?_cons_zero, List.getElem?_cons_succ] at q0 q1 q2 q3 m0 m1 m2 m3 m4 m5 m6 m7
    have HN : Hid (AN = 11) := hid (HS.out HR.out HA.out HV.out HPR.out HEP.out (.inl HX.out))
    have HC : Hid (AC = (⟨v, h, e, a⟩ : Cur)) := hid (HACC.out _ HN.out (by decide))
    go_wp2_with fail
    go_quiet (first | (go_at_call 23; exact Calls.quiet_of_same (cD (bdrN bw _))))
    replace pc := pc.drewN nq
    replace pm := pm.drewN nq
    replace pz := pz.drewN nq
    replace bw := bdrN bw nq
    clear q0 q1 q2 q3 m0 m1 m2 m3 m4 m5 m6 m7
    generalize w2.drewN nq = w4 at *
    have q0 := pc.cell 0
    have q1 := pc.cell 1
    have q2 := pc.cell 2
    have q3 := pc.cell 3
    have m0 := pm.cell 0
    have m1 := pm.cell 1
    have m2 := pm.cell 2
    have m3 := pm.cell 3
    have m4 := pm.cell 4
    have m5 := pm.cell 5
    have m6 := pm.cell 6
    have m7 := pm.cell 7
    simp only [List.getElem?_cons_zero, List.getElem?_cons_succ] at q0 q1 q2 q3 m0 m1 m2 m3 m4 m5 m6 m7
    have z0 := pz.cell 0
    have z1 := pz.cell 1
    have z2 := pz.cell 2
    have z3 := pz.cell 3
    have f0 := pz.frozen 0
    have f1 := pz.frozen 1
    have f2 := pz.frozen 2
    have f3 := pz.frozen 3
    have ks := ((((pz.set_ 0 (.int .i64 v)).set_ 1 (.int .i64 h)).set_ 2 (.int .i64 e)).set_ 3 (.int .i64 a))
    simp only [List.getElem?_cons_zero, List.getElem?_cons_succ, List.set_cons_zero, List.set_cons_succ] at z0 z1 z2 z3 ks
    have r0 := ks.cell 0
    have r1 := ks.cell 1
    have r2 := ks.cell 2
    have r3 := ks.cell 3
    simp only [List.getElem?_cons_zero, List.getElem?_cons_succ] at r0 r1 r2 r3
    have gs := sets4 w4 (w.heap.size + 1 + 1) (.int .i64 v) (.int .i64 h) (.int .i64 e) (.int .i64 a)
    have bwS := bw.trans (below_grown bw.size (far13 (by omega)) gs)
    clear ks gs bw pz pm pc cD
    go_wp2
    refine bodyPost_ret (v := .tuple #[.agg #[.int .i64 v, .int .i64 h, .int .i64 e, .int .i64 a], .int .i64 11]) (by simp [results, Tryd.results12, go_sem, r0, r1, r2, r3]) rfl ?_
    exact ⟨by rw [HC.out, HN.out], bwS⟩
  have HSN := hid hs
  have hd : decide (a6 < a) = false := decide_eq_false hs
  clear hs
  by_cases ho : a7 = od
  rotate_left
  · have HX := hid ho
    have hb : (a7 != od) = true := by simp [ho]
    clear ho
    have q0 := pc.cell 0
    have q1 := pc.cell 1
    have q2 := pc.cell 2
    have q3 := pc.cell 3
    have m0 := pm.cell 0
    have m1 := pm.cell 1
    have m2 := pm.cell 2
    have m3 := pm.cell 3
    have m4 := pm.cell 4
    have m5 := pm.cell 5
    have m6 := pm.cell 6
    have m7 := pm.cell 7
    simp only [List.getElem?_cons_zero, List.getElem?_cons_succ] at q0 q1 q2 q3 m0 m1 m2 m3 m4 m5 m6 m7
    have HN : Hid (AN = 11) := hid (HS.out HR.out HA.out HV.out HPR.out HEP.out (.inr HX.out))
    have HC : Hid (AC = (⟨v, h, e, a⟩ : Cur)) := hid (HACC.out _ HN.out (by decide))
    go_wp2_with fail
    go_quiet (first | (go_at_call 23; exact Calls.quiet_of_same (cD (bdrN bw _))))
    replace pc := pc.drewN nq
    replace pm := pm.drewN nq
    replace pz := pz.drewN nq
    replace bw := bdrN bw nq
    clear q0 q1 q2 q3 m0 m1 m2 m3 m4 m5 m6 m7
    generalize w2.drewN nq = w4 at *
    have q0 := pc.cell 0
    have q1 := pc.cell 1
    have q2 := pc.cell 2
    have q3 := pc.cell 3
    have m0 := pm.cell 0
    have m1 := pm.cell 1
    have m2 := pm.cell 2
    have m3 := pm.cell 3
    have m4 := pm.cell 4
    have m5 := pm.cell 5
    have m6 := pm.cell 6
    have m7 := pm.cell 7
    simp only [List.getElem?_cons_zero, List.getElem?_cons_succ] at q0 q1 q2 q3 m0 m1 m2 m3 m4 m5 m6 m7
    have z0 := pz.cell 0
    have z1 := pz.cell 1
    have z2 := pz.cell 2
    have z3 := pz.cell 3
    have f0 := pz.frozen 0
    have f1 := pz.frozen 1
    have f2 := pz.frozen 2
    have f3 := pz.frozen 3
    have ks := ((((pz.set_ 0 (.int .i64 v)).set_ 1 (.int .i64 h)).set_ 2 (.int .i64 e)).set_ 3 (.int .i64 a))
    simp only [List.getElem?_cons_zero, List.getElem?_cons_succ, List.set_cons_zero, List.set_cons_succ] at z0 z1 z2 z3 ks
    have r0 := ks.cell 0
    have r1 := ks.cell 1
    have r2 := ks.cell 2
    have r3 := ks.cell 3
    simp only [List.getElem?_cons_zero, List.getElem?_cons_succ] at r0 r1 r2 r3
    have gs := sets4 w4 (w.heap.size + 1 + 1) (.int .i64 v) (.int .i64 h) (.int .i64 e) (.int .i64 a)
    have bwS := bw.trans (below_grown bw.size (far13 (by omega)) gs)
    clear ks gs bw pz pm pc cD
    go_wp2
    refine bodyPost_ret (v := .tuple #[.agg #[.int .i64 v, .int .i64 h, .int .i64 e, .int .i64 a], .int .i64 11]) (by simp [results, Tryd.results12, go_sem, r0, r1, r2, r3]) rfl ?_
    exact ⟨by rw [HC.out, HN.out], bwS⟩
  have HX := hid ho
  have hb : (a7 != od) = false := by simp [ho]
  clear ho
  have q0 := pc.cell 0
  have q1 := pc.cell 1
  have q2 := pc.cell 2
  have q3 := pc.cell 3
  have m0 := pm.cell 0
  have m1 := pm.cell 1
  have m2 := pm.cell 2
  have m3 := pm.cell 3
  have m4 := pm.cell 4
  have m5 := pm.cell 5
  have m6 := pm.cell 6
  have m7 := pm.cell 7
  simp only [List.getElem?_cons_zero, List.getElem?_cons_succ] at q0 q1 q2 q3 m0 m1 m2 m3 m4 m5 m6 m7
  have HN : Hid (AN = 0) := hid (HY.out.2 ⟨HRI.out.1 HR.out, HA.out, HV.out, HPR.out, HEP.out, by have := HSN.out; show a ≤ a6; omega, by show a7 = _; rw [HX.out, hod]⟩)
  have HC : Hid (AC = ⟨a2, head, a5, a6⟩) := hid (HACY.out HN.out)
  go_wp2_with fail
  go_quiet (first | (go_at_call 23; exact Calls.quiet_of_same (cD (bdrN bw _))))
  replace pc := pc.drewN nq
  replace pm := pm.drewN nq
  replace pz := pz.drewN nq
  replace bw := bdrN bw nq
  clear q0 q1 q2 q3 m0 m1 m2 m3 m4 m5 m6 m7
  generalize w2.drewN nq = w4 at *
  have q0 := pc.cell 0
  have q1 := pc.cell 1
  have q2 := pc.cell 2
  have q3 := pc.cell 3
  have m0 := pm.cell 0
  have m1 := pm.cell 1
  have m2 := pm.cell 2
  have m3 := pm.cell 3
  have m4 := pm.cell 4
  have m5 := pm.cell 5
  have m6 := pm.cell 6
  have m7 := pm.cell 7
  simp only [List.getElem?_cons_zero, List.getElem?_cons_succ] at q0 q1 q2 q3 m0 m1 m2 m3 m4 m5 m6 m7
  have z0 := pz.cell 0
  have z1 := pz.cell 1
  have z2 := pz.cell 2
  have z3 := pz.cell 3
  have f0 := pz.frozen 0
  have f1 := pz.frozen 1
  have f2 := pz.frozen 2
  have f3 := pz.frozen 3
  have ks := ((((pz.set_ 0 (.int .i64 a2)).set_ 1 (.int .i64 head)).set_ 2 (.int .i64 a5)).set_ 3 (.int .i64 a6))
  simp only [List.getElem?_cons_zero, List.getElem?_cons_succ, List.set_cons_zero, List.set_cons_succ] at z0 z1 z2 z3 ks
  have r0 := ks.cell 0
  have r1 := ks.cell 1
  have r2 := ks.cell 2
  have r3 := ks.cell 3
  simp only [List.getElem?_cons_zero, List.getElem?_cons_succ] at r0 r1 r2 r3
  have gs := sets4 w4 (w.heap.size + 1 + 1) (.int .i64 a2) (.int .i64 head) (.int .i64 a5) (.int .i64 a6)
  have bwS := bw.trans (below_grown bw.size (far13 (by omega)) gs)
  clear ks gs bw pz pm pc cD
  go_wp2
  refine bodyPost_ret (v := .tuple #[.agg #[.int .i64 a2, .int .i64 head, .int .i64 a5, .int .i64 a6], .int .i64 0]) (by simp [results, Tryd.results12, go_sem, r0, r1, r2, r3]) rfl ?_
  exact ⟨by rw [HC.out, HN.out], bwS⟩
end Go.Proofs.YteimgnmjmpeobaaDoor
namespace Go.Proofs.YteimgnmjmpeobaaDoor
open Go.RowKit

set_option maxHeartbeats 8000000 in
set_option maxRecDepth 20000 in
theorem rfollow_any {w : World} {A H O : Option Addr} {c n k n2 k2 : Nat} {u : Cur} {ms : List Man} {hd own : List Int} (au : Int) (hm : MsAt w A ms) (hc : ms.length ≤ c) (hc2 : c ≤ maxLen) (hs : ∀ m ∈ ms, ∀ p ∈ m.pieces, p.path.size < 4294967281)
    (hcv : -9223372036854775808 ≤ u.v) (hhl : hd.length = n2) (hhr : Rd w H (intV hd)) (hhn : n2 ≤ 9223372036854775807) (hol : own.length = n) (hor : Rd w O (intV own)) (hon : n ≤ 9223372036854775807) :
    Calls Tryd.prog 15 #[curV u, .int .i64 au, .slice A ms.length c, .slice H n2 k2, .slice O n k] w (FolPost w u au ms hd own) := by
  have hal : ∀ (W : World) (o : Obj), Below W.heap.size W (W.alloc o) := fun W o => (Below.refl _ _).alloc (Nat.le_refl _) o
  obtain ⟨v0, h0, e0, a0⟩ := u
  dsimp only at hcv
  have HCL := hid (curAt_low (u := (⟨v0, h0, e0, a0⟩ : Cur)) (au := au) (l := ms) (hd := hd) (own := own) hcv)
  have b1 := hal w (.cells #[.int .i64 v0, .int .i64 h0, .int .i64 e0, .int .i64 a0] 23)
  have b2 := hal (w.alloc (.cells #[.int .i64 v0, .int .i64 h0, .int .i64 e0, .int .i64 a0] 23)) (.cells #[.int .i64 0, .int .i64 0, .int .i64 0, .int .i64 0] 23)
  have pc := (Blk.new w [.int .i64 v0, .int .i64 h0, .int .i64 e0, .int .i64 a0] 23).below b2
  have pz := Blk.new (w.alloc (.cells #[.int .i64 v0, .int .i64 h0, .int .i64 e0, .int .i64 a0] 23)) [.int .i64 0, .int .i64 0, .int .i64 0, .int .i64 0] 23
  simp only [World.size_alloc] at pc pz
  have bw := below2 b1 b2
  obtain ⟨N, hN⟩ : ∃ N, N = ms.length := ⟨_, rfl⟩
  have hNb : N ≤ 9223372036854775807 := by unfold maxLen at hc2; omega
  rw [← hN]
  have HN := hid hN
  have HHL := hid hhl
  have HS := hid hs
  clear hN hs hhl b1 b2 hc
  go_enter Tryd.func15, Tryd.ntmps15
  go_wp2_with fail
  generalize ((w.alloc (.cells #[.int .i64 v0, .int .i64 h0, .int .i64 e0, .int .i64 a0] 23)).alloc (.cells #[.int .i64 0, .int .i64 0, .int .i64 0, .int .i64 0] 23)) = w1 at *
  go_loopw [13] (fun i wr => ∃ j : Nat, j ≤ N ∧ i = .int .i64 j ∧ Hid (AccTo (⟨v0, h0, e0, a0⟩ : Cur) au ms hd own j) ∧ Blk wr w.heap.size (curL (curAt (⟨v0, h0, e0, a0⟩ : Cur) au ms hd own j)) 23 ∧ Blk wr (w.heap.size + 1) [.int .i64 0, .int .i64 0, .int .i64 0, .int .i64 0] 23 ∧ Below w.heap.size w wr) (fun i _ => N - (intOf i).toNat)
  case atStart => exact ⟨0, by omega, rfl, hid (fun i hi h => absurd h (by omega)), pc, pz, bw⟩
  case round =>
    clear pc pz bw
    obtain ⟨j, hj, rfl, HA, pc, pz, bw⟩ := hrel
    replace hor := hor.below bw
    replace hhr := hhr.below bw
    replace hm := hm.below bw
    have lc := pc.lt
    have lz := pz.lt
    have HLO := hid (HCL.out j)
    have q0 := pc.cell 0
    have q1 := pc.cell 1
    have q2 := pc.cell 2
    have q3 := pc.cell 3
    simp only [List.getElem?_cons_zero, List.getElem?_cons_succ] at q0 q1 q2 q3
    have hz : (0 : Int) ≤ j := by omega
    by_cases hjn : j < N
    · have hjl : j < ms.length := by rw [← HN.out]; exact hjn
      have hlt : (j : Int) < N := by omega
      have HST := hid (fol_stop HA.out hjl)
      have HTO := hid (acc_to HA.out hjl)
      have HSU := hid (curAt_succ (c := (⟨v0, h0, e0, a0⟩ : Cur)) (au := au) (hd := hd) (own := own) hjl)
      have HJ := hid hjn
      obtain ⟨b, og, B, mc, rfl, m0, m1, m2, m3, m4, m5, m6, m7, hmj, -⟩ := hm.man hjl
      have hsj := HS.out ms[j] (List.getElem_mem hjl)
      generalize hX1 : curAt (⟨v0, h0, e0, a0⟩ : Cur) au ms hd own (j + 1) = X1 at *
      have HX1 := hid hX1
      clear hX1
      generalize curAt (⟨v0, h0, e0, a0⟩ : Cur) au ms hd own j = X at *
      generalize ms[j] = M at *
      obtain ⟨a1, a2, a3, a4, a5, a6, a7, ps⟩ := M
      dsimp only at m0 m1 m2 m3 m4 m5 m6 m7 hsj
      have lm : b < wr.heap.size := World.block_lt_of_cell? _ _ m0
      obtain ⟨x1, x2, x3, x4⟩ := X
      dsimp only at q0 q1 q2 q3 HLO
      by_cases hjh2 : (j : Int) < n2
      · have hjh : j < hd.length := by rw [HHL.out]; omega
        obtain ⟨bh, oh, rfl, y0, lh⟩ := int_at hhr hjh
        have HG : Hid (hd.getD j 0 = hd[j]) := hid (by rw [List.getD_eq_getElem?_getD, List.getElem?_eq_getElem hjh]; rfl)
        rw [HG.out] at HSU
        generalize hd[j] = hv at *
        have hmW := fun {W : World} (hb : Below wr.heap.size wr W) => hmj.below hb
        have hoW := fun {W : World} (hb : Below wr.heap.size wr W) => hor.below hb
        have hcc := fun {W : World} (hb : Below wr.heap.size wr W) => raccept_any (k := k) (u := ⟨x1, x2, x3, x4⟩) au hv (hmW hb) hsj hol (hoW hb) hon
        have HAC : Hid True := trivial
        have HS : ∀ W, Below wr.heap.size wr W → (fun w' => w'.cell? ⟨w.heap.size, 0, none⟩ = some (.int .i64 x1) ∧ w'.cell? ⟨w.heap.size, 1, none⟩ = some (.int .i64 x2) ∧ w'.cell? ⟨w.heap.size, 2, none⟩ = some (.int .i64 x3) ∧ w'.cell? ⟨w.heap.size, 3, none⟩ = some (.int .i64 x4) ∧ w'.cell? ⟨b, og + j * 8, none⟩ = some (.int .i64 a1) ∧ w'.cell? ⟨b, og + j * 8 + 1, none⟩ = some (.int .i64 a2) ∧ w'.cell? ⟨b, og + j * 8 + 2, none⟩ = some (.int .i64 a3) ∧ w'.cell? ⟨b, og + j * 8 + 3, none⟩ = some (.int .i64 a4) ∧ w'.cell? ⟨b, og + j * 8 + 4, none⟩ = some (.int .i64 a5) ∧ w'.cell? ⟨b, og + j * 8 + 5, none⟩ = some (.int .i64 a6) ∧ w'.cell? ⟨b, og + j * 8 + 6, none⟩ = some (.int .i64 a7) ∧ w'.cell? ⟨b, og + j * 8 + 7, none⟩ = some (.slice B ps.length mc)) W := fun W h => ⟨(h.cell lc).trans q0, (h.cell lc).trans q1, (h.cell lc).trans q2, (h.cell lc).trans q3, (h.cell lm).trans m0, (h.cell lm).trans m1, (h.cell lm).trans m2, (h.cell lm).trans m3, (h.cell lm).trans m4, (h.cell lm).trans m5, (h.cell lm).trans m6, (h.cell lm).trans m7⟩
        have lz2 : w.heap.size + 1 < wr.heap.size := lz
        go_wp2_with fail
        refine wp_region_held_drew (S := fun w' => w'.cell? ⟨w.heap.size, 0, none⟩ = some (.int .i64 x1) ∧ w'.cell? ⟨w.heap.size, 1, none⟩ = some (.int .i64 x2) ∧ w'.cell? ⟨w.heap.size, 2, none⟩ = some (.int .i64 x3) ∧ w'.cell? ⟨w.heap.size, 3, none⟩ = some (.int .i64 x4) ∧ w'.cell? ⟨b, og + j * 8, none⟩ = some (.int .i64 a1) ∧ w'.cell? ⟨b, og + j * 8 + 1, none⟩ = some (.int .i64 a2) ∧ w'.cell? ⟨b, og + j * 8 + 2, none⟩ = some (.int .i64 a3) ∧ w'.cell? ⟨b, og + j * 8 + 3, none⟩ = some (.int .i64 a4) ∧ w'.cell? ⟨b, og + j * 8 + 4, none⟩ = some (.int .i64 a5) ∧ w'.cell? ⟨b, og + j * 8 + 5, none⟩ = some (.int .i64 a6) ∧ w'.cell? ⟨b, og + j * 8 + 6, none⟩ = some (.int .i64 a7) ∧ w'.cell? ⟨b, og + j * 8 + 7, none⟩ = some (.slice B ps.length mc)) (by kernel_rfl) (HS _ (Below.refl wr.heap.size wr).drew) (fun hHeld => ?_)
        refine wpAnyH_take (i := 0) (oi := ⟨_, _, _, _, _, _⟩) (v := ?_) rfl (by kernel_rfl) (by kernel_rfl) (by kernel_rfl) (fun _ _ _ h => h) (Or.inl ⟨by rfl, ?_⟩) (by assumption) ?_
        rotate_left
        · intro w hSw; (try dsimp only at hSw); go_simp; (try (with_reducible rfl))
        try simp only [Act.put, List.setIfInBounds_toArray, List.set_cons_zero, List.set_cons_succ]
        refine wpAnyH_take (i := 1) (oi := ⟨_, _, _, _, _, _⟩) (v := ?_) rfl (by kernel_rfl) (by kernel_rfl) (by kernel_rfl) (fun _ _ _ h => h) (Or.inl ⟨by rfl, ?_⟩) (by assumption) ?_
        rotate_left
        · intro w hSw; (try dsimp only at hSw); go_simp; (try (with_reducible rfl))
        try simp only [Act.put, List.setIfInBounds_toArray, List.set_cons_zero, List.set_cons_succ]
        refine wpAnyH_take (i := 2) (oi := ⟨_, _, _, _, _, _⟩) (v := ?_) rfl (by kernel_rfl) (by kernel_rfl) (by kernel_rfl) (fun _ _ _ h => h) (Or.inl ⟨by rfl, ?_⟩) (by assumption) ?_
        rotate_left
        · intro w hSw; (try dsimp only at hSw); go_simp; (try (with_reducible rfl))
        try simp only [Act.put, List.setIfInBounds_toArray, List.set_cons_zero, List.set_cons_succ]
        refine wpAnyH_take (i := 3) (oi := ⟨_, _, _, _, _, _⟩) (v := ?_) rfl (by kernel_rfl) (by kernel_rfl) (by kernel_rfl) (fun _ _ _ h => h) (Or.inl ⟨by rfl, ?_⟩) (by assumption) ?_
        rotate_left
        · intro w hSw; (try dsimp only at hSw); go_simp; (try (with_reducible rfl))
        try simp only [Act.put, List.setIfInBounds_toArray, List.set_cons_zero, List.set_cons_succ]
        refine wpAnyH_take (i := 4) (oi := ⟨_, _, _, _, _, _⟩) (v := ?_) rfl (by kernel_rfl) (by kernel_rfl) (by kernel_rfl) (fun _ _ _ h => h) (Or.inl ⟨by rfl, ?_⟩) (by assumption) ?_
        rotate_left
        · intro w hSw; (try dsimp only at hSw); go_simp; (try (with_reducible rfl))
        try simp only [Act.put, List.setIfInBounds_toArray, List.set_cons_zero, List.set_cons_succ]
        refine wpAnyH_take (i := 5) (oi := ⟨_, _, _, _, _, _⟩) (v := ?_) rfl (by kernel_rfl) (by kernel_rfl) (by kernel_rfl) (fun _ _ _ h => h) (Or.inl ⟨by rfl, ?_⟩) (by assumption) ?_
        rotate_left
        · intro w hSw; (try dsimp only at hSw); go_simp; (try (with_reducible rfl))
        try simp only [Act.put, List.setIfInBounds_toArray, List.set_cons_zero, List.set_cons_succ]
        refine wpAnyH_take (i := 6) (oi := ⟨_, _, _, _, _, _⟩) (v := ?_) rfl (by kernel_rfl) (by kernel_rfl) (by kernel_rfl) (fun _ _ _ h => h) (Or.inl ⟨by rfl, ?_⟩) (by assumption) ?_
        rotate_left
        · intro w hSw; (try dsimp only at hSw); go_simp; (try (with_reducible rfl))
        try simp only [Act.put, List.setIfInBounds_toArray, List.set_cons_zero, List.set_cons_succ]
        refine wpAnyH_take (i := 7) (oi := ⟨_, _, _, _, _, _⟩) (v := ?_) rfl (by kernel_rfl) (by kernel_rfl) (by kernel_rfl) (fun _ _ _ h => h) (Or.inl ⟨by rfl, ?_⟩) (by assumption) ?_
        rotate_left
        · intro w hSw; (try dsimp only at hSw); go_simp; (try (with_reducible rfl))
        try simp only [Act.put, List.setIfInBounds_toArray, List.set_cons_zero, List.set_cons_succ]
        have d := (Below.refl wr.heap.size wr).drew
        have hds : wr.drew.heap.size = wr.heap.size := rfl
        generalize wr.drew = wd at *
        have hcd := hcc d
        refine wpAnyH_ready (rs := [8, 12]) (by kernel_rfl) (by simp) ?_
        refine AllReadyH.cons (o := ⟨_, _, _, _, _, _⟩) rfl (fun K hK => ?_) (AllReadyH.cons (o := ⟨_, _, _, _, _, _⟩) rfl (fun K hK => ?_) (AllReadyH.nil))
        · go_simp
          refine hcd.mono ?_
          rintro _ w3 ⟨rfl, b3⟩
          have b := below2 d b3
          refine hK.out _ _ (HS _ b) (fun hHeld => ?_)
          clear hK K
          try simp only [Act.put, List.setIfInBounds_toArray, List.set_cons_zero, List.set_cons_succ]
          rw [← HSU.out]
          generalize accN ⟨x1, x2, x3, x4⟩ au ⟨a1, a2, a3, a4, a5, a6, a7, ps⟩ own = E at *
          obtain ⟨v1, h1, e1, a1'⟩ := X1
          refine wpAnyH_take (i := 9) (oi := ⟨_, _, _, _, _, _⟩) (v := ?_) rfl (by kernel_rfl) (by kernel_rfl) (by kernel_rfl) (fun _ _ _ h => h) (Or.inl ⟨by rfl, ?_⟩) (by assumption) ?_
          rotate_left
          · intro w hSw; (try dsimp only at hSw); go_simp; (try (with_reducible rfl))
          try simp only [Act.put, List.setIfInBounds_toArray, List.set_cons_zero, List.set_cons_succ]
          refine wpAnyH_take (i := 10) (oi := ⟨_, _, _, _, _, _⟩) (v := ?_) rfl (by kernel_rfl) (by kernel_rfl) (by kernel_rfl) (fun _ _ _ h => h) (Or.inl ⟨by rfl, ?_⟩) (by assumption) ?_
          rotate_left
          · intro w hSw; (try dsimp only at hSw); go_simp; (try (with_reducible rfl))
          try simp only [Act.put, List.setIfInBounds_toArray, List.set_cons_zero, List.set_cons_succ]
          refine wpAnyH_take (i := 11) (oi := ⟨_, _, _, _, _, _⟩) (v := ?_) rfl (by kernel_rfl) (by kernel_rfl) (by kernel_rfl) (fun _ _ _ h => h) (Or.inl ⟨by rfl, ?_⟩) (by assumption) ?_
          rotate_left
          · intro w hSw; (try dsimp only at hSw); go_simp; (try (with_reducible rfl))
          try simp only [Act.put, List.setIfInBounds_toArray, List.set_cons_zero, List.set_cons_succ]
          refine wpAnyH_ready (rs := [12]) (by kernel_rfl) (by simp) ?_
          refine AllReadyH.cons (o := ⟨_, _, _, _, _, _⟩) rfl (fun K hK => ?_) (AllReadyH.nil)
          go_simp
          have pq := Blk.new w3 [.int .i64 0, .int .i64 0, .int .i64 0, .int .i64 0] 23
          have bx := hal w3 (.cells #[.int .i64 0, .int .i64 0, .int .i64 0, .int .i64 0] 23)
          have hgq : w.heap.size + 1 < w3.heap.size := Nat.lt_of_lt_of_le lz2 b.size
          have hgq2 : wr.heap.size ≤ w3.heap.size := b.size
          replace pc := (pc.below b).below bx
          replace pz := (pz.below b).below bx
          replace bw := below2 (bw.trans (b.mono bw.size)) bx
          replace b := below2 b bx
          clear hcd hcc HSU d hds b3 bx
          generalize w3.alloc (.cells #[.int .i64 0, .int .i64 0, .int .i64 0, .int .i64 0] 23) = wz at *
          generalize w3.heap.size = gq at *
          refine hK.out _ _ (HS _ b) (fun hHeld => ?_)
          clear hK K
          try simp only [Act.put, List.setIfInBounds_toArray, List.set_cons_zero, List.set_cons_succ]
          have z0 := pq.cell 0
          have z1 := pq.cell 1
          have z2 := pq.cell 2
          have z3 := pq.cell 3
          have f0 := pq.frozen 0
          have f1 := pq.frozen 1
          have f2 := pq.frozen 2
          have f3 := pq.frozen 3
          have pqS := ((((pq.set_ 0 (.int .i64 v1)).set_ 1 (.int .i64 h1)).set_ 2 (.int .i64 e1)).set_ 3 (.int .i64 a1'))
          simp only [List.getElem?_cons_zero, List.getElem?_cons_succ, List.set_cons_zero, List.set_cons_succ] at z0 z1 z2 z3 pqS
          have gs := sets4 wz gq (.int .i64 v1) (.int .i64 h1) (.int .i64 e1) (.int .i64 a1')
          have bwS := bw.trans (below_grown bw.size (far13 (by omega)) gs)
          have pcS := pc.grown gs (by intro e; injection e with e; omega)
          have pzS := pz.grown gs (by intro e; injection e with e; omega)
          have bS : Below wr.heap.size wr ((((wz.setCell ⟨gq, 0, none⟩ (.int .i64 v1)).setCell ⟨gq, 1, none⟩ (.int .i64 h1)).setCell ⟨gq, 2, none⟩ (.int .i64 e1)).setCell ⟨gq, 3, none⟩ (.int .i64 a1')) := b.trans (below_grown b.size (far13 (by omega)) gs)
          refine wpAnyH_ready (rs := [13]) (by kernel_rfl) (by simp) ?_
          refine AllReadyH.cons (o := ⟨_, _, _, _, _, _⟩) rfl (fun K hK => ?_) AllReadyH.nil
          go_simp
          refine hK.out _ _ (HS _ bS) (fun hHeld => ?_)
          clear hK K
          try simp only [Act.put, List.setIfInBounds_toArray, List.set_cons_zero, List.set_cons_succ]
          refine wpAnyH_ready (rs := [14]) (by kernel_rfl) (by simp) ?_
          refine AllReadyH.cons (o := ⟨_, _, _, _, _, _⟩) rfl (fun K hK => ?_) AllReadyH.nil
          go_simp
          refine hK.out _ _ hHeld (fun hHeld => ?_)
          clear hK K
          try simp only [Act.put, List.setIfInBounds_toArray, List.set_cons_zero, List.set_cons_succ]
          refine wpAnyH_done (by kernel_rfl) ?_ _
          clear pq pc pz b bS bw z0 z1 z2 z3 f0 f1 f2 f3 gs hHeld
          have pq := pqS
          have pc := pcS
          have pz := pzS
          have bw := bwS
          clear pqS pcS pzS bwS
          generalize ((((wz.setCell ⟨gq, 0, none⟩ (.int .i64 v1)).setCell ⟨gq, 1, none⟩ (.int .i64 h1)).setCell ⟨gq, 2, none⟩ (.int .i64 e1)).setCell ⟨gq, 3, none⟩ (.int .i64 a1')) = wE at *
          clear q0 q1 q2 q3 m0 m1 m2 m3 m4 m5 m6 m7 hmj hm hor hhr y0
          by_cases hE : E = 0
          · subst hE
            have HT2 := hid (HTO.out rfl)
            clear HST HTO HAC
            have y0 := pq.cell 0
            have y1 := pq.cell 1
            have y2 := pq.cell 2
            have y3 := pq.cell 3
            simp only [List.getElem?_cons_zero, List.getElem?_cons_succ] at y0 y1 y2 y3
            have z0 := pc.cell 0
            have z1 := pc.cell 1
            have z2 := pc.cell 2
            have z3 := pc.cell 3
            have f0 := pc.frozen 0
            have f1 := pc.frozen 1
            have f2 := pc.frozen 2
            have f3 := pc.frozen 3
            have pcS := ((((pc.set_ 0 (.int .i64 v1)).set_ 1 (.int .i64 h1)).set_ 2 (.int .i64 e1)).set_ 3 (.int .i64 a1'))
            simp only [List.getElem?_cons_zero, List.getElem?_cons_succ, List.set_cons_zero, List.set_cons_succ] at z0 z1 z2 z3 pcS
            have gs := sets4 wE w.heap.size (.int .i64 v1) (.int .i64 h1) (.int .i64 e1) (.int .i64 a1')
            have bwS := bw.trans (below_grown bw.size (far13 (by omega)) gs)
            have pzS := pz.grown gs (by intro e; injection e with e; omega)
            clear gs pc pz pq bw
            go_wp2
            go_roundw
            case rel => exact ⟨j + 1, HJ.out, by go_num, HT2, by rw [HX1.out]; exact pcS, pzS, bwS⟩
            case measure => have := HJ.out; simp [intOf]; omega
          · have HF := hid (HST.out hE)
            have hEb : (E != 0) = true := by simp [hE]
            clear HST HTO HAC
            have y0 := pc.cell 0
            have y1 := pc.cell 1
            have y2 := pc.cell 2
            have y3 := pc.cell 3
            simp only [List.getElem?_cons_zero, List.getElem?_cons_succ] at y0 y1 y2 y3
            have z0 := pz.cell 0
            have z1 := pz.cell 1
            have z2 := pz.cell 2
            have z3 := pz.cell 3
            have f0 := pz.frozen 0
            have f1 := pz.frozen 1
            have f2 := pz.frozen 2
            have f3 := pz.frozen 3
            have ks := ((((pz.set_ 0 (.int .i64 x1)).set_ 1 (.int .i64 x2)).set_ 2 (.int .i64 x3)).set_ 3 (.int .i64 x4))
            simp only [List.getElem?_cons_zero, List.getElem?_cons_succ, List.set_cons_zero, List.set_cons_succ] at z0 z1 z2 z3 ks
            have gs := sets4 wE (w.heap.size + 1) (.int .i64 x1) (.int .i64 x2) (.int .i64 x3) (.int .i64 x4)
            have bwS := bw.trans (below_grown bw.size (far13 (by omega)) gs)
            have r0 := ks.cell 0
            have r1 := ks.cell 1
            have r2 := ks.cell 2
            have r3 := ks.cell 3
            simp only [List.getElem?_cons_zero, List.getElem?_cons_succ] at r0 r1 r2 r3
            clear ks gs pc pz pq bw
            go_wp2
            refine bodyPost_ret (v := .tuple #[.agg #[.int .i64 x1, .int .i64 x2, .int .i64 x3, .int .i64 x4], .int .i64 j, .int .i64 E]) (by simp [results, Tryd.results15, go_sem, r0, r1, r2, r3]) rfl ?_
            exact ⟨⟨x1, x2, x3, x4⟩, j, E, rfl, HF.out, bwS⟩
        · go_simp
          have pq := Blk.new wd [.int .i64 0, .int .i64 0, .int .i64 0, .int .i64 0] 23
          have bx := hal wd (.cells #[.int .i64 0, .int .i64 0, .int .i64 0, .int .i64 0] 23)
          have b := below2 d bx
          rw [hds] at pq
          have hgq : w.heap.size + 1 < wr.heap.size := lz2
          have hgq2 : wr.heap.size ≤ wr.heap.size := Nat.le_refl _
          have hcz := hcc b
          generalize wd.alloc (.cells #[.int .i64 0, .int .i64 0, .int .i64 0, .int .i64 0] 23) = wz at *
          refine hK.out _ _ (HS _ b) (fun hHeld => ?_)
          clear hK K
          try simp only [Act.put, List.setIfInBounds_toArray, List.set_cons_zero, List.set_cons_succ]
          refine wpAnyH_ready (rs := [8]) (by kernel_rfl) (by simp) ?_
          refine AllReadyH.cons (o := ⟨_, _, _, _, _, _⟩) rfl (fun K hK => ?_) (AllReadyH.nil)
          go_simp
          refine hcz.mono ?_
          rintro _ w3 ⟨rfl, b3⟩
          replace pq := pq.below b3
          replace b := below2 b b3
          refine hK.out _ _ (HS _ b) (fun hHeld => ?_)
          clear hK K
          try simp only [Act.put, List.setIfInBounds_toArray, List.set_cons_zero, List.set_cons_succ]
          rw [← HSU.out]
          generalize accN ⟨x1, x2, x3, x4⟩ au ⟨a1, a2, a3, a4, a5, a6, a7, ps⟩ own = E at *
          obtain ⟨v1, h1, e1, a1'⟩ := X1
          refine wpAnyH_take (i := 9) (oi := ⟨_, _, _, _, _, _⟩) (v := ?_) rfl (by kernel_rfl) (by kernel_rfl) (by kernel_rfl) (fun _ _ _ h => h) (Or.inl ⟨by rfl, ?_⟩) (by assumption) ?_
          rotate_left
          · intro w hSw; (try dsimp only at hSw); go_simp; (try (with_reducible rfl))
          try simp only [Act.put, List.setIfInBounds_toArray, List.set_cons_zero, List.set_cons_succ]
          refine wpAnyH_take (i := 10) (oi := ⟨_, _, _, _, _, _⟩) (v := ?_) rfl (by kernel_rfl) (by kernel_rfl) (by kernel_rfl) (fun _ _ _ h => h) (Or.inl ⟨by rfl, ?_⟩) (by assumption) ?_
          rotate_left
          · intro w hSw; (try dsimp only at hSw); go_simp; (try (with_reducible rfl))
          try simp only [Act.put, List.setIfInBounds_toArray, List.set_cons_zero, List.set_cons_succ]
          refine wpAnyH_take (i := 11) (oi := ⟨_, _, _, _, _, _⟩) (v := ?_) rfl (by kernel_rfl) (by kernel_rfl) (by kernel_rfl) (fun _ _ _ h => h) (Or.inl ⟨by rfl, ?_⟩) (by assumption) ?_
          rotate_left
          · intro w hSw; (try dsimp only at hSw); go_simp; (try (with_reducible rfl))
          try simp only [Act.put, List.setIfInBounds_toArray, List.set_cons_zero, List.set_cons_succ]
          replace pc := pc.below b
          replace pz := pz.below b
          replace bw := bw.trans (b.mono bw.size)
          clear hcd hcz hcc HSU d bx b3
          have z0 := pq.cell 0
          have z1 := pq.cell 1
          have z2 := pq.cell 2
          have z3 := pq.cell 3
          have f0 := pq.frozen 0
          have f1 := pq.frozen 1
          have f2 := pq.frozen 2
          have f3 := pq.frozen 3
          have pqS := ((((pq.set_ 0 (.int .i64 v1)).set_ 1 (.int .i64 h1)).set_ 2 (.int .i64 e1)).set_ 3 (.int .i64 a1'))
          simp only [List.getElem?_cons_zero, List.getElem?_cons_succ, List.set_cons_zero, List.set_cons_succ] at z0 z1 z2 z3 pqS
          have gs := sets4 w3 wr.heap.size (.int .i64 v1) (.int .i64 h1) (.int .i64 e1) (.int .i64 a1')
          have bwS := bw.trans (below_grown bw.size (far13 (by omega)) gs)
          have pcS := pc.grown gs (by intro e; injection e with e; omega)
          have pzS := pz.grown gs (by intro e; injection e with e; omega)
          have bS : Below wr.heap.size wr ((((w3.setCell ⟨wr.heap.size, 0, none⟩ (.int .i64 v1)).setCell ⟨wr.heap.size, 1, none⟩ (.int .i64 h1)).setCell ⟨wr.heap.size, 2, none⟩ (.int .i64 e1)).setCell ⟨wr.heap.size, 3, none⟩ (.int .i64 a1')) := b.trans (below_grown b.size (far13 (by omega)) gs)
          refine wpAnyH_ready (rs := [13]) (by kernel_rfl) (by simp) ?_
          refine AllReadyH.cons (o := ⟨_, _, _, _, _, _⟩) rfl (fun K hK => ?_) AllReadyH.nil
          go_simp
          refine hK.out _ _ (HS _ bS) (fun hHeld => ?_)
          clear hK K
          try simp only [Act.put, List.setIfInBounds_toArray, List.set_cons_zero, List.set_cons_succ]
          refine wpAnyH_ready (rs := [14]) (by kernel_rfl) (by simp) ?_
          refine AllReadyH.cons (o := ⟨_, _, _, _, _, _⟩) rfl (fun K hK => ?_) AllReadyH.nil
          go_simp
          refine hK.out _ _ hHeld (fun hHeld => ?_)
          clear hK K
          try simp only [Act.put, List.setIfInBounds_toArray, List.set_cons_zero, List.set_cons_succ]
          refine wpAnyH_done (by kernel_rfl) ?_ _
          clear pq pc pz b bS bw z0 z1 z2 z3 f0 f1 f2 f3 gs hHeld
          have pq := pqS
          have pc := pcS
          have pz := pzS
          have bw := bwS
          clear pqS pcS pzS bwS
          generalize ((((w3.setCell ⟨wr.heap.size, 0, none⟩ (.int .i64 v1)).setCell ⟨wr.heap.size, 1, none⟩ (.int .i64 h1)).setCell ⟨wr.heap.size, 2, none⟩ (.int .i64 e1)).setCell ⟨wr.heap.size, 3, none⟩ (.int .i64 a1')) = wE at *
          clear q0 q1 q2 q3 m0 m1 m2 m3 m4 m5 m6 m7 hmj hm hor hhr y0
          by_cases hE : E = 0
          · subst hE
            have HT2 := hid (HTO.out rfl)
            clear HST HTO HAC
            have y0 := pq.cell 0
            have y1 := pq.cell 1
            have y2 := pq.cell 2
            have y3 := pq.cell 3
            simp only [List.getElem?_cons_zero, List.getElem?_cons_succ] at y0 y1 y2 y3
            have z0 := pc.cell 0
            have z1 := pc.cell 1
            have z2 := pc.cell 2
            have z3 := pc.cell 3
            have f0 := pc.frozen 0
            have f1 := pc.frozen 1
            have f2 := pc.frozen 2
            have f3 := pc.frozen 3
            have pcS := ((((pc.set_ 0 (.int .i64 v1)).set_ 1 (.int .i64 h1)).set_ 2 (.int .i64 e1)).set_ 3 (.int .i64 a1'))
            simp only [List.getElem?_cons_zero, List.getElem?_cons_succ, List.set_cons_zero, List.set_cons_succ] at z0 z1 z2 z3 pcS
            have gs := sets4 wE w.heap.size (.int .i64 v1) (.int .i64 h1) (.int .i64 e1) (.int .i64 a1')
            have bwS := bw.trans (below_grown bw.size (far13 (by omega)) gs)
            have pzS := pz.grown gs (by intro e; injection e with e; omega)
            clear gs pc pz pq bw
            go_wp2
            go_roundw
            case rel => exact ⟨j + 1, HJ.out, by go_num, HT2, by rw [HX1.out]; exact pcS, pzS, bwS⟩
            case measure => have := HJ.out; simp [intOf]; omega
          · have HF := hid (HST.out hE)
            have hEb : (E != 0) = true := by simp [hE]
            clear HST HTO HAC
            have y0 := pc.cell 0
            have y1 := pc.cell 1
            have y2 := pc.cell 2
            have y3 := pc.cell 3
            simp only [List.getElem?_cons_zero, List.getElem?_cons_succ] at y0 y1 y2 y3
            have z0 := pz.cell 0
            have z1 := pz.cell 1
            have z2 := pz.cell 2
            have z3 := pz.cell 3
            have f0 := pz.frozen 0
            have f1 := pz.frozen 1
            have f2 := pz.frozen 2
            have f3 := pz.frozen 3
            have ks := ((((pz.set_ 0 (.int .i64 x1)).set_ 1 (.int .i64 x2)).set_ 2 (.int .i64 x3)).set_ 3 (.int .i64 x4))
            simp only [List.getElem?_cons_zero, List.getElem?_cons_succ, List.set_cons_zero, List.set_cons_succ] at z0 z1 z2 z3 ks
            have gs := sets4 wE (w.heap.size + 1) (.int .i64 x1) (.int .i64 x2) (.int .i64 x3) (.int .i64 x4)
            have bwS := bw.trans (below_grown bw.size (far13 (by omega)) gs)
            have r0 := ks.cell 0
            have r1 := ks.cell 1
            have r2 := ks.cell 2
            have r3 := ks.cell 3
            simp only [List.getElem?_cons_zero, List.getElem?_cons_succ] at r0 r1 r2 r3
            clear ks gs pc pz pq bw
            go_wp2
            refine bodyPost_ret (v := .tuple #[.agg #[.int .i64 x1, .int .i64 x2, .int .i64 x3, .int .i64 x4], .int .i64 j, .int .i64 E]) (by simp [results, Tryd.results15, go_sem, r0, r1, r2, r3]) rfl ?_
            exact ⟨⟨x1, x2, x3, x4⟩, j, E, rfl, HF.out, bwS⟩
      · have HG : Hid (hd.getD j 0 = 0) := hid (by rw [List.getD_eq_getElem?_getD, List.getElem?_eq_none (by rw [HHL.out]; omega)]; rfl)
        rw [HG.out] at HSU
        have hmW := fun {W : World} (hb : Below wr.heap.size wr W) => hmj.below hb
        have hoW := fun {W : World} (hb : Below wr.heap.size wr W) => hor.below hb
        have hcc := fun {W : World} (hb : Below wr.heap.size wr W) => raccept_any (k := k) (u := ⟨x1, x2, x3, x4⟩) au (0 : Int) (hmW hb) hsj hol (hoW hb) hon
        have HAC : Hid True := trivial
        have HS : ∀ W, Below wr.heap.size wr W → (fun w' => w'.cell? ⟨w.heap.size, 0, none⟩ = some (.int .i64 x1) ∧ w'.cell? ⟨w.heap.size, 1, none⟩ = some (.int .i64 x2) ∧ w'.cell? ⟨w.heap.size, 2, none⟩ = some (.int .i64 x3) ∧ w'.cell? ⟨w.heap.size, 3, none⟩ = some (.int .i64 x4) ∧ w'.cell? ⟨b, og + j * 8, none⟩ = some (.int .i64 a1) ∧ w'.cell? ⟨b, og + j * 8 + 1, none⟩ = some (.int .i64 a2) ∧ w'.cell? ⟨b, og + j * 8 + 2, none⟩ = some (.int .i64 a3) ∧ w'.cell? ⟨b, og + j * 8 + 3, none⟩ = some (.int .i64 a4) ∧ w'.cell? ⟨b, og + j * 8 + 4, none⟩ = some (.int .i64 a5) ∧ w'.cell? ⟨b, og + j * 8 + 5, none⟩ = some (.int .i64 a6) ∧ w'.cell? ⟨b, og + j * 8 + 6, none⟩ = some (.int .i64 a7) ∧ w'.cell? ⟨b, og + j * 8 + 7, none⟩ = some (.slice B ps.length mc)) W := fun W h => ⟨(h.cell lc).trans q0, (h.cell lc).trans q1, (h.cell lc).trans q2, (h.cell lc).trans q3, (h.cell lm).trans m0, (h.cell lm).trans m1, (h.cell lm).trans m2, (h.cell lm).trans m3, (h.cell lm).trans m4, (h.cell lm).trans m5, (h.cell lm).trans m6, (h.cell lm).trans m7⟩
        have lz2 : w.heap.size + 1 < wr.heap.size := lz
        go_wp2_with fail
        refine wp_region_held_drew (S := fun w' => w'.cell? ⟨w.heap.size, 0, none⟩ = some (.int .i64 x1) ∧ w'.cell? ⟨w.heap.size, 1, none⟩ = some (.int .i64 x2) ∧ w'.cell? ⟨w.heap.size, 2, none⟩ = some (.int .i64 x3) ∧ w'.cell? ⟨w.heap.size, 3, none⟩ = some (.int .i64 x4) ∧ w'.cell? ⟨b, og + j * 8, none⟩ = some (.int .i64 a1) ∧ w'.cell? ⟨b, og + j * 8 + 1, none⟩ = some (.int .i64 a2) ∧ w'.cell? ⟨b, og + j * 8 + 2, none⟩ = some (.int .i64 a3) ∧ w'.cell? ⟨b, og + j * 8 + 3, none⟩ = some (.int .i64 a4) ∧ w'.cell? ⟨b, og + j * 8 + 4, none⟩ = some (.int .i64 a5) ∧ w'.cell? ⟨b, og + j * 8 + 5, none⟩ = some (.int .i64 a6) ∧ w'.cell? ⟨b, og + j * 8 + 6, none⟩ = some (.int .i64 a7) ∧ w'.cell? ⟨b, og + j * 8 + 7, none⟩ = some (.slice B ps.length mc)) (by kernel_rfl) (HS _ (Below.refl wr.heap.size wr).drew) (fun hHeld => ?_)
        refine wpAnyH_take (i := 0) (oi := ⟨_, _, _, _, _, _⟩) (v := ?_) rfl (by kernel_rfl) (by kernel_rfl) (by kernel_rfl) (fun _ _ _ h => h) (Or.inl ⟨by rfl, ?_⟩) (by assumption) ?_
        rotate_left
        · intro w hSw; (try dsimp only at hSw); go_simp; (try (with_reducible rfl))
        try simp only [Act.put, List.setIfInBounds_toArray, List.set_cons_zero, List.set_cons_succ]
        refine wpAnyH_take (i := 1) (oi := ⟨_, _, _, _, _, _⟩) (v := ?_) rfl (by kernel_rfl) (by kernel_rfl) (by kernel_rfl) (fun _ _ _ h => h) (Or.inl ⟨by rfl, ?_⟩) (by assumption) ?_
        rotate_left
        · intro w hSw; (try dsimp only at hSw); go_simp; (try (with_reducible rfl))
        try simp only [Act.put, List.setIfInBounds_toArray, List.set_cons_zero, List.set_cons_succ]
        refine wpAnyH_take (i := 2) (oi := ⟨_, _, _, _, _, _⟩) (v := ?_) rfl (by kernel_rfl) (by kernel_rfl) (by kernel_rfl) (fun _ _ _ h => h) (Or.inl ⟨by rfl, ?_⟩) (by assumption) ?_
        rotate_left
        · intro w hSw; (try dsimp only at hSw); go_simp; (try (with_reducible rfl))
        try simp only [Act.put, List.setIfInBounds_toArray, List.set_cons_zero, List.set_cons_succ]
        refine wpAnyH_take (i := 3) (oi := ⟨_, _, _, _, _, _⟩) (v := ?_) rfl (by kernel_rfl) (by kernel_rfl) (by kernel_rfl) (fun _ _ _ h => h) (Or.inl ⟨by rfl, ?_⟩) (by assumption) ?_
        rotate_left
        · intro w hSw; (try dsimp only at hSw); go_simp; (try (with_reducible rfl))
        try simp only [Act.put, List.setIfInBounds_toArray, List.set_cons_zero, List.set_cons_succ]
        refine wpAnyH_take (i := 4) (oi := ⟨_, _, _, _, _, _⟩) (v := ?_) rfl (by kernel_rfl) (by kernel_rfl) (by kernel_rfl) (fun _ _ _ h => h) (Or.inl ⟨by rfl, ?_⟩) (by assumption) ?_
        rotate_left
        · intro w hSw; (try dsimp only at hSw); go_simp; (try (with_reducible rfl))
        try simp only [Act.put, List.setIfInBounds_toArray, List.set_cons_zero, List.set_cons_succ]
        refine wpAnyH_take (i := 5) (oi := ⟨_, _, _, _, _, _⟩) (v := ?_) rfl (by kernel_rfl) (by kernel_rfl) (by kernel_rfl) (fun _ _ _ h => h) (Or.inl ⟨by rfl, ?_⟩) (by assumption) ?_
        rotate_left
        · intro w hSw; (try dsimp only at hSw); go_simp; (try (with_reducible rfl))
        try simp only [Act.put, List.setIfInBounds_toArray, List.set_cons_zero, List.set_cons_succ]
        refine wpAnyH_take (i := 6) (oi := ⟨_, _, _, _, _, _⟩) (v := ?_) rfl (by kernel_rfl) (by kernel_rfl) (by kernel_rfl) (fun _ _ _ h => h) (Or.inl ⟨by rfl, ?_⟩) (by assumption) ?_
        rotate_left
        · intro w hSw; (try dsimp only at hSw); go_simp; (try (with_reducible rfl))
        try simp only [Act.put, List.setIfInBounds_toArray, List.set_cons_zero, List.set_cons_succ]
        refine wpAnyH_take (i := 7) (oi := ⟨_, _, _, _, _, _⟩) (v := ?_) rfl (by kernel_rfl) (by kernel_rfl) (by kernel_rfl) (fun _ _ _ h => h) (Or.inl ⟨by rfl, ?_⟩) (by assumption) ?_
        rotate_left
        · intro w hSw; (try dsimp only at hSw); go_simp; (try (with_reducible rfl))
        try simp only [Act.put, List.setIfInBounds_toArray, List.set_cons_zero, List.set_cons_succ]
        have d := (Below.refl wr.heap.size wr).drew
        have hds : wr.drew.heap.size = wr.heap.size := rfl
        generalize wr.drew = wd at *
        have hcd := hcc d
        refine wpAnyH_ready (rs := [8, 12]) (by kernel_rfl) (by simp) ?_
        refine AllReadyH.cons (o := ⟨_, _, _, _, _, _⟩) rfl (fun K hK => ?_) (AllReadyH.cons (o := ⟨_, _, _, _, _, _⟩) rfl (fun K hK => ?_) (AllReadyH.nil))
        · go_simp
          refine hcd.mono ?_
          rintro _ w3 ⟨rfl, b3⟩
          have b := below2 d b3
          refine hK.out _ _ (HS _ b) (fun hHeld => ?_)
          clear hK K
          try simp only [Act.put, List.setIfInBounds_toArray, List.set_cons_zero, List.set_cons_succ]
          rw [← HSU.out]
          generalize accN ⟨x1, x2, x3, x4⟩ au ⟨a1, a2, a3, a4, a5, a6, a7, ps⟩ own = E at *
          obtain ⟨v1, h1, e1, a1'⟩ := X1
          refine wpAnyH_take (i := 9) (oi := ⟨_, _, _, _, _, _⟩) (v := ?_) rfl (by kernel_rfl) (by kernel_rfl) (by kernel_rfl) (fun _ _ _ h => h) (Or.inl ⟨by rfl, ?_⟩) (by assumption) ?_
          rotate_left
          · intro w hSw; (try dsimp only at hSw); go_simp; (try (with_reducible rfl))
          try simp only [Act.put, List.setIfInBounds_toArray, List.set_cons_zero, List.set_cons_succ]
          refine wpAnyH_take (i := 10) (oi := ⟨_, _, _, _, _, _⟩) (v := ?_) rfl (by kernel_rfl) (by kernel_rfl) (by kernel_rfl) (fun _ _ _ h => h) (Or.inl ⟨by rfl, ?_⟩) (by assumption) ?_
          rotate_left
          · intro w hSw; (try dsimp only at hSw); go_simp; (try (with_reducible rfl))
          try simp only [Act.put, List.setIfInBounds_toArray, List.set_cons_zero, List.set_cons_succ]
          refine wpAnyH_take (i := 11) (oi := ⟨_, _, _, _, _, _⟩) (v := ?_) rfl (by kernel_rfl) (by kernel_rfl) (by kernel_rfl) (fun _ _ _ h => h) (Or.inl ⟨by rfl, ?_⟩) (by assumption) ?_
          rotate_left
          · intro w hSw; (try dsimp only at hSw); go_simp; (try (with_reducible rfl))
          try simp only [Act.put, List.setIfInBounds_toArray, List.set_cons_zero, List.set_cons_succ]
          refine wpAnyH_ready (rs := [12]) (by kernel_rfl) (by simp) ?_
          refine AllReadyH.cons (o := ⟨_, _, _, _, _, _⟩) rfl (fun K hK => ?_) (AllReadyH.nil)
          go_simp
          have pq := Blk.new w3 [.int .i64 0, .int .i64 0, .int .i64 0, .int .i64 0] 23
          have bx := hal w3 (.cells #[.int .i64 0, .int .i64 0, .int .i64 0, .int .i64 0] 23)
          have hgq : w.heap.size + 1 < w3.heap.size := Nat.lt_of_lt_of_le lz2 b.size
          have hgq2 : wr.heap.size ≤ w3.heap.size := b.size
          replace pc := (pc.below b).below bx
          replace pz := (pz.below b).below bx
          replace bw := below2 (bw.trans (b.mono bw.size)) bx
          replace b := below2 b bx
          clear hcd hcc HSU d hds b3 bx
          generalize w3.alloc (.cells #[.int .i64 0, .int .i64 0, .int .i64 0, .int .i64 0] 23) = wz at *
          generalize w3.heap.size = gq at *
          refine hK.out _ _ (HS _ b) (fun hHeld => ?_)
          clear hK K
          try simp only [Act.put, List.setIfInBounds_toArray, List.set_cons_zero, List.set_cons_succ]
          have z0 := pq.cell 0
          have z1 := pq.cell 1
          have z2 := pq.cell 2
          have z3 := pq.cell 3
          have f0 := pq.frozen 0
          have f1 := pq.frozen 1
          have f2 := pq.frozen 2
          have f3 := pq.frozen 3
          have pqS := ((((pq.set_ 0 (.int .i64 v1)).set_ 1 (.int .i64 h1)).set_ 2 (.int .i64 e1)).set_ 3 (.int .i64 a1'))
          simp only [List.getElem?_cons_zero, List.getElem?_cons_succ, List.set_cons_zero, List.set_cons_succ] at z0 z1 z2 z3 pqS
          have gs := sets4 wz gq (.int .i64 v1) (.int .i64 h1) (.int .i64 e1) (.int .i64 a1')
          have bwS := bw.trans (below_grown bw.size (far13 (by omega)) gs)
          have pcS := pc.grown gs (by intro e; injection e with e; omega)
          have pzS := pz.grown gs (by intro e; injection e with e; omega)
          have bS : Below wr.heap.size wr ((((wz.setCell ⟨gq, 0, none⟩ (.int .i64 v1)).setCell ⟨gq, 1, none⟩ (.int .i64 h1)).setCell ⟨gq, 2, none⟩ (.int .i64 e1)).setCell ⟨gq, 3, none⟩ (.int .i64 a1')) := b.trans (below_grown b.size (far13 (by omega)) gs)
          refine wpAnyH_ready (rs := [13]) (by kernel_rfl) (by simp) ?_
          refine AllReadyH.cons (o := ⟨_, _, _, _, _, _⟩) rfl (fun K hK => ?_) AllReadyH.nil
          go_simp
          refine hK.out _ _ (HS _ bS) (fun hHeld => ?_)
          clear hK K
          try simp only [Act.put, List.setIfInBounds_toArray, List.set_cons_zero, List.set_cons_succ]
          refine wpAnyH_ready (rs := [14]) (by kernel_rfl) (by simp) ?_
          refine AllReadyH.cons (o := ⟨_, _, _, _, _, _⟩) rfl (fun K hK => ?_) AllReadyH.nil
          go_simp
          refine hK.out _ _ hHeld (fun hHeld => ?_)
          clear hK K
          try simp only [Act.put, List.setIfInBounds_toArray, List.set_cons_zero, List.set_cons_succ]
          refine wpAnyH_done (by kernel_rfl) ?_ _
          clear pq pc pz b bS bw z0 z1 z2 z3 f0 f1 f2 f3 gs hHeld
          have pq := pqS
          have pc := pcS
          have pz := pzS
          have bw := bwS
          clear pqS pcS pzS bwS
          generalize ((((wz.setCell ⟨gq, 0, none⟩ (.int .i64 v1)).setCell ⟨gq, 1, none⟩ (.int .i64 h1)).setCell ⟨gq, 2, none⟩ (.int .i64 e1)).setCell ⟨gq, 3, none⟩ (.int .i64 a1')) = wE at *
          clear q0 q1 q2 q3 m0 m1 m2 m3 m4 m5 m6 m7 hmj hm hor hhr
          by_cases hE : E = 0
          · subst hE
            have HT2 := hid (HTO.out rfl)
            clear HST HTO HAC
            have y0 := pq.cell 0
            have y1 := pq.cell 1
            have y2 := pq.cell 2
            have y3 := pq.cell 3
            simp only [List.getElem?_cons_zero, List.getElem?_cons_succ] at y0 y1 y2 y3
            have z0 := pc.cell 0
            have z1 := pc.cell 1
            have z2 := pc.cell 2
            have z3 := pc.cell 3
            have f0 := pc.frozen 0
            have f1 := pc.frozen 1
            have f2 := pc.frozen 2
            have f3 := pc.frozen 3
            have pcS := ((((pc.set_ 0 (.int .i64 v1)).set_ 1 (.int .i64 h1)).set_ 2 (.int .i64 e1)).set_ 3 (.int .i64 a1'))
            simp only [List.getElem?_cons_zero, List.getElem?_cons_succ, List.set_cons_zero, List.set_cons_succ] at z0 z1 z2 z3 pcS
            have gs := sets4 wE w.heap.size (.int .i64 v1) (.int .i64 h1) (.int .i64 e1) (.int .i64 a1')
            have bwS := bw.trans (below_grown bw.size (far13 (by omega)) gs)
            have pzS := pz.grown gs (by intro e; injection e with e; omega)
            clear gs pc pz pq bw
            go_wp2
            go_roundw
            case rel => exact ⟨j + 1, HJ.out, by go_num, HT2, by rw [HX1.out]; exact pcS, pzS, bwS⟩
            case measure => have := HJ.out; simp [intOf]; omega
          · have HF := hid (HST.out hE)
            have hEb : (E != 0) = true := by simp [hE]
            clear HST HTO HAC
            have y0 := pc.cell 0
            have y1 := pc.cell 1
            have y2 := pc.cell 2
            have y3 := pc.cell 3
            simp only [List.getElem?_cons_zero, List.getElem?_cons_succ] at y0 y1 y2 y3
            have z0 := pz.cell 0
            have z1 := pz.cell 1
            have z2 := pz.cell 2
            have z3 := pz.cell 3
            have f0 := pz.frozen 0
            have f1 := pz.frozen 1
            have f2 := pz.frozen 2
            have f3 := pz.frozen 3
            have ks := ((((pz.set_ 0 (.int .i64 x1)).set_ 1 (.int .i64 x2)).set_ 2 (.int .i64 x3)).set_ 3 (.int .i64 x4))
            simp only [List.getElem?_cons_zero, List.getElem?_cons_succ, List.set_cons_zero, List.set_cons_succ] at z0 z1 z2 z3 ks
            have gs := sets4 wE (w.heap.size + 1) (.int .i64 x1) (.int .i64 x2) (.int .i64 x3) (.int .i64 x4)
            have bwS := bw.trans (below_grown bw.size (far13 (by omega)) gs)
            have r0 := ks.cell 0
            have r1 := ks.cell 1
            have r2 := ks.cell 2
            have r3 := ks.cell 3
            simp only [List.getElem?_cons_zero, List.getElem?_cons_succ] at r0 r1 r2 r3
            clear ks gs pc pz pq bw
            go_wp2
            refine bodyPost_ret (v := .tuple #[.agg #[.int .i64 x1, .int .i64 x2, .int .i64 x3, .int .i64 x4], .int .i64 j, .int .i64 E]) (by simp [results, Tryd.results15, go_sem, r0, r1, r2, r3]) rfl ?_
            exact ⟨⟨x1, x2, x3, x4⟩, j, E, rfl, HF.out, bwS⟩
        · go_simp
          have pq := Blk.new wd [.int .i64 0, .int .i64 0, .int .i64 0, .int .i64 0] 23
          have bx := hal wd (.cells #[.int .i64 0, .int .i64 0, .int .i64 0, .int .i64 0] 23)
          have b := below2 d bx
          rw [hds] at pq
          have hgq : w.heap.size + 1 < wr.heap.size := lz2
          have hgq2 : wr.heap.size ≤ wr.heap.size := Nat.le_refl _
          have hcz := hcc b
          generalize wd.alloc (.cells #[.int .i64 0, .int .i64 0, .int .i64 0, .int .i64 0] 23) = wz at *
          refine hK.out _ _ (HS _ b) (fun hHeld => ?_)
          clear hK K
          try simp only [Act.put, List.setIfInBounds_toArray, List.set_cons_zero, List.set_cons_succ]
          refine wpAnyH_ready (rs := [8]) (by kernel_rfl) (by simp) ?_
          refine AllReadyH.cons (o := ⟨_, _, _, _, _, _⟩) rfl (fun K hK => ?_) (AllReadyH.nil)
          go_simp
          refine hcz.mono ?_
          rintro _ w3 ⟨rfl, b3⟩
          replace pq := pq.below b3
          replace b := below2 b b3
          refine hK.out _ _ (HS _ b) (fun hHeld => ?_)
          clear hK K
          try simp only [Act.put, List.setIfInBounds_toArray, List.set_cons_zero, List.set_cons_succ]
          rw [← HSU.out]
          generalize accN ⟨x1, x2, x3, x4⟩ au ⟨a1, a2, a3, a4, a5, a6, a7, ps⟩ own = E at *
          obtain ⟨v1, h1, e1, a1'⟩ := X1
          refine wpAnyH_take (i := 9) (oi := ⟨_, _, _, _, _, _⟩) (v := ?_) rfl (by kernel_rfl) (by kernel_rfl) (by kernel_rfl) (fun _ _ _ h => h) (Or.inl ⟨by rfl, ?_⟩) (by assumption) ?_
          rotate_left
          · intro w hSw; (try dsimp only at hSw); go_simp; (try (with_reducible rfl))
          try simp only [Act.put, List.setIfInBounds_toArray, List.set_cons_zero, List.set_cons_succ]
          refine wpAnyH_take (i := 10) (oi := ⟨_, _, _, _, _, _⟩) (v := ?_) rfl (by kernel_rfl) (by kernel_rfl) (by kernel_rfl) (fun _ _ _ h => h) (Or.inl ⟨by rfl, ?_⟩) (by assumption) ?_
          rotate_left
          · intro w hSw; (try dsimp only at hSw); go_simp; (try (with_reducible rfl))
          try simp only [Act.put, List.setIfInBounds_toArray, List.set_cons_zero, List.set_cons_succ]
          refine wpAnyH_take (i := 11) (oi := ⟨_, _, _, _, _, _⟩) (v := ?_) rfl (by kernel_rfl) (by kernel_rfl) (by kernel_rfl) (fun _ _ _ h => h) (Or.inl ⟨by rfl, ?_⟩) (by assumption) ?_
          rotate_left
          · intro w hSw; (try dsimp only at hSw); go_simp; (try (with_reducible rfl))
          try simp only [Act.put, List.setIfInBounds_toArray, List.set_cons_zero, List.set_cons_succ]
          replace pc := pc.below b
          replace pz := pz.below b
          replace bw := bw.trans (b.mono bw.size)
          clear hcd hcz hcc HSU d bx b3
          have z0 := pq.cell 0
          have z1 := pq.cell 1
          have z2 := pq.cell 2
          have z3 := pq.cell 3
          have f0 := pq.frozen 0
          have f1 := pq.frozen 1
          have f2 := pq.frozen 2
          have f3 := pq.frozen 3
          have pqS := ((((pq.set_ 0 (.int .i64 v1)).set_ 1 (.int .i64 h1)).set_ 2 (.int .i64 e1)).set_ 3 (.int .i64 a1'))
          simp only [List.getElem?_cons_zero, List.getElem?_cons_succ, List.set_cons_zero, List.set_cons_succ] at z0 z1 z2 z3 pqS
          have gs := sets4 w3 wr.heap.size (.int .i64 v1) (.int .i64 h1) (.int .i64 e1) (.int .i64 a1')
          have bwS := bw.trans (below_grown bw.size (far13 (by omega)) gs)
          have pcS := pc.grown gs (by intro e; injection e with e; omega)
          have pzS := pz.grown gs (by intro e; injection e with e; omega)
          have bS : Below wr.heap.size wr ((((w3.setCell ⟨wr.heap.size, 0, none⟩ (.int .i64 v1)).setCell ⟨wr.heap.size, 1, none⟩ (.int .i64 h1)).setCell ⟨wr.heap.size, 2, none⟩ (.int .i64 e1)).setCell ⟨wr.heap.size, 3, none⟩ (.int .i64 a1')) := b.trans (below_grown b.size (far13 (by omega)) gs)
          refine wpAnyH_ready (rs := [13]) (by kernel_rfl) (by simp) ?_
          refine AllReadyH.cons (o := ⟨_, _, _, _, _, _⟩) rfl (fun K hK => ?_) AllReadyH.nil
          go_simp
          refine hK.out _ _ (HS _ bS) (fun hHeld => ?_)
          clear hK K
          try simp only [Act.put, List.setIfInBounds_toArray, List.set_cons_zero, List.set_cons_succ]
          refine wpAnyH_ready (rs := [14]) (by kernel_rfl) (by simp) ?_
          refine AllReadyH.cons (o := ⟨_, _, _, _, _, _⟩) rfl (fun K hK => ?_) AllReadyH.nil
          go_simp
          refine hK.out _ _ hHeld (fun hHeld => ?_)
          clear hK K
          try simp only [Act.put, List.setIfInBounds_toArray, List.set_cons_zero, List.set_cons_succ]
          refine wpAnyH_done (by kernel_rfl) ?_ _
          clear pq pc pz b bS bw z0 z1 z2 z3 f0 f1 f2 f3 gs hHeld
          have pq := pqS
          have pc := pcS
          have pz := pzS
          have bw := bwS
          clear pqS pcS pzS bwS
          generalize ((((w3.setCell ⟨wr.heap.size, 0, none⟩ (.int .i64 v1)).setCell ⟨wr.heap.size, 1, none⟩ (.int .i64 h1)).setCell ⟨wr.heap.size, 2, none⟩ (.int .i64 e1)).setCell ⟨wr.heap.size, 3, none⟩ (.int .i64 a1')) = wE at *
          clear q0 q1 q2 q3 m0 m1 m2 m3 m4 m5 m6 m7 hmj hm hor hhr
          by_cases hE : E = 0
          · subst hE
            have HT2 := hid (HTO.out rfl)
            clear HST HTO HAC
            have y0 := pq.cell 0
            have y1 := pq.cell 1
            have y2 := pq.cell 2
            have y3 := pq.cell 3
            simp only [List.getElem?_cons_zero, List.getElem?_cons_succ] at y0 y1 y2 y3
            have z0 := pc.cell 0
            have z1 := pc.cell 1
            have z2 := pc.cell 2
            have z3 := pc.cell 3
            have f0 := pc.frozen 0
            have f1 := pc.frozen 1
            have f2 := pc.frozen 2
            have f3 := pc.frozen 3
            have pcS := ((((pc.set_ 0 (.int .i64 v1)).set_ 1 (.int .i64 h1)).set_ 2 (.int .i64 e1)).set_ 3 (.int .i64 a1'))
            simp only [List.getElem?_cons_zero, List.getElem?_cons_succ, List.set_cons_zero, List.set_cons_succ] at z0 z1 z2 z3 pcS
            have gs := sets4 wE w.heap.size (.int .i64 v1) (.int .i64 h1) (.int .i64 e1) (.int .i64 a1')
            have bwS := bw.trans (below_grown bw.size (far13 (by omega)) gs)
            have pzS := pz.grown gs (by intro e; injection e with e; omega)
            clear gs pc pz pq bw
            go_wp2
            go_roundw
            case rel => exact ⟨j + 1, HJ.out, by go_num, HT2, by rw [HX1.out]; exact pcS, pzS, bwS⟩
            case measure => have := HJ.out; simp [intOf]; omega
          · have HF := hid (HST.out hE)
            have hEb : (E != 0) = true := by simp [hE]
            clear HST HTO HAC
            have y0 := pc.cell 0
            have y1 := pc.cell 1
            have y2 := pc.cell 2
            have y3 := pc.cell 3
            simp only [List.getElem?_cons_zero, List.getElem?_cons_succ] at y0 y1 y2 y3
            have z0 := pz.cell 0
            have z1 := pz.cell 1
            have z2 := pz.cell 2
            have z3 := pz.cell 3
            have f0 := pz.frozen 0
            have f1 := pz.frozen 1
            have f2 := pz.frozen 2
            have f3 := pz.frozen 3
            have ks := ((((pz.set_ 0 (.int .i64 x1)).set_ 1 (.int .i64 x2)).set_ 2 (.int .i64 x3)).set_ 3 (.int .i64 x4))
            simp only [List.getElem?_cons_zero, List.getElem?_cons_succ, List.set_cons_zero, List.set_cons_succ] at z0 z1 z2 z3 ks
            have gs := sets4 wE (w.heap.size + 1) (.int .i64 x1) (.int .i64 x2) (.int .i64 x3) (.int .i64 x4)
            have bwS := bw.trans (below_grown bw.size (far13 (by omega)) gs)
            have r0 := ks.cell 0
            have r1 := ks.cell 1
            have r2 := ks.cell 2
            have r3 := ks.cell 3
            simp only [List.getElem?_cons_zero, List.getElem?_cons_succ] at r0 r1 r2 r3
            clear ks gs pc pz pq bw
            go_wp2
            refine bodyPost_ret (v := .tuple #[.agg #[.int .i64 x1, .int .i64 x2, .int .i64 x3, .int .i64 x4], .int .i64 j, .int .i64 E]) (by simp [results, Tryd.results15, go_sem, r0, r1, r2, r3]) rfl ?_
            exact ⟨⟨x1, x2, x3, x4⟩, j, E, rfl, HF.out, bwS⟩
    · have hjn2 : j = N := by omega
      have hnl : ¬ (j : Int) < N := by omega
      have HF := hid (fol_end (u := (⟨v0, h0, e0, a0⟩ : Cur)) (au := au) (l := ms) (hd := hd) (own := own) (by rw [← HN.out, ← hjn2]; exact HA.out))
      rw [← HN.out, ← hjn2] at HF
      generalize curAt (⟨v0, h0, e0, a0⟩ : Cur) au ms hd own j = X at *
      subst hjn2
      obtain ⟨v1, h1, e1, a1'⟩ := X
      dsimp only at *
      have z0 := pz.cell 0
      have z1 := pz.cell 1
      have z2 := pz.cell 2
      have z3 := pz.cell 3
      have f0 := pz.frozen 0
      have f1 := pz.frozen 1
      have f2 := pz.frozen 2
      have f3 := pz.frozen 3
      have ks := ((((pz.set_ 0 (.int .i64 v1)).set_ 1 (.int .i64 h1)).set_ 2 (.int .i64 e1)).set_ 3 (.int .i64 a1'))
      simp only [List.getElem?_cons_zero, List.getElem?_cons_succ, List.set_cons_zero, List.set_cons_succ] at z0 z1 z2 z3 ks
      have gs := sets4 wr (w.heap.size + 1) (.int .i64 v1) (.int .i64 h1) (.int .i64 e1) (.int .i64 a1')
      have bwS := bw.trans (below_grown bw.size (far13 (by omega)) gs)
      have r0 := ks.cell 0
      have r1 := ks.cell 1
      have r2 := ks.cell 2
      have r3 := ks.cell 3
      simp only [List.getElem?_cons_zero, List.getElem?_cons_succ] at r0 r1 r2 r3
      clear ks gs pc pz bw hm hor hhr
      go_wp2
      refine bodyPost_ret (v := .tuple #[.agg #[.int .i64 v1, .int .i64 h1, .int .i64 e1, .int .i64 a1'], .int .i64 j, .int .i64 0]) (by simp [results, Tryd.results15, go_sem, r0, r1, r2, r3]) rfl ?_
      exact ⟨⟨v1, h1, e1, a1'⟩, j, 0, rfl, HF.out, bwS⟩
end Go.Proofs.YteimgnmjmpeobaaDoor
namespace Go.Proofs.YteimgnmjmpeobaaDoor
open Go.RowKit

/-- What the document's Next answers. -/
def RNextPost (w : World) (u : Cur) (au : Int) (t : Bool) (p : Cur) (ps : List Pce) (e : Ending) (w' : World) : Prop :=
  ∃ A c, e = .returned (.tuple #[manV (nextA u au t p ps) A c, .int .i64 (nextN u au t p ps)]) ∧ Mt w' A c (nextA u au t p ps) ∧ Below w.heap.size w w'
theorem rnext_zero {w w' : World} {u p : Cur} {au n : Int} {t : Bool} {ps : List Pce} (hn : nextN u au t p ps = n) (h0 : n ≠ 0) (hb : Below w.heap.size w w') : RNextPost w u au t p ps (.returned (.tuple #[.agg #[.int .i64 0, .int .i64 0, .int .i64 0, .int .i64 0, .int .i64 0, .int .i64 0, .int .i64 0, .slice none 0 0], .int .i64 n])) w' := by
  obtain ⟨-, e⟩ := next_no (c := u) (p := p) (au := au) (t := t) (ps := ps) (by rw [hn]; exact h0)
  unfold RNextPost
  rw [e, hn]
  exact ⟨none, 0, rfl, ⟨.inl rfl, Nat.le_refl _, by unfold maxLen; omega⟩, hb⟩
set_option maxHeartbeats 8000000 in
set_option maxRecDepth 20000 in
theorem rnext_any {w : World} {A : Option Addr} {n c : Nat} {ps : List Pce} (u : Cur) (au : Int) (t : Bool) (p : Cur) (hp : PcsAt w A ps) (hn : ps.length = n) (hnc : n ≤ c) (hc : c ≤ maxLen) (hs : ∀ x ∈ ps, x.path.size < 4294967281) (hcv : -9223372036854775808 ≤ u.v) (hce : -9223372036854775808 ≤ u.e) :
    Calls Tryd.prog 17 #[curV u, .int .i64 au, .bool t, curV p, .slice A n c] w (RNextPost w u au t p ps) := by
  have hal : ∀ (W : World) (o : Obj), Below W.heap.size W (W.alloc o) := fun W o => (Below.refl _ _).alloc (Nat.le_refl _) o
  subst hn
  obtain ⟨v, h, e, a⟩ := u
  obtain ⟨v2, h2, e2, a2⟩ := p
  dsimp only at hcv hce
  have b1 := hal w (.cells #[.int .i64 v, .int .i64 h, .int .i64 e, .int .i64 a] 23)
  have b2 := hal (w.alloc (.cells #[.int .i64 v, .int .i64 h, .int .i64 e, .int .i64 a] 23)) (.cells #[.int .i64 v2, .int .i64 h2, .int .i64 e2, .int .i64 a2] 23)
  have b3 := hal ((w.alloc (.cells #[.int .i64 v, .int .i64 h, .int .i64 e, .int .i64 a] 23)).alloc (.cells #[.int .i64 v2, .int .i64 h2, .int .i64 e2, .int .i64 a2] 23)) (.cells #[.int .i64 0, .int .i64 0, .int .i64 0, .int .i64 0, .int .i64 0, .int .i64 0, .int .i64 0, .slice none 0 0] 26)
  have pz := Blk.new ((w.alloc (.cells #[.int .i64 v, .int .i64 h, .int .i64 e, .int .i64 a] 23)).alloc (.cells #[.int .i64 v2, .int .i64 h2, .int .i64 e2, .int .i64 a2] 23)) [.int .i64 0, .int .i64 0, .int .i64 0, .int .i64 0, .int .i64 0, .int .i64 0, .int .i64 0, .slice none 0 0] 26
  simp only [World.size_alloc] at pz
  have bw := below2 (below2 b1 b2) b3
  cases t
  · by_cases hfull : 200 ≤ v ∨ 100 < e
    · have HN : Hid (nextN (⟨v, h, e, a⟩ : Cur) au false (⟨v2, h2, e2, a2⟩ : Cur) ps = 2) := hid (next_two (by simpa [bitI] using hfull)).1
      have bwF := below2 bw (hal (((w.alloc (.cells #[.int .i64 v, .int .i64 h, .int .i64 e, .int .i64 a] 23)).alloc (.cells #[.int .i64 v2, .int .i64 h2, .int .i64 e2, .int .i64 a2] 23)).alloc (.cells #[.int .i64 0, .int .i64 0, .int .i64 0, .int .i64 0, .int .i64 0, .int .i64 0, .int .i64 0, .slice none 0 0] 26)) (.cells #[.int .i64 au, .int .i64 0, .int .i64 h, .int .i64 e, .int .i64 e, .int .i64 v2, .int .i64 h2, .slice A ps.length c] 26))
      by_cases h200 : 200 ≤ v
      · go_enter Tryd.func17, Tryd.ntmps17
        go_wp2
        go_returns
        exact rnext_zero HN.out (by decide) bwF
      · have hlim : 100 < e := by omega
        go_enter Tryd.func17, Tryd.ntmps17
        go_wp2
        go_returns
        exact rnext_zero HN.out (by decide) bwF
    · have h200 : v < 200 := by omega
      have hlim : e ≤ 100 := by omega
      have HFU := hid (show ¬ (200 ≤ ((⟨v, h, e, a⟩ : Cur)).v ∨ 100 - bitI false < ((⟨v, h, e, a⟩ : Cur)).e) by simpa [bitI] using hfull)
      have b4 := hal (((w.alloc (.cells #[.int .i64 v, .int .i64 h, .int .i64 e, .int .i64 a] 23)).alloc (.cells #[.int .i64 v2, .int .i64 h2, .int .i64 e2, .int .i64 a2] 23)).alloc (.cells #[.int .i64 0, .int .i64 0, .int .i64 0, .int .i64 0, .int .i64 0, .int .i64 0, .int .i64 0, .slice none 0 0] 26)) (.cells #[.int .i64 au, .int .i64 (v + 1), .int .i64 h, .int .i64 e, .int .i64 e, .int .i64 v2, .int .i64 h2, .slice A ps.length c] 26)
      have pm := Blk.new (((w.alloc (.cells #[.int .i64 v, .int .i64 h, .int .i64 e, .int .i64 a] 23)).alloc (.cells #[.int .i64 v2, .int .i64 h2, .int .i64 e2, .int .i64 a2] 23)).alloc (.cells #[.int .i64 0, .int .i64 0, .int .i64 0, .int .i64 0, .int .i64 0, .int .i64 0, .int .i64 0, .slice none 0 0] 26)) [.int .i64 au, .int .i64 (v + 1), .int .i64 h, .int .i64 e, .int .i64 e, .int .i64 v2, .int .i64 h2, .slice A ps.length c] 26
      simp only [World.size_alloc] at pm
      have hw4 : Below w.heap.size w ((((w.alloc (.cells #[.int .i64 v, .int .i64 h, .int .i64 e, .int .i64 a] 23)).alloc (.cells #[.int .i64 v2, .int .i64 h2, .int .i64 e2, .int .i64 a2] 23)).alloc (.cells #[.int .i64 0, .int .i64 0, .int .i64 0, .int .i64 0, .int .i64 0, .int .i64 0, .int .i64 0, .slice none 0 0] 26)).alloc (.cells #[.int .i64 au, .int .i64 (v + 1), .int .i64 h, .int .i64 e, .int .i64 e, .int .i64 v2, .int .i64 h2, .slice A ps.length c] 26)) := below2 bw (hal (((w.alloc (.cells #[.int .i64 v, .int .i64 h, .int .i64 e, .int .i64 a] 23)).alloc (.cells #[.int .i64 v2, .int .i64 h2, .int .i64 e2, .int .i64 a2] 23)).alloc (.cells #[.int .i64 0, .int .i64 0, .int .i64 0, .int .i64 0, .int .i64 0, .int .i64 0, .int .i64 0, .slice none 0 0] 26)) (.cells #[.int .i64 au, .int .i64 (v + 1), .int .i64 h, .int .i64 e, .int .i64 e, .int .i64 v2, .int .i64 h2, .slice A ps.length c] 26))
      have pz4 := pz.below (hal (((w.alloc (.cells #[.int .i64 v, .int .i64 h, .int .i64 e, .int .i64 a] 23)).alloc (.cells #[.int .i64 v2, .int .i64 h2, .int .i64 e2, .int .i64 a2] 23)).alloc (.cells #[.int .i64 0, .int .i64 0, .int .i64 0, .int .i64 0, .int .i64 0, .int .i64 0, .int .i64 0, .slice none 0 0] 26)) (.cells #[.int .i64 au, .int .i64 (v + 1), .int .i64 h, .int .i64 e, .int .i64 e, .int .i64 v2, .int .i64 h2, .slice A ps.length c] 26))
      have hm4 : Mt ((((w.alloc (.cells #[.int .i64 v, .int .i64 h, .int .i64 e, .int .i64 a] 23)).alloc (.cells #[.int .i64 v2, .int .i64 h2, .int .i64 e2, .int .i64 a2] 23)).alloc (.cells #[.int .i64 0, .int .i64 0, .int .i64 0, .int .i64 0, .int .i64 0, .int .i64 0, .int .i64 0, .slice none 0 0] 26)).alloc (.cells #[.int .i64 au, .int .i64 (v + 1), .int .i64 h, .int .i64 e, .int .i64 e, .int .i64 v2, .int .i64 h2, .slice A ps.length c] 26)) A c ((⟨au, v + 1, h, e, e, v2, h2, ps⟩ : Man)) := ⟨hp.below hw4, hnc, hc⟩
      have HQX : Hid (nextM (⟨v, h, e, a⟩ : Cur) au false (⟨v2, h2, e2, a2⟩ : Cur) ps = (⟨au, v + 1, h, e, e, v2, h2, ps⟩ : Man)) := hid (by simp [nextM, bitI])
      have cc := rright12_any hm4 hs
      go_enter Tryd.func17, Tryd.ntmps17
      go_wp2_with fail
      refine cc.mono ?_
      clear cc
      generalize (((w.alloc (.cells #[.int .i64 v, .int .i64 h, .int .i64 e, .int .i64 a] 23)).alloc (.cells #[.int .i64 v2, .int .i64 h2, .int .i64 e2, .int .i64 a2] 23)).alloc (.cells #[.int .i64 0, .int .i64 0, .int .i64 0, .int .i64 0, .int .i64 0, .int .i64 0, .int .i64 0, .slice none 0 0] 26)).alloc (.cells #[.int .i64 au, .int .i64 (v + 1), .int .i64 h, .int .i64 e, .int .i64 e, .int .i64 v2, .int .i64 h2, .slice A ps.length c] 26) = w4 at *
      rintro _ w5 ⟨rfl, b5⟩
      simp only
      have hm5 := hm4.below b5
      replace pm := pm.below b5
      have pz5 := pz4.below b5
      have bw5 := below2 hw4 b5
      have hm5w : ∀ {W : World}, Below w.heap.size w W → Mt W A c ((⟨au, v + 1, h, e, e, v2, h2, ps⟩ : Man)) := fun hb => ⟨hp.below hb, hnc, hc⟩
      clear hm4 pz4 hw4 b5 bw pz hp
      have hgz : w.heap.size + 1 + 1 ≠ w.heap.size + 1 + 1 + 1 := by omega
      cases hR : manR ((⟨au, v + 1, h, e, e, v2, h2, ps⟩ : Man))
      · have HN : Hid (nextN (⟨v, h, e, a⟩ : Cur) au false (⟨v2, h2, e2, a2⟩ : Cur) ps = 4) := hid (next_four HFU.out (by rw [HQX.out]; exact hR)).1
        clear hR hm5
        have z0 := pz5.cell 0
        have z1 := pz5.cell 1
        have z2 := pz5.cell 2
        have z3 := pz5.cell 3
        have z4 := pz5.cell 4
        have z5 := pz5.cell 5
        have z6 := pz5.cell 6
        have z7 := pz5.cell 7
        have f0 := pz5.frozen 0
        have f1 := pz5.frozen 1
        have f2 := pz5.frozen 2
        have f3 := pz5.frozen 3
        have f4 := pz5.frozen 4
        have f5 := pz5.frozen 5
        have f6 := pz5.frozen 6
        have f7 := pz5.frozen 7
        have ks := ((((((((pz5.set_ 0 (.int .i64 0)).set_ 1 (.int .i64 0)).set_ 2 (.int .i64 0)).set_ 3 (.int .i64 0)).set_ 4 (.int .i64 0)).set_ 5 (.int .i64 0)).set_ 6 (.int .i64 0)).set_ 7 (.slice none 0 0))
        simp only [List.getElem?_cons_zero, List.getElem?_cons_succ, List.set_cons_zero, List.set_cons_succ] at z0 z1 z2 z3 z4 z5 z6 z7 ks
        have r0 := ks.cell 0
        have r1 := ks.cell 1
        have r2 := ks.cell 2
        have r3 := ks.cell 3
        have r4 := ks.cell 4
        have r5 := ks.cell 5
        have r6 := ks.cell 6
        have r7 := ks.cell 7
        simp only [List.getElem?_cons_zero, List.getElem?_cons_succ] at r0 r1 r2 r3 r4 r5 r6 r7
        have gs := sets8' w5 (w.heap.size + 1 + 1) (.int .i64 0) (.int .i64 0) (.int .i64 0) (.int .i64 0) (.int .i64 0) (.int .i64 0) (.int .i64 0) (.slice none 0 0)
        have bwS := bw5.trans (below_grown bw5.size (far13 (by omega)) gs)
        clear ks gs pz5 bw5 pm b4 b1 b2 b3
        go_wp2
        refine bodyPost_ret (v := .tuple #[.agg #[.int .i64 0, .int .i64 0, .int .i64 0, .int .i64 0, .int .i64 0, .int .i64 0, .int .i64 0, .slice none 0 0], .int .i64 4]) (by simp [results, Tryd.results17, go_sem, r0, r1, r2, r3, r4, r5, r6, r7]) rfl ?_
        exact rnext_zero HN.out (by decide) bwS
      · have HN := hid (next_yes HFU.out (by rw [HQX.out]; exact hR))
        clear hR b4 b1 b2 b3
        have q0 := pm.cell 0
        have q1 := pm.cell 1
        have q2 := pm.cell 2
        have q3 := pm.cell 3
        have q4 := pm.cell 4
        have q5 := pm.cell 5
        have q6 := pm.cell 6
        have q7 := pm.cell 7
        simp only [List.getElem?_cons_zero, List.getElem?_cons_succ] at q0 q1 q2 q3 q4 q5 q6 q7
        have hwl := bw5.size
        have z0 := pz5.cell 0
        have z1 := pz5.cell 1
        have z2 := pz5.cell 2
        have z3 := pz5.cell 3
        have z4 := pz5.cell 4
        have z5 := pz5.cell 5
        have z6 := pz5.cell 6
        have z7 := pz5.cell 7
        have f0 := pz5.frozen 0
        have f1 := pz5.frozen 1
        have f2 := pz5.frozen 2
        have f3 := pz5.frozen 3
        have f4 := pz5.frozen 4
        have f5 := pz5.frozen 5
        have f6 := pz5.frozen 6
        have f7 := pz5.frozen 7
        have ks := ((((((((pz5.set_ 0 (.int .i64 au)).set_ 1 (.int .i64 (v + 1))).set_ 2 (.int .i64 h)).set_ 3 (.int .i64 e)).set_ 4 (.int .i64 e)).set_ 5 (.int .i64 v2)).set_ 6 (.int .i64 h2)).set_ 7 (.slice A ps.length c))
        simp only [List.getElem?_cons_zero, List.getElem?_cons_succ, List.set_cons_zero, List.set_cons_succ] at z0 z1 z2 z3 z4 z5 z6 z7 ks
        have r0 := ks.cell 0
        have r1 := ks.cell 1
        have r2 := ks.cell 2
        have r3 := ks.cell 3
        have r4 := ks.cell 4
        have r5 := ks.cell 5
        have r6 := ks.cell 6
        have r7 := ks.cell 7
        simp only [List.getElem?_cons_zero, List.getElem?_cons_succ] at r0 r1 r2 r3 r4 r5 r6 r7
        have gs := sets8' w5 (w.heap.size + 1 + 1) (.int .i64 au) (.int .i64 (v + 1)) (.int .i64 h) (.int .i64 e) (.int .i64 e) (.int .i64 v2) (.int .i64 h2) (.slice A ps.length c)
        have bwS := bw5.trans (below_grown bw5.size (far13 (by omega)) gs)
        have hmS : Mt _ A c ((⟨au, v + 1, h, e, e, v2, h2, ps⟩ : Man)) := hm5w bwS
        clear ks gs pz5 bw5 pm hm5
        go_wp2
        refine bodyPost_ret (v := .tuple #[.agg #[.int .i64 au, .int .i64 (v + 1), .int .i64 h, .int .i64 e, .int .i64 e, .int .i64 v2, .int .i64 h2, .slice A ps.length c], .int .i64 0]) (by simp [results, Tryd.results17, go_sem, r0, r1, r2, r3, r4, r5, r6, r7]) rfl ?_
        refine ⟨A, c, ?_, ?_, bwS⟩
        · rw [HN.out.1, HN.out.2, HQX.out]
        · rw [HN.out.2, HQX.out]
          exact hmS
  · by_cases hfull : 200 ≤ v ∨ 99 < e
    · have HN : Hid (nextN (⟨v, h, e, a⟩ : Cur) au true (⟨v2, h2, e2, a2⟩ : Cur) ps = 2) := hid (next_two (by simpa [bitI] using hfull)).1
      have bwF := below2 bw (hal (((w.alloc (.cells #[.int .i64 v, .int .i64 h, .int .i64 e, .int .i64 a] 23)).alloc (.cells #[.int .i64 v2, .int .i64 h2, .int .i64 e2, .int .i64 a2] 23)).alloc (.cells #[.int .i64 0, .int .i64 0, .int .i64 0, .int .i64 0, .int .i64 0, .int .i64 0, .int .i64 0, .slice none 0 0] 26)) (.cells #[.int .i64 au, .int .i64 0, .int .i64 h, .int .i64 e, .int .i64 e, .int .i64 v2, .int .i64 h2, .slice A ps.length c] 26))
      by_cases h200 : 200 ≤ v
      · go_enter Tryd.func17, Tryd.ntmps17
        go_wp2
        go_returns
        exact rnext_zero HN.out (by decide) bwF
      · have hlim : 99 < e := by omega
        by_cases h101 : 100 < e
        · go_enter Tryd.func17, Tryd.ntmps17
          go_wp2
          go_returns
          exact rnext_zero HN.out (by decide) bwF
        · have h100 : e = 100 := by omega
          have hge : 100 ≤ e := by omega
          have hle : e ≤ 100 := by omega
          clear h100
          go_enter Tryd.func17, Tryd.ntmps17
          go_wp2
          go_returns
          exact rnext_zero HN.out (by decide) bwF
    · have h200 : v < 200 := by omega
      have hlim : e ≤ 99 := by omega
      have HFU := hid (show ¬ (200 ≤ ((⟨v, h, e, a⟩ : Cur)).v ∨ 100 - bitI true < ((⟨v, h, e, a⟩ : Cur)).e) by simpa [bitI] using hfull)
      have b4 := hal (((w.alloc (.cells #[.int .i64 v, .int .i64 h, .int .i64 e, .int .i64 a] 23)).alloc (.cells #[.int .i64 v2, .int .i64 h2, .int .i64 e2, .int .i64 a2] 23)).alloc (.cells #[.int .i64 0, .int .i64 0, .int .i64 0, .int .i64 0, .int .i64 0, .int .i64 0, .int .i64 0, .slice none 0 0] 26)) (.cells #[.int .i64 au, .int .i64 (v + 1), .int .i64 h, .int .i64 e, .int .i64 e, .int .i64 v2, .int .i64 h2, .slice A ps.length c] 26)
      have pm := Blk.new (((w.alloc (.cells #[.int .i64 v, .int .i64 h, .int .i64 e, .int .i64 a] 23)).alloc (.cells #[.int .i64 v2, .int .i64 h2, .int .i64 e2, .int .i64 a2] 23)).alloc (.cells #[.int .i64 0, .int .i64 0, .int .i64 0, .int .i64 0, .int .i64 0, .int .i64 0, .int .i64 0, .slice none 0 0] 26)) [.int .i64 au, .int .i64 (v + 1), .int .i64 h, .int .i64 e, .int .i64 (e + 1), .int .i64 v2, .int .i64 h2, .slice A ps.length c] 26
      simp only [World.size_alloc] at pm
      have hw4 : Below w.heap.size w ((((w.alloc (.cells #[.int .i64 v, .int .i64 h, .int .i64 e, .int .i64 a] 23)).alloc (.cells #[.int .i64 v2, .int .i64 h2, .int .i64 e2, .int .i64 a2] 23)).alloc (.cells #[.int .i64 0, .int .i64 0, .int .i64 0, .int .i64 0, .int .i64 0, .int .i64 0, .int .i64 0, .slice none 0 0] 26)).alloc (.cells #[.int .i64 au, .int .i64 (v + 1), .int .i64 h, .int .i64 e, .int .i64 (e + 1), .int .i64 v2, .int .i64 h2, .slice A ps.length c] 26)) := below2 bw (hal (((w.alloc (.cells #[.int .i64 v, .int .i64 h, .int .i64 e, .int .i64 a] 23)).alloc (.cells #[.int .i64 v2, .int .i64 h2, .int .i64 e2, .int .i64 a2] 23)).alloc (.cells #[.int .i64 0, .int .i64 0, .int .i64 0, .int .i64 0, .int .i64 0, .int .i64 0, .int .i64 0, .slice none 0 0] 26)) (.cells #[.int .i64 au, .int .i64 (v + 1), .int .i64 h, .int .i64 e, .int .i64 (e + 1), .int .i64 v2, .int .i64 h2, .slice A ps.length c] 26))
      have pz4 := pz.below (hal (((w.alloc (.cells #[.int .i64 v, .int .i64 h, .int .i64 e, .int .i64 a] 23)).alloc (.cells #[.int .i64 v2, .int .i64 h2, .int .i64 e2, .int .i64 a2] 23)).alloc (.cells #[.int .i64 0, .int .i64 0, .int .i64 0, .int .i64 0, .int .i64 0, .int .i64 0, .int .i64 0, .slice none 0 0] 26)) (.cells #[.int .i64 au, .int .i64 (v + 1), .int .i64 h, .int .i64 e, .int .i64 (e + 1), .int .i64 v2, .int .i64 h2, .slice A ps.length c] 26))
      have hm4 : Mt ((((w.alloc (.cells #[.int .i64 v, .int .i64 h, .int .i64 e, .int .i64 a] 23)).alloc (.cells #[.int .i64 v2, .int .i64 h2, .int .i64 e2, .int .i64 a2] 23)).alloc (.cells #[.int .i64 0, .int .i64 0, .int .i64 0, .int .i64 0, .int .i64 0, .int .i64 0, .int .i64 0, .slice none 0 0] 26)).alloc (.cells #[.int .i64 au, .int .i64 (v + 1), .int .i64 h, .int .i64 e, .int .i64 (e + 1), .int .i64 v2, .int .i64 h2, .slice A ps.length c] 26)) A c ((⟨au, v + 1, h, e, (e + 1), v2, h2, ps⟩ : Man)) := ⟨hp.below hw4, hnc, hc⟩
      have HQX : Hid (nextM (⟨v, h, e, a⟩ : Cur) au true (⟨v2, h2, e2, a2⟩ : Cur) ps = (⟨au, v + 1, h, e, (e + 1), v2, h2, ps⟩ : Man)) := hid (by simp [nextM, bitI])
      have cc := rright12_any hm4 hs
      go_enter Tryd.func17, Tryd.ntmps17
      go_wp2_with fail
      refine cc.mono ?_
      clear cc
      generalize (((w.alloc (.cells #[.int .i64 v, .int .i64 h, .int .i64 e, .int .i64 a] 23)).alloc (.cells #[.int .i64 v2, .int .i64 h2, .int .i64 e2, .int .i64 a2] 23)).alloc (.cells #[.int .i64 0, .int .i64 0, .int .i64 0, .int .i64 0, .int .i64 0, .int .i64 0, .int .i64 0, .slice none 0 0] 26)).alloc (.cells #[.int .i64 au, .int .i64 (v + 1), .int .i64 h, .int .i64 e, .int .i64 (e + 1), .int .i64 v2, .int .i64 h2, .slice A ps.length c] 26) = w4 at *
      rintro _ w5 ⟨rfl, b5⟩
      simp only
      have hm5 := hm4.below b5
      replace pm := pm.below b5
      have pz5 := pz4.below b5
      have bw5 := below2 hw4 b5
      have hm5w : ∀ {W : World}, Below w.heap.size w W → Mt W A c ((⟨au, v + 1, h, e, (e + 1), v2, h2, ps⟩ : Man)) := fun hb => ⟨hp.below hb, hnc, hc⟩
      clear hm4 pz4 hw4 b5 bw pz hp
      have hgz : w.heap.size + 1 + 1 ≠ w.heap.size + 1 + 1 + 1 := by omega
      cases hR : manR ((⟨au, v + 1, h, e, (e + 1), v2, h2, ps⟩ : Man))
      · have HN : Hid (nextN (⟨v, h, e, a⟩ : Cur) au true (⟨v2, h2, e2, a2⟩ : Cur) ps = 4) := hid (next_four HFU.out (by rw [HQX.out]; exact hR)).1
        clear hR hm5
        have z0 := pz5.cell 0
        have z1 := pz5.cell 1
        have z2 := pz5.cell 2
        have z3 := pz5.cell 3
        have z4 := pz5.cell 4
        have z5 := pz5.cell 5
        have z6 := pz5.cell 6
        have z7 := pz5.cell 7
        have f0 := pz5.frozen 0
        have f1 := pz5.frozen 1
        have f2 := pz5.frozen 2
        have f3 := pz5.frozen 3
        have f4 := pz5.frozen 4
        have f5 := pz5.frozen 5
        have f6 := pz5.frozen 6
        have f7 := pz5.frozen 7
        have ks := ((((((((pz5.set_ 0 (.int .i64 0)).set_ 1 (.int .i64 0)).set_ 2 (.int .i64 0)).set_ 3 (.int .i64 0)).set_ 4 (.int .i64 0)).set_ 5 (.int .i64 0)).set_ 6 (.int .i64 0)).set_ 7 (.slice none 0 0))
        simp only [List.getElem?_cons_zero, List.getElem?_cons_succ, List.set_cons_zero, List.set_cons_succ] at z0 z1 z2 z3 z4 z5 z6 z7 ks
        have r0 := ks.cell 0
        have r1 := ks.cell 1
        have r2 := ks.cell 2
        have r3 := ks.cell 3
        have r4 := ks.cell 4
        have r5 := ks.cell 5
        have r6 := ks.cell 6
        have r7 := ks.cell 7
        simp only [List.getElem?_cons_zero, List.getElem?_cons_succ] at r0 r1 r2 r3 r4 r5 r6 r7
        have gs := sets8' w5 (w.heap.size + 1 + 1) (.int .i64 0) (.int .i64 0) (.int .i64 0) (.int .i64 0) (.int .i64 0) (.int .i64 0) (.int .i64 0) (.slice none 0 0)
        have bwS := bw5.trans (below_grown bw5.size (far13 (by omega)) gs)
        clear ks gs pz5 bw5 pm b4 b1 b2 b3
        go_wp2
        refine bodyPost_ret (v := .tuple #[.agg #[.int .i64 0, .int .i64 0, .int .i64 0, .int .i64 0, .int .i64 0, .int .i64 0, .int .i64 0, .slice none 0 0], .int .i64 4]) (by simp [results, Tryd.results17, go_sem, r0, r1, r2, r3, r4, r5, r6, r7]) rfl ?_
        exact rnext_zero HN.out (by decide) bwS
      · have HN := hid (next_yes HFU.out (by rw [HQX.out]; exact hR))
        clear hR b4 b1 b2 b3
        have q0 := pm.cell 0
        have q1 := pm.cell 1
        have q2 := pm.cell 2
        have q3 := pm.cell 3
        have q4 := pm.cell 4
        have q5 := pm.cell 5
        have q6 := pm.cell 6
        have q7 := pm.cell 7
        simp only [List.getElem?_cons_zero, List.getElem?_cons_succ] at q0 q1 q2 q3 q4 q5 q6 q7
        have hwl := bw5.size
        have z0 := pz5.cell 0
        have z1 := pz5.cell 1
        have z2 := pz5.cell 2
        have z3 := pz5.cell 3
        have z4 := pz5.cell 4
        have z5 := pz5.cell 5
        have z6 := pz5.cell 6
        have z7 := pz5.cell 7
        have f0 := pz5.frozen 0
        have f1 := pz5.frozen 1
        have f2 := pz5.frozen 2
        have f3 := pz5.frozen 3
        have f4 := pz5.frozen 4
        have f5 := pz5.frozen 5
        have f6 := pz5.frozen 6
        have f7 := pz5.frozen 7
        have ks := ((((((((pz5.set_ 0 (.int .i64 au)).set_ 1 (.int .i64 (v + 1))).set_ 2 (.int .i64 h)).set_ 3 (.int .i64 e)).set_ 4 (.int .i64 (e + 1))).set_ 5 (.int .i64 v2)).set_ 6 (.int .i64 h2)).set_ 7 (.slice A ps.length c))
        simp only [List.getElem?_cons_zero, List.getElem?_cons_succ, List.set_cons_zero, List.set_cons_succ] at z0 z1 z2 z3 z4 z5 z6 z7 ks
        have r0 := ks.cell 0
        have r1 := ks.cell 1
        have r2 := ks.cell 2
        have r3 := ks.cell 3
        have r4 := ks.cell 4
        have r5 := ks.cell 5
        have r6 := ks.cell 6
        have r7 := ks.cell 7
        simp only [List.getElem?_cons_zero, List.getElem?_cons_succ] at r0 r1 r2 r3 r4 r5 r6 r7
        have gs := sets8' w5 (w.heap.size + 1 + 1) (.int .i64 au) (.int .i64 (v + 1)) (.int .i64 h) (.int .i64 e) (.int .i64 (e + 1)) (.int .i64 v2) (.int .i64 h2) (.slice A ps.length c)
        have bwS := bw5.trans (below_grown bw5.size (far13 (by omega)) gs)
        have hmS : Mt _ A c ((⟨au, v + 1, h, e, (e + 1), v2, h2, ps⟩ : Man)) := hm5w bwS
        clear ks gs pz5 bw5 pm hm5
        go_wp2
        refine bodyPost_ret (v := .tuple #[.agg #[.int .i64 au, .int .i64 (v + 1), .int .i64 h, .int .i64 e, .int .i64 (e + 1), .int .i64 v2, .int .i64 h2, .slice A ps.length c], .int .i64 0]) (by simp [results, Tryd.results17, go_sem, r0, r1, r2, r3, r4, r5, r6, r7]) rfl ?_
        refine ⟨A, c, ?_, ?_, bwS⟩
        · rw [HN.out.1, HN.out.2, HQX.out]
        · rw [HN.out.2, HQX.out]
          exact hmS
end Go.Proofs.YteimgnmjmpeobaaDoor
