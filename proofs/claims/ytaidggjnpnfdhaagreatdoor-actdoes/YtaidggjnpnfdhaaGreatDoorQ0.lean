/- The texts Ud, Op, Oq, Or, Rs, in one. -/
import Derived.Test.YtaidggjnpnfdhaaGreatDoorP5
import Derived.Deep.RegionHeld3
import Derived.Deep.DeepCutAuto
import Derived.BigQuiet
import Derived.Deep.QuietTactic
namespace Go.Proofs.YtaidggjnpnfdhaaGreatDoor
open Go.RowKit

theorem OwnR.mono {base base' : Nat} {w : World} {A : Option Addr} {n c : Nat} {fs : List Fil} (h : OwnR base w A n c fs) (hb : base' ≤ base) : OwnR base' w A n c fs := by
  refine ⟨h.1, h.2.1, ?_⟩
  rcases h.2.2 with h2 | ⟨g, cap, cur, h2, h3, h4⟩
  · exact .inl h2
  · exact .inr ⟨g, cap, cur, h2, by omega, h4⟩
theorem OwnR.alloc {base : Nat} {w : World} {A : Option Addr} {n c : Nat} {fs : List Fil} (h : OwnR base w A n c fs) (o : Obj) : OwnR base (w.alloc o) A n c fs := ⟨h.1, h.2.alloc o⟩
theorem OwnR.at_ {base : Nat} {w : World} {A : Option Addr} {n c : Nat} {fs : List Fil} (h : OwnR base w A n c fs) (hn : 0 < n) : ∃ g, A = some ⟨g, 0, none⟩ ∧ base ≤ g := by
  rcases h.2.2 with ⟨hv, h0⟩ | ⟨g, cap, cur, hv, hg, _⟩
  · omega
  · injection hv with a1 a2 a3
    exact ⟨g, a1, hg⟩
theorem Rd.apart {w w' : World} {g k : Nat} {xs : List Value} (h : Rd w (some ⟨g, 0, none⟩) xs) (hg : w.grownBy w' (some k)) (hne : g ≠ k) : Rd w' (some ⟨g, 0, none⟩) xs := by
  rcases h with rfl | ⟨ad, he, hc⟩
  · exact .inl rfl
  · injection he with he
    subst he
    refine .inr ⟨_, rfl, fun j u hu => ?_⟩
    have h1 := hc j u hu
    rw [Addr.add_lit] at h1 ⊢
    exact (World.cell?_of_block (hg.block g (World.block_lt_of_cell? _ _ h1) (fun e => hne (by injection e)))).trans h1
theorem clash_at {fs : List Fil} {p : List UInt8} (h : ∀ i (hi : i < fs.length), underL p (pth fs[i]) = false ∧ underL (pth fs[i]) p = false) : clashT fs p = false :=
  clash_no.2 fun f hf => by
    obtain ⟨i, hi, rfl⟩ := List.mem_iff_getElem.1 hf
    exact ⟨(h i hi).2, (h i hi).1⟩
theorem clash_yes {fs : List Fil} {p : List UInt8} {i : Nat} (hi : i < fs.length) (h : underL p (pth fs[i]) = true ∨ underL (pth fs[i]) p = true) : clashT fs p = true := by
  refine List.any_eq_true.2 ⟨fs[i], List.getElem_mem hi, ?_⟩
  unfold clashL
  rw [Bool.or_eq_true]
  exact h.symm

set_option maxHeartbeats 1000000 in
set_option maxRecDepth 10000 in
theorem refPut {w : World} {A : Option Addr} {n c : Nat} {fs : List Fil} (h : Ft w A n c fs) (p d : ByteArray) (hp : p.size < 4294967281) (hd : d.size ≤ 140737488355328) :
    Calls Tryz.prog 29 #[.slice A n c, .string p, .string d] w (OutR w (putT fs p d) (putE fs p d)) := by
  go_enter Tryz.func29, Tryz.ntmps29
  go_wp2_with fail
  refine (refTree h).mono ?_
  rintro e w1 ⟨rfl, b1⟩
  cases hR : treeR fs
  · have HE := hid (putE_arg (p := p) (d := d) hR)
    clear hR
    go_wp2
    go_ret2
    exact outR_err HE.out (putT_err HE.out (by decide)) b1
  have HR := hid hR
  have hT := (treeR_iff fs).1 hR
  have h1 := h.below b1
  clear hR h
  go_wp2_with fail
  refine (refRight p _ hp).mono ?_
  rintro e w2 ⟨rfl, hb2⟩
  have h2 := h1.below hb2
  have b2 := below2 b1 hb2
  clear h1 b1 hb2
  cases hr : rightL p.data.toList
  · have HE := hid (putE_name (p := p) (d := d) HR.out (.inl hr))
    clear hr
    go_wp2
    go_ret2
    exact outR_err HE.out (putT_err HE.out (by decide)) b2
  have HP := hid hr
  clear hr
  have hn16 : n ≤ 16 := by have := hT.few; have := h2.len; omega
  have HLN := hid h2.len
  have HSZ := hid h2.sz
  go_wp2_with fail
  go_loopw [9] (fun v wr => ∃ j : Nat, j ≤ n ∧ v = .int .i64 j ∧ Hid (∀ i (hi : i < fs.length), i < j → underL p.data.toList (pth fs[i]) = false ∧ underL (pth fs[i]) p.data.toList = false) ∧ Ft wr A n c fs ∧ Below w.heap.size w wr) (fun v _ => n - (intOf v).toNat)
  case atStart => exact ⟨0, by omega, rfl, hid (fun i _ h => absurd h (by omega)), h2, b2⟩
  case round =>
    clear h2 b2
    obtain ⟨j, hj, rfl, HO, h3, b3⟩ := hrel
    by_cases hjn : j < n
    · have hjl : j < fs.length := by rw [HLN.out]; exact hjn
      obtain ⟨b, off, rfl, k1, -, -⟩ := h3.rd.fil hjl
      have hz : (0 : Int) ≤ j := by omega
      have hlt : (j : Int) < n := by omega
      have hsx := (HSZ.out fs[j] (List.getElem_mem hjl)).1
      obtain ⟨x, hx⟩ : ∃ x, fs[j].1 = x := ⟨_, rfl⟩
      have HX := hid (show pth fs[j] = x.data.toList by rw [pth, hx])
      rw [hx] at k1 hsx
      clear hx
      go_wp2_with fail
      refine (refUnder p x _ hp hsx).mono ?_
      rintro e w4 ⟨rfl, hb4⟩
      have k2 := (hb4.cell (p := ⟨b, off + j * 2, none⟩) (World.block_lt_of_cell? _ _ k1)).trans k1
      have h4 := h3.below hb4
      have b4 := below2 b3 hb4
      clear h3 b3 hb4 k1
      cases hu : underL p.data.toList x.data.toList
      · have HU := hid hu
        clear hu
        go_wp2_with fail
        refine (refUnder x p _ hsx hp).mono ?_
        rintro e w5 ⟨rfl, hb5⟩
        have h5 := h4.below hb5
        have b5 := below2 b4 hb5
        clear h4 b4 hb5 k2
        cases hv : underL x.data.toList p.data.toList
        · have HV := hid hv
          clear hv
          go_wp2
          go_roundw
          case rel =>
            refine ⟨j + 1, by omega, by go_num, hid (fun i hi hij => ?_), h5, b5⟩
            by_cases e : i = j
            · subst e
              rw [HX.out]
              exact ⟨HU.out, HV.out⟩
            · exact HO.out i hi (by omega)
          case measure => simp [intOf]; omega
        · have HE := hid (putE_name (p := p) (d := d) HR.out (.inr (clash_yes hjl (.inr (by rw [HX.out]; exact hv)))))
          clear hv
          go_wp2
          go_ret2
          exact outR_err HE.out (putT_err HE.out (by decide)) b5
      · have HE := hid (putE_name (p := p) (d := d) HR.out (.inr (clash_yes hjl (.inl (by rw [HX.out]; exact hu)))))
        clear hu
        go_wp2
        go_ret2
        exact outR_err HE.out (putT_err HE.out (by decide)) b4
    have HC := hid (clash_at (p := p.data.toList) (fun i hi => HO.out i hi (by have := HLN.out; omega)))
    have hnlt : ¬ (j : Int) < n := by omega
    clear HO
    have c0 := refPos h3 hT.srt p
    unfold posT at c0
    have HZ := hid (@putE_zero fs p d)
    have HF := hid (@putE_full fs p d)
    cases ht : thereT fs p.data.toList
    · rw [ht, if_neg (by simp)] at c0
      go_wp2_with fail
      refine c0.mono ?_
      rintro e w5 ⟨rfl, rfl⟩
      clear c0
      by_cases h600 : (600 : Int) < d.size
      · have HE := hid (HF.out HR.out HP.out HC.out (.inl (by omega)))
        clear HF HZ
        go_wp2
        go_ret2
        exact outR_err HE.out (putT_err HE.out (by decide)) b3
      have h6b : decide ((600 : Int) < d.size) = false := by simp; omega
      by_cases h16 : (16 : Int) ≤ n
      · have HE := hid (HF.out HR.out HP.out HC.out (.inr ⟨ht, by rw [h3.len]; omega⟩))
        clear HF HZ
        go_wp2
        go_ret2
        exact outR_err HE.out (putT_err HE.out (by decide)) b3
      have h16b : decide ((16 : Int) ≤ n) = false := by simp; omega
      have HE := hid (HZ.out.2 ⟨hT, HP.out, HC.out, by omega, .inr (by rw [h3.len]; omega)⟩)
      obtain ⟨hlo, hhi⟩ := low_split hT.srt ht
      have HPL := hid (show fs.take (lowT fs p.data.toList).length ++ [(p, d)] ++ fs.drop (lowT fs p.data.toList).length = putL fs p d by rw [hlo, hhi, putL]; simp)
      have hkl : (lowT fs p.data.toList).length ≤ n := by rw [← h3.len]; exact low_len _
      have HLA := hid (fun i (hi : i < fs.length) => @low_at fs p.data.toList hT.srt i hi)
      clear hlo hhi ht HF HZ
      generalize (lowT fs p.data.toList).length = k at *
      have o0 : OwnR wr.heap.size (wr.alloc (.cells #[] 38)) (some ⟨wr.heap.size, 0, none⟩) 0 0 [] := OwnR.empty wr
      have q0 : Below wr.heap.size wr (wr.alloc (.cells #[] 38)) := (Below.refl _ _).alloc (Nat.le_refl _) _
      obtain ⟨A6, c6, w6, HR6, o6, g6⟩ := run_appF o0 A n c fs h3.len (h3.rd.below q0) (by omega) q0.size
      rw [Nat.zero_add] at HR6
      have q5 := q0.grown g6 q0.size o0.block
      have h6 := h3.below q5
      have b6 := below2 b3 q5
      have HTK := hid (show (fs.take k).length = k by rw [List.length_take, HLN.out]; omega)
      have HDK := hid (show (fs.drop k).length = n - k by rw [List.length_drop, HLN.out])
      clear o0 q0 o6 g6 q5 h3 b3
      go_upto_region 15 with (at_builtin; refine Lib.wpList_append_run _ rfl _ _ _ _ rfl _ _ rfl rfl _ _ (HR6.out _) ?_)
      have hrd := h6.rd
      have hcap := h6.cap
      clear h6
      have q6 : Below w6.heap.size w6 w6.drew := (Below.refl _ _).drew
      go_wp2_with fail
      go_loopw [12] (fun v wx => ∃ a : Nat, a ≤ k ∧ v = .int .i64 a ∧ w6 = wx) (fun v _ => k - (intOf v).toNat)
      case atStart => exact ⟨0, by omega, rfl, rfl⟩
      case round =>
        obtain ⟨a, ha, rfl, rfl⟩ := hrel
        by_cases hak : a < k
        · have hal : a < fs.length := by rw [HLN.out]; omega
          have hla := HLA.out a hal
          obtain ⟨b, off, rfl, k1, -, -⟩ := hrd.fil hal
          have haz : (0 : Int) ≤ a := by omega
          have han : (a : Int) < n := by omega
          unfold pth at hla
          rw [decide_eq_true hak, ← Lib.toList_data, ← Lib.toList_data] at hla
          go_wp2
          go_roundw
          case rel => exact ⟨a + 1, by omega, by go_num, by trivial⟩
          case measure => simp [intOf]; omega
        · have hka : k = a := by omega
          subst hka
          have hkz0 : (0 : Int) ≤ k := by omega
          have hkzn : (k : Int) ≤ n := by omega
          have hkzc : (k : Int) ≤ c := by omega
          by_cases hkn : k < n
          · have hal : k < fs.length := by rw [HLN.out]; omega
            have hla := HLA.out k hal
            obtain ⟨b, off, rfl, k1, -, -⟩ := hrd.fil hal
            have han : (k : Int) < n := by omega
            have hck : ¬ c = k := by omega
            unfold pth at hla
            rw [decide_eq_false (Nat.lt_irrefl k), ← Lib.toList_data, ← Lib.toList_data] at hla
            have HPO := hid (fun W (h : Rd W (some ⟨b, off, none⟩) (filV fs)) => (show Rd W (some ⟨b, off + k * 2, none⟩) (filV (fs.drop k)) by rw [filV_drop]; exact h.post (k * 2)))
            generalize hx : fs[k].1 = x at *
            clear hx
            go_upto_region 21 with (fail)
            clear k1 hla han
            refine wp_region_held_drew (S := fun _ => True) (by kernel_rfl) trivial (fun hHeld => ?_)
            refine wpAnyH_take (i := 1) (oi := ⟨_, _, _, _, _, _⟩) (v := ?_) rfl (by kernel_rfl) (by kernel_rfl) (by kernel_rfl) (fun _ _ _ h => h) (Or.inl ⟨by rfl, ?_⟩) (by assumption) ?_
            rotate_left
            · intro w hSw; (try dsimp only at hSw); go_simp; (try (with_reducible rfl))
            try simp only [Act.put, List.setIfInBounds_toArray, List.set_cons_zero, List.set_cons_succ]
            refine wpAnyH_take (i := 2) (oi := ⟨_, _, _, _, _, _⟩) (v := ?_) rfl (by kernel_rfl) (by kernel_rfl) (by kernel_rfl) (fun _ _ _ h => h) (Or.inl ⟨by rfl, ?_⟩) (by assumption) ?_
            rotate_left
            · intro w hSw; (try dsimp only at hSw); go_simp; (try (with_reducible rfl))
            try simp only [Act.put, List.setIfInBounds_toArray, List.set_cons_zero, List.set_cons_succ]
            refine wpAnyH_take (i := 3) (oi := ⟨_, _, _, _, _, _⟩) (v := ?_) rfl (by kernel_rfl) (by kernel_rfl) (by kernel_rfl) (fun _ _ _ h => h) (Or.inl ⟨by rfl, ?_⟩) (by assumption) ?_
            rotate_left
            · intro w hSw; (try dsimp only at hSw); go_simp; (try (with_reducible rfl))
            try simp only [Act.put, List.setIfInBounds_toArray, List.set_cons_zero, List.set_cons_succ]
            refine wpAnyH_take (i := 5) (oi := ⟨_, _, _, _, _, _⟩) (v := ?_) rfl (by kernel_rfl) (by kernel_rfl) (by kernel_rfl) (fun _ _ _ h => h) (Or.inl ⟨by rfl, ?_⟩) (by assumption) ?_
            rotate_left
            · intro w hSw; (try dsimp only at hSw); go_simp; (try (with_reducible rfl))
            try simp only [Act.put, List.setIfInBounds_toArray, List.set_cons_zero, List.set_cons_succ]
            refine wpAnyH_take (i := 6) (oi := ⟨_, _, _, _, _, _⟩) (v := ?_) rfl (by kernel_rfl) (by kernel_rfl) (by kernel_rfl) (fun _ _ _ h => h) (Or.inl ⟨by rfl, ?_⟩) (by assumption) ?_
            rotate_left
            · intro w hSw; (try dsimp only at hSw); go_simp; (try (with_reducible rfl))
            try simp only [Act.put, List.setIfInBounds_toArray, List.set_cons_zero, List.set_cons_succ]
            refine wpAnyH_take (i := 7) (oi := ⟨_, _, _, _, _, _⟩) (v := ?_) rfl (by kernel_rfl) (by kernel_rfl) (by kernel_rfl) (fun _ _ _ h => h) (Or.inl ⟨by rfl, ?_⟩) (by assumption) ?_
            rotate_left
            · intro w hSw; (try dsimp only at hSw); go_simp; (try (with_reducible rfl))
            try simp only [Act.put, List.setIfInBounds_toArray, List.set_cons_zero, List.set_cons_succ]
            refine wpAnyH_take (i := 10) (oi := ⟨_, _, _, _, _, _⟩) (v := ?_) rfl (by kernel_rfl) (by kernel_rfl) (by kernel_rfl) (fun _ _ _ h => h) (Or.inl ⟨by rfl, ?_⟩) (by assumption) ?_
            rotate_left
            · intro w hSw; (try dsimp only at hSw); go_simp; (try (with_reducible rfl))
            try simp only [Act.put, List.setIfInBounds_toArray, List.set_cons_zero, List.set_cons_succ]
            refine wpAnyH_take (i := 11) (oi := ⟨_, _, _, _, _, _⟩) (v := ?_) rfl (by kernel_rfl) (by kernel_rfl) (by kernel_rfl) (fun _ _ _ h => h) (Or.inl ⟨by rfl, ?_⟩) (by assumption) ?_
            rotate_left
            · intro w hSw; (try dsimp only at hSw); go_simp; (try (with_reducible rfl))
            try simp only [Act.put, List.setIfInBounds_toArray, List.set_cons_zero, List.set_cons_succ]
            refine wpAnyH_take (i := 12) (oi := ⟨_, _, _, _, _, _⟩) (v := ?_) rfl (by kernel_rfl) (by kernel_rfl) (by kernel_rfl) (fun _ _ _ h => h) (Or.inl ⟨by rfl, ?_⟩) (by assumption) ?_
            rotate_left
            · intro w hSw; (try dsimp only at hSw); go_simp; (try (with_reducible rfl))
            try simp only [Act.put, List.setIfInBounds_toArray, List.set_cons_zero, List.set_cons_succ]
            refine wpAnyH_ready (rs := [0, 8]) (by kernel_rfl) (by simp) ?_
            refine AllReadyH.cons (o := ⟨_, _, _, _, _, _⟩) rfl (fun K hK => ?_) (AllReadyH.cons (o := ⟨_, _, _, _, _, _⟩) rfl (fun K hK => ?_) (AllReadyH.nil))
            · obtain ⟨wE, hE⟩ : ∃ X, World.alloc w6.drew (.cells #[] 38) = X := ⟨_, rfl⟩
              have oE : OwnR w6.heap.size wE (some ⟨w6.heap.size, 0, none⟩) 0 0 [] := by rw [← hE]; exact (OwnR.empty w6.drew).mono q6.size
              have HSE := hid (show w6.heap.size < wE.heap.size by rw [← hE]; simp)
              have q6E : Below w6.heap.size w6 wE := by rw [← hE]; exact q6.alloc q6.size _
              go_simp
              clear hE
              refine hK.out _ _ trivial (fun hHeld => ?_)
              clear hK K
              try simp only [Act.put, List.setIfInBounds_toArray, List.set_cons_zero, List.set_cons_succ]
              refine wpAnyH_ready (rs := [4, 8]) (by kernel_rfl) (by simp) ?_
              refine AllReadyH.cons (o := ⟨_, _, _, _, _, _⟩) rfl (fun K hK => ?_) (AllReadyH.cons (o := ⟨_, _, _, _, _, _⟩) rfl (fun K hK => ?_) (AllReadyH.nil))
              · have rp := (hrd.below q6E).pre (k * 2)
                rw [← filV_take] at rp
                obtain ⟨A1, c1, w10, HR1, o1, g1⟩ := run_appF oE (some ⟨b, off, none⟩) k c (fs.take k) HTK.out rp (by omega) q6E.size
                rw [Nat.zero_add] at HR1 o1
                have q1 := q6E.grown g1 q6E.size oE.block
                refine stepApp2 (by rfl) (.tmp 83) (.tmp 86) 22 rfl _ _ _ rfl rfl (HR1.out _) ?_
                try simp only [Act.put, List.setIfInBounds_toArray, List.set_cons_zero, List.set_cons_succ]
                refine hK.out _ _ trivial (fun hHeld => ?_)
                clear hK K
                try simp only [Act.put, List.setIfInBounds_toArray, List.set_cons_zero, List.set_cons_succ]
                obtain ⟨wN, hN⟩ : ∃ X, World.alloc w10 (.cells #[.string p, .string d] 38) = X := ⟨_, rfl⟩
                have rN : Rd wN (some ⟨w10.heap.size, 0, none⟩) (filV [(p, d)]) := by rw [← hN]; exact .inr ⟨_, rfl, new_cells w10 38 (filV [(p, d)])⟩
                have q1N : Below w6.heap.size w6 wN := by rw [← hN]; exact q1.alloc q1.size _
                have o1 := OwnR.alloc o1 (.cells #[.string p, .string d] 38)
                rw [hN] at o1
                refine wpAnyH_ready (rs := [8]) (by kernel_rfl) (by simp) ?_
                refine AllReadyH.cons (o := ⟨_, _, _, _, _, _⟩) rfl (fun K hK => ?_) (AllReadyH.nil)
                go_simp
                clear hN
                refine hK.out _ _ trivial (fun hHeld => ?_)
                clear hK K
                try simp only [Act.put, List.setIfInBounds_toArray, List.set_cons_zero, List.set_cons_succ]
                obtain ⟨A2, c2, w12, HR2, o2, g2⟩ := run_appF o1 _ 1 1 [(p, d)] rfl rN (by omega) q1N.size
                have q2 := q1N.grown g2 q1N.size o1.block
                refine wpAnyH_ready (rs := [9]) (by kernel_rfl) (by simp) ?_
                refine AllReadyH.cons (o := ⟨_, _, _, _, _, _⟩) rfl (fun K hK => ?_) (AllReadyH.nil)
                refine stepApp2 (by rfl) (.tmp 87) (.tmp 91) 22 rfl _ _ _ rfl rfl (HR2.out _) ?_
                try simp only [Act.put, List.setIfInBounds_toArray, List.set_cons_zero, List.set_cons_succ]
                refine hK.out _ _ trivial (fun hHeld => ?_)
                clear hK K
                try simp only [Act.put, List.setIfInBounds_toArray, List.set_cons_zero, List.set_cons_succ]
                have rz := HPO.out _ (hrd.below q2)
                obtain ⟨A3, c3, w13, HR3, o3, g3⟩ := run_appF o2 (some ⟨b, off + k * 2, none⟩) (n - k) (c - k) (fs.drop k) HDK.out rz (by omega) q2.size
                have q3 := q2.grown g3 q2.size o2.block
                refine wpAnyH_ready (rs := [13]) (by kernel_rfl) (by simp) ?_
                refine AllReadyH.cons (o := ⟨_, _, _, _, _, _⟩) rfl (fun K hK => ?_) (AllReadyH.nil)
                refine stepApp2 (by rfl) (.tmp 92) (.tmp 95) 22 rfl _ _ _ rfl rfl (HR3.out _) ?_
                try simp only [Act.put, List.setIfInBounds_toArray, List.set_cons_zero, List.set_cons_succ]
                refine hK.out _ _ trivial (fun hHeld => ?_)
                clear hK K
                try simp only [Act.put, List.setIfInBounds_toArray, List.set_cons_zero, List.set_cons_succ]
                refine wpAnyH_take (i := 14) (oi := ⟨_, _, _, _, _, _⟩) (v := ?_) rfl (by kernel_rfl) (by kernel_rfl) (by kernel_rfl) (fun _ _ _ h => h) (Or.inl ⟨by rfl, ?_⟩) (by assumption) ?_
                rotate_left
                · intro w hSw; (try dsimp only at hSw); go_simp; (try (with_reducible rfl))
                try simp only [Act.put, List.setIfInBounds_toArray, List.set_cons_zero, List.set_cons_succ]
                refine wpAnyH_take (i := 15) (oi := ⟨_, _, _, _, _, _⟩) (v := ?_) rfl (by kernel_rfl) (by kernel_rfl) (by kernel_rfl) (fun _ _ _ h => h) (Or.inl ⟨by rfl, ?_⟩) (by assumption) ?_
                rotate_left
                · intro w hSw; (try dsimp only at hSw); go_simp; (try (with_reducible rfl))
                try simp only [Act.put, List.setIfInBounds_toArray, List.set_cons_zero, List.set_cons_succ]
                refine wpAnyH_done (by kernel_rfl) ?_ _
                go_wp2
                go_ret2
                refine ⟨A3, k + 1 + (n - k), c3, by rw [HE.out]; rfl, ?_, below2 b6 q3⟩
                rw [putT_ok HE.out]
                have h9 := o3
                rw [List.nil_append, HPL.out] at h9
                exact h9.ft (by omega) (put_szs HSZ.out hp hd)
              · obtain ⟨wN, hN⟩ : ∃ X, World.alloc wE (.cells #[.string p, .string d] 38) = X := ⟨_, rfl⟩
                have rN : Rd wN (some ⟨wE.heap.size, 0, none⟩) (filV [(p, d)]) := by rw [← hN]; exact .inr ⟨_, rfl, new_cells wE 38 (filV [(p, d)])⟩
                have q6EN : Below w6.heap.size w6 wN := by rw [← hN]; exact q6E.alloc q6E.size _
                have oE := OwnR.alloc oE (.cells #[.string p, .string d] 38)
                rw [hN] at oE
                go_simp
                clear hN
                refine hK.out _ _ trivial (fun hHeld => ?_)
                clear hK K
                try simp only [Act.put, List.setIfInBounds_toArray, List.set_cons_zero, List.set_cons_succ]
                have hne : wE.heap.size ≠ w6.heap.size := by have h8 := HSE.out; omega
                have rp := (hrd.below q6EN).pre (k * 2)
                rw [← filV_take] at rp
                obtain ⟨A1, c1, w10, HR1, o1, g1⟩ := run_appF oE (some ⟨b, off, none⟩) k c (fs.take k) HTK.out rp (by omega) q6EN.size
                rw [Nat.zero_add] at HR1 o1
                have q1 := q6EN.grown g1 q6EN.size oE.block
                have rN := rN.apart g1 hne
                refine wpAnyH_ready (rs := [4]) (by kernel_rfl) (by simp) ?_
                refine AllReadyH.cons (o := ⟨_, _, _, _, _, _⟩) rfl (fun K hK => ?_) (AllReadyH.nil)
                refine stepApp2 (by rfl) (.tmp 83) (.tmp 86) 22 rfl _ _ _ rfl rfl (HR1.out _) ?_
                try simp only [Act.put, List.setIfInBounds_toArray, List.set_cons_zero, List.set_cons_succ]
                refine hK.out _ _ trivial (fun hHeld => ?_)
                clear hK K
                try simp only [Act.put, List.setIfInBounds_toArray, List.set_cons_zero, List.set_cons_succ]
                obtain ⟨A2, c2, w12, HR2, o2, g2⟩ := run_appF o1 _ 1 1 [(p, d)] rfl rN (by omega) q1.size
                have q2 := q1.grown g2 q1.size o1.block
                refine wpAnyH_ready (rs := [9]) (by kernel_rfl) (by simp) ?_
                refine AllReadyH.cons (o := ⟨_, _, _, _, _, _⟩) rfl (fun K hK => ?_) (AllReadyH.nil)
                refine stepApp2 (by rfl) (.tmp 87) (.tmp 91) 22 rfl _ _ _ rfl rfl (HR2.out _) ?_
                try simp only [Act.put, List.setIfInBounds_toArray, List.set_cons_zero, List.set_cons_succ]
                refine hK.out _ _ trivial (fun hHeld => ?_)
                clear hK K
                try simp only [Act.put, List.setIfInBounds_toArray, List.set_cons_zero, List.set_cons_succ]
                have rz := HPO.out _ (hrd.below q2)
                obtain ⟨A3, c3, w13, HR3, o3, g3⟩ := run_appF o2 (some ⟨b, off + k * 2, none⟩) (n - k) (c - k) (fs.drop k) HDK.out rz (by omega) q2.size
                have q3 := q2.grown g3 q2.size o2.block
                refine wpAnyH_ready (rs := [13]) (by kernel_rfl) (by simp) ?_
                refine AllReadyH.cons (o := ⟨_, _, _, _, _, _⟩) rfl (fun K hK => ?_) (AllReadyH.nil)
                refine stepApp2 (by rfl) (.tmp 92) (.tmp 95) 22 rfl _ _ _ rfl rfl (HR3.out _) ?_
                try simp only [Act.put, List.setIfInBounds_toArray, List.set_cons_zero, List.set_cons_succ]
                refine hK.out _ _ trivial (fun hHeld => ?_)
                clear hK K
                try simp only [Act.put, List.setIfInBounds_toArray, List.set_cons_zero, List.set_cons_succ]
                refine wpAnyH_take (i := 14) (oi := ⟨_, _, _, _, _, _⟩) (v := ?_) rfl (by kernel_rfl) (by kernel_rfl) (by kernel_rfl) (fun _ _ _ h => h) (Or.inl ⟨by rfl, ?_⟩) (by assumption) ?_
                rotate_left
                · intro w hSw; (try dsimp only at hSw); go_simp; (try (with_reducible rfl))
                try simp only [Act.put, List.setIfInBounds_toArray, List.set_cons_zero, List.set_cons_succ]
                refine wpAnyH_take (i := 15) (oi := ⟨_, _, _, _, _, _⟩) (v := ?_) rfl (by kernel_rfl) (by kernel_rfl) (by kernel_rfl) (fun _ _ _ h => h) (Or.inl ⟨by rfl, ?_⟩) (by assumption) ?_
                rotate_left
                · intro w hSw; (try dsimp only at hSw); go_simp; (try (with_reducible rfl))
                try simp only [Act.put, List.setIfInBounds_toArray, List.set_cons_zero, List.set_cons_succ]
                refine wpAnyH_done (by kernel_rfl) ?_ _
                go_wp2
                go_ret2
                refine ⟨A3, k + 1 + (n - k), c3, by rw [HE.out]; rfl, ?_, below2 b6 q3⟩
                rw [putT_ok HE.out]
                have h9 := o3
                rw [List.nil_append, HPL.out] at h9
                exact h9.ft (by omega) (put_szs HSZ.out hp hd)
            · obtain ⟨wN, hN⟩ : ∃ X, World.alloc w6.drew (.cells #[.string p, .string d] 38) = X := ⟨_, rfl⟩
              have rN : Rd wN (some ⟨w6.heap.size, 0, none⟩) (filV [(p, d)]) := by rw [← hN]; exact .inr ⟨_, rfl, new_cells w6.drew 38 (filV [(p, d)])⟩
              have HSN := hid (show w6.heap.size < wN.heap.size by rw [← hN]; simp)
              have q6N : Below w6.heap.size w6 wN := by rw [← hN]; exact q6.alloc q6.size _
              go_simp
              clear hN
              refine hK.out _ _ trivial (fun hHeld => ?_)
              clear hK K
              try simp only [Act.put, List.setIfInBounds_toArray, List.set_cons_zero, List.set_cons_succ]
              obtain ⟨wE, hE⟩ : ∃ X, World.alloc wN (.cells #[] 38) = X := ⟨_, rfl⟩
              have oE : OwnR w6.heap.size wE (some ⟨wN.heap.size, 0, none⟩) 0 0 [] := by rw [← hE]; exact (OwnR.empty wN).mono q6N.size
              have q6NE : Below w6.heap.size w6 wE := by rw [← hE]; exact q6N.alloc q6N.size _
              have rN := Rd.alloc rN (.cells #[] 38)
              rw [hE] at rN
              refine wpAnyH_ready (rs := [0]) (by kernel_rfl) (by simp) ?_
              refine AllReadyH.cons (o := ⟨_, _, _, _, _, _⟩) rfl (fun K hK => ?_) (AllReadyH.nil)
              go_simp
              clear hE
              refine hK.out _ _ trivial (fun hHeld => ?_)
              clear hK K
              try simp only [Act.put, List.setIfInBounds_toArray, List.set_cons_zero, List.set_cons_succ]
              have hne : w6.heap.size ≠ wN.heap.size := by have h8 := HSN.out; omega
              have rp := (hrd.below q6NE).pre (k * 2)
              rw [← filV_take] at rp
              obtain ⟨A1, c1, w10, HR1, o1, g1⟩ := run_appF oE (some ⟨b, off, none⟩) k c (fs.take k) HTK.out rp (by omega) q6NE.size
              rw [Nat.zero_add] at HR1 o1
              have q1 := q6NE.grown g1 q6NE.size oE.block
              have rN := rN.apart g1 hne
              refine wpAnyH_ready (rs := [4]) (by kernel_rfl) (by simp) ?_
              refine AllReadyH.cons (o := ⟨_, _, _, _, _, _⟩) rfl (fun K hK => ?_) (AllReadyH.nil)
              refine stepApp2 (by rfl) (.tmp 83) (.tmp 86) 22 rfl _ _ _ rfl rfl (HR1.out _) ?_
              try simp only [Act.put, List.setIfInBounds_toArray, List.set_cons_zero, List.set_cons_succ]
              refine hK.out _ _ trivial (fun hHeld => ?_)
              clear hK K
              try simp only [Act.put, List.setIfInBounds_toArray, List.set_cons_zero, List.set_cons_succ]
              obtain ⟨A2, c2, w12, HR2, o2, g2⟩ := run_appF o1 _ 1 1 [(p, d)] rfl rN (by omega) q1.size
              have q2 := q1.grown g2 q1.size o1.block
              refine wpAnyH_ready (rs := [9]) (by kernel_rfl) (by simp) ?_
              refine AllReadyH.cons (o := ⟨_, _, _, _, _, _⟩) rfl (fun K hK => ?_) (AllReadyH.nil)
              refine stepApp2 (by rfl) (.tmp 87) (.tmp 91) 22 rfl _ _ _ rfl rfl (HR2.out _) ?_
              try simp only [Act.put, List.setIfInBounds_toArray, List.set_cons_zero, List.set_cons_succ]
              refine hK.out _ _ trivial (fun hHeld => ?_)
              clear hK K
              try simp only [Act.put, List.setIfInBounds_toArray, List.set_cons_zero, List.set_cons_succ]
              have rz := HPO.out _ (hrd.below q2)
              obtain ⟨A3, c3, w13, HR3, o3, g3⟩ := run_appF o2 (some ⟨b, off + k * 2, none⟩) (n - k) (c - k) (fs.drop k) HDK.out rz (by omega) q2.size
              have q3 := q2.grown g3 q2.size o2.block
              refine wpAnyH_ready (rs := [13]) (by kernel_rfl) (by simp) ?_
              refine AllReadyH.cons (o := ⟨_, _, _, _, _, _⟩) rfl (fun K hK => ?_) (AllReadyH.nil)
              refine stepApp2 (by rfl) (.tmp 92) (.tmp 95) 22 rfl _ _ _ rfl rfl (HR3.out _) ?_
              try simp only [Act.put, List.setIfInBounds_toArray, List.set_cons_zero, List.set_cons_succ]
              refine hK.out _ _ trivial (fun hHeld => ?_)
              clear hK K
              try simp only [Act.put, List.setIfInBounds_toArray, List.set_cons_zero, List.set_cons_succ]
              refine wpAnyH_take (i := 14) (oi := ⟨_, _, _, _, _, _⟩) (v := ?_) rfl (by kernel_rfl) (by kernel_rfl) (by kernel_rfl) (fun _ _ _ h => h) (Or.inl ⟨by rfl, ?_⟩) (by assumption) ?_
              rotate_left
              · intro w hSw; (try dsimp only at hSw); go_simp; (try (with_reducible rfl))
              try simp only [Act.put, List.setIfInBounds_toArray, List.set_cons_zero, List.set_cons_succ]
              refine wpAnyH_take (i := 15) (oi := ⟨_, _, _, _, _, _⟩) (v := ?_) rfl (by kernel_rfl) (by kernel_rfl) (by kernel_rfl) (fun _ _ _ h => h) (Or.inl ⟨by rfl, ?_⟩) (by assumption) ?_
              rotate_left
              · intro w hSw; (try dsimp only at hSw); go_simp; (try (with_reducible rfl))
              try simp only [Act.put, List.setIfInBounds_toArray, List.set_cons_zero, List.set_cons_succ]
              refine wpAnyH_done (by kernel_rfl) ?_ _
              go_wp2
              go_ret2
              refine ⟨A3, k + 1 + (n - k), c3, by rw [HE.out]; rfl, ?_, below2 b6 q3⟩
              rw [putT_ok HE.out]
              have h9 := o3
              rw [List.nil_append, HPL.out] at h9
              exact h9.ft (by omega) (put_szs HSZ.out hp hd)
          · have hkN : k = n := by omega
            have hnlt2 : ¬ (k : Int) < n := by omega
            subst hkN
            have hdn : fs.drop k = [] := List.drop_of_length_le (by rw [HLN.out]; omega)
            have HPO := hid (fun W (_ : Rd W A (filV fs)) => (show Rd W (if c = k then A else Option.map (fun x => x.add (k * 2)) A) (filV (fs.drop k)) by rw [hdn]; exact .inl rfl))
            have HDK2 := hid (show (fs.drop k).length = 0 by rw [hdn]; rfl)
            clear hdn
            go_upto_region 21 with (fail)
            refine wp_region_held_drew (S := fun _ => True) (by kernel_rfl) trivial (fun hHeld => ?_)
            refine wpAnyH_take (i := 1) (oi := ⟨_, _, _, _, _, _⟩) (v := ?_) rfl (by kernel_rfl) (by kernel_rfl) (by kernel_rfl) (fun _ _ _ h => h) (Or.inl ⟨by rfl, ?_⟩) (by assumption) ?_
            rotate_left
            · intro w hSw; (try dsimp only at hSw); go_simp; (try (with_reducible rfl))
            try simp only [Act.put, List.setIfInBounds_toArray, List.set_cons_zero, List.set_cons_succ]
            refine wpAnyH_take (i := 2) (oi := ⟨_, _, _, _, _, _⟩) (v := ?_) rfl (by kernel_rfl) (by kernel_rfl) (by kernel_rfl) (fun _ _ _ h => h) (Or.inl ⟨by rfl, ?_⟩) (by assumption) ?_
            rotate_left
            · intro w hSw; (try dsimp only at hSw); go_simp; (try (with_reducible rfl))
            try simp only [Act.put, List.setIfInBounds_toArray, List.set_cons_zero, List.set_cons_succ]
            refine wpAnyH_take (i := 3) (oi := ⟨_, _, _, _, _, _⟩) (v := ?_) rfl (by kernel_rfl) (by kernel_rfl) (by kernel_rfl) (fun _ _ _ h => h) (Or.inl ⟨by rfl, ?_⟩) (by assumption) ?_
            rotate_left
            · intro w hSw; (try dsimp only at hSw); go_simp; (try (with_reducible rfl))
            try simp only [Act.put, List.setIfInBounds_toArray, List.set_cons_zero, List.set_cons_succ]
            refine wpAnyH_take (i := 5) (oi := ⟨_, _, _, _, _, _⟩) (v := ?_) rfl (by kernel_rfl) (by kernel_rfl) (by kernel_rfl) (fun _ _ _ h => h) (Or.inl ⟨by rfl, ?_⟩) (by assumption) ?_
            rotate_left
            · intro w hSw; (try dsimp only at hSw); go_simp; (try (with_reducible rfl))
            try simp only [Act.put, List.setIfInBounds_toArray, List.set_cons_zero, List.set_cons_succ]
            refine wpAnyH_take (i := 6) (oi := ⟨_, _, _, _, _, _⟩) (v := ?_) rfl (by kernel_rfl) (by kernel_rfl) (by kernel_rfl) (fun _ _ _ h => h) (Or.inl ⟨by rfl, ?_⟩) (by assumption) ?_
            rotate_left
            · intro w hSw; (try dsimp only at hSw); go_simp; (try (with_reducible rfl))
            try simp only [Act.put, List.setIfInBounds_toArray, List.set_cons_zero, List.set_cons_succ]
            refine wpAnyH_take (i := 7) (oi := ⟨_, _, _, _, _, _⟩) (v := ?_) rfl (by kernel_rfl) (by kernel_rfl) (by kernel_rfl) (fun _ _ _ h => h) (Or.inl ⟨by rfl, ?_⟩) (by assumption) ?_
            rotate_left
            · intro w hSw; (try dsimp only at hSw); go_simp; (try (with_reducible rfl))
            try simp only [Act.put, List.setIfInBounds_toArray, List.set_cons_zero, List.set_cons_succ]
            refine wpAnyH_take (i := 10) (oi := ⟨_, _, _, _, _, _⟩) (v := ?_) rfl (by kernel_rfl) (by kernel_rfl) (by kernel_rfl) (fun _ _ _ h => h) (Or.inl ⟨by rfl, ?_⟩) (by assumption) ?_
            rotate_left
            · intro w hSw; (try dsimp only at hSw); go_simp; (try (with_reducible rfl))
            try simp only [Act.put, List.setIfInBounds_toArray, List.set_cons_zero, List.set_cons_succ]
            refine wpAnyH_take (i := 11) (oi := ⟨_, _, _, _, _, _⟩) (v := ?_) rfl (by kernel_rfl) (by kernel_rfl) (by kernel_rfl) (fun _ _ _ h => h) (Or.inl ⟨by rfl, ?_⟩) (by assumption) ?_
            rotate_left
            · intro w hSw; (try dsimp only at hSw); go_simp; (try (with_reducible rfl))
            try simp only [Act.put, List.setIfInBounds_toArray, List.set_cons_zero, List.set_cons_succ]
            refine wpAnyH_take (i := 12) (oi := ⟨_, _, _, _, _, _⟩) (v := ?_) rfl (by kernel_rfl) (by kernel_rfl) (by kernel_rfl) (fun _ _ _ h => h) (Or.inl ⟨by rfl, ?_⟩) (by assumption) ?_
            rotate_left
            · intro w hSw; (try dsimp only at hSw); go_simp; (try (with_reducible rfl))
            try simp only [Act.put, List.setIfInBounds_toArray, List.set_cons_zero, List.set_cons_succ]
            generalize (if c = k then A else Option.map (fun x => x.add (k * 2)) A) = B1 at HPO ⊢
            refine wpAnyH_ready (rs := [0, 8]) (by kernel_rfl) (by simp) ?_
            refine AllReadyH.cons (o := ⟨_, _, _, _, _, _⟩) rfl (fun K hK => ?_) (AllReadyH.cons (o := ⟨_, _, _, _, _, _⟩) rfl (fun K hK => ?_) (AllReadyH.nil))
            · obtain ⟨wE, hE⟩ : ∃ X, World.alloc w6.drew (.cells #[] 38) = X := ⟨_, rfl⟩
              have oE : OwnR w6.heap.size wE (some ⟨w6.heap.size, 0, none⟩) 0 0 [] := by rw [← hE]; exact (OwnR.empty w6.drew).mono q6.size
              have HSE := hid (show w6.heap.size < wE.heap.size by rw [← hE]; simp)
              have q6E : Below w6.heap.size w6 wE := by rw [← hE]; exact q6.alloc q6.size _
              go_simp
              clear hE
              refine hK.out _ _ trivial (fun hHeld => ?_)
              clear hK K
              try simp only [Act.put, List.setIfInBounds_toArray, List.set_cons_zero, List.set_cons_succ]
              refine wpAnyH_ready (rs := [4, 8]) (by kernel_rfl) (by simp) ?_
              refine AllReadyH.cons (o := ⟨_, _, _, _, _, _⟩) rfl (fun K hK => ?_) (AllReadyH.cons (o := ⟨_, _, _, _, _, _⟩) rfl (fun K hK => ?_) (AllReadyH.nil))
              · have rp := (hrd.below q6E).pre (k * 2)
                rw [← filV_take] at rp
                obtain ⟨A1, c1, w10, HR1, o1, g1⟩ := run_appF oE A k c (fs.take k) HTK.out rp (by omega) q6E.size
                rw [Nat.zero_add] at HR1 o1
                have q1 := q6E.grown g1 q6E.size oE.block
                refine stepApp2 (by rfl) (.tmp 83) (.tmp 86) 22 rfl _ _ _ rfl rfl (HR1.out _) ?_
                try simp only [Act.put, List.setIfInBounds_toArray, List.set_cons_zero, List.set_cons_succ]
                refine hK.out _ _ trivial (fun hHeld => ?_)
                clear hK K
                try simp only [Act.put, List.setIfInBounds_toArray, List.set_cons_zero, List.set_cons_succ]
                obtain ⟨wN, hN⟩ : ∃ X, World.alloc w10 (.cells #[.string p, .string d] 38) = X := ⟨_, rfl⟩
                have rN : Rd wN (some ⟨w10.heap.size, 0, none⟩) (filV [(p, d)]) := by rw [← hN]; exact .inr ⟨_, rfl, new_cells w10 38 (filV [(p, d)])⟩
                have q1N : Below w6.heap.size w6 wN := by rw [← hN]; exact q1.alloc q1.size _
                have o1 := OwnR.alloc o1 (.cells #[.string p, .string d] 38)
                rw [hN] at o1
                refine wpAnyH_ready (rs := [8]) (by kernel_rfl) (by simp) ?_
                refine AllReadyH.cons (o := ⟨_, _, _, _, _, _⟩) rfl (fun K hK => ?_) (AllReadyH.nil)
                go_simp
                clear hN
                refine hK.out _ _ trivial (fun hHeld => ?_)
                clear hK K
                try simp only [Act.put, List.setIfInBounds_toArray, List.set_cons_zero, List.set_cons_succ]
                obtain ⟨A2, c2, w12, HR2, o2, g2⟩ := run_appF o1 _ 1 1 [(p, d)] rfl rN (by omega) q1N.size
                have q2 := q1N.grown g2 q1N.size o1.block
                refine wpAnyH_ready (rs := [9]) (by kernel_rfl) (by simp) ?_
                refine AllReadyH.cons (o := ⟨_, _, _, _, _, _⟩) rfl (fun K hK => ?_) (AllReadyH.nil)
                refine stepApp2 (by rfl) (.tmp 87) (.tmp 91) 22 rfl _ _ _ rfl rfl (HR2.out _) ?_
                try simp only [Act.put, List.setIfInBounds_toArray, List.set_cons_zero, List.set_cons_succ]
                refine hK.out _ _ trivial (fun hHeld => ?_)
                clear hK K
                try simp only [Act.put, List.setIfInBounds_toArray, List.set_cons_zero, List.set_cons_succ]
                have rz := HPO.out _ (hrd.below q2)
                obtain ⟨A3, c3, w13, HR3, o3, g3⟩ := run_appF o2 B1 0 (c - k) (fs.drop k) HDK2.out rz (by omega) q2.size
                have q3 := q2.grown g3 q2.size o2.block
                refine wpAnyH_ready (rs := [13]) (by kernel_rfl) (by simp) ?_
                refine AllReadyH.cons (o := ⟨_, _, _, _, _, _⟩) rfl (fun K hK => ?_) (AllReadyH.nil)
                refine stepApp2 (by rfl) (.tmp 92) (.tmp 95) 22 rfl _ _ _ rfl rfl (HR3.out _) ?_
                try simp only [Act.put, List.setIfInBounds_toArray, List.set_cons_zero, List.set_cons_succ]
                refine hK.out _ _ trivial (fun hHeld => ?_)
                clear hK K
                try simp only [Act.put, List.setIfInBounds_toArray, List.set_cons_zero, List.set_cons_succ]
                refine wpAnyH_take (i := 14) (oi := ⟨_, _, _, _, _, _⟩) (v := ?_) rfl (by kernel_rfl) (by kernel_rfl) (by kernel_rfl) (fun _ _ _ h => h) (Or.inl ⟨by rfl, ?_⟩) (by assumption) ?_
                rotate_left
                · intro w hSw; (try dsimp only at hSw); go_simp; (try (with_reducible rfl))
                try simp only [Act.put, List.setIfInBounds_toArray, List.set_cons_zero, List.set_cons_succ]
                refine wpAnyH_take (i := 15) (oi := ⟨_, _, _, _, _, _⟩) (v := ?_) rfl (by kernel_rfl) (by kernel_rfl) (by kernel_rfl) (fun _ _ _ h => h) (Or.inl ⟨by rfl, ?_⟩) (by assumption) ?_
                rotate_left
                · intro w hSw; (try dsimp only at hSw); go_simp; (try (with_reducible rfl))
                try simp only [Act.put, List.setIfInBounds_toArray, List.set_cons_zero, List.set_cons_succ]
                refine wpAnyH_done (by kernel_rfl) ?_ _
                go_wp2
                go_ret2
                refine ⟨A3, k + 1 + 0, c3, by rw [HE.out]; rfl, ?_, below2 b6 q3⟩
                rw [putT_ok HE.out]
                have h9 := o3
                rw [List.nil_append, HPL.out] at h9
                exact h9.ft (by omega) (put_szs HSZ.out hp hd)
              · obtain ⟨wN, hN⟩ : ∃ X, World.alloc wE (.cells #[.string p, .string d] 38) = X := ⟨_, rfl⟩
                have rN : Rd wN (some ⟨wE.heap.size, 0, none⟩) (filV [(p, d)]) := by rw [← hN]; exact .inr ⟨_, rfl, new_cells wE 38 (filV [(p, d)])⟩
                have q6EN : Below w6.heap.size w6 wN := by rw [← hN]; exact q6E.alloc q6E.size _
                have oE := OwnR.alloc oE (.cells #[.string p, .string d] 38)
                rw [hN] at oE
                go_simp
                clear hN
                refine hK.out _ _ trivial (fun hHeld => ?_)
                clear hK K
                try simp only [Act.put, List.setIfInBounds_toArray, List.set_cons_zero, List.set_cons_succ]
                have hne : wE.heap.size ≠ w6.heap.size := by have h8 := HSE.out; omega
                have rp := (hrd.below q6EN).pre (k * 2)
                rw [← filV_take] at rp
                obtain ⟨A1, c1, w10, HR1, o1, g1⟩ := run_appF oE A k c (fs.take k) HTK.out rp (by omega) q6EN.size
                rw [Nat.zero_add] at HR1 o1
                have q1 := q6EN.grown g1 q6EN.size oE.block
                have rN := rN.apart g1 hne
                refine wpAnyH_ready (rs := [4]) (by kernel_rfl) (by simp) ?_
                refine AllReadyH.cons (o := ⟨_, _, _, _, _, _⟩) rfl (fun K hK => ?_) (AllReadyH.nil)
                refine stepApp2 (by rfl) (.tmp 83) (.tmp 86) 22 rfl _ _ _ rfl rfl (HR1.out _) ?_
                try simp only [Act.put, List.setIfInBounds_toArray, List.set_cons_zero, List.set_cons_succ]
                refine hK.out _ _ trivial (fun hHeld => ?_)
                clear hK K
                try simp only [Act.put, List.setIfInBounds_toArray, List.set_cons_zero, List.set_cons_succ]
                obtain ⟨A2, c2, w12, HR2, o2, g2⟩ := run_appF o1 _ 1 1 [(p, d)] rfl rN (by omega) q1.size
                have q2 := q1.grown g2 q1.size o1.block
                refine wpAnyH_ready (rs := [9]) (by kernel_rfl) (by simp) ?_
                refine AllReadyH.cons (o := ⟨_, _, _, _, _, _⟩) rfl (fun K hK => ?_) (AllReadyH.nil)
                refine stepApp2 (by rfl) (.tmp 87) (.tmp 91) 22 rfl _ _ _ rfl rfl (HR2.out _) ?_
                try simp only [Act.put, List.setIfInBounds_toArray, List.set_cons_zero, List.set_cons_succ]
                refine hK.out _ _ trivial (fun hHeld => ?_)
                clear hK K
                try simp only [Act.put, List.setIfInBounds_toArray, List.set_cons_zero, List.set_cons_succ]
                have rz := HPO.out _ (hrd.below q2)
                obtain ⟨A3, c3, w13, HR3, o3, g3⟩ := run_appF o2 B1 0 (c - k) (fs.drop k) HDK2.out rz (by omega) q2.size
                have q3 := q2.grown g3 q2.size o2.block
                refine wpAnyH_ready (rs := [13]) (by kernel_rfl) (by simp) ?_
                refine AllReadyH.cons (o := ⟨_, _, _, _, _, _⟩) rfl (fun K hK => ?_) (AllReadyH.nil)
                refine stepApp2 (by rfl) (.tmp 92) (.tmp 95) 22 rfl _ _ _ rfl rfl (HR3.out _) ?_
                try simp only [Act.put, List.setIfInBounds_toArray, List.set_cons_zero, List.set_cons_succ]
                refine hK.out _ _ trivial (fun hHeld => ?_)
                clear hK K
                try simp only [Act.put, List.setIfInBounds_toArray, List.set_cons_zero, List.set_cons_succ]
                refine wpAnyH_take (i := 14) (oi := ⟨_, _, _, _, _, _⟩) (v := ?_) rfl (by kernel_rfl) (by kernel_rfl) (by kernel_rfl) (fun _ _ _ h => h) (Or.inl ⟨by rfl, ?_⟩) (by assumption) ?_
                rotate_left
                · intro w hSw; (try dsimp only at hSw); go_simp; (try (with_reducible rfl))
                try simp only [Act.put, List.setIfInBounds_toArray, List.set_cons_zero, List.set_cons_succ]
                refine wpAnyH_take (i := 15) (oi := ⟨_, _, _, _, _, _⟩) (v := ?_) rfl (by kernel_rfl) (by kernel_rfl) (by kernel_rfl) (fun _ _ _ h => h) (Or.inl ⟨by rfl, ?_⟩) (by assumption) ?_
                rotate_left
                · intro w hSw; (try dsimp only at hSw); go_simp; (try (with_reducible rfl))
                try simp only [Act.put, List.setIfInBounds_toArray, List.set_cons_zero, List.set_cons_succ]
                refine wpAnyH_done (by kernel_rfl) ?_ _
                go_wp2
                go_ret2
                refine ⟨A3, k + 1 + 0, c3, by rw [HE.out]; rfl, ?_, below2 b6 q3⟩
                rw [putT_ok HE.out]
                have h9 := o3
                rw [List.nil_append, HPL.out] at h9
                exact h9.ft (by omega) (put_szs HSZ.out hp hd)
            · obtain ⟨wN, hN⟩ : ∃ X, World.alloc w6.drew (.cells #[.string p, .string d] 38) = X := ⟨_, rfl⟩
              have rN : Rd wN (some ⟨w6.heap.size, 0, none⟩) (filV [(p, d)]) := by rw [← hN]; exact .inr ⟨_, rfl, new_cells w6.drew 38 (filV [(p, d)])⟩
              have HSN := hid (show w6.heap.size < wN.heap.size by rw [← hN]; simp)
              have q6N : Below w6.heap.size w6 wN := by rw [← hN]; exact q6.alloc q6.size _
              go_simp
              clear hN
              refine hK.out _ _ trivial (fun hHeld => ?_)
              clear hK K
              try simp only [Act.put, List.setIfInBounds_toArray, List.set_cons_zero, List.set_cons_succ]
              obtain ⟨wE, hE⟩ : ∃ X, World.alloc wN (.cells #[] 38) = X := ⟨_, rfl⟩
              have oE : OwnR w6.heap.size wE (some ⟨wN.heap.size, 0, none⟩) 0 0 [] := by rw [← hE]; exact (OwnR.empty wN).mono q6N.size
              have q6NE : Below w6.heap.size w6 wE := by rw [← hE]; exact q6N.alloc q6N.size _
              have rN := Rd.alloc rN (.cells #[] 38)
              rw [hE] at rN
              refine wpAnyH_ready (rs := [0]) (by kernel_rfl) (by simp) ?_
              refine AllReadyH.cons (o := ⟨_, _, _, _, _, _⟩) rfl (fun K hK => ?_) (AllReadyH.nil)
              go_simp
              clear hE
              refine hK.out _ _ trivial (fun hHeld => ?_)
              clear hK K
              try simp only [Act.put, List.setIfInBounds_toArray, List.set_cons_zero, List.set_cons_succ]
              have hne : w6.heap.size ≠ wN.heap.size := by have h8 := HSN.out; omega
              have rp := (hrd.below q6NE).pre (k * 2)
              rw [← filV_take] at rp
              obtain ⟨A1, c1, w10, HR1, o1, g1⟩ := run_appF oE A k c (fs.take k) HTK.out rp (by omega) q6NE.size
              rw [Nat.zero_add] at HR1 o1
              have q1 := q6NE.grown g1 q6NE.size oE.block
              have rN := rN.apart g1 hne
              refine wpAnyH_ready (rs := [4]) (by kernel_rfl) (by simp) ?_
              refine AllReadyH.cons (o := ⟨_, _, _, _, _, _⟩) rfl (fun K hK => ?_) (AllReadyH.nil)
              refine stepApp2 (by rfl) (.tmp 83) (.tmp 86) 22 rfl _ _ _ rfl rfl (HR1.out _) ?_
              try simp only [Act.put, List.setIfInBounds_toArray, List.set_cons_zero, List.set_cons_succ]
              refine hK.out _ _ trivial (fun hHeld => ?_)
              clear hK K
              try simp only [Act.put, List.setIfInBounds_toArray, List.set_cons_zero, List.set_cons_succ]
              obtain ⟨A2, c2, w12, HR2, o2, g2⟩ := run_appF o1 _ 1 1 [(p, d)] rfl rN (by omega) q1.size
              have q2 := q1.grown g2 q1.size o1.block
              refine wpAnyH_ready (rs := [9]) (by kernel_rfl) (by simp) ?_
              refine AllReadyH.cons (o := ⟨_, _, _, _, _, _⟩) rfl (fun K hK => ?_) (AllReadyH.nil)
              refine stepApp2 (by rfl) (.tmp 87) (.tmp 91) 22 rfl _ _ _ rfl rfl (HR2.out _) ?_
              try simp only [Act.put, List.setIfInBounds_toArray, List.set_cons_zero, List.set_cons_succ]
              refine hK.out _ _ trivial (fun hHeld => ?_)
              clear hK K
              try simp only [Act.put, List.setIfInBounds_toArray, List.set_cons_zero, List.set_cons_succ]
              have rz := HPO.out _ (hrd.below q2)
              obtain ⟨A3, c3, w13, HR3, o3, g3⟩ := run_appF o2 B1 0 (c - k) (fs.drop k) HDK2.out rz (by omega) q2.size
              have q3 := q2.grown g3 q2.size o2.block
              refine wpAnyH_ready (rs := [13]) (by kernel_rfl) (by simp) ?_
              refine AllReadyH.cons (o := ⟨_, _, _, _, _, _⟩) rfl (fun K hK => ?_) (AllReadyH.nil)
              refine stepApp2 (by rfl) (.tmp 92) (.tmp 95) 22 rfl _ _ _ rfl rfl (HR3.out _) ?_
              try simp only [Act.put, List.setIfInBounds_toArray, List.set_cons_zero, List.set_cons_succ]
              refine hK.out _ _ trivial (fun hHeld => ?_)
              clear hK K
              try simp only [Act.put, List.setIfInBounds_toArray, List.set_cons_zero, List.set_cons_succ]
              refine wpAnyH_take (i := 14) (oi := ⟨_, _, _, _, _, _⟩) (v := ?_) rfl (by kernel_rfl) (by kernel_rfl) (by kernel_rfl) (fun _ _ _ h => h) (Or.inl ⟨by rfl, ?_⟩) (by assumption) ?_
              rotate_left
              · intro w hSw; (try dsimp only at hSw); go_simp; (try (with_reducible rfl))
              try simp only [Act.put, List.setIfInBounds_toArray, List.set_cons_zero, List.set_cons_succ]
              refine wpAnyH_take (i := 15) (oi := ⟨_, _, _, _, _, _⟩) (v := ?_) rfl (by kernel_rfl) (by kernel_rfl) (by kernel_rfl) (fun _ _ _ h => h) (Or.inl ⟨by rfl, ?_⟩) (by assumption) ?_
              rotate_left
              · intro w hSw; (try dsimp only at hSw); go_simp; (try (with_reducible rfl))
              try simp only [Act.put, List.setIfInBounds_toArray, List.set_cons_zero, List.set_cons_succ]
              refine wpAnyH_done (by kernel_rfl) ?_ _
              go_wp2
              go_ret2
              refine ⟨A3, k + 1 + 0, c3, by rw [HE.out]; rfl, ?_, below2 b6 q3⟩
              rw [putT_ok HE.out]
              have h9 := o3
              rw [List.nil_append, HPL.out] at h9
              exact h9.ft (by omega) (put_szs HSZ.out hp hd)
    · rw [ht, if_pos rfl] at c0
      go_wp2_with fail
      refine c0.mono ?_
      rintro e w5 ⟨rfl, rfl⟩
      clear c0
      by_cases h600 : (600 : Int) < d.size
      · have HE := hid (HF.out HR.out HP.out HC.out (.inl (by omega)))
        clear HF HZ
        go_wp2
        go_ret2
        exact outR_err HE.out (putT_err HE.out (by decide)) b3
      have h6b : decide ((600 : Int) < d.size) = false := by simp; omega
      have HE := hid (HZ.out.2 ⟨hT, HP.out, HC.out, by omega, .inl ht⟩)
      have HPN := hid (put_len hT.srt p d)
      rw [ht, h3.len] at HPN
      obtain ⟨d0, hfs⟩ : ∃ d0, fs = lowT fs p.data.toList ++ (mkS p.data.toList, d0) :: highT fs p.data.toList := by
        rcases split_tree p.data.toList hT.srt with ⟨a, _⟩ | ⟨d0, _, b⟩
        · rw [ht] at a; cases a
        · exact ⟨d0, b⟩
      have hkl : (lowT fs p.data.toList).length < n := by
        have := congrArg List.length hfs
        rw [h3.len, List.length_append, List.length_cons] at this
        omega
      have HFS := hid (show (filV fs).set ((lowT fs p.data.toList).length * 2 + 1) (.string d) = filV (putL fs p d) by
        rw [putL]
        generalize lowT fs p.data.toList = l at *
        generalize highT fs p.data.toList = r at *
        subst hfs
        have hl : (filV l).length = l.length * 2 := filV_length l
        rw [filV_append, filV_append, List.set_append_right _ _ (by omega), hl, show l.length * 2 + 1 - l.length * 2 = 1 by omega, filV_cons, filV_cons, mkS_of]
        rfl)
      clear hfs ht HF HZ
      generalize (lowT fs p.data.toList).length = k at *
      have hkz : ¬ (k : Int) < 0 := by omega
      have hkz0 : (0 : Int) ≤ k := by omega
      have hkn : (k : Int) < n := by omega
      have o0 : OwnR wr.heap.size (wr.alloc (.cells #[] 38)) (some ⟨wr.heap.size, 0, none⟩) 0 0 [] := OwnR.empty wr
      have q0 : Below wr.heap.size wr (wr.alloc (.cells #[] 38)) := (Below.refl _ _).alloc (Nat.le_refl _) _
      obtain ⟨A6, c6, w6, HR6, o6, g6⟩ := run_appF o0 A n c fs h3.len (h3.rd.below q0) (by omega) q0.size
      rw [Nat.zero_add, List.nil_append] at o6
      rw [Nat.zero_add] at HR6
      have q6 := q0.grown g6 q0.size o0.block
      have b6 := below2 b3 q6
      obtain ⟨g, rfl, hg⟩ := o6.at_ (by omega)
      have s6 := o6.2.cellAt (k * 2 + 1) (by omega)
      have f6 := o6.2.frozenAt (k * 2 + 1)
      obtain ⟨o7, -⟩ := o6.2.stored (k * 2 + 1) (.string d)
      have hkf : k < fs.length := by have := h3.len; omega
      rw [filV_at1 fs k hkf] at s6
      have HO7 := hid (show OwnR wr.heap.size (w6.setCell ⟨g, k * 2 + 1, none⟩ (.string d)) (some ⟨g, 0, none⟩) n c6 (putL fs p d) from ⟨HPN.out, by rw [← HFS.out]; exact o7⟩)
      have hgw : w.heap.size ≤ g := by have := b3.size; omega
      have HW7 := hid (b6.setCell (p := ⟨g, k * 2 + 1, none⟩) hgw (.string d))
      generalize fs[k].2 = dk at s6
      clear o0 q0 o6 g6 q6 b6 o7 h3 b3
      go_wp2_with (at_builtin; refine Lib.wpList_append_run _ rfl _ _ _ _ rfl _ _ rfl rfl _ _ (HR6.out _) ?_)
      go_wp2
      go_ret2
      refine ⟨some ⟨g, 0, none⟩, n, c6, by rw [HE.out]; rfl, ?_, HW7.out⟩
      rw [putT_ok HE.out]
      exact HO7.out.ft (by omega) (put_szs HSZ.out hp hd)
end Go.Proofs.YtaidggjnpnfdhaaGreatDoor
namespace Go.Proofs.YtaidggjnpnfdhaaGreatDoor
open Go.RowKit

set_option maxHeartbeats 4000000 in
theorem rdo_any {w : World} {A B : Option Addr} {n c m d : Nat} {t : List Fil} {l : List Ac} (h : Ft w A n c t) (k : At w B m d l) (room : Int) :
    Calls Tryz.prog 9 #[.slice A n c, .slice B m d, .int .i64 room] w (OutR w (doT t l room) (doN t l room)) := by
  go_enter Tryz.func9, Tryz.ntmps9
  go_wp2_with fail
  refine (refTree h).mono ?_
  rintro e w1 ⟨rfl, b1⟩
  have h1 := h.below b1
  have k1 := k.below b1
  clear h k
  cases hR : treeR t with
  | false =>
    have HN : Hid (doN t l room = 1) := by show _ = _; unfold doN; rw [hR]; rfl
    clear hR
    go_wp2
    go_ret2
    exact outR_err HN.out (doT_not (by rw [HN.out]; decide)) b1
  | true =>
    have HTR := hid ((treeR_iff t).1 hR)
    have HSZ : Hid (∀ j, ∀ f ∈ doL t (l.take j), f.1.size < 4294967281 ∧ f.2.size ≤ 140737488355328) := fun j => do_P (P := fun f => f.1.size < 4294967281 ∧ f.2.size ≤ 140737488355328) h1.sz fun a ha => k1.sz a (List.mem_of_mem_take ha)
    have HR := hid hR
    have HL := hid k1.len
    have HKS := hid k1.sz
    have hm := k1.big
    clear hR
    go_wp2_with fail
    go_loopw [0, 9] (fun v i wr => ∃ (j : Nat) (A' : Option Addr) (n' c' : Nat), j ≤ m ∧ i = .int .i64 j ∧ v = .slice A' n' c' ∧ Hid (doE t (l.take j) = 0) ∧ Ft wr A' n' c' (doL t (l.take j)) ∧ Below w.heap.size w wr ∧ Below w1.heap.size w1 wr) (fun _ i _ => m - (intOf i).toNat)
    case atStart => exact ⟨0, _, _, _, by omega, rfl, rfl, rfl, h1, b1, Below.refl _ _⟩
    case round =>
      clear h1 b1
      obtain ⟨j, A', n', c', hj, rfl, rfl, HE0, o, b, bk⟩ := hrel
      by_cases hjm : j < m
      · have hjl : j < l.length := by rw [HL.out]; exact hjm
        have hz : (0 : Int) ≤ j := by omega
        have hlt : (j : Int) < m := by omega
        obtain ⟨g, og, rfl, x0, x1, x2, lg⟩ := (k1.rd.below bk).act hjl
        obtain ⟨HM1, HM2⟩ := do_more t l j hjl
        have hs := HKS.out _ (List.getElem_mem hjl)
        rw [HE0.out, if_pos rfl] at HM1
        have HST := hid (@do_stop t l (j + 1))
        have HM1 := hid HM1
        have HM2 := hid HM2
        generalize doL t (l.take j) = u at *
        generalize l[j] = a at *
        obtain ⟨p, q, dd⟩ := a
        dsimp only at x0 x1 x2 hs
        have cd := refDrop o p
        go_wp2_with fail
        refine cd.mono ?_
        rintro e w4 ⟨A4, n4, c4, rfl, o4, hb4⟩
        have oo := o.below hb4
        have b4 := b.trans (hb4.mono b.size)
        have bk4 := bk.trans (hb4.mono bk.size)
        have x0 := (hb4.cell (p := ⟨g, og + j * 3, none⟩) lg).trans x0
        have x1 := (hb4.cell (p := ⟨g, og + j * 3 + 1, none⟩) lg).trans x1
        have x2 := (hb4.cell (p := ⟨g, og + j * 3 + 2, none⟩) lg).trans x2
        have lg4 : g < w4.heap.size := Nat.lt_of_lt_of_le lg hb4.size
        clear cd o b bk hb4 lg
        cases q with
        | true =>
          have E1 : Hid (actE u (p, true, dd) = putE u p dd) := rfl
          have E2 : Hid (actT u (p, true, dd) = putL u p dd) := rfl
          generalize dropE u p.data.toList = zd at *
          go_upto_region 9 with (fail)
          refine wp_region_held_drew (S := fun w' => w'.cell? ⟨g, og + j * 3, none⟩ = some (.string p) ∧ w'.cell? ⟨g, og + j * 3 + 2, none⟩ = some (.string dd)) (by kernel_rfl) ⟨x0, x2⟩ (fun hHeld => ?_)
          refine wpAnyH_take (i := 0) (oi := ⟨_, _, _, _, _, _⟩) (v := ?_) rfl (by kernel_rfl) (by kernel_rfl) (by kernel_rfl) (fun _ _ _ h => h) (Or.inl ⟨by rfl, ?_⟩) (by assumption) ?_
          rotate_left
          · intro w hSw; (try dsimp only at hSw); go_simp; (try (with_reducible rfl))
          try simp only [Act.put, List.setIfInBounds_toArray, List.set_cons_zero, List.set_cons_succ]
          refine wpAnyH_take (i := 1) (oi := ⟨_, _, _, _, _, _⟩) (v := ?_) rfl (by kernel_rfl) (by kernel_rfl) (by kernel_rfl) (fun _ _ _ h => h) (Or.inl ⟨by rfl, ?_⟩) (by assumption) ?_
          rotate_left
          · intro w hSw; (try dsimp only at hSw); go_simp; (try (with_reducible rfl))
          try simp only [Act.put, List.setIfInBounds_toArray, List.set_cons_zero, List.set_cons_succ]
          refine wpAnyH_take (i := 2) (oi := ⟨_, _, _, _, _, _⟩) (v := ?_) rfl (by kernel_rfl) (by kernel_rfl) (by kernel_rfl) (fun _ _ _ h => h) (Or.inl ⟨by rfl, ?_⟩) (by assumption) ?_
          rotate_left
          · intro w hSw; (try dsimp only at hSw); go_simp; (try (with_reducible rfl))
          try simp only [Act.put, List.setIfInBounds_toArray, List.set_cons_zero, List.set_cons_succ]
          refine wpAnyH_take (i := 3) (oi := ⟨_, _, _, _, _, _⟩) (v := ?_) rfl (by kernel_rfl) (by kernel_rfl) (by kernel_rfl) (fun _ _ _ h => h) (Or.inl ⟨by rfl, ?_⟩) (by assumption) ?_
          rotate_left
          · intro w hSw; (try dsimp only at hSw); go_simp; (try (with_reducible rfl))
          try simp only [Act.put, List.setIfInBounds_toArray, List.set_cons_zero, List.set_cons_succ]
          refine wpAnyH_take (i := 4) (oi := ⟨_, _, _, _, _, _⟩) (v := ?_) rfl (by kernel_rfl) (by kernel_rfl) (by kernel_rfl) (fun _ _ _ h => h) (Or.inl ⟨by rfl, ?_⟩) (by assumption) ?_
          rotate_left
          · intro w hSw; (try dsimp only at hSw); go_simp; (try (with_reducible rfl))
          try simp only [Act.put, List.setIfInBounds_toArray, List.set_cons_zero, List.set_cons_succ]
          refine wpAnyH_take (i := 5) (oi := ⟨_, _, _, _, _, _⟩) (v := ?_) rfl (by kernel_rfl) (by kernel_rfl) (by kernel_rfl) (fun _ _ _ h => h) (Or.inl ⟨by rfl, ?_⟩) (by assumption) ?_
          rotate_left
          · intro w hSw; (try dsimp only at hSw); go_simp; (try (with_reducible rfl))
          try simp only [Act.put, List.setIfInBounds_toArray, List.set_cons_zero, List.set_cons_succ]
          refine wpAnyH_take (i := 6) (oi := ⟨_, _, _, _, _, _⟩) (v := ?_) rfl (by kernel_rfl) (by kernel_rfl) (by kernel_rfl) (fun _ _ _ h => h) (Or.inl ⟨by rfl, ?_⟩) (by assumption) ?_
          rotate_left
          · intro w hSw; (try dsimp only at hSw); go_simp; (try (with_reducible rfl))
          try simp only [Act.put, List.setIfInBounds_toArray, List.set_cons_zero, List.set_cons_succ]
          refine wpAnyH_take (i := 7) (oi := ⟨_, _, _, _, _, _⟩) (v := ?_) rfl (by kernel_rfl) (by kernel_rfl) (by kernel_rfl) (fun _ _ _ h => h) (Or.inl ⟨by rfl, ?_⟩) (by assumption) ?_
          rotate_left
          · intro w hSw; (try dsimp only at hSw); go_simp; (try (with_reducible rfl))
          try simp only [Act.put, List.setIfInBounds_toArray, List.set_cons_zero, List.set_cons_succ]
          refine wpAnyH_take (i := 8) (oi := ⟨_, _, _, _, _, _⟩) (v := ?_) rfl (by kernel_rfl) (by kernel_rfl) (by kernel_rfl) (fun _ _ _ h => h) (Or.inl ⟨by rfl, ?_⟩) (by assumption) ?_
          rotate_left
          · intro w hSw; (try dsimp only at hSw); go_simp; (try (with_reducible rfl))
          try simp only [Act.put, List.setIfInBounds_toArray, List.set_cons_zero, List.set_cons_succ]
          refine wpAnyH_take (i := 9) (oi := ⟨_, _, _, _, _, _⟩) (v := ?_) rfl (by kernel_rfl) (by kernel_rfl) (by kernel_rfl) (fun _ _ _ h => h) (Or.inl ⟨by rfl, ?_⟩) (by assumption) ?_
          rotate_left
          · intro w hSw; (try dsimp only at hSw); go_simp; (try (with_reducible rfl))
          try simp only [Act.put, List.setIfInBounds_toArray, List.set_cons_zero, List.set_cons_succ]
          refine wpAnyH_take (i := 10) (oi := ⟨_, _, _, _, _, _⟩) (v := ?_) rfl (by kernel_rfl) (by kernel_rfl) (by kernel_rfl) (fun _ _ _ h => h) (Or.inl ⟨by rfl, ?_⟩) (by assumption) ?_
          rotate_left
          · intro w hSw; (try dsimp only at hSw); go_simp; (try (with_reducible rfl))
          try simp only [Act.put, List.setIfInBounds_toArray, List.set_cons_zero, List.set_cons_succ]
          refine wpAnyH_ready (rs := [11]) (by kernel_rfl) (by simp) ?_
          refine AllReadyH.cons (o := ⟨_, _, _, _, _, _⟩) rfl (fun K hK => ?_) AllReadyH.nil
          go_simp
          refine (refPut (w := w4.drew) ⟨oo.len, oo.rd.drew, oo.cap, oo.big, oo.capm, oo.sz⟩ p dd hs.1 hs.2).mono ?_
          rintro e w5 ⟨A5, n5, c5, rfl, o5, hb5'⟩
          have hb5 : Below w4.heap.size w4 w5 := below_undrew hb5'
          have y0 := (hb5.cell (p := ⟨g, og + j * 3, none⟩) lg4).trans x0
          have y2 := (hb5.cell (p := ⟨g, og + j * 3 + 2, none⟩) lg4).trans x2
          refine hK.out _ _ ⟨y0, y2⟩ (fun hHeld => ?_)
          clear hK K
          try simp only [Act.put, List.setIfInBounds_toArray, List.set_cons_zero, List.set_cons_succ]
          refine wpAnyH_take (i := 12) (oi := ⟨_, _, _, _, _, _⟩) (v := ?_) rfl (by kernel_rfl) (by kernel_rfl) (by kernel_rfl) (fun _ _ _ h => h) (Or.inl ⟨by rfl, ?_⟩) (by assumption) ?_
          rotate_left
          · intro w hSw; (try dsimp only at hSw); go_simp; (try (with_reducible rfl))
          try simp only [Act.put, List.setIfInBounds_toArray, List.set_cons_zero, List.set_cons_succ]
          refine wpAnyH_take (i := 13) (oi := ⟨_, _, _, _, _, _⟩) (v := ?_) rfl (by kernel_rfl) (by kernel_rfl) (by kernel_rfl) (fun _ _ _ h => h) (Or.inl ⟨by rfl, ?_⟩) (by assumption) ?_
          rotate_left
          · intro w hSw; (try dsimp only at hSw); go_simp; (try (with_reducible rfl))
          try simp only [Act.put, List.setIfInBounds_toArray, List.set_cons_zero, List.set_cons_succ]
          refine wpAnyH_take (i := 14) (oi := ⟨_, _, _, _, _, _⟩) (v := ?_) rfl (by kernel_rfl) (by kernel_rfl) (by kernel_rfl) (fun _ _ _ h => h) (Or.inl ⟨by rfl, ?_⟩) (by assumption) ?_
          rotate_left
          · intro w hSw; (try dsimp only at hSw); go_simp; (try (with_reducible rfl))
          try simp only [Act.put, List.setIfInBounds_toArray, List.set_cons_zero, List.set_cons_succ]
          refine wpAnyH_take (i := 15) (oi := ⟨_, _, _, _, _, _⟩) (v := ?_) rfl (by kernel_rfl) (by kernel_rfl) (by kernel_rfl) (fun _ _ _ h => h) (Or.inl ⟨by rfl, ?_⟩) (by assumption) ?_
          rotate_left
          · intro w hSw; (try dsimp only at hSw); go_simp; (try (with_reducible rfl))
          try simp only [Act.put, List.setIfInBounds_toArray, List.set_cons_zero, List.set_cons_succ]
          refine wpAnyH_take (i := 16) (oi := ⟨_, _, _, _, _, _⟩) (v := ?_) rfl (by kernel_rfl) (by kernel_rfl) (by kernel_rfl) (fun _ _ _ h => h) (Or.inl ⟨by rfl, ?_⟩) (by assumption) ?_
          rotate_left
          · intro w hSw; (try dsimp only at hSw); go_simp; (try (with_reducible rfl))
          try simp only [Act.put, List.setIfInBounds_toArray, List.set_cons_zero, List.set_cons_succ]
          refine wpAnyH_done (by kernel_rfl) ?_ _
          have b6 := b4.trans (hb5.mono b4.size)
          have bk6 := bk4.trans (hb5.mono bk4.size)
          clear hHeld oo o4 b4 bk4 hb5' hb5 x0 x1 x2 y0 y2
          by_cases he : putE u p dd = 0
          · have HO : Hid (putT u p dd = doL t (l.take (j + 1))) := by show _ = _; rw [putT_ok he, HM2.out, E2.out]
            have HE1 : Hid (doE t (l.take (j + 1)) = 0) := by show _ = _; rw [HM1.out, E1.out, he]
            rw [he]
            rw [HO.out] at o5
            clear he E1 E2 HM1 HM2 HO
            go_wp2
            go_roundw
            case rel => exact ⟨j + 1, _, _, _, by omega, by go_num, rfl, HE1, o5, b6, bk6⟩
            case measure => simp [intOf]; omega
          · have HE1 : Hid (doE t l = putE u p dd) := by show _ = _; rw [HST.out (by rw [HM1.out, E1.out]; exact he), HM1.out, E1.out]
            have HN : Hid (doN t l room = putE u p dd) := by show _ = _; unfold doN; rw [HR.out, if_pos rfl, HE1.out, if_neg he]
            have hT0 := doT_not (t := t) (l := l) (r := room) (by rw [HN.out]; exact he)
            have hne : ¬ ((putE u p dd : Nat) : Int) = 0 := by omega
            clear E1 E2 HM1 HM2 HE1 HST o5 he
            generalize putE u p dd = z at *
            go_wp2
            go_ret2
            exact outR_err HN.out hT0 b6
        | false =>
          have E1 : Hid (actE u (p, false, dd) = dropE u p.data.toList) := rfl
          have E2 : Hid (actT u (p, false, dd) = dropL u p.data.toList) := rfl
          have o5 := o4
          have b6 := b4
          have bk6 := bk4
          clear oo o4 b4 bk4
          by_cases he : dropE u p.data.toList = 0
          · have HO : Hid (dropT u p.data.toList = doL t (l.take (j + 1))) := by show _ = _; rw [dropT_ok he, HM2.out, E2.out]
            have HE1 : Hid (doE t (l.take (j + 1)) = 0) := by show _ = _; rw [HM1.out, E1.out, he]
            rw [he]
            rw [HO.out] at o5
            clear he E1 E2 HM1 HM2 HO
            go_wp2
            go_roundw
            case rel => exact ⟨j + 1, _, _, _, by omega, by go_num, rfl, HE1, o5, b6, bk6⟩
            case measure => simp [intOf]; omega
          · have HE1 : Hid (doE t l = dropE u p.data.toList) := by show _ = _; rw [HST.out (by rw [HM1.out, E1.out]; exact he), HM1.out, E1.out]
            have HN : Hid (doN t l room = dropE u p.data.toList) := by show _ = _; unfold doN; rw [HR.out, if_pos rfl, HE1.out, if_neg he]
            have hT0 := doT_not (t := t) (l := l) (r := room) (by rw [HN.out]; exact he)
            have hne : ¬ ((dropE u p.data.toList : Nat) : Int) = 0 := by omega
            clear E1 E2 HM1 HM2 HE1 HST o5 he
            generalize dropE u p.data.toList = z at *
            go_wp2
            go_ret2
            exact outR_err HN.out hT0 b6
      · have HJ := hid (show j = m by omega)
        have hnlt : ¬ (j : Int) < m := by omega
        rw [HJ.out, ← HL.out, List.take_length] at HE0 o
        have hRj := do_right HTR.out HE0.out
        have hn16 := hRj.few
        have hsz := size_le hRj
        have hol := o.len
        have HSJ : Hid (∀ f ∈ doL t l, f.1.size < 4294967281 ∧ f.2.size ≤ 140737488355328) := by
          have := HSZ.out l.length
          rw [List.take_length] at this
          exact this
        have cs := refSize o (by omega)
        have HDN : Hid (doN t l room = if room < ((sizeT (doL t l) : Nat) : Int) then 2 else 0) := by show _ = _; unfold doN; rw [HR.out, if_pos rfl, HE0.out, if_pos rfl]
        generalize hu : doL t l = u at *
        have HU := hid hu
        clear hu
        go_wp2_with fail
        refine cs.mono ?_
        rintro e w6 ⟨rfl, hb6⟩
        have o6 := o.below hb6
        have b6 := b.trans (hb6.mono b.size)
        clear cs o b hb6 bk
        by_cases hr : room < ((sizeT u : Nat) : Int)
        · have HN : Hid (doN t l room = 2) := by show _ = _; rw [HDN.out, if_pos hr]
          have hT0 := doT_not (t := t) (l := l) (r := room) (by rw [HN.out]; decide)
          clear HDN
          go_wp2
          go_ret2
          exact outR_err HN.out hT0 b6
        · have HN : Hid (doN t l room = 0) := by show _ = _; rw [HDN.out, if_neg hr]
          have HT0 : Hid (doT t l room = u) := (doT_zero HN.out).trans HU.out
          have hal2 : Below w6.heap.size w6 (w6.alloc (.cells #[] 38)) := (Below.refl _ _).alloc (Nat.le_refl _) _
          obtain ⟨A7, c7, w7, HR7, o7, g7⟩ := run_appF (OwnR.empty w6) A' n' c' u hol (o6.rd.below hal2) (by omega) hal2.size
          have b7 := b6.trans ((hal2.trans (below_grown hal2.size (OwnR.block (OwnR.empty w6)) g7)).mono b6.size)
          rw [Nat.zero_add, List.nil_append] at o7
          have HR7 := hid (HR7.out)
          simp only [Nat.zero_add] at HR7
          have f7 := o7.ft (by omega) HSJ.out
          clear HDN o6 hal2 g7 o7 hol
          go_wp2_with (at_builtin; refine Lib.wpList_append_run _ rfl _ _ _ _ rfl _ _ rfl rfl _ _ (HR7.out _) ?_)
          go_ret2
          exact ⟨A7, n', c7, by rw [HN.out]; rfl, by rw [HT0.out]; exact f7, b7⟩
end Go.Proofs.YtaidggjnpnfdhaaGreatDoor
namespace Go.Proofs.YtaidggjnpnfdhaaGreatDoor
open Go.RowKit

theorem below_dn {B : Nat} {a b : World} (h : Below B a b) : Below B a b.drew := h.drew
set_option maxRecDepth 20000 in
set_option maxHeartbeats 8000000 in
theorem rpaths11_any {w : World} {A : Option Addr} {n c : Nat} {l : List Ac} (h : At w A n c l) :
    Calls Tryz.prog 18 #[.slice A n c] w fun e w' => ∃ C q, e = .returned (.slice C (pathsA l).length q) ∧ (pathsA l).length ≤ q ∧ Rd w' C (strV (pathsA l)) ∧ Below w.heap.size w w' := by
  have hr := h.rd
  have hn := h.big
  have HL := hid h.len
  clear h
  go_enter Tryz.func18, Tryz.ntmps18
  go_wp2_with fail
  go_loopw [3, 4] (fun x i wr => ∃ (j : Nat) (C : Option Addr) (q : Nat) (out : List ByteArray), j ≤ n ∧ i = .int .i64 j ∧ x = .slice C out.length q ∧ out.length ≤ q ∧ out.length ≤ j ∧ Hid (out = ((l.map fun a : Ac => a.1).take j).foldl insP []) ∧ Rd wr C (strV out) ∧ Below w.heap.size w wr) (fun _ i _ => n - (intOf i).toNat)
  case atStart => exact ⟨0, none, 0, [], by omega, rfl, rfl, by simp, by simp, by simp [Hid], .inl rfl, Below.refl _ _⟩
  case round =>
    obtain ⟨j, C, q, out, hj, rfl, rfl, hoq, hoj, HF, hro, b⟩ := hrel
    by_cases hjn : j < n
    · have hz : (0 : Int) ≤ j := by omega
      have hlt : (j : Int) < n := by omega
      have hjl : j < l.length := by rw [HL.out]; exact hjn
      obtain ⟨g, og, rfl, x0, -, -, lg⟩ := (hr.below b).act hjl
      have hp : (l.map fun a : Ac => a.1)[j]? = some l[j].1 := by rw [List.getElem?_map, List.getElem?_eq_getElem hjl]; rfl
      have HFOLD : Hid (insP out l[j].1 = ((l.map fun a : Ac => a.1).take (j + 1)).foldl insP []) := by show _ = _; rw [List.take_add_one, hp, List.foldl_append, HF.out]; rfl
      have hoL : out.length ≤ 200000 := by omega
      clear hp
      generalize l[j].1 = p at *
      have HX := hid (fun W (hb : Below wr.heap.size wr W) => (hb.cell (p := ⟨g, og + j * 3, none⟩) lg).trans x0)
      clear x0
      go_wp2_with fail
      go_loopw [5] (fun i W => ∃ k : Nat, k ≤ out.length ∧ i = .int .i64 k ∧ Hid (∀ i (hi : i < out.length), i < k → lessS out[i] p = true) ∧ Below wr.heap.size wr W) (fun i _ => out.length - (intOf i).toNat)
      case atStart => exact ⟨0, by omega, rfl, hid (fun i _ hi => absurd hi (by omega)), Below.refl _ _⟩
      case round =>
        obtain ⟨k, hk, rfl, HK, bW⟩ := hrel
        rename World => W
        have x0 := HX.out _ bW
        by_cases hko : k < out.length
        · have hkz : (0 : Int) ≤ k := by omega
          have hklt : (k : Int) < out.length := by omega
          have hkne : ((k : Int) == (out.length : Int)) = false := by simp; omega
          obtain ⟨gs, os, rfl, y0, lgs⟩ := hro.at_ (k := k) (by rw [strV_length]; exact hko)
          rw [show (strV out)[k]'(by rw [strV_length]; exact hko) = .string out[k] by simp [strV]] at y0
          have HY := hid (fun W (hb : Below wr.heap.size wr W) => (hb.cell (p := ⟨gs, os + k, none⟩) lgs).trans y0)
          clear y0
          have y0 := HY.out _ bW
          have hls : Op.bytesLess out[k].toList p.toList = lessS out[k] p := by rw [Lib.toList_data, Lib.toList_data]; rfl
          cases hle : lessS out[k] p with
          | true =>
            rw [hle] at hls
            have HK2 : Hid (∀ i (hi : i < out.length), i < k + 1 → lessS out[i] p = true) := fun i hi hik => by
              by_cases e : i = k
              · subst e; exact hle
              · exact HK.out i hi (by omega)
            clear hle
            go_wp2_with fail
            go_quiet (fail)
            go_wp2
            go_roundw
            case rel => exact ⟨k + 1, by omega, by go_num, HK2, below_drewN bW _⟩
            case measure => simp [intOf]; omega
          | false =>
            rw [hle] at hls
            have hat : atS out p = k := atS_is hk HK.out (fun _ => hle)
            have hsq := str_eqb out[k] p
            clear hle
            by_cases hpq : out[k] = p
            · have HINS : Hid (insP out p = out) := by show _ = _; rw [insP, hat, if_pos (by rw [List.getElem?_eq_getElem hko, hpq])]
              rw [decide_eq_true hpq] at hsq
              clear hat hpq
              have HF2 : Hid (out = ((l.map fun a : Ac => a.1).take (j + 1)).foldl insP []) := by show _ = _; rw [← HFOLD.out, HINS.out]
              go_wp2_with fail
              go_quiet (fail)
              go_wp2_with fail
              go_quiet (fail)
              go_wp2
              go_roundw
              case rel => exact ⟨j + 1, _, q, out, by omega, by go_num, rfl, hoq, by omega, HF2, (hro.below (below_drewN bW _)), below_drewN (b.trans (bW.mono b.size)) _⟩
              case measure => simp [intOf]; omega
            · have HINS : Hid (insP out p = out.take k ++ [p] ++ out.drop k) := by show _ = _; rw [insP, hat, if_neg (by rw [List.getElem?_eq_getElem hko]; exact fun e => hpq (by injection e))]; simp
              rw [decide_eq_false hpq] at hsq
              clear hat hpq
              go_wp2_with fail
              go_quiet (fail)
              have bU := below_drewN bW nq
              clear x0 y0
              generalize W.drewN nq = U at *
              have x0 := HX.out _ bU
              have y0 := HY.out _ bU
              go_wp2_with fail
              go_quiet (fail)
              have bV := below_drewN bU nq
              clear x0 y0 bU bW
              generalize U.drewN nq = V at *
              have x0 := HX.out _ bV
              go_wp2_with fail
              obtain ⟨B1, B2, hs1, hs2, hq1, hq2⟩ := cuts (k := k) hro hoq (by omega)
              have hz3 : (0 : Int) ≤ ((k : Nat) : Int) := by omega
              refine wp_region_held_drew (S := fun w' => w'.cell? ⟨g, og + j * 3, none⟩ = some (.string p)) (by kernel_rfl) x0 (fun hHeld => ?_)
              refine wpAnyH_take (i := 1) (oi := ⟨_, _, _, _, _, _⟩) (v := ?_) rfl (by kernel_rfl) (by kernel_rfl) (by kernel_rfl) (fun _ _ _ h => h) (Or.inl ⟨by rfl, ?_⟩) (by assumption) ?_
              rotate_left
              · intro w hSw; (try dsimp only at hSw); go_simp; (try (with_reducible rfl))
              try simp only [Act.put, List.setIfInBounds_toArray, List.set_cons_zero, List.set_cons_succ]
              refine wpAnyH_take (i := 2) (oi := ⟨_, _, _, _, _, _⟩) (v := ?_) rfl (by kernel_rfl) (by kernel_rfl) (by kernel_rfl) (fun _ _ _ h => h) (Or.inl ⟨by rfl, ?_⟩) (by assumption) ?_
              rotate_left
              · intro w hSw; (try dsimp only at hSw); go_simp; (try (with_reducible rfl))
              try simp only [Act.put, List.setIfInBounds_toArray, List.set_cons_zero, List.set_cons_succ]
              refine wpAnyH_take (i := 3) (oi := ⟨_, _, _, _, _, _⟩) (v := ?_) rfl (by kernel_rfl) (by kernel_rfl) (by kernel_rfl) (fun _ _ _ h => h) (Or.inl ⟨by rfl, ?_⟩) (by assumption) ?_
              rotate_left
              · intro w hSw; (try dsimp only at hSw); go_simp; (try (with_reducible rfl))
              try simp only [Act.put, List.setIfInBounds_toArray, List.set_cons_zero, List.set_cons_succ]
              refine wpAnyH_take (i := 5) (oi := ⟨_, _, _, _, _, _⟩) (v := ?_) rfl (by kernel_rfl) (by kernel_rfl) (by kernel_rfl) (fun _ _ _ h => h) (Or.inl ⟨by rfl, ?_⟩) (by assumption) ?_
              rotate_left
              · intro w hSw; (try dsimp only at hSw); go_simp; (try (with_reducible rfl))
              try simp only [Act.put, List.setIfInBounds_toArray, List.set_cons_zero, List.set_cons_succ]
              refine wpAnyH_take (i := 6) (oi := ⟨_, _, _, _, _, _⟩) (v := ?_) rfl (by kernel_rfl) (by kernel_rfl) (by kernel_rfl) (fun _ _ _ h => h) (Or.inl ⟨by rfl, ?_⟩) (by assumption) ?_
              rotate_left
              · intro w hSw; (try dsimp only at hSw); go_simp; (try (with_reducible rfl))
              try simp only [Act.put, List.setIfInBounds_toArray, List.set_cons_zero, List.set_cons_succ]
              refine wpAnyH_take (i := 7) (oi := ⟨_, _, _, _, _, _⟩) (v := ?_) rfl (by kernel_rfl) (by kernel_rfl) (by kernel_rfl) (fun _ _ _ h => h) (Or.inl ⟨by rfl, ?_⟩) (by assumption) ?_
              rotate_left
              · intro w hSw; (try dsimp only at hSw); go_simp; (try (with_reducible rfl))
              try simp only [Act.put, List.setIfInBounds_toArray, List.set_cons_zero, List.set_cons_succ]
              refine wpAnyH_take (i := 8) (oi := ⟨_, _, _, _, _, _⟩) (v := ?_) rfl (by kernel_rfl) (by kernel_rfl) (by kernel_rfl) (fun _ _ _ h => h) (Or.inl ⟨by rfl, ?_⟩) (by assumption) ?_
              rotate_left
              · intro w hSw; (try dsimp only at hSw); go_simp; (try (with_reducible rfl))
              try simp only [Act.put, List.setIfInBounds_toArray, List.set_cons_zero, List.set_cons_succ]
              refine wpAnyH_take (i := 9) (oi := ⟨_, _, _, _, _, _⟩) (v := ?_) rfl (by kernel_rfl) (by kernel_rfl) (by kernel_rfl) (fun _ _ _ h => h) (Or.inl ⟨by rfl, ?_⟩) (by assumption) ?_
              rotate_left
              · intro w hSw; (try dsimp only at hSw); go_simp; (try (with_reducible rfl))
              try simp only [Act.put, List.setIfInBounds_toArray, List.set_cons_zero, List.set_cons_succ]
              refine wpAnyH_take (i := 12) (oi := ⟨_, _, _, _, _, _⟩) (v := ?_) rfl (by kernel_rfl) (by kernel_rfl) (by kernel_rfl) (fun _ _ _ h => h) (Or.inl ⟨by rfl, ?_⟩) (by assumption) ?_
              rotate_left
              · intro w hSw; (try dsimp only at hSw); go_simp; (try (with_reducible rfl))
              try simp only [Act.put, List.setIfInBounds_toArray, List.set_cons_zero, List.set_cons_succ]
              refine wpAnyH_take (i := 13) (oi := ⟨_, _, _, _, _, _⟩) (v := ?_) rfl (by kernel_rfl) (by kernel_rfl) (by kernel_rfl) (fun _ _ _ h => h) (Or.inl ⟨by rfl, ?_⟩) (by assumption) ?_
              rotate_left
              · intro w hSw; (try dsimp only at hSw); go_simp; (try (with_reducible rfl))
              try simp only [Act.put, List.setIfInBounds_toArray, List.set_cons_zero, List.set_cons_succ]
              refine wpAnyH_take (i := 14) (oi := ⟨_, _, _, _, _, _⟩) (v := ?_) rfl (by kernel_rfl) (by kernel_rfl) (by kernel_rfl) (fun _ _ _ h => h) (Or.inl ⟨by rfl, ?_⟩) (by assumption) ?_
              rotate_left
              · intro w hSw; (try dsimp only at hSw); go_simp; (try (with_reducible rfl))
              try simp only [Act.put, List.setIfInBounds_toArray, List.set_cons_zero, List.set_cons_succ]
              have d0 : Below wr.heap.size wr V.drew := bV.drew
              obtain ⟨X0, hX0⟩ : ∃ X0, V.drew = X0 := ⟨_, rfl⟩
              rw [hX0] at d0 ⊢
              have hs0 := hid d0.size
              clear hX0
              refine wpAnyH_ready (rs := [0, 10]) (by kernel_rfl) (by simp) ?_
              refine AllReadyH.cons (o := ⟨_, _, _, _, _, _⟩) rfl (fun K hK => ?_) (AllReadyH.cons (o := ⟨_, _, _, _, _, _⟩) rfl (fun K hK => ?_) (AllReadyH.nil))
              · have o1 := own_none X0 wr.heap.size (by have := hs0.out; omega)
                have d1 := d0.alloc (by have := hs0.out; omega) (.cells #[] 9)
                go_simp
                refine hK.out _ _ (HX.out _ d1) (fun hHeld => ?_)
                clear hK K
                try simp only [Act.put, List.setIfInBounds_toArray, List.set_cons_zero, List.set_cons_succ]
                refine wpAnyH_ready (rs := [4, 10]) (by kernel_rfl) (by simp) ?_
                refine AllReadyH.cons (o := ⟨_, _, _, _, _, _⟩) rfl (fun K hK => ?_) (AllReadyH.cons (o := ⟨_, _, _, _, _, _⟩) rfl (fun K hK => ?_) (AllReadyH.nil))
                · have o2 := o1
                  have d2 := d1
                  obtain ⟨A3, c3, X3, HR3, o3', g3, e3⟩ := app_strs (d := q) o2 (by have := d2.size; omega) (ys := out.take k) (m := k) (by rw [List.length_take]; omega) (hq1.below d2) (t := k) (by omega) (by omega)
                  have d3' := d2.trans e3
                  refine stepApp2 (by rfl) (.tmp 46) (.tmp 49) 35 rfl _ _ _ rfl rfl HR3.out ?_
                  refine hK.out _ _ (HX.out _ d3') (fun hHeld => ?_)
                  clear hK K
                  try simp only [Act.put, List.setIfInBounds_toArray, List.set_cons_zero, List.set_cons_succ]
                  refine wpAnyH_ready (rs := [10]) (by kernel_rfl) (by simp) ?_
                  refine AllReadyH.cons (o := ⟨_, _, _, _, _, _⟩) rfl (fun K hK => ?_) (AllReadyH.nil)
                  have o3 := own_below o3' ((Below.refl _ _).alloc (Nat.le_refl _) (.cells #[.string p] 9))
                  have pR3 := rd_one X3 p
                  have d3 := d3'.alloc d3'.size (.cells #[.string p] 9)
                  go_simp
                  refine hK.out _ _ (HX.out _ d3) (fun hHeld => ?_)
                  clear hK K
                  try simp only [Act.put, List.setIfInBounds_toArray, List.set_cons_zero, List.set_cons_succ]
                  obtain ⟨A4, c4, X4, HR4, o4, -, e4⟩ := app_strs (d := 1) o3 (by have := d3.size; omega) (ys := [p]) (m := 1) rfl pR3 (t := k + 1) (by omega) (by omega)
                  have d4 := d3.trans e4
                  refine wpAnyH_ready (rs := [11]) (by kernel_rfl) (by simp) ?_
                  refine AllReadyH.cons (o := ⟨_, _, _, _, _, _⟩) rfl (fun K hK => ?_) AllReadyH.nil
                  refine stepApp2 (by rfl) (.tmp 50) (.tmp 56) 35 rfl _ _ _ rfl rfl HR4.out ?_
                  refine hK.out _ _ (HX.out _ d4) (fun hHeld => ?_)
                  clear hK K
                  try simp only [Act.put, List.setIfInBounds_toArray, List.set_cons_zero, List.set_cons_succ]
                  obtain ⟨A5, c5, X5, HR5, o5, -, e5⟩ := app_strs (d := q - k) o4 (by have := d4.size; omega) (ys := out.drop k) (m := out.length - k) (by simp) (hq2.below d4) (t := out.length + 1) (by omega) (by omega)
                  have d5 := d4.trans e5
                  refine wpAnyH_ready (rs := [15]) (by kernel_rfl) (by simp) ?_
                  refine AllReadyH.cons (o := ⟨_, _, _, _, _, _⟩) rfl (fun K hK => ?_) AllReadyH.nil
                  refine stepApp2 (by rfl) (.tmp 57) (.tmp 60) 35 rfl _ _ _ rfl rfl HR5.out ?_
                  refine hK.out _ _ (HX.out _ d5) (fun hHeld => ?_)
                  clear hK K
                  try simp only [Act.put, List.setIfInBounds_toArray, List.set_cons_zero, List.set_cons_succ]
                  refine wpAnyH_take (i := 16) (oi := ⟨_, _, _, _, _, _⟩) (v := ?_) rfl (by kernel_rfl) (by kernel_rfl) (by kernel_rfl) (fun _ _ _ h => h) (Or.inl ⟨by rfl, ?_⟩) (by assumption) ?_
                  rotate_left
                  · intro w hSw; (try dsimp only at hSw); go_simp; (try (with_reducible rfl))
                  try simp only [Act.put, List.setIfInBounds_toArray, List.set_cons_zero, List.set_cons_succ]
                  refine wpAnyH_done (by kernel_rfl) ?_ _
                  have o6 : X5.ownsRow wr.heap.size 9 1 (.slice A5 (out.length + 1) c5) (out.length + 1) (strV (insP out p)) := by rw [HINS.out]; exact o5
                  have b6 := b.trans (d5.mono b.size)
                  have l6 : (insP out p).length = out.length + 1 := by have := o6.1; rw [strV_length] at this; omega
                  have f6 : out.length + 1 ≤ c5 := by obtain ⟨-, A9, c9, e9, h9, -⟩ := own_form o6; injection e9 with e1 e2 e3; rw [e3]; exact h9
                  have r6 := Rd.of_own o6
                  clear hHeld o6 o5 o4 HR4 HR5 hs1 hs2 hq1 hq2
                  go_wp2
                  go_roundw
                  case rel => exact ⟨j + 1, A5, c5, insP out p, by omega, by go_num, by rw [l6], by omega, by omega, HFOLD, r6, b6⟩
                  case measure => simp [intOf]; omega
                · have o2 := own_below o1 ((Below.refl _ _).alloc (Nat.le_refl _) (.cells #[.string p] 9))
                  have pR2 := rd_one (X0.alloc (.cells #[] 9)) p
                  have d2 := d1.alloc d1.size (.cells #[.string p] 9)
                  simp only [World.size_alloc] at pR2
                  have hlt2 : X0.heap.size + 1 < ((X0.alloc (.cells #[] 9)).alloc (.cells #[.string p] 9)).heap.size := by simp
                  go_simp
                  refine hK.out _ _ (HX.out _ d2) (fun hHeld => ?_)
                  clear hK K
                  try simp only [Act.put, List.setIfInBounds_toArray, List.set_cons_zero, List.set_cons_succ]
                  obtain ⟨A3, c3, X3, HR3, o3, g3, e3⟩ := app_strs (d := q) o2 (by have := d2.size; omega) (ys := out.take k) (m := k) (by rw [List.length_take]; omega) (hq1.below d2) (t := k) (by omega) (by omega)
                  have d3 := d2.trans e3
                  refine wpAnyH_ready (rs := [4]) (by kernel_rfl) (by simp) ?_
                  refine AllReadyH.cons (o := ⟨_, _, _, _, _, _⟩) rfl (fun K hK => ?_) AllReadyH.nil
                  refine stepApp2 (by rfl) (.tmp 46) (.tmp 49) 35 rfl _ _ _ rfl rfl HR3.out ?_
                  refine hK.out _ _ (HX.out _ d3) (fun hHeld => ?_)
                  clear hK K
                  try simp only [Act.put, List.setIfInBounds_toArray, List.set_cons_zero, List.set_cons_succ]
                  have pR3 := rd_apart pR2 g3 hlt2 (by simp [Value.ownBlock])
                  obtain ⟨A4, c4, X4, HR4, o4, -, e4⟩ := app_strs (d := 1) o3 (by have := d3.size; omega) (ys := [p]) (m := 1) rfl pR3 (t := k + 1) (by omega) (by omega)
                  have d4 := d3.trans e4
                  refine wpAnyH_ready (rs := [11]) (by kernel_rfl) (by simp) ?_
                  refine AllReadyH.cons (o := ⟨_, _, _, _, _, _⟩) rfl (fun K hK => ?_) AllReadyH.nil
                  refine stepApp2 (by rfl) (.tmp 50) (.tmp 56) 35 rfl _ _ _ rfl rfl HR4.out ?_
                  refine hK.out _ _ (HX.out _ d4) (fun hHeld => ?_)
                  clear hK K
                  try simp only [Act.put, List.setIfInBounds_toArray, List.set_cons_zero, List.set_cons_succ]
                  obtain ⟨A5, c5, X5, HR5, o5, -, e5⟩ := app_strs (d := q - k) o4 (by have := d4.size; omega) (ys := out.drop k) (m := out.length - k) (by simp) (hq2.below d4) (t := out.length + 1) (by omega) (by omega)
                  have d5 := d4.trans e5
                  refine wpAnyH_ready (rs := [15]) (by kernel_rfl) (by simp) ?_
                  refine AllReadyH.cons (o := ⟨_, _, _, _, _, _⟩) rfl (fun K hK => ?_) AllReadyH.nil
                  refine stepApp2 (by rfl) (.tmp 57) (.tmp 60) 35 rfl _ _ _ rfl rfl HR5.out ?_
                  refine hK.out _ _ (HX.out _ d5) (fun hHeld => ?_)
                  clear hK K
                  try simp only [Act.put, List.setIfInBounds_toArray, List.set_cons_zero, List.set_cons_succ]
                  refine wpAnyH_take (i := 16) (oi := ⟨_, _, _, _, _, _⟩) (v := ?_) rfl (by kernel_rfl) (by kernel_rfl) (by kernel_rfl) (fun _ _ _ h => h) (Or.inl ⟨by rfl, ?_⟩) (by assumption) ?_
                  rotate_left
                  · intro w hSw; (try dsimp only at hSw); go_simp; (try (with_reducible rfl))
                  try simp only [Act.put, List.setIfInBounds_toArray, List.set_cons_zero, List.set_cons_succ]
                  refine wpAnyH_done (by kernel_rfl) ?_ _
                  have o6 : X5.ownsRow wr.heap.size 9 1 (.slice A5 (out.length + 1) c5) (out.length + 1) (strV (insP out p)) := by rw [HINS.out]; exact o5
                  have b6 := b.trans (d5.mono b.size)
                  have l6 : (insP out p).length = out.length + 1 := by have := o6.1; rw [strV_length] at this; omega
                  have f6 : out.length + 1 ≤ c5 := by obtain ⟨-, A9, c9, e9, h9, -⟩ := own_form o6; injection e9 with e1 e2 e3; rw [e3]; exact h9
                  have r6 := Rd.of_own o6
                  clear hHeld o6 o5 o4 HR4 HR5 hs1 hs2 hq1 hq2
                  go_wp2
                  go_roundw
                  case rel => exact ⟨j + 1, A5, c5, insP out p, by omega, by go_num, by rw [l6], by omega, by omega, HFOLD, r6, b6⟩
                  case measure => simp [intOf]; omega
              · have d1 := d0.alloc (by have := hs0.out; omega) (.cells #[.string p] 9)
                go_simp
                refine hK.out _ _ (HX.out _ d1) (fun hHeld => ?_)
                clear hK K
                try simp only [Act.put, List.setIfInBounds_toArray, List.set_cons_zero, List.set_cons_succ]
                refine wpAnyH_ready (rs := [0]) (by kernel_rfl) (by simp) ?_
                refine AllReadyH.cons (o := ⟨_, _, _, _, _, _⟩) rfl (fun K hK => ?_) (AllReadyH.nil)
                have pR2 := (rd_one X0 p).below ((Below.refl _ _).alloc (Nat.le_refl _) (.cells #[] 9))
                have o2 := own_none (X0.alloc (.cells #[.string p] 9)) wr.heap.size d1.size
                have d2 := d1.alloc d1.size (.cells #[] 9)
                simp only [World.size_alloc] at o2
                have hlt2 : X0.heap.size < ((X0.alloc (.cells #[.string p] 9)).alloc (.cells #[] 9)).heap.size := by simp; omega
                go_simp
                refine hK.out _ _ (HX.out _ d2) (fun hHeld => ?_)
                clear hK K
                try simp only [Act.put, List.setIfInBounds_toArray, List.set_cons_zero, List.set_cons_succ]
                obtain ⟨A3, c3, X3, HR3, o3, g3, e3⟩ := app_strs (d := q) o2 (by have := d2.size; omega) (ys := out.take k) (m := k) (by rw [List.length_take]; omega) (hq1.below d2) (t := k) (by omega) (by omega)
                have d3 := d2.trans e3
                refine wpAnyH_ready (rs := [4]) (by kernel_rfl) (by simp) ?_
                refine AllReadyH.cons (o := ⟨_, _, _, _, _, _⟩) rfl (fun K hK => ?_) AllReadyH.nil
                refine stepApp2 (by rfl) (.tmp 46) (.tmp 49) 35 rfl _ _ _ rfl rfl HR3.out ?_
                refine hK.out _ _ (HX.out _ d3) (fun hHeld => ?_)
                clear hK K
                try simp only [Act.put, List.setIfInBounds_toArray, List.set_cons_zero, List.set_cons_succ]
                have pR3 := rd_apart pR2 g3 hlt2 (by simp [Value.ownBlock])
                obtain ⟨A4, c4, X4, HR4, o4, -, e4⟩ := app_strs (d := 1) o3 (by have := d3.size; omega) (ys := [p]) (m := 1) rfl pR3 (t := k + 1) (by omega) (by omega)
                have d4 := d3.trans e4
                refine wpAnyH_ready (rs := [11]) (by kernel_rfl) (by simp) ?_
                refine AllReadyH.cons (o := ⟨_, _, _, _, _, _⟩) rfl (fun K hK => ?_) AllReadyH.nil
                refine stepApp2 (by rfl) (.tmp 50) (.tmp 56) 35 rfl _ _ _ rfl rfl HR4.out ?_
                refine hK.out _ _ (HX.out _ d4) (fun hHeld => ?_)
                clear hK K
                try simp only [Act.put, List.setIfInBounds_toArray, List.set_cons_zero, List.set_cons_succ]
                obtain ⟨A5, c5, X5, HR5, o5, -, e5⟩ := app_strs (d := q - k) o4 (by have := d4.size; omega) (ys := out.drop k) (m := out.length - k) (by simp) (hq2.below d4) (t := out.length + 1) (by omega) (by omega)
                have d5 := d4.trans e5
                refine wpAnyH_ready (rs := [15]) (by kernel_rfl) (by simp) ?_
                refine AllReadyH.cons (o := ⟨_, _, _, _, _, _⟩) rfl (fun K hK => ?_) AllReadyH.nil
                refine stepApp2 (by rfl) (.tmp 57) (.tmp 60) 35 rfl _ _ _ rfl rfl HR5.out ?_
                refine hK.out _ _ (HX.out _ d5) (fun hHeld => ?_)
                clear hK K
                try simp only [Act.put, List.setIfInBounds_toArray, List.set_cons_zero, List.set_cons_succ]
                refine wpAnyH_take (i := 16) (oi := ⟨_, _, _, _, _, _⟩) (v := ?_) rfl (by kernel_rfl) (by kernel_rfl) (by kernel_rfl) (fun _ _ _ h => h) (Or.inl ⟨by rfl, ?_⟩) (by assumption) ?_
                rotate_left
                · intro w hSw; (try dsimp only at hSw); go_simp; (try (with_reducible rfl))
                try simp only [Act.put, List.setIfInBounds_toArray, List.set_cons_zero, List.set_cons_succ]
                refine wpAnyH_done (by kernel_rfl) ?_ _
                have o6 : X5.ownsRow wr.heap.size 9 1 (.slice A5 (out.length + 1) c5) (out.length + 1) (strV (insP out p)) := by rw [HINS.out]; exact o5
                have b6 := b.trans (d5.mono b.size)
                have l6 : (insP out p).length = out.length + 1 := by have := o6.1; rw [strV_length] at this; omega
                have f6 : out.length + 1 ≤ c5 := by obtain ⟨-, A9, c9, e9, h9, -⟩ := own_form o6; injection e9 with e1 e2 e3; rw [e3]; exact h9
                have r6 := Rd.of_own o6
                clear hHeld o6 o5 o4 HR4 HR5 hs1 hs2 hq1 hq2
                go_wp2
                go_roundw
                case rel => exact ⟨j + 1, A5, c5, insP out p, by omega, by go_num, by rw [l6], by omega, by omega, HFOLD, r6, b6⟩
                case measure => simp [intOf]; omega
        · have hkn : ¬ (k : Int) < out.length := by omega
          have hkeq : ((k : Int) == (out.length : Int)) = true := by simp; omega
          have hat : atS out p = k := atS_is hk HK.out (fun h => absurd h hko)
          have HINS : Hid (insP out p = out.take k ++ [p] ++ out.drop k) := by show _ = _; rw [insP, hat, if_neg (by rw [List.getElem?_eq_none (by omega)]; simp)]; simp
          clear hat
          go_wp2_with fail
          go_quiet (fail)
          have bU := below_drewN bW nq
          clear x0
          generalize W.drewN nq = U at *
          have x0 := HX.out _ bU
          go_wp2_with fail
          go_quiet (fail)
          have bV := below_drewN bU nq
          clear x0 bU bW
          generalize U.drewN nq = V at *
          have x0 := HX.out _ bV
          go_wp2_with fail
          obtain ⟨B1, B2, hs1, hs2, hq1, hq2⟩ := cuts (k := k) hro hoq (by omega)
          have hz3 : (0 : Int) ≤ ((k : Nat) : Int) := by omega
          refine wp_region_held_drew (S := fun w' => w'.cell? ⟨g, og + j * 3, none⟩ = some (.string p)) (by kernel_rfl) x0 (fun hHeld => ?_)
          refine wpAnyH_take (i := 1) (oi := ⟨_, _, _, _, _, _⟩) (v := ?_) rfl (by kernel_rfl) (by kernel_rfl) (by kernel_rfl) (fun _ _ _ h => h) (Or.inl ⟨by rfl, ?_⟩) (by assumption) ?_
          rotate_left
          · intro w hSw; (try dsimp only at hSw); go_simp; (try (with_reducible rfl))
          try simp only [Act.put, List.setIfInBounds_toArray, List.set_cons_zero, List.set_cons_succ]
          refine wpAnyH_take (i := 2) (oi := ⟨_, _, _, _, _, _⟩) (v := ?_) rfl (by kernel_rfl) (by kernel_rfl) (by kernel_rfl) (fun _ _ _ h => h) (Or.inl ⟨by rfl, ?_⟩) (by assumption) ?_
          rotate_left
          · intro w hSw; (try dsimp only at hSw); go_simp; (try (with_reducible rfl))
          try simp only [Act.put, List.setIfInBounds_toArray, List.set_cons_zero, List.set_cons_succ]
          refine wpAnyH_take (i := 3) (oi := ⟨_, _, _, _, _, _⟩) (v := ?_) rfl (by kernel_rfl) (by kernel_rfl) (by kernel_rfl) (fun _ _ _ h => h) (Or.inl ⟨by rfl, ?_⟩) (by assumption) ?_
          rotate_left
          · intro w hSw; (try dsimp only at hSw); go_simp; (try (with_reducible rfl))
          try simp only [Act.put, List.setIfInBounds_toArray, List.set_cons_zero, List.set_cons_succ]
          refine wpAnyH_take (i := 5) (oi := ⟨_, _, _, _, _, _⟩) (v := ?_) rfl (by kernel_rfl) (by kernel_rfl) (by kernel_rfl) (fun _ _ _ h => h) (Or.inl ⟨by rfl, ?_⟩) (by assumption) ?_
          rotate_left
          · intro w hSw; (try dsimp only at hSw); go_simp; (try (with_reducible rfl))
          try simp only [Act.put, List.setIfInBounds_toArray, List.set_cons_zero, List.set_cons_succ]
          refine wpAnyH_take (i := 6) (oi := ⟨_, _, _, _, _, _⟩) (v := ?_) rfl (by kernel_rfl) (by kernel_rfl) (by kernel_rfl) (fun _ _ _ h => h) (Or.inl ⟨by rfl, ?_⟩) (by assumption) ?_
          rotate_left
          · intro w hSw; (try dsimp only at hSw); go_simp; (try (with_reducible rfl))
          try simp only [Act.put, List.setIfInBounds_toArray, List.set_cons_zero, List.set_cons_succ]
          refine wpAnyH_take (i := 7) (oi := ⟨_, _, _, _, _, _⟩) (v := ?_) rfl (by kernel_rfl) (by kernel_rfl) (by kernel_rfl) (fun _ _ _ h => h) (Or.inl ⟨by rfl, ?_⟩) (by assumption) ?_
          rotate_left
          · intro w hSw; (try dsimp only at hSw); go_simp; (try (with_reducible rfl))
          try simp only [Act.put, List.setIfInBounds_toArray, List.set_cons_zero, List.set_cons_succ]
          refine wpAnyH_take (i := 8) (oi := ⟨_, _, _, _, _, _⟩) (v := ?_) rfl (by kernel_rfl) (by kernel_rfl) (by kernel_rfl) (fun _ _ _ h => h) (Or.inl ⟨by rfl, ?_⟩) (by assumption) ?_
          rotate_left
          · intro w hSw; (try dsimp only at hSw); go_simp; (try (with_reducible rfl))
          try simp only [Act.put, List.setIfInBounds_toArray, List.set_cons_zero, List.set_cons_succ]
          refine wpAnyH_take (i := 9) (oi := ⟨_, _, _, _, _, _⟩) (v := ?_) rfl (by kernel_rfl) (by kernel_rfl) (by kernel_rfl) (fun _ _ _ h => h) (Or.inl ⟨by rfl, ?_⟩) (by assumption) ?_
          rotate_left
          · intro w hSw; (try dsimp only at hSw); go_simp; (try (with_reducible rfl))
          try simp only [Act.put, List.setIfInBounds_toArray, List.set_cons_zero, List.set_cons_succ]
          refine wpAnyH_take (i := 12) (oi := ⟨_, _, _, _, _, _⟩) (v := ?_) rfl (by kernel_rfl) (by kernel_rfl) (by kernel_rfl) (fun _ _ _ h => h) (Or.inl ⟨by rfl, ?_⟩) (by assumption) ?_
          rotate_left
          · intro w hSw; (try dsimp only at hSw); go_simp; (try (with_reducible rfl))
          try simp only [Act.put, List.setIfInBounds_toArray, List.set_cons_zero, List.set_cons_succ]
          refine wpAnyH_take (i := 13) (oi := ⟨_, _, _, _, _, _⟩) (v := ?_) rfl (by kernel_rfl) (by kernel_rfl) (by kernel_rfl) (fun _ _ _ h => h) (Or.inl ⟨by rfl, ?_⟩) (by assumption) ?_
          rotate_left
          · intro w hSw; (try dsimp only at hSw); go_simp; (try (with_reducible rfl))
          try simp only [Act.put, List.setIfInBounds_toArray, List.set_cons_zero, List.set_cons_succ]
          refine wpAnyH_take (i := 14) (oi := ⟨_, _, _, _, _, _⟩) (v := ?_) rfl (by kernel_rfl) (by kernel_rfl) (by kernel_rfl) (fun _ _ _ h => h) (Or.inl ⟨by rfl, ?_⟩) (by assumption) ?_
          rotate_left
          · intro w hSw; (try dsimp only at hSw); go_simp; (try (with_reducible rfl))
          try simp only [Act.put, List.setIfInBounds_toArray, List.set_cons_zero, List.set_cons_succ]
          have d0 : Below wr.heap.size wr V.drew := bV.drew
          obtain ⟨X0, hX0⟩ : ∃ X0, V.drew = X0 := ⟨_, rfl⟩
          rw [hX0] at d0 ⊢
          have hs0 := hid d0.size
          clear hX0
          refine wpAnyH_ready (rs := [0, 10]) (by kernel_rfl) (by simp) ?_
          refine AllReadyH.cons (o := ⟨_, _, _, _, _, _⟩) rfl (fun K hK => ?_) (AllReadyH.cons (o := ⟨_, _, _, _, _, _⟩) rfl (fun K hK => ?_) (AllReadyH.nil))
          · have o1 := own_none X0 wr.heap.size (by have := hs0.out; omega)
            have d1 := d0.alloc (by have := hs0.out; omega) (.cells #[] 9)
            go_simp
            refine hK.out _ _ (HX.out _ d1) (fun hHeld => ?_)
            clear hK K
            try simp only [Act.put, List.setIfInBounds_toArray, List.set_cons_zero, List.set_cons_succ]
            refine wpAnyH_ready (rs := [4, 10]) (by kernel_rfl) (by simp) ?_
            refine AllReadyH.cons (o := ⟨_, _, _, _, _, _⟩) rfl (fun K hK => ?_) (AllReadyH.cons (o := ⟨_, _, _, _, _, _⟩) rfl (fun K hK => ?_) (AllReadyH.nil))
            · have o2 := o1
              have d2 := d1
              obtain ⟨A3, c3, X3, HR3, o3', g3, e3⟩ := app_strs (d := q) o2 (by have := d2.size; omega) (ys := out.take k) (m := k) (by rw [List.length_take]; omega) (hq1.below d2) (t := k) (by omega) (by omega)
              have d3' := d2.trans e3
              refine stepApp2 (by rfl) (.tmp 46) (.tmp 49) 35 rfl _ _ _ rfl rfl HR3.out ?_
              refine hK.out _ _ (HX.out _ d3') (fun hHeld => ?_)
              clear hK K
              try simp only [Act.put, List.setIfInBounds_toArray, List.set_cons_zero, List.set_cons_succ]
              refine wpAnyH_ready (rs := [10]) (by kernel_rfl) (by simp) ?_
              refine AllReadyH.cons (o := ⟨_, _, _, _, _, _⟩) rfl (fun K hK => ?_) (AllReadyH.nil)
              have o3 := own_below o3' ((Below.refl _ _).alloc (Nat.le_refl _) (.cells #[.string p] 9))
              have pR3 := rd_one X3 p
              have d3 := d3'.alloc d3'.size (.cells #[.string p] 9)
              go_simp
              refine hK.out _ _ (HX.out _ d3) (fun hHeld => ?_)
              clear hK K
              try simp only [Act.put, List.setIfInBounds_toArray, List.set_cons_zero, List.set_cons_succ]
              obtain ⟨A4, c4, X4, HR4, o4, -, e4⟩ := app_strs (d := 1) o3 (by have := d3.size; omega) (ys := [p]) (m := 1) rfl pR3 (t := k + 1) (by omega) (by omega)
              have d4 := d3.trans e4
              refine wpAnyH_ready (rs := [11]) (by kernel_rfl) (by simp) ?_
              refine AllReadyH.cons (o := ⟨_, _, _, _, _, _⟩) rfl (fun K hK => ?_) AllReadyH.nil
              refine stepApp2 (by rfl) (.tmp 50) (.tmp 56) 35 rfl _ _ _ rfl rfl HR4.out ?_
              refine hK.out _ _ (HX.out _ d4) (fun hHeld => ?_)
              clear hK K
              try simp only [Act.put, List.setIfInBounds_toArray, List.set_cons_zero, List.set_cons_succ]
              obtain ⟨A5, c5, X5, HR5, o5, -, e5⟩ := app_strs (d := q - k) o4 (by have := d4.size; omega) (ys := out.drop k) (m := out.length - k) (by simp) (hq2.below d4) (t := out.length + 1) (by omega) (by omega)
              have d5 := d4.trans e5
              refine wpAnyH_ready (rs := [15]) (by kernel_rfl) (by simp) ?_
              refine AllReadyH.cons (o := ⟨_, _, _, _, _, _⟩) rfl (fun K hK => ?_) AllReadyH.nil
              refine stepApp2 (by rfl) (.tmp 57) (.tmp 60) 35 rfl _ _ _ rfl rfl HR5.out ?_
              refine hK.out _ _ (HX.out _ d5) (fun hHeld => ?_)
              clear hK K
              try simp only [Act.put, List.setIfInBounds_toArray, List.set_cons_zero, List.set_cons_succ]
              refine wpAnyH_take (i := 16) (oi := ⟨_, _, _, _, _, _⟩) (v := ?_) rfl (by kernel_rfl) (by kernel_rfl) (by kernel_rfl) (fun _ _ _ h => h) (Or.inl ⟨by rfl, ?_⟩) (by assumption) ?_
              rotate_left
              · intro w hSw; (try dsimp only at hSw); go_simp; (try (with_reducible rfl))
              try simp only [Act.put, List.setIfInBounds_toArray, List.set_cons_zero, List.set_cons_succ]
              refine wpAnyH_done (by kernel_rfl) ?_ _
              have o6 : X5.ownsRow wr.heap.size 9 1 (.slice A5 (out.length + 1) c5) (out.length + 1) (strV (insP out p)) := by rw [HINS.out]; exact o5
              have b6 := b.trans (d5.mono b.size)
              have l6 : (insP out p).length = out.length + 1 := by have := o6.1; rw [strV_length] at this; omega
              have f6 : out.length + 1 ≤ c5 := by obtain ⟨-, A9, c9, e9, h9, -⟩ := own_form o6; injection e9 with e1 e2 e3; rw [e3]; exact h9
              have r6 := Rd.of_own o6
              clear hHeld o6 o5 o4 HR4 HR5 hs1 hs2 hq1 hq2
              go_wp2
              go_roundw
              case rel => exact ⟨j + 1, A5, c5, insP out p, by omega, by go_num, by rw [l6], by omega, by omega, HFOLD, r6, b6⟩
              case measure => simp [intOf]; omega
            · have o2 := own_below o1 ((Below.refl _ _).alloc (Nat.le_refl _) (.cells #[.string p] 9))
              have pR2 := rd_one (X0.alloc (.cells #[] 9)) p
              have d2 := d1.alloc d1.size (.cells #[.string p] 9)
              simp only [World.size_alloc] at pR2
              have hlt2 : X0.heap.size + 1 < ((X0.alloc (.cells #[] 9)).alloc (.cells #[.string p] 9)).heap.size := by simp
              go_simp
              refine hK.out _ _ (HX.out _ d2) (fun hHeld => ?_)
              clear hK K
              try simp only [Act.put, List.setIfInBounds_toArray, List.set_cons_zero, List.set_cons_succ]
              obtain ⟨A3, c3, X3, HR3, o3, g3, e3⟩ := app_strs (d := q) o2 (by have := d2.size; omega) (ys := out.take k) (m := k) (by rw [List.length_take]; omega) (hq1.below d2) (t := k) (by omega) (by omega)
              have d3 := d2.trans e3
              refine wpAnyH_ready (rs := [4]) (by kernel_rfl) (by simp) ?_
              refine AllReadyH.cons (o := ⟨_, _, _, _, _, _⟩) rfl (fun K hK => ?_) AllReadyH.nil
              refine stepApp2 (by rfl) (.tmp 46) (.tmp 49) 35 rfl _ _ _ rfl rfl HR3.out ?_
              refine hK.out _ _ (HX.out _ d3) (fun hHeld => ?_)
              clear hK K
              try simp only [Act.put, List.setIfInBounds_toArray, List.set_cons_zero, List.set_cons_succ]
              have pR3 := rd_apart pR2 g3 hlt2 (by simp [Value.ownBlock])
              obtain ⟨A4, c4, X4, HR4, o4, -, e4⟩ := app_strs (d := 1) o3 (by have := d3.size; omega) (ys := [p]) (m := 1) rfl pR3 (t := k + 1) (by omega) (by omega)
              have d4 := d3.trans e4
              refine wpAnyH_ready (rs := [11]) (by kernel_rfl) (by simp) ?_
              refine AllReadyH.cons (o := ⟨_, _, _, _, _, _⟩) rfl (fun K hK => ?_) AllReadyH.nil
              refine stepApp2 (by rfl) (.tmp 50) (.tmp 56) 35 rfl _ _ _ rfl rfl HR4.out ?_
              refine hK.out _ _ (HX.out _ d4) (fun hHeld => ?_)
              clear hK K
              try simp only [Act.put, List.setIfInBounds_toArray, List.set_cons_zero, List.set_cons_succ]
              obtain ⟨A5, c5, X5, HR5, o5, -, e5⟩ := app_strs (d := q - k) o4 (by have := d4.size; omega) (ys := out.drop k) (m := out.length - k) (by simp) (hq2.below d4) (t := out.length + 1) (by omega) (by omega)
              have d5 := d4.trans e5
              refine wpAnyH_ready (rs := [15]) (by kernel_rfl) (by simp) ?_
              refine AllReadyH.cons (o := ⟨_, _, _, _, _, _⟩) rfl (fun K hK => ?_) AllReadyH.nil
              refine stepApp2 (by rfl) (.tmp 57) (.tmp 60) 35 rfl _ _ _ rfl rfl HR5.out ?_
              refine hK.out _ _ (HX.out _ d5) (fun hHeld => ?_)
              clear hK K
              try simp only [Act.put, List.setIfInBounds_toArray, List.set_cons_zero, List.set_cons_succ]
              refine wpAnyH_take (i := 16) (oi := ⟨_, _, _, _, _, _⟩) (v := ?_) rfl (by kernel_rfl) (by kernel_rfl) (by kernel_rfl) (fun _ _ _ h => h) (Or.inl ⟨by rfl, ?_⟩) (by assumption) ?_
              rotate_left
              · intro w hSw; (try dsimp only at hSw); go_simp; (try (with_reducible rfl))
              try simp only [Act.put, List.setIfInBounds_toArray, List.set_cons_zero, List.set_cons_succ]
              refine wpAnyH_done (by kernel_rfl) ?_ _
              have o6 : X5.ownsRow wr.heap.size 9 1 (.slice A5 (out.length + 1) c5) (out.length + 1) (strV (insP out p)) := by rw [HINS.out]; exact o5
              have b6 := b.trans (d5.mono b.size)
              have l6 : (insP out p).length = out.length + 1 := by have := o6.1; rw [strV_length] at this; omega
              have f6 : out.length + 1 ≤ c5 := by obtain ⟨-, A9, c9, e9, h9, -⟩ := own_form o6; injection e9 with e1 e2 e3; rw [e3]; exact h9
              have r6 := Rd.of_own o6
              clear hHeld o6 o5 o4 HR4 HR5 hs1 hs2 hq1 hq2
              go_wp2
              go_roundw
              case rel => exact ⟨j + 1, A5, c5, insP out p, by omega, by go_num, by rw [l6], by omega, by omega, HFOLD, r6, b6⟩
              case measure => simp [intOf]; omega
          · have d1 := d0.alloc (by have := hs0.out; omega) (.cells #[.string p] 9)
            go_simp
            refine hK.out _ _ (HX.out _ d1) (fun hHeld => ?_)
            clear hK K
            try simp only [Act.put, List.setIfInBounds_toArray, List.set_cons_zero, List.set_cons_succ]
            refine wpAnyH_ready (rs := [0]) (by kernel_rfl) (by simp) ?_
            refine AllReadyH.cons (o := ⟨_, _, _, _, _, _⟩) rfl (fun K hK => ?_) (AllReadyH.nil)
            have pR2 := (rd_one X0 p).below ((Below.refl _ _).alloc (Nat.le_refl _) (.cells #[] 9))
            have o2 := own_none (X0.alloc (.cells #[.string p] 9)) wr.heap.size d1.size
            have d2 := d1.alloc d1.size (.cells #[] 9)
            simp only [World.size_alloc] at o2
            have hlt2 : X0.heap.size < ((X0.alloc (.cells #[.string p] 9)).alloc (.cells #[] 9)).heap.size := by simp; omega
            go_simp
            refine hK.out _ _ (HX.out _ d2) (fun hHeld => ?_)
            clear hK K
            try simp only [Act.put, List.setIfInBounds_toArray, List.set_cons_zero, List.set_cons_succ]
            obtain ⟨A3, c3, X3, HR3, o3, g3, e3⟩ := app_strs (d := q) o2 (by have := d2.size; omega) (ys := out.take k) (m := k) (by rw [List.length_take]; omega) (hq1.below d2) (t := k) (by omega) (by omega)
            have d3 := d2.trans e3
            refine wpAnyH_ready (rs := [4]) (by kernel_rfl) (by simp) ?_
            refine AllReadyH.cons (o := ⟨_, _, _, _, _, _⟩) rfl (fun K hK => ?_) AllReadyH.nil
            refine stepApp2 (by rfl) (.tmp 46) (.tmp 49) 35 rfl _ _ _ rfl rfl HR3.out ?_
            refine hK.out _ _ (HX.out _ d3) (fun hHeld => ?_)
            clear hK K
            try simp only [Act.put, List.setIfInBounds_toArray, List.set_cons_zero, List.set_cons_succ]
            have pR3 := rd_apart pR2 g3 hlt2 (by simp [Value.ownBlock])
            obtain ⟨A4, c4, X4, HR4, o4, -, e4⟩ := app_strs (d := 1) o3 (by have := d3.size; omega) (ys := [p]) (m := 1) rfl pR3 (t := k + 1) (by omega) (by omega)
            have d4 := d3.trans e4
            refine wpAnyH_ready (rs := [11]) (by kernel_rfl) (by simp) ?_
            refine AllReadyH.cons (o := ⟨_, _, _, _, _, _⟩) rfl (fun K hK => ?_) AllReadyH.nil
            refine stepApp2 (by rfl) (.tmp 50) (.tmp 56) 35 rfl _ _ _ rfl rfl HR4.out ?_
            refine hK.out _ _ (HX.out _ d4) (fun hHeld => ?_)
            clear hK K
            try simp only [Act.put, List.setIfInBounds_toArray, List.set_cons_zero, List.set_cons_succ]
            obtain ⟨A5, c5, X5, HR5, o5, -, e5⟩ := app_strs (d := q - k) o4 (by have := d4.size; omega) (ys := out.drop k) (m := out.length - k) (by simp) (hq2.below d4) (t := out.length + 1) (by omega) (by omega)
            have d5 := d4.trans e5
            refine wpAnyH_ready (rs := [15]) (by kernel_rfl) (by simp) ?_
            refine AllReadyH.cons (o := ⟨_, _, _, _, _, _⟩) rfl (fun K hK => ?_) AllReadyH.nil
            refine stepApp2 (by rfl) (.tmp 57) (.tmp 60) 35 rfl _ _ _ rfl rfl HR5.out ?_
            refine hK.out _ _ (HX.out _ d5) (fun hHeld => ?_)
            clear hK K
            try simp only [Act.put, List.setIfInBounds_toArray, List.set_cons_zero, List.set_cons_succ]
            refine wpAnyH_take (i := 16) (oi := ⟨_, _, _, _, _, _⟩) (v := ?_) rfl (by kernel_rfl) (by kernel_rfl) (by kernel_rfl) (fun _ _ _ h => h) (Or.inl ⟨by rfl, ?_⟩) (by assumption) ?_
            rotate_left
            · intro w hSw; (try dsimp only at hSw); go_simp; (try (with_reducible rfl))
            try simp only [Act.put, List.setIfInBounds_toArray, List.set_cons_zero, List.set_cons_succ]
            refine wpAnyH_done (by kernel_rfl) ?_ _
            have o6 : X5.ownsRow wr.heap.size 9 1 (.slice A5 (out.length + 1) c5) (out.length + 1) (strV (insP out p)) := by rw [HINS.out]; exact o5
            have b6 := b.trans (d5.mono b.size)
            have l6 : (insP out p).length = out.length + 1 := by have := o6.1; rw [strV_length] at this; omega
            have f6 : out.length + 1 ≤ c5 := by obtain ⟨-, A9, c9, e9, h9, -⟩ := own_form o6; injection e9 with e1 e2 e3; rw [e3]; exact h9
            have r6 := Rd.of_own o6
            clear hHeld o6 o5 o4 HR4 HR5 hs1 hs2 hq1 hq2
            go_wp2
            go_roundw
            case rel => exact ⟨j + 1, A5, c5, insP out p, by omega, by go_num, by rw [l6], by omega, by omega, HFOLD, r6, b6⟩
            case measure => simp [intOf]; omega
    · have hnlt : ¬ (j : Int) < n := by omega
      have HE : Hid (out = pathsA l) := by show _ = _; rw [HF.out, pathsA, List.take_of_length_le (by rw [List.length_map, HL.out]; omega)]
      obtain rfl := HE.out
      go_wp2
      go_ret
      exact ⟨C, q, rfl, hoq, hro, b⟩
end Go.Proofs.YtaidggjnpnfdhaaGreatDoor
namespace Go.Proofs.YtaidggjnpnfdhaaGreatDoor
open Go.RowKit

theorem aV_is (a : Ac) : aV a = [.string a.1, .bool a.2.1, .string a.2.2] := rfl
set_option maxHeartbeats 4000000 in
set_option maxRecDepth 100000 in
theorem rnet_any {w : World} {A : Option Addr} {n c : Nat} {l : List Ac} (h : At w A n c l) : Calls Tryz.prog 15 #[.slice A n c] w (ActsA w (netL l)) := by
  have hn := h.big
  have HL := hid h.len
  have hr := h.rd
  have hal : ∀ (W : World) (o : Obj), Below W.heap.size W (W.alloc o) := fun W o => (Below.refl _ _).alloc (Nat.le_refl _) o
  have cp := rpaths11_any h
  clear h
  go_enter Tryz.func15, Tryz.ntmps15
  go_wp2_with fail
  refine cp.mono ?_
  rintro e w5 ⟨C, q5, rfl, hq5, rd5, b5⟩
  have HPN := hid (paths_len l)
  have hpn : (pathsA l).length ≤ 100000 := by have := HPN.out; have := HL.out; omega
  clear cp
  go_wp2_with fail
  go_loopw [4, 5, 6] (fun v u i wr => ∃ k : Nat, k ≤ (pathsA l).length ∧ i = .int .i64 k ∧ Two w5.heap.size v u (dropsA l k) (putsA l k) wr ∧ Below w5.heap.size w5 wr) (fun _ _ i _ => (pathsA l).length - (intOf i).toNat)
  case atStart => exact ⟨0, by omega, rfl, ⟨World.ownsRow_nil _ _ _ _, World.ownsRow_nil _ _ _ _, fun g e => by cases e⟩, Below.refl _ _⟩
  case round =>
    obtain ⟨k, hk, rfl, T, b⟩ := hrel
    by_cases hkp : k < (pathsA l).length
    · have hz : (0 : Int) ≤ k := by omega
      have hlt : (k : Int) < (pathsA l).length := by omega
      obtain ⟨gs, os, rfl, y0, lgs⟩ := (rd5.below b).at_ (k := k) (by rw [strV_length]; exact hkp)
      rw [show (strV (pathsA l))[k]'(by rw [strV_length]; exact hkp) = .string (pathsA l)[k] by simp [strV]] at y0
      obtain ⟨hM1, hM2⟩ := net_more hkp
      obtain ⟨hL1, hL2⟩ := netA_len l k
      have hds : (dropsA l k).length ≤ 1000000 := by have := HL.out; omega
      have hpu : (putsA l k).length ≤ 1000000 := by have := HL.out; omega
      have HM1 := hid hM1
      have HM2 := hid hM2
      have HY := hid (fun W (hb : Below wr.heap.size wr W) => (hb.cell (p := ⟨gs, os + k, none⟩) lgs).trans y0)
      have pk := Blk.new wr (aV (lastA [] (pathsA l)[k])) 47
      have bk := hal wr (.cells #[.string noS, .bool false, .string noS] 47)
      have hrw := hr.below (below2 b5 b)
      clear hM1 hM2 y0
      generalize (pathsA l)[k] = p at *
      generalize dropsA l k = ds at *
      generalize putsA l k = ps at *
      have hg7 : wr.heap.size ≤ wr.heap.size := Nat.le_refl _
      go_wp2_with fail
      go_loopw [8] (fun i W => ∃ q : Nat, q ≤ n ∧ i = .int .i64 q ∧ Blk W wr.heap.size (aV (lastA (l.take q) p)) 47 ∧ Below wr.heap.size wr W) (fun i _ => n - (intOf i).toNat)
      case atStart => exact ⟨0, by omega, rfl, pk, bk⟩
      case round =>
        clear pk bk
        obtain ⟨q, hq, rfl, pk, bW⟩ := hrel
        rename World => W
        by_cases hqn : q < n
        · have hql : q < l.length := by rw [HL.out]; exact hqn
          have hz2 : (0 : Int) ≤ q := by omega
          have hlt2 : (q : Int) < n := by omega
          have HM := hid (last_more l p q hql)
          obtain ⟨g, og, rfl, x0, x1, x2, lg⟩ := (hrw.below bW).act hql
          have y0 := HY.out _ bW
          generalize lastA (l.take q) p = la at *
          generalize l[q] = a at *
          obtain ⟨ap, aq, ad⟩ := a
          obtain ⟨lp, lq, ld⟩ := la
          dsimp only at x0 x1 x2
          have hsq := str_eqb ap p
          have HX := hid (fun W' (hb : Below W.heap.size W W') => And.intro ((hb.cell (p := ⟨g, og + q * 3, none⟩) lg).trans x0) (And.intro ((hb.cell (p := ⟨g, og + q * 3 + 1, none⟩) lg).trans x1) ((hb.cell (p := ⟨g, og + q * 3 + 2, none⟩) lg).trans x2)))
          by_cases he : ap = p
          · rw [decide_eq_true he] at hsq
            rw [if_pos (show (ap, aq, ad).1 = p from he)] at HM
            clear he
            go_wp2_with fail
            go_quiet (fail)
            have bU := below_drewN bW nq
            have pU := pk.drewN nq
            have qU := below_drewN (Below.refl W.heap.size W) nq
            clear x0 x1 x2 y0 pk bW
            generalize W.drewN nq = U at *
            obtain ⟨x0, x1, x2⟩ := HX.out _ qU
            have c0 := pU.cell 0
            have c1 := pU.cell 1
            have c2 := pU.cell 2
            have f0 := pU.frozen 0
            have f1 := pU.frozen 1
            have f2 := pU.frozen 2
            simp only [aV, List.getElem?_cons_zero, List.getElem?_cons_succ] at c0 c1 c2
            have P3 := ((pU.set_ 0 (.string ap)).set_ 1 (.bool aq)).set_ 2 (.string ad)
            simp only [aV, List.set_cons_zero, List.set_cons_succ] at P3
            have b3 := ((bU.setCell (p := ⟨wr.heap.size, 0, none⟩) hg7 (.string ap)).setCell (p := ⟨wr.heap.size, 1, none⟩) hg7 (.bool aq)).setCell (p := ⟨wr.heap.size, 2, none⟩) hg7 (.string ad)
            clear pU bU qU HX
            go_wp2
            go_roundw
            case rel => exact ⟨q + 1, by omega, by go_num, by rw [HM.out]; exact P3, b3⟩
            case measure => simp [intOf]; omega
          · rw [decide_eq_false he] at hsq
            rw [if_neg (show ¬ (ap, aq, ad).1 = p from he)] at HM
            clear he
            go_wp2_with fail
            go_quiet (fail)
            go_wp2
            go_roundw
            case rel => exact ⟨q + 1, by omega, by go_num, by rw [HM.out]; exact pk.drewN _, below_drewN bW _⟩
            case measure => simp [intOf]; omega
        · have HJ := hid (show q = n by omega)
          have hnlt2 : ¬ (q : Int) < n := by omega
          rw [HJ.out, ← HL.out, List.take_length] at pk
          have T2 := T.below bW
          have bb := b.trans (bW.mono b.size)
          clear T b bW hrw HY hg7
          generalize lastA l p = la at *
          obtain ⟨lp, lq, ld⟩ := la
          have c0 := pk.cell 0
          have c1 := pk.cell 1
          have c2 := pk.cell 2
          simp only [aV, List.getElem?_cons_zero, List.getElem?_cons_succ] at c0 c1 c2
          clear pk
          generalize wr.heap.size = g7 at *
          cases lq with
          | true =>
            rw [if_pos rfl] at HM1 HM2
            obtain ⟨A9, c9, w9, HRUN, T9, hb9⟩ := T2.turn.app bb.size hpu (lp, true, ld)
            have b9 := bb.trans hb9
            have T10 := T9.turn
            clear T2 T9 hb9 bb
            go_wp2_with (at_builtin; refine Lib.wpList_append_run _ rfl _ _ _ _ rfl _ _ rfl rfl _ _ HRUN.out ?_)
            go_roundw
            case rel => exact ⟨k + 1, by omega, by go_num, by rw [HM1.out, HM2.out, List.append_nil]; simpa using T10, b9⟩
            case measure => simp [intOf]; omega
          | false =>
            rw [if_neg (by simp)] at HM1 HM2
            obtain ⟨A9, c9, w9, HRUN, T9, hb9⟩ := T2.app bb.size hds (lp, false, ld)
            have b9 := bb.trans hb9
            clear T2 hb9 bb
            go_wp2_with (at_builtin; refine Lib.wpList_append_run _ rfl _ _ _ _ rfl _ _ rfl rfl _ _ HRUN.out ?_)
            go_roundw
            case rel => exact ⟨k + 1, by omega, by go_num, by rw [HM1.out, HM2.out, List.append_nil]; simpa using T9, b9⟩
            case measure => simp [intOf]; omega
    · have HJ := hid (show k = (pathsA l).length by omega)
      have hnlt2 : ¬ (k : Int) < (pathsA l).length := by omega
      obtain ⟨hL1, hL2⟩ := netA_len l k
      have HNE : Hid (netL l = dropsA l k ++ putsA l k) := by show _ = _; rw [HJ.out]; exact net_end l
      have hds : (dropsA l k).length ≤ 100000 := by have := HL.out; omega
      have hpu : (putsA l k).length ≤ 100000 := by have := HL.out; omega
      generalize dropsA l k = ds at *
      generalize putsA l k = ps at *
      obtain ⟨A7, c7, rfl⟩ := own_slice T.p
      have r7 := rd_own3 rfl T.p
      obtain ⟨v9, w9, HRUN, o9, hb9⟩ := app_acs (d := c7) T.d b.size rfl r7 (by omega)
      obtain ⟨A6, c6, rfl⟩ := own_slice T.d
      obtain ⟨A9, c9, rfl⟩ := own_slice o9
      have b9 := b5.trans ((b.trans hb9).mono b5.size)
      have o10 := own_low (base' := w.heap.size) o9 b5.size
      clear T r7 b o9 hb9 b5 hr rd5
      rw [← HNE.out] at o10 HRUN
      generalize netL l = nl at *
      go_wp2_with (at_builtin; refine Lib.wpList_append_run _ rfl _ _ _ _ rfl _ _ rfl rfl _ _ HRUN.out ?_)
      go_ret
      exact ⟨A9, c9, rfl, o10, b9⟩

theorem getV_is (g : Option ByteArray) : getV g = .tuple #[.string (g.getD noS), .bool g.isSome] := by cases g <;> rfl
set_option maxHeartbeats 4000000 in
set_option maxRecDepth 100000 in
theorem rundo_any {w : World} {A B : Option Addr} {n c m d : Nat} {t : List Fil} {l : List Ac} (h : Ft w A n c t) (k : At w B m d l) :
    Calls Tryz.prog 13 #[.slice A n c, .slice B m d] w (ActsA w (undoL t l)) := by
  go_enter Tryz.func13, Tryz.ntmps13
  go_wp2_with fail
  refine (refTree h).mono ?_
  rintro e w1 ⟨rfl, b1⟩
  have h1 := h.below b1
  have k1 := k.below b1
  clear h k
  cases hR : treeR t with
  | false =>
    have HN : Hid (undoL t l = []) := by show _ = _; unfold undoL; rw [hR]; rfl
    clear hR
    go_wp2
    go_ret
    rw [HN.out]
    exact ⟨none, 0, rfl, World.ownsRow_nil _ _ _ _, b1⟩
  | true =>
    have HT := hid ((treeR_iff t).1 hR)
    have HN : Hid (undoL t l = netL ((pathsA l).map (wasA t))) := by show _ = _; unfold undoL; rw [hR]; rfl
    clear hR
    go_wp2_with fail
    refine (rpaths11_any k1).mono ?_
    rintro e w5 ⟨C, q5, rfl, hq5, rd5, hb5⟩
    have b5 := below2 b1 hb5
    have h5 := h1.below hb5
    have HPN := hid (paths_len l)
    have HKL := hid k1.len
    have hkm := k1.big
    have hpn : (pathsA l).length ≤ 100000 := by have := HPN.out; have := HKL.out; omega
    have HPZ : Hid (∀ p ∈ pathsA l, p.size < 4294967281) := fun p hp => by
      obtain ⟨a, ha, rfl⟩ := paths_mem.1 hp
      exact (k1.sz a ha).1
    clear hb5 b1 h1 k1
    generalize pathsA l = P at *
    go_wp2_with fail
    go_loopw [7, 8] (fun v i wr => ∃ (k : Nat) (xs : List Ac), k ≤ P.length ∧ i = .int .i64 k ∧ Hid (xs = (P.take k).map (wasA t)) ∧ wr.ownsRow w5.heap.size 47 3 v xs.length (actV xs) ∧ Below w5.heap.size w5 wr) (fun _ i _ => P.length - (intOf i).toNat)
    case atStart => exact ⟨0, [], by omega, rfl, rfl, World.ownsRow_nil _ _ _ _, Below.refl _ _⟩
    case round =>
      obtain ⟨k, xs, hk, rfl, HX, o, b⟩ := hrel
      have hxl : xs.length = k := by rw [HX.out, List.length_map, List.length_take]; omega
      by_cases hkp : k < P.length
      · have hz : (0 : Int) ≤ k := by omega
        have hlt : (k : Int) < P.length := by omega
        obtain ⟨gs, os, rfl, y0, lgs⟩ := (rd5.below b).at_ (k := k) (by rw [strV_length]; exact hkp)
        rw [show (strV P)[k]'(by rw [strV_length]; exact hkp) = .string P[k] by simp [strV]] at y0
        have HX2 : Hid (xs ++ [wasA t P[k]] = (P.take (k + 1)).map (wasA t)) := by show _ = _; rw [List.take_add_one, List.getElem?_eq_getElem hkp, List.map_append, ← HX.out]; rfl
        have hxs : xs.length ≤ 1000000 := by omega
        clear hxl HX
        generalize P[k] = p at *
        have kg := refGet (h5.below b) p
        rw [getV_is] at kg
        have HW : Hid (wasA t p = (p, (getT t p.data.toList).isSome, (getT t p.data.toList).getD noS)) := rfl
        rw [HW.out] at HX2
        clear HW
        generalize (getT t p.data.toList).isSome = q at *
        generalize (getT t p.data.toList).getD noS = dd at *
        go_wp2_with fail
        refine kg.mono ?_
        rintro e w6 ⟨rfl, hb6⟩
        have o6 := own_below o hb6
        have b6 := b.trans (hb6.mono b.size)
        have y0 := (hb6.cell (p := ⟨gs, os + k, none⟩) lgs).trans y0
        obtain ⟨A9, c9, w9, HRUN, o9, hb9⟩ := app_act o6 b6.size hxs (p, q, dd)
        have b9 := b6.trans hb9
        clear kg o b o6 b6 hb6 hb9 lgs
        go_wp2_with (at_builtin; refine Lib.wpList_append_run _ rfl _ _ _ _ rfl _ _ rfl rfl _ _ HRUN.out ?_)
        go_roundw
        case rel => exact ⟨k + 1, xs ++ [(p, q, dd)], by omega, by go_num, HX2, by simpa using o9, b9⟩
        case measure => simp [intOf]; omega
      · have HJ := hid (show k = P.length by omega)
        have hnlt2 : ¬ (k : Int) < P.length := by omega
        have HX3 : Hid (xs = P.map (wasA t)) := by show _ = _; rw [HX.out, HJ.out, List.take_length]
        rw [hxl] at o
        obtain ⟨A6, c6, rfl⟩ := own_slice o
        have hcp := own_caps o
        have K : At wr A6 k c6 xs := ⟨hxl, rd_own3 hxl o, hcp.1, by omega, by have := hcp.2; unfold maxLen at this; omega, fun a ha => by
          rw [HX3.out] at ha
          obtain ⟨p, hp, rfl⟩ := List.mem_map.1 ha
          obtain ⟨e1, e2⟩ := was_sz (p := p) HT.out
          rw [e1]
          exact ⟨HPZ.out p hp, by omega⟩⟩
        have cn := rnet_any K
        have b6 := b5.trans (b.mono b5.size)
        have HNX : Hid (netL xs = undoL t l) := by show _ = _; rw [HX3.out, HN.out]
        clear K o b rd5 hcp HX3 HX hxl
        go_wp2_with fail
        refine cn.mono ?_
        rintro e w9 ⟨C9, q9, rfl, o9, hb9⟩
        clear cn
        have o10 := own_low (base' := w.heap.size) o9 b6.size
        have b10 := b6.trans (hb9.mono b6.size)
        rw [HNX.out] at o10 ⊢
        clear o9 hb9 b6
        go_wp2
        go_ret
        exact ⟨C9, q9, rfl, o10, b10⟩
end Go.Proofs.YtaidggjnpnfdhaaGreatDoor
namespace Go.Proofs.YtaidggjnpnfdhaaGreatDoor
open Go.RowKit

set_option maxHeartbeats 400000 in
theorem rows_same (A B : Option Addr) (n c d : Nat) (ls : List ByteArray) (w : World) (hl : ls.length = n) (hn : n ≤ 140737488355328) (ha : Rd w A (strV ls)) (hb : Rd w B (strV ls)) :
    Calls Tryz.prog 16 #[.slice A n c, .slice B n d] w fun e w' => e = .returned (.bool true) ∧ Below w.heap.size w w' := by
  have HL := hid hl
  clear hl
  go_enter Tryz.func16, Tryz.ntmps16
  go_wp2
  go_loopw [5] (fun i wr => ∃ j : Nat, j ≤ n ∧ i = .int .i64 j ∧ ∃ k, wr = w.drewN k) (fun i _ => n - (intOf i).toNat)
  case atStart => exact ⟨0, by omega, rfl, 0, rfl⟩
  case round =>
    obtain ⟨j, hj, rfl, k, rfl⟩ := hrel
    by_cases hjn : j < n
    · have hjl : j < ls.length := by rw [HL.out]; exact hjn
      obtain ⟨b, off, rfl, hc, -⟩ := ha.at_ (k := j) (by rw [strV_length]; exact hjl)
      obtain ⟨b', off', rfl, hc', -⟩ := hb.at_ (k := j) (by rw [strV_length]; exact hjl)
      have h1 : w.cell? ⟨b, off + j, none⟩ = some (.string ls[j]) := by rw [hc]; simp [strV]
      have h2 : w.cell? ⟨b', off' + j, none⟩ = some (.string ls[j]) := by rw [hc']; simp [strV]
      clear hc hc'
      generalize ls[j] = x at *
      have hz : (0 : Int) ≤ j := by omega
      have hlt : (j : Int) < n := by omega
      go_wp2_with fail
      go_quiet (fail)
      go_wp2
      go_roundw
      case rel => exact ⟨j + 1, by omega, by go_num, _, rfl⟩
      case measure => simp [intOf]; omega
    · have e : n = j := by omega
      subst e
      go_wp2
      go_ret
      exact ⟨rfl, by exact ⟨rfl, rfl, rfl, Nat.le_refl _, fun _ _ => rfl⟩⟩
end Go.Proofs.YtaidggjnpnfdhaaGreatDoor
