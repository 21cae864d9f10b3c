/- The document's answers of layer 4: Put. -/
import Derived.Test.YtblfpmlnpaibkaaDoorUc
namespace Go.Proofs.YtblfpmlnpaibkaaDoor
open Go.RowKit

theorem OwnR.mono {base base' : Nat} {w : World} {A : Option Addr} {n c : Nat} {fs : List Fil} (h : OwnR base w A n c fs) (hb : base' ≤ base) : OwnR base' w A n c fs := by
  refine ⟨h.1, h.2.1, ?_⟩
  rcases h.2.2 with h2 | ⟨g, cap, cur, h2, h3, h4⟩
  · exact .inl h2
  · exact .inr ⟨g, cap, cur, h2, by omega, h4⟩
theorem OwnR.alloc {base : Nat} {w : World} {A : Option Addr} {n c : Nat} {fs : List Fil} (h : OwnR base w A n c fs) (o : Obj) : OwnR base (w.alloc o) A n c fs := ⟨h.1, h.2.alloc o⟩
theorem OwnR.at_ {base : Nat} {w : World} {A : Option Addr} {n c : Nat} {fs : List Fil} (h : OwnR base w A n c fs) (hn : 0 < n) : ∃ g, A = some ⟨g, 0, none⟩ ∧ base ≤ g := by
  rcases h.2.2 with ⟨hv, h0⟩ | ⟨g, cap, cur, hv, hg, _⟩
  · omega
  · injection hv with a1 a2 a3
    exact ⟨g, a1, hg⟩
theorem Rd.apart {w w' : World} {g k : Nat} {xs : List Value} (h : Rd w (some ⟨g, 0, none⟩) xs) (hg : w.grownBy w' (some k)) (hne : g ≠ k) : Rd w' (some ⟨g, 0, none⟩) xs := by
  rcases h with rfl | ⟨ad, he, hc⟩
  · exact .inl rfl
  · injection he with he
    subst he
    refine .inr ⟨_, rfl, fun j u hu => ?_⟩
    have h1 := hc j u hu
    rw [Addr.add_lit] at h1 ⊢
    exact (World.cell?_of_block (hg.block g (World.block_lt_of_cell? _ _ h1) (fun e => hne (by injection e)))).trans h1
theorem clash_at {fs : List Fil} {p : List UInt8} (h : ∀ i (hi : i < fs.length), underL p (pth fs[i]) = false ∧ underL (pth fs[i]) p = false) : clashT fs p = false :=
  clash_no.2 fun f hf => by
    obtain ⟨i, hi, rfl⟩ := List.mem_iff_getElem.1 hf
    exact ⟨(h i hi).2, (h i hi).1⟩
theorem clash_yes {fs : List Fil} {p : List UInt8} {i : Nat} (hi : i < fs.length) (h : underL p (pth fs[i]) = true ∨ underL (pth fs[i]) p = true) : clashT fs p = true := by
  refine List.any_eq_true.2 ⟨fs[i], List.getElem_mem hi, ?_⟩
  unfold clashL
  rw [Bool.or_eq_true]
  exact h.symm

set_option maxHeartbeats 1000000 in
set_option maxRecDepth 10000 in
theorem refPut {w : World} {A : Option Addr} {n c : Nat} {fs : List Fil} (h : Ft w A n c fs) (p d : ByteArray) (hp : p.size < 4294967281) (hd : d.size ≤ 140737488355328) :
    Calls Tryd.prog 13 #[.slice A n c, .string p, .string d] w (OutR w (putT fs p d) (putE fs p d)) := by
  go_enter Tryd.func13, Tryd.ntmps13
  go_wp2_with fail
  refine (refTree h).mono ?_
  rintro e w1 ⟨rfl, b1⟩
  cases hR : treeR fs
  · have HE := hid (putE_arg (p := p) (d := d) hR)
    clear hR
    go_wp2
    go_ret2
    exact outR_err HE.out (putT_err HE.out (by decide)) b1
  have HR := hid hR
  have hT := (treeR_iff fs).1 hR
  have h1 := h.below b1
  clear hR h
  go_wp2_with fail
  refine (refRight p _ hp).mono ?_
  rintro e w2 ⟨rfl, hb2⟩
  have h2 := h1.below hb2
  have b2 := below2 b1 hb2
  clear h1 b1 hb2
  cases hr : rightL p.data.toList
  · have HE := hid (putE_name (p := p) (d := d) HR.out (.inl hr))
    clear hr
    go_wp2
    go_ret2
    exact outR_err HE.out (putT_err HE.out (by decide)) b2
  have HP := hid hr
  clear hr
  have hn16 : n ≤ 16 := by have := hT.few; have := h2.len; omega
  have HLN := hid h2.len
  have HSZ := hid h2.sz
  go_wp2_with fail
  go_loopw [9] (fun v wr => ∃ j : Nat, j ≤ n ∧ v = .int .i64 j ∧ Hid (∀ i (hi : i < fs.length), i < j → underL p.data.toList (pth fs[i]) = false ∧ underL (pth fs[i]) p.data.toList = false) ∧ Ft wr A n c fs ∧ Below w.heap.size w wr) (fun v _ => n - (intOf v).toNat)
  case atStart => exact ⟨0, by omega, rfl, hid (fun i _ h => absurd h (by omega)), h2, b2⟩
  case round =>
    clear h2 b2
    obtain ⟨j, hj, rfl, HO, h3, b3⟩ := hrel
    by_cases hjn : j < n
    · have hjl : j < fs.length := by rw [HLN.out]; exact hjn
      obtain ⟨b, off, rfl, k1, -, -⟩ := h3.rd.fil hjl
      have hz : (0 : Int) ≤ j := by omega
      have hlt : (j : Int) < n := by omega
      have hsx := (HSZ.out fs[j] (List.getElem_mem hjl)).1
      obtain ⟨x, hx⟩ : ∃ x, fs[j].1 = x := ⟨_, rfl⟩
      have HX := hid (show pth fs[j] = x.data.toList by rw [pth, hx])
      rw [hx] at k1 hsx
      clear hx
      go_wp2_with fail
      refine (refUnder p x _ hp hsx).mono ?_
      rintro e w4 ⟨rfl, hb4⟩
      have k2 := (hb4.cell (p := ⟨b, off + j * 2, none⟩) (World.block_lt_of_cell? _ _ k1)).trans k1
      have h4 := h3.below hb4
      have b4 := below2 b3 hb4
      clear h3 b3 hb4 k1
      cases hu : underL p.data.toList x.data.toList
      · have HU := hid hu
        clear hu
        go_wp2_with fail
        refine (refUnder x p _ hsx hp).mono ?_
        rintro e w5 ⟨rfl, hb5⟩
        have h5 := h4.below hb5
        have b5 := below2 b4 hb5
        clear h4 b4 hb5 k2
        cases hv : underL x.data.toList p.data.toList
        · have HV := hid hv
          clear hv
          go_wp2
          go_roundw
          case rel =>
            refine ⟨j + 1, by omega, by go_num, hid (fun i hi hij => ?_), h5, b5⟩
            by_cases e : i = j
            · subst e
              rw [HX.out]
              exact ⟨HU.out, HV.out⟩
            · exact HO.out i hi (by omega)
          case measure => simp [intOf]; omega
        · have HE := hid (putE_name (p := p) (d := d) HR.out (.inr (clash_yes hjl (.inr (by rw [HX.out]; exact hv)))))
          clear hv
          go_wp2
          go_ret2
          exact outR_err HE.out (putT_err HE.out (by decide)) b5
      · have HE := hid (putE_name (p := p) (d := d) HR.out (.inr (clash_yes hjl (.inl (by rw [HX.out]; exact hu)))))
        clear hu
        go_wp2
        go_ret2
        exact outR_err HE.out (putT_err HE.out (by decide)) b4
    have HC := hid (clash_at (p := p.data.toList) (fun i hi => HO.out i hi (by have := HLN.out; omega)))
    have hnlt : ¬ (j : Int) < n := by omega
    clear HO
    have c0 := refPos h3 hT.srt p
    unfold posT at c0
    have HZ := hid (@putE_zero fs p d)
    have HF := hid (@putE_full fs p d)
    cases ht : thereT fs p.data.toList
    · rw [ht, if_neg (by simp)] at c0
      go_wp2_with fail
      refine c0.mono ?_
      rintro e w5 ⟨rfl, rfl⟩
      clear c0
      by_cases h600 : (600 : Int) < d.size
      · have HE := hid (HF.out HR.out HP.out HC.out (.inl (by omega)))
        clear HF HZ
        go_wp2
        go_ret2
        exact outR_err HE.out (putT_err HE.out (by decide)) b3
      have h6b : decide ((600 : Int) < d.size) = false := by simp; omega
      by_cases h16 : (16 : Int) ≤ n
      · have HE := hid (HF.out HR.out HP.out HC.out (.inr ⟨ht, by rw [h3.len]; omega⟩))
        clear HF HZ
        go_wp2
        go_ret2
        exact outR_err HE.out (putT_err HE.out (by decide)) b3
      have h16b : decide ((16 : Int) ≤ n) = false := by simp; omega
      have HE := hid (HZ.out.2 ⟨hT, HP.out, HC.out, by omega, .inr (by rw [h3.len]; omega)⟩)
      obtain ⟨hlo, hhi⟩ := low_split hT.srt ht
      have HPL := hid (show fs.take (lowT fs p.data.toList).length ++ [(p, d)] ++ fs.drop (lowT fs p.data.toList).length = putL fs p d by rw [hlo, hhi, putL]; simp)
      have hkl : (lowT fs p.data.toList).length ≤ n := by rw [← h3.len]; exact low_len _
      have HLA := hid (fun i (hi : i < fs.length) => @low_at fs p.data.toList hT.srt i hi)
      clear hlo hhi ht HF HZ
      generalize (lowT fs p.data.toList).length = k at *
      have o0 : OwnR wr.heap.size (wr.alloc (.cells #[] 33)) (some ⟨wr.heap.size, 0, none⟩) 0 0 [] := OwnR.empty wr
      have q0 : Below wr.heap.size wr (wr.alloc (.cells #[] 33)) := (Below.refl _ _).alloc (Nat.le_refl _) _
      obtain ⟨A6, c6, w6, HR6, o6, g6⟩ := run_appF o0 A n c fs h3.len (h3.rd.below q0) (by omega) q0.size
      rw [Nat.zero_add] at HR6
      have q5 := q0.grown g6 q0.size o0.block
      have h6 := h3.below q5
      have b6 := below2 b3 q5
      have HTK := hid (show (fs.take k).length = k by rw [List.length_take, HLN.out]; omega)
      have HDK := hid (show (fs.drop k).length = n - k by rw [List.length_drop, HLN.out])
      clear o0 q0 o6 g6 q5 h3 b3
      go_upto_region 15 with (at_builtin; refine Lib.wpList_append_run _ rfl _ _ _ _ rfl _ _ rfl rfl _ _ (HR6.out _) ?_)
      have hrd := h6.rd
      have hcap := h6.cap
      clear h6
      have q6 : Below w6.heap.size w6 w6.drew := (Below.refl _ _).drew
      go_wp2_with fail
      go_loopw [12] (fun v wx => ∃ a : Nat, a ≤ k ∧ v = .int .i64 a ∧ w6 = wx) (fun v _ => k - (intOf v).toNat)
      case atStart => exact ⟨0, by omega, rfl, rfl⟩
      case round =>
        obtain ⟨a, ha, rfl, rfl⟩ := hrel
        by_cases hak : a < k
        · have hal : a < fs.length := by rw [HLN.out]; omega
          have hla := HLA.out a hal
          obtain ⟨b, off, rfl, k1, -, -⟩ := hrd.fil hal
          have haz : (0 : Int) ≤ a := by omega
          have han : (a : Int) < n := by omega
          unfold pth at hla
          rw [decide_eq_true hak, ← Lib.toList_data, ← Lib.toList_data] at hla
          go_wp2
          go_roundw
          case rel => exact ⟨a + 1, by omega, by go_num, by trivial⟩
          case measure => simp [intOf]; omega
        · have hka : k = a := by omega
          subst hka
          have hkz0 : (0 : Int) ≤ k := by omega
          have hkzn : (k : Int) ≤ n := by omega
          have hkzc : (k : Int) ≤ c := by omega
          by_cases hkn : k < n
          · have hal : k < fs.length := by rw [HLN.out]; omega
            have hla := HLA.out k hal
            obtain ⟨b, off, rfl, k1, -, -⟩ := hrd.fil hal
            have han : (k : Int) < n := by omega
            have hck : ¬ c = k := by omega
            unfold pth at hla
            rw [decide_eq_false (Nat.lt_irrefl k), ← Lib.toList_data, ← Lib.toList_data] at hla
            have HPO := hid (fun W (h : Rd W (some ⟨b, off, none⟩) (filV fs)) => (show Rd W (some ⟨b, off + k * 2, none⟩) (filV (fs.drop k)) by rw [filV_drop]; exact h.post (k * 2)))
            generalize hx : fs[k].1 = x at *
            clear hx
            go_upto_region 21 with (fail)
            clear k1 hla han
            refine wp_region_held_drew (S := fun _ => True) (by kernel_rfl) trivial (fun hHeld => ?_)
            refine wpAnyH_take (i := 1) (oi := ⟨_, _, _, _, _, _⟩) (v := ?_) rfl (by kernel_rfl) (by kernel_rfl) (by kernel_rfl) (fun _ _ _ h => h) (Or.inl ⟨by rfl, ?_⟩) (by assumption) ?_
            rotate_left
            · intro w hSw; (try dsimp only at hSw); go_simp; (try (with_reducible rfl))
            try simp only [Act.put, List.setIfInBounds_toArray, List.set_cons_zero, List.set_cons_succ]
            refine wpAnyH_take (i := 2) (oi := ⟨_, _, _, _, _, _⟩) (v := ?_) rfl (by kernel_rfl) (by kernel_rfl) (by kernel_rfl) (fun _ _ _ h => h) (Or.inl ⟨by rfl, ?_⟩) (by assumption) ?_
            rotate_left
            · intro w hSw; (try dsimp only at hSw); go_simp; (try (with_reducible rfl))
            try simp only [Act.put, List.setIfInBounds_toArray, List.set_cons_zero, List.set_cons_succ]
            refine wpAnyH_take (i := 3) (oi := ⟨_, _, _, _, _, _⟩) (v := ?_) rfl (by kernel_rfl) (by kernel_rfl) (by kernel_rfl) (fun _ _ _ h => h) (Or.inl ⟨by rfl, ?_⟩) (by assumption) ?_
            rotate_left
            · intro w hSw; (try dsimp only at hSw); go_simp; (try (with_reducible rfl))
            try simp only [Act.put, List.setIfInBounds_toArray, List.set_cons_zero, List.set_cons_succ]
            refine wpAnyH_take (i := 5) (oi := ⟨_, _, _, _, _, _⟩) (v := ?_) rfl (by kernel_rfl) (by kernel_rfl) (by kernel_rfl) (fun _ _ _ h => h) (Or.inl ⟨by rfl, ?_⟩) (by assumption) ?_
            rotate_left
            · intro w hSw; (try dsimp only at hSw); go_simp; (try (with_reducible rfl))
            try simp only [Act.put, List.setIfInBounds_toArray, List.set_cons_zero, List.set_cons_succ]
            refine wpAnyH_take (i := 6) (oi := ⟨_, _, _, _, _, _⟩) (v := ?_) rfl (by kernel_rfl) (by kernel_rfl) (by kernel_rfl) (fun _ _ _ h => h) (Or.inl ⟨by rfl, ?_⟩) (by assumption) ?_
            rotate_left
            · intro w hSw; (try dsimp only at hSw); go_simp; (try (with_reducible rfl))
            try simp only [Act.put, List.setIfInBounds_toArray, List.set_cons_zero, List.set_cons_succ]
            refine wpAnyH_take (i := 7) (oi := ⟨_, _, _, _, _, _⟩) (v := ?_) rfl (by kernel_rfl) (by kernel_rfl) (by kernel_rfl) (fun _ _ _ h => h) (Or.inl ⟨by rfl, ?_⟩) (by assumption) ?_
            rotate_left
            · intro w hSw; (try dsimp only at hSw); go_simp; (try (with_reducible rfl))
            try simp only [Act.put, List.setIfInBounds_toArray, List.set_cons_zero, List.set_cons_succ]
            refine wpAnyH_take (i := 10) (oi := ⟨_, _, _, _, _, _⟩) (v := ?_) rfl (by kernel_rfl) (by kernel_rfl) (by kernel_rfl) (fun _ _ _ h => h) (Or.inl ⟨by rfl, ?_⟩) (by assumption) ?_
            rotate_left
            · intro w hSw; (try dsimp only at hSw); go_simp; (try (with_reducible rfl))
            try simp only [Act.put, List.setIfInBounds_toArray, List.set_cons_zero, List.set_cons_succ]
            refine wpAnyH_take (i := 11) (oi := ⟨_, _, _, _, _, _⟩) (v := ?_) rfl (by kernel_rfl) (by kernel_rfl) (by kernel_rfl) (fun _ _ _ h => h) (Or.inl ⟨by rfl, ?_⟩) (by assumption) ?_
            rotate_left
            · intro w hSw; (try dsimp only at hSw); go_simp; (try (with_reducible rfl))
            try simp only [Act.put, List.setIfInBounds_toArray, List.set_cons_zero, List.set_cons_succ]
            refine wpAnyH_take (i := 12) (oi := ⟨_, _, _, _, _, _⟩) (v := ?_) rfl (by kernel_rfl) (by kernel_rfl) (by kernel_rfl) (fun _ _ _ h => h) (Or.inl ⟨by rfl, ?_⟩) (by assumption) ?_
            rotate_left
            · intro w hSw; (try dsimp only at hSw); go_simp; (try (with_reducible rfl))
            try simp only [Act.put, List.setIfInBounds_toArray, List.set_cons_zero, List.set_cons_succ]
            refine wpAnyH_ready (rs := [0, 8]) (by kernel_rfl) (by simp) ?_
            refine AllReadyH.cons (o := ⟨_, _, _, _, _, _⟩) rfl (fun K hK => ?_) (AllReadyH.cons (o := ⟨_, _, _, _, _, _⟩) rfl (fun K hK => ?_) (AllReadyH.nil))
            · obtain ⟨wE, hE⟩ : ∃ X, World.alloc w6.drew (.cells #[] 33) = X := ⟨_, rfl⟩
              have oE : OwnR w6.heap.size wE (some ⟨w6.heap.size, 0, none⟩) 0 0 [] := by rw [← hE]; exact (OwnR.empty w6.drew).mono q6.size
              have HSE := hid (show w6.heap.size < wE.heap.size by rw [← hE]; simp)
              have q6E : Below w6.heap.size w6 wE := by rw [← hE]; exact q6.alloc q6.size _
              go_simp
              clear hE
              refine hK.out _ _ trivial (fun hHeld => ?_)
              clear hK K
              try simp only [Act.put, List.setIfInBounds_toArray, List.set_cons_zero, List.set_cons_succ]
              refine wpAnyH_ready (rs := [4, 8]) (by kernel_rfl) (by simp) ?_
              refine AllReadyH.cons (o := ⟨_, _, _, _, _, _⟩) rfl (fun K hK => ?_) (AllReadyH.cons (o := ⟨_, _, _, _, _, _⟩) rfl (fun K hK => ?_) (AllReadyH.nil))
              · have rp := (hrd.below q6E).pre (k * 2)
                rw [← filV_take] at rp
                obtain ⟨A1, c1, w10, HR1, o1, g1⟩ := run_appF oE (some ⟨b, off, none⟩) k c (fs.take k) HTK.out rp (by omega) q6E.size
                rw [Nat.zero_add] at HR1 o1
                have q1 := q6E.grown g1 q6E.size oE.block
                refine stepApp2 (by rfl) (.tmp 83) (.tmp 86) 22 rfl _ _ _ rfl rfl (HR1.out _) ?_
                try simp only [Act.put, List.setIfInBounds_toArray, List.set_cons_zero, List.set_cons_succ]
                refine hK.out _ _ trivial (fun hHeld => ?_)
                clear hK K
                try simp only [Act.put, List.setIfInBounds_toArray, List.set_cons_zero, List.set_cons_succ]
                obtain ⟨wN, hN⟩ : ∃ X, World.alloc w10 (.cells #[.string p, .string d] 33) = X := ⟨_, rfl⟩
                have rN : Rd wN (some ⟨w10.heap.size, 0, none⟩) (filV [(p, d)]) := by rw [← hN]; exact .inr ⟨_, rfl, new_cells w10 33 (filV [(p, d)])⟩
                have q1N : Below w6.heap.size w6 wN := by rw [← hN]; exact q1.alloc q1.size _
                have o1 := OwnR.alloc o1 (.cells #[.string p, .string d] 33)
                rw [hN] at o1
                refine wpAnyH_ready (rs := [8]) (by kernel_rfl) (by simp) ?_
                refine AllReadyH.cons (o := ⟨_, _, _, _, _, _⟩) rfl (fun K hK => ?_) (AllReadyH.nil)
                go_simp
                clear hN
                refine hK.out _ _ trivial (fun hHeld => ?_)
                clear hK K
                try simp only [Act.put, List.setIfInBounds_toArray, List.set_cons_zero, List.set_cons_succ]
                obtain ⟨A2, c2, w12, HR2, o2, g2⟩ := run_appF o1 _ 1 1 [(p, d)] rfl rN (by omega) q1N.size
                have q2 := q1N.grown g2 q1N.size o1.block
                refine wpAnyH_ready (rs := [9]) (by kernel_rfl) (by simp) ?_
                refine AllReadyH.cons (o := ⟨_, _, _, _, _, _⟩) rfl (fun K hK => ?_) (AllReadyH.nil)
                refine stepApp2 (by rfl) (.tmp 87) (.tmp 91) 22 rfl _ _ _ rfl rfl (HR2.out _) ?_
                try simp only [Act.put, List.setIfInBounds_toArray, List.set_cons_zero, List.set_cons_succ]
                refine hK.out _ _ trivial (fun hHeld => ?_)
                clear hK K
                try simp only [Act.put, List.setIfInBounds_toArray, List.set_cons_zero, List.set_cons_succ]
                have rz := HPO.out _ (hrd.below q2)
                obtain ⟨A3, c3, w13, HR3, o3, g3⟩ := run_appF o2 (some ⟨b, off + k * 2, none⟩) (n - k) (c - k) (fs.drop k) HDK.out rz (by omega) q2.size
                have q3 := q2.grown g3 q2.size o2.block
                refine wpAnyH_ready (rs := [13]) (by kernel_rfl) (by simp) ?_
                refine AllReadyH.cons (o := ⟨_, _, _, _, _, _⟩) rfl (fun K hK => ?_) (AllReadyH.nil)
                refine stepApp2 (by rfl) (.tmp 92) (.tmp 95) 22 rfl _ _ _ rfl rfl (HR3.out _) ?_
                try simp only [Act.put, List.setIfInBounds_toArray, List.set_cons_zero, List.set_cons_succ]
                refine hK.out _ _ trivial (fun hHeld => ?_)
                clear hK K
                try simp only [Act.put, List.setIfInBounds_toArray, List.set_cons_zero, List.set_cons_succ]
                refine wpAnyH_take (i := 14) (oi := ⟨_, _, _, _, _, _⟩) (v := ?_) rfl (by kernel_rfl) (by kernel_rfl) (by kernel_rfl) (fun _ _ _ h => h) (Or.inl ⟨by rfl, ?_⟩) (by assumption) ?_
                rotate_left
                · intro w hSw; (try dsimp only at hSw); go_simp; (try (with_reducible rfl))
                try simp only [Act.put, List.setIfInBounds_toArray, List.set_cons_zero, List.set_cons_succ]
                refine wpAnyH_take (i := 15) (oi := ⟨_, _, _, _, _, _⟩) (v := ?_) rfl (by kernel_rfl) (by kernel_rfl) (by kernel_rfl) (fun _ _ _ h => h) (Or.inl ⟨by rfl, ?_⟩) (by assumption) ?_
                rotate_left
                · intro w hSw; (try dsimp only at hSw); go_simp; (try (with_reducible rfl))
                try simp only [Act.put, List.setIfInBounds_toArray, List.set_cons_zero, List.set_cons_succ]
                refine wpAnyH_done (by kernel_rfl) ?_ _
                go_wp2
                go_ret2
                refine ⟨A3, k + 1 + (n - k), c3, by rw [HE.out]; rfl, ?_, below2 b6 q3⟩
                rw [putT_ok HE.out]
                have h9 := o3
                rw [List.nil_append, HPL.out] at h9
                exact h9.ft (by omega) (put_szs HSZ.out hp hd)
              · obtain ⟨wN, hN⟩ : ∃ X, World.alloc wE (.cells #[.string p, .string d] 33) = X := ⟨_, rfl⟩
                have rN : Rd wN (some ⟨wE.heap.size, 0, none⟩) (filV [(p, d)]) := by rw [← hN]; exact .inr ⟨_, rfl, new_cells wE 33 (filV [(p, d)])⟩
                have q6EN : Below w6.heap.size w6 wN := by rw [← hN]; exact q6E.alloc q6E.size _
                have oE := OwnR.alloc oE (.cells #[.string p, .string d] 33)
                rw [hN] at oE
                go_simp
                clear hN
                refine hK.out _ _ trivial (fun hHeld => ?_)
                clear hK K
                try simp only [Act.put, List.setIfInBounds_toArray, List.set_cons_zero, List.set_cons_succ]
                have hne : wE.heap.size ≠ w6.heap.size := by have h8 := HSE.out; omega
                have rp := (hrd.below q6EN).pre (k * 2)
                rw [← filV_take] at rp
                obtain ⟨A1, c1, w10, HR1, o1, g1⟩ := run_appF oE (some ⟨b, off, none⟩) k c (fs.take k) HTK.out rp (by omega) q6EN.size
                rw [Nat.zero_add] at HR1 o1
                have q1 := q6EN.grown g1 q6EN.size oE.block
                have rN := rN.apart g1 hne
                refine wpAnyH_ready (rs := [4]) (by kernel_rfl) (by simp) ?_
                refine AllReadyH.cons (o := ⟨_, _, _, _, _, _⟩) rfl (fun K hK => ?_) (AllReadyH.nil)
                refine stepApp2 (by rfl) (.tmp 83) (.tmp 86) 22 rfl _ _ _ rfl rfl (HR1.out _) ?_
                try simp only [Act.put, List.setIfInBounds_toArray, List.set_cons_zero, List.set_cons_succ]
                refine hK.out _ _ trivial (fun hHeld => ?_)
                clear hK K
                try simp only [Act.put, List.setIfInBounds_toArray, List.set_cons_zero, List.set_cons_succ]
                obtain ⟨A2, c2, w12, HR2, o2, g2⟩ := run_appF o1 _ 1 1 [(p, d)] rfl rN (by omega) q1.size
                have q2 := q1.grown g2 q1.size o1.block
                refine wpAnyH_ready (rs := [9]) (by kernel_rfl) (by simp) ?_
                refine AllReadyH.cons (o := ⟨_, _, _, _, _, _⟩) rfl (fun K hK => ?_) (AllReadyH.nil)
                refine stepApp2 (by rfl) (.tmp 87) (.tmp 91) 22 rfl _ _ _ rfl rfl (HR2.out _) ?_
                try simp only [Act.put, List.setIfInBounds_toArray, List.set_cons_zero, List.set_cons_succ]
                refine hK.out _ _ trivial (fun hHeld => ?_)
                clear hK K
                try simp only [Act.put, List.setIfInBounds_toArray, List.set_cons_zero, List.set_cons_succ]
                have rz := HPO.out _ (hrd.below q2)
                obtain ⟨A3, c3, w13, HR3, o3, g3⟩ := run_appF o2 (some ⟨b, off + k * 2, none⟩) (n - k) (c - k) (fs.drop k) HDK.out rz (by omega) q2.size
                have q3 := q2.grown g3 q2.size o2.block
                refine wpAnyH_ready (rs := [13]) (by kernel_rfl) (by simp) ?_
                refine AllReadyH.cons (o := ⟨_, _, _, _, _, _⟩) rfl (fun K hK => ?_) (AllReadyH.nil)
                refine stepApp2 (by rfl) (.tmp 92) (.tmp 95) 22 rfl _ _ _ rfl rfl (HR3.out _) ?_
                try simp only [Act.put, List.setIfInBounds_toArray, List.set_cons_zero, List.set_cons_succ]
                refine hK.out _ _ trivial (fun hHeld => ?_)
                clear hK K
                try simp only [Act.put, List.setIfInBounds_toArray, List.set_cons_zero, List.set_cons_succ]
                refine wpAnyH_take (i := 14) (oi := ⟨_, _, _, _, _, _⟩) (v := ?_) rfl (by kernel_rfl) (by kernel_rfl) (by kernel_rfl) (fun _ _ _ h => h) (Or.inl ⟨by rfl, ?_⟩) (by assumption) ?_
                rotate_left
                · intro w hSw; (try dsimp only at hSw); go_simp; (try (with_reducible rfl))
                try simp only [Act.put, List.setIfInBounds_toArray, List.set_cons_zero, List.set_cons_succ]
                refine wpAnyH_take (i := 15) (oi := ⟨_, _, _, _, _, _⟩) (v := ?_) rfl (by kernel_rfl) (by kernel_rfl) (by kernel_rfl) (fun _ _ _ h => h) (Or.inl ⟨by rfl, ?_⟩) (by assumption) ?_
                rotate_left
                · intro w hSw; (try dsimp only at hSw); go_simp; (try (with_reducible rfl))
                try simp only [Act.put, List.setIfInBounds_toArray, List.set_cons_zero, List.set_cons_succ]
                refine wpAnyH_done (by kernel_rfl) ?_ _
                go_wp2
                go_ret2
                refine ⟨A3, k + 1 + (n - k), c3, by rw [HE.out]; rfl, ?_, below2 b6 q3⟩
                rw [putT_ok HE.out]
                have h9 := o3
                rw [List.nil_append, HPL.out] at h9
                exact h9.ft (by omega) (put_szs HSZ.out hp hd)
            · obtain ⟨wN, hN⟩ : ∃ X, World.alloc w6.drew (.cells #[.string p, .string d] 33) = X := ⟨_, rfl⟩
              have rN : Rd wN (some ⟨w6.heap.size, 0, none⟩) (filV [(p, d)]) := by rw [← hN]; exact .inr ⟨_, rfl, new_cells w6.drew 33 (filV [(p, d)])⟩
              have HSN := hid (show w6.heap.size < wN.heap.size by rw [← hN]; simp)
              have q6N : Below w6.heap.size w6 wN := by rw [← hN]; exact q6.alloc q6.size _
              go_simp
              clear hN
              refine hK.out _ _ trivial (fun hHeld => ?_)
              clear hK K
              try simp only [Act.put, List.setIfInBounds_toArray, List.set_cons_zero, List.set_cons_succ]
              obtain ⟨wE, hE⟩ : ∃ X, World.alloc wN (.cells #[] 33) = X := ⟨_, rfl⟩
              have oE : OwnR w6.heap.size wE (some ⟨wN.heap.size, 0, none⟩) 0 0 [] := by rw [← hE]; exact (OwnR.empty wN).mono q6N.size
              have q6NE : Below w6.heap.size w6 wE := by rw [← hE]; exact q6N.alloc q6N.size _
              have rN := Rd.alloc rN (.cells #[] 33)
              rw [hE] at rN
              refine wpAnyH_ready (rs := [0]) (by kernel_rfl) (by simp) ?_
              refine AllReadyH.cons (o := ⟨_, _, _, _, _, _⟩) rfl (fun K hK => ?_) (AllReadyH.nil)
              go_simp
              clear hE
              refine hK.out _ _ trivial (fun hHeld => ?_)
              clear hK K
              try simp only [Act.put, List.setIfInBounds_toArray, List.set_cons_zero, List.set_cons_succ]
              have hne : w6.heap.size ≠ wN.heap.size := by have h8 := HSN.out; omega
              have rp := (hrd.below q6NE).pre (k * 2)
              rw [← filV_take] at rp
              obtain ⟨A1, c1, w10, HR1, o1, g1⟩ := run_appF oE (some ⟨b, off, none⟩) k c (fs.take k) HTK.out rp (by omega) q6NE.size
              rw [Nat.zero_add] at HR1 o1
              have q1 := q6NE.grown g1 q6NE.size oE.block
              have rN := rN.apart g1 hne
              refine wpAnyH_ready (rs := [4]) (by kernel_rfl) (by simp) ?_
              refine AllReadyH.cons (o := ⟨_, _, _, _, _, _⟩) rfl (fun K hK => ?_) (AllReadyH.nil)
              refine stepApp2 (by rfl) (.tmp 83) (.tmp 86) 22 rfl _ _ _ rfl rfl (HR1.out _) ?_
              try simp only [Act.put, List.setIfInBounds_toArray, List.set_cons_zero, List.set_cons_succ]
              refine hK.out _ _ trivial (fun hHeld => ?_)
              clear hK K
              try simp only [Act.put, List.setIfInBounds_toArray, List.set_cons_zero, List.set_cons_succ]
              obtain ⟨A2, c2, w12, HR2, o2, g2⟩ := run_appF o1 _ 1 1 [(p, d)] rfl rN (by omega) q1.size
              have q2 := q1.grown g2 q1.size o1.block
              refine wpAnyH_ready (rs := [9]) (by kernel_rfl) (by simp) ?_
              refine AllReadyH.cons (o := ⟨_, _, _, _, _, _⟩) rfl (fun K hK => ?_) (AllReadyH.nil)
              refine stepApp2 (by rfl) (.tmp 87) (.tmp 91) 22 rfl _ _ _ rfl rfl (HR2.out _) ?_
              try simp only [Act.put, List.setIfInBounds_toArray, List.set_cons_zero, List.set_cons_succ]
              refine hK.out _ _ trivial (fun hHeld => ?_)
              clear hK K
              try simp only [Act.put, List.setIfInBounds_toArray, List.set_cons_zero, List.set_cons_succ]
              have rz := HPO.out _ (hrd.below q2)
              obtain ⟨A3, c3, w13, HR3, o3, g3⟩ := run_appF o2 (some ⟨b, off + k * 2, none⟩) (n - k) (c - k) (fs.drop k) HDK.out rz (by omega) q2.size
              have q3 := q2.grown g3 q2.size o2.block
              refine wpAnyH_ready (rs := [13]) (by kernel_rfl) (by simp) ?_
              refine AllReadyH.cons (o := ⟨_, _, _, _, _, _⟩) rfl (fun K hK => ?_) (AllReadyH.nil)
              refine stepApp2 (by rfl) (.tmp 92) (.tmp 95) 22 rfl _ _ _ rfl rfl (HR3.out _) ?_
              try simp only [Act.put, List.setIfInBounds_toArray, List.set_cons_zero, List.set_cons_succ]
              refine hK.out _ _ trivial (fun hHeld => ?_)
              clear hK K
              try simp only [Act.put, List.setIfInBounds_toArray, List.set_cons_zero, List.set_cons_succ]
              refine wpAnyH_take (i := 14) (oi := ⟨_, _, _, _, _, _⟩) (v := ?_) rfl (by kernel_rfl) (by kernel_rfl) (by kernel_rfl) (fun _ _ _ h => h) (Or.inl ⟨by rfl, ?_⟩) (by assumption) ?_
              rotate_left
              · intro w hSw; (try dsimp only at hSw); go_simp; (try (with_reducible rfl))
              try simp only [Act.put, List.setIfInBounds_toArray, List.set_cons_zero, List.set_cons_succ]
              refine wpAnyH_take (i := 15) (oi := ⟨_, _, _, _, _, _⟩) (v := ?_) rfl (by kernel_rfl) (by kernel_rfl) (by kernel_rfl) (fun _ _ _ h => h) (Or.inl ⟨by rfl, ?_⟩) (by assumption) ?_
              rotate_left
              · intro w hSw; (try dsimp only at hSw); go_simp; (try (with_reducible rfl))
              try simp only [Act.put, List.setIfInBounds_toArray, List.set_cons_zero, List.set_cons_succ]
              refine wpAnyH_done (by kernel_rfl) ?_ _
              go_wp2
              go_ret2
              refine ⟨A3, k + 1 + (n - k), c3, by rw [HE.out]; rfl, ?_, below2 b6 q3⟩
              rw [putT_ok HE.out]
              have h9 := o3
              rw [List.nil_append, HPL.out] at h9
              exact h9.ft (by omega) (put_szs HSZ.out hp hd)
          · have hkN : k = n := by omega
            have hnlt2 : ¬ (k : Int) < n := by omega
            subst hkN
            have hdn : fs.drop k = [] := List.drop_of_length_le (by rw [HLN.out]; omega)
            have HPO := hid (fun W (_ : Rd W A (filV fs)) => (show Rd W (if c = k then A else Option.map (fun x => x.add (k * 2)) A) (filV (fs.drop k)) by rw [hdn]; exact .inl rfl))
            have HDK2 := hid (show (fs.drop k).length = 0 by rw [hdn]; rfl)
            clear hdn
            go_upto_region 21 with (fail)
            refine wp_region_held_drew (S := fun _ => True) (by kernel_rfl) trivial (fun hHeld => ?_)
            refine wpAnyH_take (i := 1) (oi := ⟨_, _, _, _, _, _⟩) (v := ?_) rfl (by kernel_rfl) (by kernel_rfl) (by kernel_rfl) (fun _ _ _ h => h) (Or.inl ⟨by rfl, ?_⟩) (by assumption) ?_
            rotate_left
            · intro w hSw; (try dsimp only at hSw); go_simp; (try (with_reducible rfl))
            try simp only [Act.put, List.setIfInBounds_toArray, List.set_cons_zero, List.set_cons_succ]
            refine wpAnyH_take (i := 2) (oi := ⟨_, _, _, _, _, _⟩) (v := ?_) rfl (by kernel_rfl) (by kernel_rfl) (by kernel_rfl) (fun _ _ _ h => h) (Or.inl ⟨by rfl, ?_⟩) (by assumption) ?_
            rotate_left
            · intro w hSw; (try dsimp only at hSw); go_simp; (try (with_reducible rfl))
            try simp only [Act.put, List.setIfInBounds_toArray, List.set_cons_zero, List.set_cons_succ]
            refine wpAnyH_take (i := 3) (oi := ⟨_, _, _, _, _, _⟩) (v := ?_) rfl (by kernel_rfl) (by kernel_rfl) (by kernel_rfl) (fun _ _ _ h => h) (Or.inl ⟨by rfl, ?_⟩) (by assumption) ?_
            rotate_left
            · intro w hSw; (try dsimp only at hSw); go_simp; (try (with_reducible rfl))
            try simp only [Act.put, List.setIfInBounds_toArray, List.set_cons_zero, List.set_cons_succ]
            refine wpAnyH_take (i := 5) (oi := ⟨_, _, _, _, _, _⟩) (v := ?_) rfl (by kernel_rfl) (by kernel_rfl) (by kernel_rfl) (fun _ _ _ h => h) (Or.inl ⟨by rfl, ?_⟩) (by assumption) ?_
            rotate_left
            · intro w hSw; (try dsimp only at hSw); go_simp; (try (with_reducible rfl))
            try simp only [Act.put, List.setIfInBounds_toArray, List.set_cons_zero, List.set_cons_succ]
            refine wpAnyH_take (i := 6) (oi := ⟨_, _, _, _, _, _⟩) (v := ?_) rfl (by kernel_rfl) (by kernel_rfl) (by kernel_rfl) (fun _ _ _ h => h) (Or.inl ⟨by rfl, ?_⟩) (by assumption) ?_
            rotate_left
            · intro w hSw; (try dsimp only at hSw); go_simp; (try (with_reducible rfl))
            try simp only [Act.put, List.setIfInBounds_toArray, List.set_cons_zero, List.set_cons_succ]
            refine wpAnyH_take (i := 7) (oi := ⟨_, _, _, _, _, _⟩) (v := ?_) rfl (by kernel_rfl) (by kernel_rfl) (by kernel_rfl) (fun _ _ _ h => h) (Or.inl ⟨by rfl, ?_⟩) (by assumption) ?_
            rotate_left
            · intro w hSw; (try dsimp only at hSw); go_simp; (try (with_reducible rfl))
            try simp only [Act.put, List.setIfInBounds_toArray, List.set_cons_zero, List.set_cons_succ]
            refine wpAnyH_take (i := 10) (oi := ⟨_, _, _, _, _, _⟩) (v := ?_) rfl (by kernel_rfl) (by kernel_rfl) (by kernel_rfl) (fun _ _ _ h => h) (Or.inl ⟨by rfl, ?_⟩) (by assumption) ?_
            rotate_left
            · intro w hSw; (try dsimp only at hSw); go_simp; (try (with_reducible rfl))
            try simp only [Act.put, List.setIfInBounds_toArray, List.set_cons_zero, List.set_cons_succ]
            refine wpAnyH_take (i := 11) (oi := ⟨_, _, _, _, _, _⟩) (v := ?_) rfl (by kernel_rfl) (by kernel_rfl) (by kernel_rfl) (fun _ _ _ h => h) (Or.inl ⟨by rfl, ?_⟩) (by assumption) ?_
            rotate_left
            · intro w hSw; (try dsimp only at hSw); go_simp; (try (with_reducible rfl))
            try simp only [Act.put, List.setIfInBounds_toArray, List.set_cons_zero, List.set_cons_succ]
            refine wpAnyH_take (i := 12) (oi := ⟨_, _, _, _, _, _⟩) (v := ?_) rfl (by kernel_rfl) (by kernel_rfl) (by kernel_rfl) (fun _ _ _ h => h) (Or.inl ⟨by rfl, ?_⟩) (by assumption) ?_
            rotate_left
            · intro w hSw; (try dsimp only at hSw); go_simp; (try (with_reducible rfl))
            try simp only [Act.put, List.setIfInBounds_toArray, List.set_cons_zero, List.set_cons_succ]
            generalize (if c = k then A else Option.map (fun x => x.add (k * 2)) A) = B1 at HPO ⊢
            refine wpAnyH_ready (rs := [0, 8]) (by kernel_rfl) (by simp) ?_
            refine AllReadyH.cons (o := ⟨_, _, _, _, _, _⟩) rfl (fun K hK => ?_) (AllReadyH.cons (o := ⟨_, _, _, _, _, _⟩) rfl (fun K hK => ?_) (AllReadyH.nil))
            · obtain ⟨wE, hE⟩ : ∃ X, World.alloc w6.drew (.cells #[] 33) = X := ⟨_, rfl⟩
              have oE : OwnR w6.heap.size wE (some ⟨w6.heap.size, 0, none⟩) 0 0 [] := by rw [← hE]; exact (OwnR.empty w6.drew).mono q6.size
              have HSE := hid (show w6.heap.size < wE.heap.size by rw [← hE]; simp)
              have q6E : Below w6.heap.size w6 wE := by rw [← hE]; exact q6.alloc q6.size _
              go_simp
              clear hE
              refine hK.out _ _ trivial (fun hHeld => ?_)
              clear hK K
              try simp only [Act.put, List.setIfInBounds_toArray, List.set_cons_zero, List.set_cons_succ]
              refine wpAnyH_ready (rs := [4, 8]) (by kernel_rfl) (by simp) ?_
              refine AllReadyH.cons (o := ⟨_, _, _, _, _, _⟩) rfl (fun K hK => ?_) (AllReadyH.cons (o := ⟨_, _, _, _, _, _⟩) rfl (fun K hK => ?_) (AllReadyH.nil))
              · have rp := (hrd.below q6E).pre (k * 2)
                rw [← filV_take] at rp
                obtain ⟨A1, c1, w10, HR1, o1, g1⟩ := run_appF oE A k c (fs.take k) HTK.out rp (by omega) q6E.size
                rw [Nat.zero_add] at HR1 o1
                have q1 := q6E.grown g1 q6E.size oE.block
                refine stepApp2 (by rfl) (.tmp 83) (.tmp 86) 22 rfl _ _ _ rfl rfl (HR1.out _) ?_
                try simp only [Act.put, List.setIfInBounds_toArray, List.set_cons_zero, List.set_cons_succ]
                refine hK.out _ _ trivial (fun hHeld => ?_)
                clear hK K
                try simp only [Act.put, List.setIfInBounds_toArray, List.set_cons_zero, List.set_cons_succ]
                obtain ⟨wN, hN⟩ : ∃ X, World.alloc w10 (.cells #[.string p, .string d] 33) = X := ⟨_, rfl⟩
                have rN : Rd wN (some ⟨w10.heap.size, 0, none⟩) (filV [(p, d)]) := by rw [← hN]; exact .inr ⟨_, rfl, new_cells w10 33 (filV [(p, d)])⟩
                have q1N : Below w6.heap.size w6 wN := by rw [← hN]; exact q1.alloc q1.size _
                have o1 := OwnR.alloc o1 (.cells #[.string p, .string d] 33)
                rw [hN] at o1
                refine wpAnyH_ready (rs := [8]) (by kernel_rfl) (by simp) ?_
                refine AllReadyH.cons (o := ⟨_, _, _, _, _, _⟩) rfl (fun K hK => ?_) (AllReadyH.nil)
                go_simp
                clear hN
                refine hK.out _ _ trivial (fun hHeld => ?_)
                clear hK K
                try simp only [Act.put, List.setIfInBounds_toArray, List.set_cons_zero, List.set_cons_succ]
                obtain ⟨A2, c2, w12, HR2, o2, g2⟩ := run_appF o1 _ 1 1 [(p, d)] rfl rN (by omega) q1N.size
                have q2 := q1N.grown g2 q1N.size o1.block
                refine wpAnyH_ready (rs := [9]) (by kernel_rfl) (by simp) ?_
                refine AllReadyH.cons (o := ⟨_, _, _, _, _, _⟩) rfl (fun K hK => ?_) (AllReadyH.nil)
                refine stepApp2 (by rfl) (.tmp 87) (.tmp 91) 22 rfl _ _ _ rfl rfl (HR2.out _) ?_
                try simp only [Act.put, List.setIfInBounds_toArray, List.set_cons_zero, List.set_cons_succ]
                refine hK.out _ _ trivial (fun hHeld => ?_)
                clear hK K
                try simp only [Act.put, List.setIfInBounds_toArray, List.set_cons_zero, List.set_cons_succ]
                have rz := HPO.out _ (hrd.below q2)
                obtain ⟨A3, c3, w13, HR3, o3, g3⟩ := run_appF o2 B1 0 (c - k) (fs.drop k) HDK2.out rz (by omega) q2.size
                have q3 := q2.grown g3 q2.size o2.block
                refine wpAnyH_ready (rs := [13]) (by kernel_rfl) (by simp) ?_
                refine AllReadyH.cons (o := ⟨_, _, _, _, _, _⟩) rfl (fun K hK => ?_) (AllReadyH.nil)
                refine stepApp2 (by rfl) (.tmp 92) (.tmp 95) 22 rfl _ _ _ rfl rfl (HR3.out _) ?_
                try simp only [Act.put, List.setIfInBounds_toArray, List.set_cons_zero, List.set_cons_succ]
                refine hK.out _ _ trivial (fun hHeld => ?_)
                clear hK K
                try simp only [Act.put, List.setIfInBounds_toArray, List.set_cons_zero, List.set_cons_succ]
                refine wpAnyH_take (i := 14) (oi := ⟨_, _, _, _, _, _⟩) (v := ?_) rfl (by kernel_rfl) (by kernel_rfl) (by kernel_rfl) (fun _ _ _ h => h) (Or.inl ⟨by rfl, ?_⟩) (by assumption) ?_
                rotate_left
                · intro w hSw; (try dsimp only at hSw); go_simp; (try (with_reducible rfl))
                try simp only [Act.put, List.setIfInBounds_toArray, List.set_cons_zero, List.set_cons_succ]
                refine wpAnyH_take (i := 15) (oi := ⟨_, _, _, _, _, _⟩) (v := ?_) rfl (by kernel_rfl) (by kernel_rfl) (by kernel_rfl) (fun _ _ _ h => h) (Or.inl ⟨by rfl, ?_⟩) (by assumption) ?_
                rotate_left
                · intro w hSw; (try dsimp only at hSw); go_simp; (try (with_reducible rfl))
                try simp only [Act.put, List.setIfInBounds_toArray, List.set_cons_zero, List.set_cons_succ]
                refine wpAnyH_done (by kernel_rfl) ?_ _
                go_wp2
                go_ret2
                refine ⟨A3, k + 1 + 0, c3, by rw [HE.out]; rfl, ?_, below2 b6 q3⟩
                rw [putT_ok HE.out]
                have h9 := o3
                rw [List.nil_append, HPL.out] at h9
                exact h9.ft (by omega) (put_szs HSZ.out hp hd)
              · obtain ⟨wN, hN⟩ : ∃ X, World.alloc wE (.cells #[.string p, .string d] 33) = X := ⟨_, rfl⟩
                have rN : Rd wN (some ⟨wE.heap.size, 0, none⟩) (filV [(p, d)]) := by rw [← hN]; exact .inr ⟨_, rfl, new_cells wE 33 (filV [(p, d)])⟩
                have q6EN : Below w6.heap.size w6 wN := by rw [← hN]; exact q6E.alloc q6E.size _
                have oE := OwnR.alloc oE (.cells #[.string p, .string d] 33)
                rw [hN] at oE
                go_simp
                clear hN
                refine hK.out _ _ trivial (fun hHeld => ?_)
                clear hK K
                try simp only [Act.put, List.setIfInBounds_toArray, List.set_cons_zero, List.set_cons_succ]
                have hne : wE.heap.size ≠ w6.heap.size := by have h8 := HSE.out; omega
                have rp := (hrd.below q6EN).pre (k * 2)
                rw [← filV_take] at rp
                obtain ⟨A1, c1, w10, HR1, o1, g1⟩ := run_appF oE A k c (fs.take k) HTK.out rp (by omega) q6EN.size
                rw [Nat.zero_add] at HR1 o1
                have q1 := q6EN.grown g1 q6EN.size oE.block
                have rN := rN.apart g1 hne
                refine wpAnyH_ready (rs := [4]) (by kernel_rfl) (by simp) ?_
                refine AllReadyH.cons (o := ⟨_, _, _, _, _, _⟩) rfl (fun K hK => ?_) (AllReadyH.nil)
                refine stepApp2 (by rfl) (.tmp 83) (.tmp 86) 22 rfl _ _ _ rfl rfl (HR1.out _) ?_
                try simp only [Act.put, List.setIfInBounds_toArray, List.set_cons_zero, List.set_cons_succ]
                refine hK.out _ _ trivial (fun hHeld => ?_)
                clear hK K
                try simp only [Act.put, List.setIfInBounds_toArray, List.set_cons_zero, List.set_cons_succ]
                obtain ⟨A2, c2, w12, HR2, o2, g2⟩ := run_appF o1 _ 1 1 [(p, d)] rfl rN (by omega) q1.size
                have q2 := q1.grown g2 q1.size o1.block
                refine wpAnyH_ready (rs := [9]) (by kernel_rfl) (by simp) ?_
                refine AllReadyH.cons (o := ⟨_, _, _, _, _, _⟩) rfl (fun K hK => ?_) (AllReadyH.nil)
                refine stepApp2 (by rfl) (.tmp 87) (.tmp 91) 22 rfl _ _ _ rfl rfl (HR2.out _) ?_
                try simp only [Act.put, List.setIfInBounds_toArray, List.set_cons_zero, List.set_cons_succ]
                refine hK.out _ _ trivial (fun hHeld => ?_)
                clear hK K
                try simp only [Act.put, List.setIfInBounds_toArray, List.set_cons_zero, List.set_cons_succ]
                have rz := HPO.out _ (hrd.below q2)
                obtain ⟨A3, c3, w13, HR3, o3, g3⟩ := run_appF o2 B1 0 (c - k) (fs.drop k) HDK2.out rz (by omega) q2.size
                have q3 := q2.grown g3 q2.size o2.block
                refine wpAnyH_ready (rs := [13]) (by kernel_rfl) (by simp) ?_
                refine AllReadyH.cons (o := ⟨_, _, _, _, _, _⟩) rfl (fun K hK => ?_) (AllReadyH.nil)
                refine stepApp2 (by rfl) (.tmp 92) (.tmp 95) 22 rfl _ _ _ rfl rfl (HR3.out _) ?_
                try simp only [Act.put, List.setIfInBounds_toArray, List.set_cons_zero, List.set_cons_succ]
                refine hK.out _ _ trivial (fun hHeld => ?_)
                clear hK K
                try simp only [Act.put, List.setIfInBounds_toArray, List.set_cons_zero, List.set_cons_succ]
                refine wpAnyH_take (i := 14) (oi := ⟨_, _, _, _, _, _⟩) (v := ?_) rfl (by kernel_rfl) (by kernel_rfl) (by kernel_rfl) (fun _ _ _ h => h) (Or.inl ⟨by rfl, ?_⟩) (by assumption) ?_
                rotate_left
                · intro w hSw; (try dsimp only at hSw); go_simp; (try (with_reducible rfl))
                try simp only [Act.put, List.setIfInBounds_toArray, List.set_cons_zero, List.set_cons_succ]
                refine wpAnyH_take (i := 15) (oi := ⟨_, _, _, _, _, _⟩) (v := ?_) rfl (by kernel_rfl) (by kernel_rfl) (by kernel_rfl) (fun _ _ _ h => h) (Or.inl ⟨by rfl, ?_⟩) (by assumption) ?_
                rotate_left
                · intro w hSw; (try dsimp only at hSw); go_simp; (try (with_reducible rfl))
                try simp only [Act.put, List.setIfInBounds_toArray, List.set_cons_zero, List.set_cons_succ]
                refine wpAnyH_done (by kernel_rfl) ?_ _
                go_wp2
                go_ret2
                refine ⟨A3, k + 1 + 0, c3, by rw [HE.out]; rfl, ?_, below2 b6 q3⟩
                rw [putT_ok HE.out]
                have h9 := o3
                rw [List.nil_append, HPL.out] at h9
                exact h9.ft (by omega) (put_szs HSZ.out hp hd)
            · obtain ⟨wN, hN⟩ : ∃ X, World.alloc w6.drew (.cells #[.string p, .string d] 33) = X := ⟨_, rfl⟩
              have rN : Rd wN (some ⟨w6.heap.size, 0, none⟩) (filV [(p, d)]) := by rw [← hN]; exact .inr ⟨_, rfl, new_cells w6.drew 33 (filV [(p, d)])⟩
              have HSN := hid (show w6.heap.size < wN.heap.size by rw [← hN]; simp)
              have q6N : Below w6.heap.size w6 wN := by rw [← hN]; exact q6.alloc q6.size _
              go_simp
              clear hN
              refine hK.out _ _ trivial (fun hHeld => ?_)
              clear hK K
              try simp only [Act.put, List.setIfInBounds_toArray, List.set_cons_zero, List.set_cons_succ]
              obtain ⟨wE, hE⟩ : ∃ X, World.alloc wN (.cells #[] 33) = X := ⟨_, rfl⟩
              have oE : OwnR w6.heap.size wE (some ⟨wN.heap.size, 0, none⟩) 0 0 [] := by rw [← hE]; exact (OwnR.empty wN).mono q6N.size
              have q6NE : Below w6.heap.size w6 wE := by rw [← hE]; exact q6N.alloc q6N.size _
              have rN := Rd.alloc rN (.cells #[] 33)
              rw [hE] at rN
              refine wpAnyH_ready (rs := [0]) (by kernel_rfl) (by simp) ?_
              refine AllReadyH.cons (o := ⟨_, _, _, _, _, _⟩) rfl (fun K hK => ?_) (AllReadyH.nil)
              go_simp
              clear hE
              refine hK.out _ _ trivial (fun hHeld => ?_)
              clear hK K
              try simp only [Act.put, List.setIfInBounds_toArray, List.set_cons_zero, List.set_cons_succ]
              have hne : w6.heap.size ≠ wN.heap.size := by have h8 := HSN.out; omega
              have rp := (hrd.below q6NE).pre (k * 2)
              rw [← filV_take] at rp
              obtain ⟨A1, c1, w10, HR1, o1, g1⟩ := run_appF oE A k c (fs.take k) HTK.out rp (by omega) q6NE.size
              rw [Nat.zero_add] at HR1 o1
              have q1 := q6NE.grown g1 q6NE.size oE.block
              have rN := rN.apart g1 hne
              refine wpAnyH_ready (rs := [4]) (by kernel_rfl) (by simp) ?_
              refine AllReadyH.cons (o := ⟨_, _, _, _, _, _⟩) rfl (fun K hK => ?_) (AllReadyH.nil)
              refine stepApp2 (by rfl) (.tmp 83) (.tmp 86) 22 rfl _ _ _ rfl rfl (HR1.out _) ?_
              try simp only [Act.put, List.setIfInBounds_toArray, List.set_cons_zero, List.set_cons_succ]
              refine hK.out _ _ trivial (fun hHeld => ?_)
              clear hK K
              try simp only [Act.put, List.setIfInBounds_toArray, List.set_cons_zero, List.set_cons_succ]
              obtain ⟨A2, c2, w12, HR2, o2, g2⟩ := run_appF o1 _ 1 1 [(p, d)] rfl rN (by omega) q1.size
              have q2 := q1.grown g2 q1.size o1.block
              refine wpAnyH_ready (rs := [9]) (by kernel_rfl) (by simp) ?_
              refine AllReadyH.cons (o := ⟨_, _, _, _, _, _⟩) rfl (fun K hK => ?_) (AllReadyH.nil)
              refine stepApp2 (by rfl) (.tmp 87) (.tmp 91) 22 rfl _ _ _ rfl rfl (HR2.out _) ?_
              try simp only [Act.put, List.setIfInBounds_toArray, List.set_cons_zero, List.set_cons_succ]
              refine hK.out _ _ trivial (fun hHeld => ?_)
              clear hK K
              try simp only [Act.put, List.setIfInBounds_toArray, List.set_cons_zero, List.set_cons_succ]
              have rz := HPO.out _ (hrd.below q2)
              obtain ⟨A3, c3, w13, HR3, o3, g3⟩ := run_appF o2 B1 0 (c - k) (fs.drop k) HDK2.out rz (by omega) q2.size
              have q3 := q2.grown g3 q2.size o2.block
              refine wpAnyH_ready (rs := [13]) (by kernel_rfl) (by simp) ?_
              refine AllReadyH.cons (o := ⟨_, _, _, _, _, _⟩) rfl (fun K hK => ?_) (AllReadyH.nil)
              refine stepApp2 (by rfl) (.tmp 92) (.tmp 95) 22 rfl _ _ _ rfl rfl (HR3.out _) ?_
              try simp only [Act.put, List.setIfInBounds_toArray, List.set_cons_zero, List.set_cons_succ]
              refine hK.out _ _ trivial (fun hHeld => ?_)
              clear hK K
              try simp only [Act.put, List.setIfInBounds_toArray, List.set_cons_zero, List.set_cons_succ]
              refine wpAnyH_take (i := 14) (oi := ⟨_, _, _, _, _, _⟩) (v := ?_) rfl (by kernel_rfl) (by kernel_rfl) (by kernel_rfl) (fun _ _ _ h => h) (Or.inl ⟨by rfl, ?_⟩) (by assumption) ?_
              rotate_left
              · intro w hSw; (try dsimp only at hSw); go_simp; (try (with_reducible rfl))
              try simp only [Act.put, List.setIfInBounds_toArray, List.set_cons_zero, List.set_cons_succ]
              refine wpAnyH_take (i := 15) (oi := ⟨_, _, _, _, _, _⟩) (v := ?_) rfl (by kernel_rfl) (by kernel_rfl) (by kernel_rfl) (fun _ _ _ h => h) (Or.inl ⟨by rfl, ?_⟩) (by assumption) ?_
              rotate_left
              · intro w hSw; (try dsimp only at hSw); go_simp; (try (with_reducible rfl))
              try simp only [Act.put, List.setIfInBounds_toArray, List.set_cons_zero, List.set_cons_succ]
              refine wpAnyH_done (by kernel_rfl) ?_ _
              go_wp2
              go_ret2
              refine ⟨A3, k + 1 + 0, c3, by rw [HE.out]; rfl, ?_, below2 b6 q3⟩
              rw [putT_ok HE.out]
              have h9 := o3
              rw [List.nil_append, HPL.out] at h9
              exact h9.ft (by omega) (put_szs HSZ.out hp hd)
    · rw [ht, if_pos rfl] at c0
      go_wp2_with fail
      refine c0.mono ?_
      rintro e w5 ⟨rfl, rfl⟩
      clear c0
      by_cases h600 : (600 : Int) < d.size
      · have HE := hid (HF.out HR.out HP.out HC.out (.inl (by omega)))
        clear HF HZ
        go_wp2
        go_ret2
        exact outR_err HE.out (putT_err HE.out (by decide)) b3
      have h6b : decide ((600 : Int) < d.size) = false := by simp; omega
      have HE := hid (HZ.out.2 ⟨hT, HP.out, HC.out, by omega, .inl ht⟩)
      have HPN := hid (put_len hT.srt p d)
      rw [ht, h3.len] at HPN
      obtain ⟨d0, hfs⟩ : ∃ d0, fs = lowT fs p.data.toList ++ (mkS p.data.toList, d0) :: highT fs p.data.toList := by
        rcases split_tree p.data.toList hT.srt with ⟨a, _⟩ | ⟨d0, _, b⟩
        · rw [ht] at a; cases a
        · exact ⟨d0, b⟩
      have hkl : (lowT fs p.data.toList).length < n := by
        have := congrArg List.length hfs
        rw [h3.len, List.length_append, List.length_cons] at this
        omega
      have HFS := hid (show (filV fs).set ((lowT fs p.data.toList).length * 2 + 1) (.string d) = filV (putL fs p d) by
        rw [putL]
        generalize lowT fs p.data.toList = l at *
        generalize highT fs p.data.toList = r at *
        subst hfs
        have hl : (filV l).length = l.length * 2 := filV_length l
        rw [filV_append, filV_append, List.set_append_right _ _ (by omega), hl, show l.length * 2 + 1 - l.length * 2 = 1 by omega, filV_cons, filV_cons, mkS_of]
        rfl)
      clear hfs ht HF HZ
      generalize (lowT fs p.data.toList).length = k at *
      have hkz : ¬ (k : Int) < 0 := by omega
      have hkz0 : (0 : Int) ≤ k := by omega
      have hkn : (k : Int) < n := by omega
      have o0 : OwnR wr.heap.size (wr.alloc (.cells #[] 33)) (some ⟨wr.heap.size, 0, none⟩) 0 0 [] := OwnR.empty wr
      have q0 : Below wr.heap.size wr (wr.alloc (.cells #[] 33)) := (Below.refl _ _).alloc (Nat.le_refl _) _
      obtain ⟨A6, c6, w6, HR6, o6, g6⟩ := run_appF o0 A n c fs h3.len (h3.rd.below q0) (by omega) q0.size
      rw [Nat.zero_add, List.nil_append] at o6
      rw [Nat.zero_add] at HR6
      have q6 := q0.grown g6 q0.size o0.block
      have b6 := below2 b3 q6
      obtain ⟨g, rfl, hg⟩ := o6.at_ (by omega)
      have s6 := o6.2.cellAt (k * 2 + 1) (by omega)
      have f6 := o6.2.frozenAt (k * 2 + 1)
      obtain ⟨o7, -⟩ := o6.2.stored (k * 2 + 1) (.string d)
      have hkf : k < fs.length := by have := h3.len; omega
      rw [filV_at1 fs k hkf] at s6
      have HO7 := hid (show OwnR wr.heap.size (w6.setCell ⟨g, k * 2 + 1, none⟩ (.string d)) (some ⟨g, 0, none⟩) n c6 (putL fs p d) from ⟨HPN.out, by rw [← HFS.out]; exact o7⟩)
      have hgw : w.heap.size ≤ g := by have := b3.size; omega
      have HW7 := hid (b6.setCell (p := ⟨g, k * 2 + 1, none⟩) hgw (.string d))
      generalize fs[k].2 = dk at s6
      clear o0 q0 o6 g6 q6 b6 o7 h3 b3
      go_wp2_with (at_builtin; refine Lib.wpList_append_run _ rfl _ _ _ _ rfl _ _ rfl rfl _ _ (HR6.out _) ?_)
      go_wp2
      go_ret2
      refine ⟨some ⟨g, 0, none⟩, n, c6, by rw [HE.out]; rfl, ?_, HW7.out⟩
      rw [putT_ok HE.out]
      exact HO7.out.ft (by omega) (put_szs HSZ.out hp hd)
end Go.Proofs.YtblfpmlnpaibkaaDoor
