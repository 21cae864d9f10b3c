/- VaultBlind: the walk. -/
import Derived.Test.YtdejhpinmkbngaaVn
import Derived.Test.YtdejhpinmkbngaaXor
import Derived.Deep.Cut
namespace Go.Proofs.Ytdejhpinmkbngaa
open Go.RowKit Go.Maps

/-! ### The same handles, and the same sizes -/
def SameV (S S' : List Sec) : Prop := S.map (fun s => (s.h, s.plain.size)) = S'.map (fun s => (s.h, s.plain.size))
theorem same_h {S S' : List Sec} (h : SameV S S') : S.map Sec.h = S'.map Sec.h := by
  have := congrArg (List.map Prod.fst) h
  rw [List.map_map, List.map_map] at this
  exact this
theorem same_len {S S' : List Sec} (h : SameV S S') : S.length = S'.length := by
  have := congrArg List.length h
  simpa using this
theorem same_seal {S S' : List Sec} (h : SameV S S') {p p' : ByteArray} (hp : p'.size = p.size) (k k' : Int) (a a' : ByteArray) (x : Int) :
    sealI S p x = sealI S' p' x ∧ sealC p = sealC p' ∧ SameV (sealT S k a p x) (sealT S' k' a' p' x) := by
  unfold sealI sealC sealT
  rw [hp, same_h h]
  refine ⟨rfl, rfl, ?_⟩
  split
  · unfold SameV sealS
    rw [List.map_append, List.map_append, h, same_h h]
    simp [hp]
  · exact h
def sizeQ (o : Option (Int × Nat)) : Int := match o with | some q => sizeI (bucketI q.2) | none => 0
theorem size_map (S : List Sec) (x : Int) : sizeV S x = sizeQ ((S.map (fun s => (s.h, s.plain.size))).find? (fun q => decide (q.1 = x))) := by
  rw [List.find?_map]
  unfold sizeV findS
  show _ = sizeQ (Option.map _ (S.find? (fun s => decide (s.h = x))))
  cases S.find? (fun s => decide (s.h = x)) <;> rfl
theorem same_size {S S' : List Sec} (h : SameV S S') (x : Int) : sizeV S x = sizeV S' x := by
  rw [size_map, size_map, h]
theorem len_list (s : ByteArray) : s.data.toList.length = s.size := by simp

set_option maxHeartbeats 2000000 in
set_option maxRecDepth 20000 in
theorem vaultBlind_walk (A : Option Addr) (c : Nat) (ls : List Cal) (k z : Int) (w : World) (hr : Rd w A (calV ls)) (hlc : ls.length ≤ c) (hc : c * 56 ≤ 140737488351232) (hok : ∀ x ∈ ls, CalOk x) (_ : (Lit.int .i64 k).wf = true) (hz : (Lit.int .u8 z).wf = true) :
    Calls Try.prog 5 #[.slice A ls.length c, .int .i64 k, .int .u8 z] w fun e w' => e = .returned (.bool true) ∧ Below w.heap.size w w' := by
  obtain ⟨y, rfl⟩ : ∃ y : UInt8, (y.toNat : Int) = z := ⟨UInt8.ofNat z.toNat, by have := bounds_u8 hz; simp; omega⟩
  clear hz
  have HO := hid hok
  clear hok
  obtain ⟨n, hn⟩ : ∃ n, n = ls.length := ⟨_, rfl⟩
  rw [← hn] at hlc ⊢
  have HN := hid hn
  clear hn
  have hnb : n ≤ 140737488355328 := by omega
  go_enter Try.func5, Try.ntmps5
  go_wp2_with fail
  refine (small_any _).mono ?_
  rintro e w1 ⟨rfl, b1⟩
  have hr1 := hr.below b1
  go_wp2_with fail
  refine (few_any A n c ls _ HN.out.symm hnb hr1).mono ?_
  rintro e wu ⟨rfl, rfl⟩
  clear hr
  go_wp2_with fail
  refine (st_new _).mono ?_
  rintro e w2 ⟨g, rfl, h2'⟩
  go_wp2_with fail
  refine (st2_new h2').mono ?_
  rintro e w3 ⟨g', rfl, h2⟩
  clear h2'
  cases hf : fewB ls
  · clear hf
    have b2 := below2 b1 h2.bel
    go_wp2
    go_ret
    exact ⟨rfl, b2⟩
  have HF := hid hf
  have hn100 : n ≤ 100 := by have := few_len hf; have := HN.out; omega
  clear hf
  go_wp2_with fail
  go_loopw [11] (fun i wr => ∃ (j : Nat) (S S' : List Sec), j ≤ n ∧ i = .int .i64 j ∧ St2 wu wr g S [] g' S' [] Nil ∧ Hid (SameV S S' ∧ S.length ≤ j)) (fun i _ => n - (intOf i).toNat)
  case atStart => exact ⟨0, [], [], by omega, rfl, h2, rfl, by simp⟩
  case round =>
    clear h2
    obtain ⟨j, S, S', hj, rfl, h3, HI⟩ := hrel
    rename World => wr0
    by_cases hjn : j < n
    · have hz : (0 : Int) ≤ j := by omega
      have hlt : (j : Int) < n := by omega
      have hjl : j < ls.length := by rw [← HN.out]; exact hjn
      obtain ⟨b, off, rfl, hb0, g0, g1, g2, g3, g4⟩ := hr1.call hjl
      have hsx := few_size HF.out hjl
      have hxo := HO.out _ (List.getElem_mem hjl)
      obtain ⟨x, hx⟩ : ∃ x, ls[j] = x := ⟨_, rfl⟩
      rw [hx] at g0 g1 g2 g3 g4 hsx hxo
      clear hx
      have e4 := (h3.bel.cell (p := ⟨b, off + j * 5 + 4, none⟩) hb0).trans g4
      obtain ⟨cb, w4, hcv, hbs, hb4⟩ := conv_bytes x.plain wr0
      have hS := HI.out.2
      have hS' := (same_len HI.out.1)
      go_wp2_with fail
      clear e4
      go_loopw [13] (fun i wr => ∃ q : Nat, q ≤ x.plain.size ∧ i = .int .i64 q ∧ Bytes8 wr wr0.heap.size (xorL y x.plain.data.toList q) ∧ Below wr0.heap.size wr0 wr) (fun i _ => x.plain.size - (intOf i).toNat)
      case atStart => exact ⟨0, by omega, rfl, by rw [xorL_zero]; exact hbs, hb4⟩
      case round =>
        clear hbs hb4 hcv
        obtain ⟨q, hq, rfl, hby, b3⟩ := hrel
        by_cases hqn : q < x.plain.size
        · have hjl' : q < x.plain.data.toList.length := by rw [len_list]; exact hqn
          have hjx : q < (xorL y x.plain.data.toList q).length := by rw [xorL_length]; exact hjl'
          have hc0 := hby.cell q hjx
          have hf0 := hby.frozen q hjx
          have e0 : (xorL y x.plain.data.toList q)[q] = x.plain.data.toList[q] := by
            have h := xorL_at y x.plain.data.toList q hjl'
            rw [List.getElem?_eq_getElem hjx] at h
            injection h
          rw [e0] at hc0
          have hx := xor_u8 x.plain.data.toList[q] y
          have hst := hby.set_ q (x.plain.data.toList[q] ^^^ y)
          rw [xorL_step y x.plain.data.toList q hjl'] at hst
          generalize x.plain.data.toList[q] = a at *
          generalize a ^^^ y = d at *
          have b4 := b3.setCell (p := ⟨wr0.heap.size, q, none⟩) (Nat.le_refl _) (.int .u8 (d.toNat : Int))
          clear hby b3 e0
          go_wp2
          go_roundw
          case rel => exact ⟨q + 1, by omega, by go_num, hst, b4⟩
          case measure => simp [intOf]; omega
        · obtain rfl : q = x.plain.size := by omega
          have hqz : ¬ (x.plain.size : Int) < x.plain.size := by omega
          have h4 := h3.beside b3 (Y := fun i => i = wr0.heap.size) (fun i hi => by subst hi; exact ⟨Nat.le_refl _, hby.lt⟩)
          obtain ⟨u, hu⟩ : ∃ u : ByteArray, (⟨(xorL y x.plain.data.toList x.plain.size).toArray⟩ : ByteArray) = u := ⟨_, rfl⟩
          have hud : u.data.toList = xorL y x.plain.data.toList x.plain.size := by rw [← hu]
          have huz : u.size = x.plain.size := by rw [← len_list, hud, xorL_length, len_list]
          have HCV : Hid (∀ w' : World, w'.heap[wr0.heap.size]? = wr.heap[wr0.heap.size]? → (convert 44 9 (.slice (some ⟨wr0.heap.size, 0, none⟩) x.plain.size cb)).run Try.prog w' = .ok (.string u) w') := hid (fun w' e => by
            have hby' : Bytes8 w' wr0.heap.size u.data.toList := by
              obtain ⟨C, fr, t, h1, h2, h3⟩ := hby
              rw [hud]
              exact ⟨C, fr, t, by rw [e]; exact h1, h2, h3⟩
            exact conv_rd _ 44 9 5 Try.underlying44 Try.underlying5 Try.underlying9 _ x.plain.size cb u.data.toList (by rw [len_list]; exact huz) hby'.rd)
          have HSS := hid (same_seal HI.out.1 huz x.key (bits .xor .i64 x.key k) x.ad (x.ad ++ ⟨#[120]⟩) x.num)
          have hI := sealI_i64 S (by omega) x.plain x.num
          have hax : (x.ad ++ ⟨#[120]⟩).size ≤ 281474976710656 := by rw [ByteArray.size_append]; show x.ad.size + 1 ≤ _; omega
          have hcat : ¬ 9223372036854775807 < x.ad.size + 1 := by omega
          have hL1 := sealT_len1 x.key x.ad x.plain x.num S
          clear hu hud huz hby b3 h3
          have e1 := (h4.bel.cell (p := ⟨b, off + j * 5 + 1, none⟩) hb0).trans g1
          have e2 := (h4.bel.cell (p := ⟨b, off + j * 5 + 2, none⟩) hb0).trans g2
          have e3 := (h4.bel.cell (p := ⟨b, off + j * 5 + 3, none⟩) hb0).trans g3
          have e4 := (h4.bel.cell (p := ⟨b, off + j * 5 + 4, none⟩) hb0).trans g4
          go_upto_region 15 with (fail)
          refine wp_region_held_drew (S := fun w' => w'.cell? ⟨b, off + j * 5 + 1, none⟩ = some (.int .i64 x.key) ∧ w'.cell? ⟨b, off + j * 5 + 3, none⟩ = some (.string x.ad) ∧ w'.cell? ⟨b, off + j * 5 + 4, none⟩ = some (.string x.plain) ∧ w'.cell? ⟨b, off + j * 5 + 2, none⟩ = some (.int .i64 x.num)) (by kernel_rfl) ⟨e1, e3, e4, e2⟩ (fun hHeld => ?_)
          refine wpAnyH_take (i := 0) (oi := ⟨_, _, _, _, _, _⟩) (v := ?_) rfl (by kernel_rfl) (by kernel_rfl) (by kernel_rfl) (fun _ _ _ h => h) (Or.inl ⟨by rfl, ?_⟩) (by assumption) ?_
          rotate_left
          · intro w hSw; (try dsimp only at hSw); go_simp; (try (with_reducible rfl))
          try simp only [Act.put, List.setIfInBounds_toArray, List.set_cons_zero, List.set_cons_succ]
          refine wpAnyH_take (i := 1) (oi := ⟨_, _, _, _, _, _⟩) (v := ?_) rfl (by kernel_rfl) (by kernel_rfl) (by kernel_rfl) (fun _ _ _ h => h) (Or.inl ⟨by rfl, ?_⟩) (by assumption) ?_
          rotate_left
          · intro w hSw; (try dsimp only at hSw); go_simp; (try (with_reducible rfl))
          try simp only [Act.put, List.setIfInBounds_toArray, List.set_cons_zero, List.set_cons_succ]
          refine wpAnyH_take (i := 2) (oi := ⟨_, _, _, _, _, _⟩) (v := ?_) rfl (by kernel_rfl) (by kernel_rfl) (by kernel_rfl) (fun _ _ _ h => h) (Or.inl ⟨by rfl, ?_⟩) (by assumption) ?_
          rotate_left
          · intro w hSw; (try dsimp only at hSw); go_simp; (try (with_reducible rfl))
          try simp only [Act.put, List.setIfInBounds_toArray, List.set_cons_zero, List.set_cons_succ]
          refine wpAnyH_take (i := 3) (oi := ⟨_, _, _, _, _, _⟩) (v := ?_) rfl (by kernel_rfl) (by kernel_rfl) (by kernel_rfl) (fun _ _ _ h => h) (Or.inl ⟨by rfl, ?_⟩) (by assumption) ?_
          rotate_left
          · intro w hSw; (try dsimp only at hSw); go_simp; (try (with_reducible rfl))
          try simp only [Act.put, List.setIfInBounds_toArray, List.set_cons_zero, List.set_cons_succ]
          refine wpAnyH_take (i := 4) (oi := ⟨_, _, _, _, _, _⟩) (v := ?_) rfl (by kernel_rfl) (by kernel_rfl) (by kernel_rfl) (fun _ _ _ h => h) (Or.inl ⟨by rfl, ?_⟩) (by assumption) ?_
          rotate_left
          · intro w hSw; (try dsimp only at hSw); go_simp; (try (with_reducible rfl))
          try simp only [Act.put, List.setIfInBounds_toArray, List.set_cons_zero, List.set_cons_succ]
          refine wpAnyH_take (i := 5) (oi := ⟨_, _, _, _, _, _⟩) (v := ?_) rfl (by kernel_rfl) (by kernel_rfl) (by kernel_rfl) (fun _ _ _ h => h) (Or.inl ⟨by rfl, ?_⟩) (by assumption) ?_
          rotate_left
          · intro w hSw; (try dsimp only at hSw); go_simp; (try (with_reducible rfl))
          try simp only [Act.put, List.setIfInBounds_toArray, List.set_cons_zero, List.set_cons_succ]
          refine wpAnyH_take (i := 6) (oi := ⟨_, _, _, _, _, _⟩) (v := ?_) rfl (by kernel_rfl) (by kernel_rfl) (by kernel_rfl) (fun _ _ _ h => h) (Or.inl ⟨by rfl, ?_⟩) (by assumption) ?_
          rotate_left
          · intro w hSw; (try dsimp only at hSw); go_simp; (try (with_reducible rfl))
          try simp only [Act.put, List.setIfInBounds_toArray, List.set_cons_zero, List.set_cons_succ]
          refine wpAnyH_take (i := 7) (oi := ⟨_, _, _, _, _, _⟩) (v := ?_) rfl (by kernel_rfl) (by kernel_rfl) (by kernel_rfl) (fun _ _ _ h => h) (Or.inl ⟨by rfl, ?_⟩) (by assumption) ?_
          rotate_left
          · intro w hSw; (try dsimp only at hSw); go_simp; (try (with_reducible rfl))
          try simp only [Act.put, List.setIfInBounds_toArray, List.set_cons_zero, List.set_cons_succ]
          refine wpAnyH_take (i := 8) (oi := ⟨_, _, _, _, _, _⟩) (v := ?_) rfl (by kernel_rfl) (by kernel_rfl) (by kernel_rfl) (fun _ _ _ h => h) (Or.inl ⟨by rfl, ?_⟩) (by assumption) ?_
          rotate_left
          · intro w hSw; (try dsimp only at hSw); go_simp; (try (with_reducible rfl))
          try simp only [Act.put, List.setIfInBounds_toArray, List.set_cons_zero, List.set_cons_succ]
          refine wpAnyH_take (i := 9) (oi := ⟨_, _, _, _, _, _⟩) (v := ?_) rfl (by kernel_rfl) (by kernel_rfl) (by kernel_rfl) (fun _ _ _ h => h) (Or.inl ⟨by rfl, ?_⟩) (by assumption) ?_
          rotate_left
          · intro w hSw; (try dsimp only at hSw); go_simp; (try (with_reducible rfl))
          try simp only [Act.put, List.setIfInBounds_toArray, List.set_cons_zero, List.set_cons_succ]
          refine wpAnyH_take (i := 10) (oi := ⟨_, _, _, _, _, _⟩) (v := ?_) rfl (by kernel_rfl) (by kernel_rfl) (by kernel_rfl) (fun _ _ _ h => h) (Or.inl ⟨by rfl, ?_⟩) (by assumption) ?_
          rotate_left
          · intro w hSw; (try dsimp only at hSw); go_simp; (try (with_reducible rfl))
          try simp only [Act.put, List.setIfInBounds_toArray, List.set_cons_zero, List.set_cons_succ]
          refine wpAnyH_take (i := 11) (oi := ⟨_, _, _, _, _, _⟩) (v := ?_) rfl (by kernel_rfl) (by kernel_rfl) (by kernel_rfl) (fun _ _ _ h => h) (Or.inl ⟨by rfl, ?_⟩) (by assumption) ?_
          rotate_left
          · intro w hSw; (try dsimp only at hSw); go_simp; (try (with_reducible rfl))
          try simp only [Act.put, List.setIfInBounds_toArray, List.set_cons_zero, List.set_cons_succ]
          refine wpAnyH_take (i := 12) (oi := ⟨_, _, _, _, _, _⟩) (v := ?_) rfl (by kernel_rfl) (by kernel_rfl) (by kernel_rfl) (fun _ _ _ h => h) (Or.inl ⟨by rfl, ?_⟩) (by assumption) ?_
          rotate_left
          · intro w hSw; (try dsimp only at hSw); go_simp; (try (with_reducible rfl))
          try simp only [Act.put, List.setIfInBounds_toArray, List.set_cons_zero, List.set_cons_succ]
          refine wpAnyH_take (i := 13) (oi := ⟨_, _, _, _, _, _⟩) (v := ?_) rfl (by kernel_rfl) (by kernel_rfl) (by kernel_rfl) (fun _ _ _ h => h) (Or.inl ⟨by rfl, ?_⟩) (by assumption) ?_
          rotate_left
          · intro w hSw; (try dsimp only at hSw); go_simp; (try (with_reducible rfl))
          try simp only [Act.put, List.setIfInBounds_toArray, List.set_cons_zero, List.set_cons_succ]
          refine wpAnyH_take (i := 14) (oi := ⟨_, _, _, _, _, _⟩) (v := ?_) rfl (by kernel_rfl) (by kernel_rfl) (by kernel_rfl) (fun _ _ _ h => h) (Or.inl ⟨by rfl, ?_⟩) (by assumption) ?_
          rotate_left
          · intro w hSw; (try dsimp only at hSw); go_simp; (try (with_reducible rfl))
          try simp only [Act.put, List.setIfInBounds_toArray, List.set_cons_zero, List.set_cons_succ]
          refine wpAnyH_take (i := 15) (oi := ⟨_, _, _, _, _, _⟩) (v := ?_) rfl (by kernel_rfl) (by kernel_rfl) (by kernel_rfl) (fun _ _ _ h => h) (Or.inl ⟨by rfl, ?_⟩) (by assumption) ?_
          rotate_left
          · intro w hSw; (try dsimp only at hSw); go_simp; (try (with_reducible rfl))
          try simp only [Act.put, List.setIfInBounds_toArray, List.set_cons_zero, List.set_cons_succ]
          refine wpAnyH_take (i := 16) (oi := ⟨_, _, _, _, _, _⟩) (v := ?_) rfl (by kernel_rfl) (by kernel_rfl) (by kernel_rfl) (fun _ _ _ h => h) (Or.inl ⟨by rfl, ?_⟩) (by assumption) ?_
          rotate_left
          · intro w hSw; (try dsimp only at hSw); go_simp; (try (with_reducible rfl))
          try simp only [Act.put, List.setIfInBounds_toArray, List.set_cons_zero, List.set_cons_succ]
          refine wpAnyH_take (i := 17) (oi := ⟨_, _, _, _, _, _⟩) (v := ?_) rfl (by kernel_rfl) (by kernel_rfl) (by kernel_rfl) (fun _ _ _ h => h) (Or.inl ⟨by rfl, ?_⟩) (by assumption) ?_
          rotate_left
          · intro w hSw; (try dsimp only at hSw); go_simp; (try (with_reducible rfl))
          try simp only [Act.put, List.setIfInBounds_toArray, List.set_cons_zero, List.set_cons_succ]
          refine wpAnyH_take (i := 18) (oi := ⟨_, _, _, _, _, _⟩) (v := ?_) rfl (by kernel_rfl) (by kernel_rfl) (by kernel_rfl) (fun _ _ _ h => h) (Or.inl ⟨by rfl, ?_⟩) (by assumption) ?_
          rotate_left
          · intro w hSw; (try dsimp only at hSw); go_simp; (try (with_reducible rfl))
          try simp only [Act.put, List.setIfInBounds_toArray, List.set_cons_zero, List.set_cons_succ]
          refine wpAnyH_take (i := 19) (oi := ⟨_, _, _, _, _, _⟩) (v := ?_) rfl (by kernel_rfl) (by kernel_rfl) (by kernel_rfl) (fun _ _ _ h => h) (Or.inl ⟨by rfl, ?_⟩) (by assumption) ?_
          rotate_left
          · intro w hSw; (try dsimp only at hSw); go_simp; (try (with_reducible rfl))
          try simp only [Act.put, List.setIfInBounds_toArray, List.set_cons_zero, List.set_cons_succ]
          refine wpAnyH_take (i := 20) (oi := ⟨_, _, _, _, _, _⟩) (v := ?_) rfl (by kernel_rfl) (by kernel_rfl) (by kernel_rfl) (fun _ _ _ h => h) (Or.inl ⟨by rfl, ?_⟩) (by assumption) ?_
          rotate_left
          · intro w hSw; (try dsimp only at hSw); go_simp; (try (with_reducible rfl))
          try simp only [Act.put, List.setIfInBounds_toArray, List.set_cons_zero, List.set_cons_succ]
          refine wpAnyH_ready (rs := [21]) (by kernel_rfl) (by simp) ?_
          refine AllReadyH.cons (o := ⟨_, _, _, _, _, _⟩) rfl (fun K hK => ?_) AllReadyH.nil
          go_simp
          refine (st2_seal h4.drew x.key x.ad x.plain x.num (by omega) (by omega)).mono ?_
          rintro e w5 ⟨rfl, h5, hX5⟩
          have f1 := (h5.bel.cell (p := ⟨b, off + j * 5 + 1, none⟩) hb0).trans g1
          have f3 := (h5.bel.cell (p := ⟨b, off + j * 5 + 3, none⟩) hb0).trans g3
          have f4 := (h5.bel.cell (p := ⟨b, off + j * 5 + 4, none⟩) hb0).trans g4
          have f2 := (h5.bel.cell (p := ⟨b, off + j * 5 + 2, none⟩) hb0).trans g2
          refine hK.out _ _ ⟨f1, f3, f4, f2⟩ (fun hHeld => ?_)
          clear hK K
          try simp only [Act.put, List.setIfInBounds_toArray, List.set_cons_zero, List.set_cons_succ]
          refine wpAnyH_take (i := 22) (oi := ⟨_, _, _, _, _, _⟩) (v := ?_) rfl (by kernel_rfl) (by kernel_rfl) (by kernel_rfl) (fun _ _ _ h => h) (Or.inl ⟨by rfl, ?_⟩) (by assumption) ?_
          rotate_left
          · intro w hSw; (try dsimp only at hSw); go_simp; (try (with_reducible rfl))
          try simp only [Act.put, List.setIfInBounds_toArray, List.set_cons_zero, List.set_cons_succ]
          refine wpAnyH_take (i := 23) (oi := ⟨_, _, _, _, _, _⟩) (v := ?_) rfl (by kernel_rfl) (by kernel_rfl) (by kernel_rfl) (fun _ _ _ h => h) (Or.inl ⟨by rfl, ?_⟩) (by assumption) ?_
          rotate_left
          · intro w hSw; (try dsimp only at hSw); go_simp; (try (with_reducible rfl))
          try simp only [Act.put, List.setIfInBounds_toArray, List.set_cons_zero, List.set_cons_succ]
          refine wpAnyH_take (i := 24) (oi := ⟨_, _, _, _, _, _⟩) (v := ?_) rfl (by kernel_rfl) (by kernel_rfl) (by kernel_rfl) (fun _ _ _ h => h) (Or.inl ⟨by rfl, ?_⟩) (by assumption) ?_
          rotate_left
          · intro w hSw; (try dsimp only at hSw); go_simp; (try (with_reducible rfl))
          try simp only [Act.put, List.setIfInBounds_toArray, List.set_cons_zero, List.set_cons_succ]
          refine wpAnyH_take (i := 25) (oi := ⟨_, _, _, _, _, _⟩) (v := ?_) rfl (by kernel_rfl) (by kernel_rfl) (by kernel_rfl) (fun _ _ _ h => h) (Or.inl ⟨by rfl, ?_⟩) (by assumption) ?_
          rotate_left
          · intro w hSw; (try dsimp only at hSw); go_simp; (try (with_reducible rfl))
          try simp only [Act.put, List.setIfInBounds_toArray, List.set_cons_zero, List.set_cons_succ]
          refine wpAnyH_take (i := 26) (oi := ⟨_, _, _, _, _, _⟩) (v := ?_) rfl (by kernel_rfl) (by kernel_rfl) (by kernel_rfl) (fun _ _ _ h => h) (Or.inl ⟨by rfl, ?_⟩) (by assumption) ?_
          rotate_left
          · intro w hSw; (try dsimp only at hSw); go_simp; (try (with_reducible rfl))
          try simp only [Act.put, List.setIfInBounds_toArray, List.set_cons_zero, List.set_cons_succ]
          refine wpAnyH_done (by kernel_rfl) ?_ _
          clear e1 e2 e3 e4 h4
          have hcv5 := HCV.out w5.drew (hX5 _ rfl)
          go_upto_region 16 with (fail)
          refine wp_region_held_drew (S := fun w' => w'.cell? ⟨b, off + j * 5 + 1, none⟩ = some (.int .i64 x.key) ∧ w'.cell? ⟨b, off + j * 5 + 3, none⟩ = some (.string x.ad) ∧ w'.cell? ⟨b, off + j * 5 + 2, none⟩ = some (.int .i64 x.num) ∧ (convert 44 9 (.slice (some ⟨wr0.heap.size, 0, none⟩) x.plain.size cb)).run Try.prog w' = .ok (.string u) w') (by kernel_rfl) ⟨f1, f3, f2, hcv5⟩ (fun hHeld => ?_)
          refine wpAnyH_take (i := 0) (oi := ⟨_, _, _, _, _, _⟩) (v := ?_) rfl (by kernel_rfl) (by kernel_rfl) (by kernel_rfl) (fun _ _ _ h => h) (Or.inl ⟨by rfl, ?_⟩) (by assumption) ?_
          rotate_left
          · intro w hSw; (try dsimp only at hSw); go_simp; (try (with_reducible rfl))
          try simp only [Act.put, List.setIfInBounds_toArray, List.set_cons_zero, List.set_cons_succ]
          refine wpAnyH_take (i := 1) (oi := ⟨_, _, _, _, _, _⟩) (v := ?_) rfl (by kernel_rfl) (by kernel_rfl) (by kernel_rfl) (fun _ _ _ h => h) (Or.inl ⟨by rfl, ?_⟩) (by assumption) ?_
          rotate_left
          · intro w hSw; (try dsimp only at hSw); go_simp; (try (with_reducible rfl))
          try simp only [Act.put, List.setIfInBounds_toArray, List.set_cons_zero, List.set_cons_succ]
          refine wpAnyH_take (i := 2) (oi := ⟨_, _, _, _, _, _⟩) (v := ?_) rfl (by kernel_rfl) (by kernel_rfl) (by kernel_rfl) (fun _ _ _ h => h) (Or.inl ⟨by rfl, ?_⟩) (by assumption) ?_
          rotate_left
          · intro w hSw; (try dsimp only at hSw); go_simp; (try (with_reducible rfl))
          try simp only [Act.put, List.setIfInBounds_toArray, List.set_cons_zero, List.set_cons_succ]
          refine wpAnyH_take (i := 3) (oi := ⟨_, _, _, _, _, _⟩) (v := ?_) rfl (by kernel_rfl) (by kernel_rfl) (by kernel_rfl) (fun _ _ _ h => h) (Or.inl ⟨by rfl, ?_⟩) (by assumption) ?_
          rotate_left
          · intro w hSw; (try dsimp only at hSw); go_simp; (try (with_reducible rfl))
          try simp only [Act.put, List.setIfInBounds_toArray, List.set_cons_zero, List.set_cons_succ]
          refine wpAnyH_take (i := 4) (oi := ⟨_, _, _, _, _, _⟩) (v := ?_) rfl (by kernel_rfl) (by kernel_rfl) (by kernel_rfl) (fun _ _ _ h => h) (Or.inl ⟨by rfl, ?_⟩) (by assumption) ?_
          rotate_left
          · intro w hSw; (try dsimp only at hSw); go_simp; (try (with_reducible rfl))
          try simp only [Act.put, List.setIfInBounds_toArray, List.set_cons_zero, List.set_cons_succ]
          refine wpAnyH_take (i := 5) (oi := ⟨_, _, _, _, _, _⟩) (v := ?_) rfl (by kernel_rfl) (by kernel_rfl) (by kernel_rfl) (fun _ _ _ h => h) (Or.inl ⟨by rfl, ?_⟩) (by assumption) ?_
          rotate_left
          · intro w hSw; (try dsimp only at hSw); go_simp; (try (with_reducible rfl))
          try simp only [Act.put, List.setIfInBounds_toArray, List.set_cons_zero, List.set_cons_succ]
          refine wpAnyH_take (i := 6) (oi := ⟨_, _, _, _, _, _⟩) (v := ?_) rfl (by kernel_rfl) (by kernel_rfl) (by kernel_rfl) (fun _ _ _ h => h) (Or.inl ⟨by rfl, ?_⟩) (by assumption) ?_
          rotate_left
          · intro w hSw; (try dsimp only at hSw); go_simp; (try (with_reducible rfl))
          try simp only [Act.put, List.setIfInBounds_toArray, List.set_cons_zero, List.set_cons_succ]
          refine wpAnyH_take (i := 7) (oi := ⟨_, _, _, _, _, _⟩) (v := ?_) rfl (by kernel_rfl) (by kernel_rfl) (by kernel_rfl) (fun _ _ _ h => h) (Or.inl ⟨by rfl, ?_⟩) (by assumption) ?_
          rotate_left
          · intro w hSw; (try dsimp only at hSw); go_simp; (try (with_reducible rfl))
          try simp only [Act.put, List.setIfInBounds_toArray, List.set_cons_zero, List.set_cons_succ]
          refine wpAnyH_take (i := 8) (oi := ⟨_, _, _, _, _, _⟩) (v := ?_) rfl (by kernel_rfl) (by kernel_rfl) (by kernel_rfl) (fun _ _ _ h => h) (Or.inl ⟨by rfl, ?_⟩) (by assumption) ?_
          rotate_left
          · intro w hSw; (try dsimp only at hSw); go_simp; (try (with_reducible rfl))
          try simp only [Act.put, List.setIfInBounds_toArray, List.set_cons_zero, List.set_cons_succ]
          refine wpAnyH_take (i := 9) (oi := ⟨_, _, _, _, _, _⟩) (v := ?_) rfl (by kernel_rfl) (by kernel_rfl) (by kernel_rfl) (fun _ _ _ h => h) (Or.inl ⟨by rfl, ?_⟩) (by assumption) ?_
          rotate_left
          · intro w hSw; (try dsimp only at hSw); go_simp; (try (with_reducible rfl))
          try simp only [Act.put, List.setIfInBounds_toArray, List.set_cons_zero, List.set_cons_succ]
          refine wpAnyH_take (i := 10) (oi := ⟨_, _, _, _, _, _⟩) (v := ?_) rfl (by kernel_rfl) (by kernel_rfl) (by kernel_rfl) (fun _ _ _ h => h) (Or.inl ⟨by rfl, ?_⟩) (by assumption) ?_
          rotate_left
          · intro w hSw; (try dsimp only at hSw); go_simp; (try (with_reducible rfl))
          try simp only [Act.put, List.setIfInBounds_toArray, List.set_cons_zero, List.set_cons_succ]
          refine wpAnyH_take (i := 11) (oi := ⟨_, _, _, _, _, _⟩) (v := ?_) rfl (by kernel_rfl) (by kernel_rfl) (by kernel_rfl) (fun _ _ _ h => h) (Or.inl ⟨by rfl, ?_⟩) (by assumption) ?_
          rotate_left
          · intro w hSw; (try dsimp only at hSw); go_simp; (try (with_reducible rfl))
          try simp only [Act.put, List.setIfInBounds_toArray, List.set_cons_zero, List.set_cons_succ]
          refine wpAnyH_take (i := 12) (oi := ⟨_, _, _, _, _, _⟩) (v := ?_) rfl (by kernel_rfl) (by kernel_rfl) (by kernel_rfl) (fun _ _ _ h => h) (Or.inl ⟨by rfl, ?_⟩) (by assumption) ?_
          rotate_left
          · intro w hSw; (try dsimp only at hSw); go_simp; (try (with_reducible rfl))
          try simp only [Act.put, List.setIfInBounds_toArray, List.set_cons_zero, List.set_cons_succ]
          refine wpAnyH_take (i := 13) (oi := ⟨_, _, _, _, _, _⟩) (v := ?_) rfl (by kernel_rfl) (by kernel_rfl) (by kernel_rfl) (fun _ _ _ h => h) (Or.inl ⟨by rfl, ?_⟩) (by assumption) ?_
          rotate_left
          · intro w hSw; (try dsimp only at hSw); go_simp; (try (with_reducible rfl))
          try simp only [Act.put, List.setIfInBounds_toArray, List.set_cons_zero, List.set_cons_succ]
          refine wpAnyH_take (i := 14) (oi := ⟨_, _, _, _, _, _⟩) (v := ?_) rfl (by kernel_rfl) (by kernel_rfl) (by kernel_rfl) (fun _ _ _ h => h) (Or.inl ⟨by rfl, ?_⟩) (by assumption) ?_
          rotate_left
          · intro w hSw; (try dsimp only at hSw); go_simp; (try (with_reducible rfl))
          try simp only [Act.put, List.setIfInBounds_toArray, List.set_cons_zero, List.set_cons_succ]
          refine wpAnyH_take (i := 15) (oi := ⟨_, _, _, _, _, _⟩) (v := ?_) rfl (by kernel_rfl) (by kernel_rfl) (by kernel_rfl) (fun _ _ _ h => h) (Or.inl ⟨by rfl, ?_⟩) (by assumption) ?_
          rotate_left
          · intro w hSw; (try dsimp only at hSw); go_simp; (try (with_reducible rfl))
          try simp only [Act.put, List.setIfInBounds_toArray, List.set_cons_zero, List.set_cons_succ]
          refine wpAnyH_take (i := 16) (oi := ⟨_, _, _, _, _, _⟩) (v := ?_) rfl (by kernel_rfl) (by kernel_rfl) (by kernel_rfl) (fun _ _ _ h => h) (Or.inl ⟨by rfl, ?_⟩) (by assumption) ?_
          rotate_left
          · intro w hSw; (try dsimp only at hSw); go_simp; (try (with_reducible rfl))
          try simp only [Act.put, List.setIfInBounds_toArray, List.set_cons_zero, List.set_cons_succ]
          refine wpAnyH_take (i := 17) (oi := ⟨_, _, _, _, _, _⟩) (v := ?_) rfl (by kernel_rfl) (by kernel_rfl) (by kernel_rfl) (fun _ _ _ h => h) (Or.inl ⟨by rfl, ?_⟩) (by assumption) ?_
          rotate_left
          · intro w hSw; (try dsimp only at hSw); go_simp; (try (with_reducible rfl))
          try simp only [Act.put, List.setIfInBounds_toArray, List.set_cons_zero, List.set_cons_succ]
          refine wpAnyH_take (i := 18) (oi := ⟨_, _, _, _, _, _⟩) (v := ?_) rfl (by kernel_rfl) (by kernel_rfl) (by kernel_rfl) (fun _ _ _ h => h) (Or.inl ⟨by rfl, ?_⟩) (by assumption) ?_
          rotate_left
          · intro w hSw; (try dsimp only at hSw); go_simp; (try (with_reducible rfl))
          try simp only [Act.put, List.setIfInBounds_toArray, List.set_cons_zero, List.set_cons_succ]
          refine wpAnyH_take (i := 19) (oi := ⟨_, _, _, _, _, _⟩) (v := ?_) rfl (by kernel_rfl) (by kernel_rfl) (by kernel_rfl) (fun _ _ _ h => h) (Or.inl ⟨by rfl, ?_⟩) (by assumption) ?_
          rotate_left
          · intro w hSw; (try dsimp only at hSw); go_simp; (try (with_reducible rfl))
          try simp only [Act.put, List.setIfInBounds_toArray, List.set_cons_zero, List.set_cons_succ]
          refine wpAnyH_take (i := 20) (oi := ⟨_, _, _, _, _, _⟩) (v := ?_) rfl (by kernel_rfl) (by kernel_rfl) (by kernel_rfl) (fun _ _ _ h => h) (Or.inl ⟨by rfl, ?_⟩) (by assumption) ?_
          rotate_left
          · intro w hSw; (try dsimp only at hSw); go_simp; (try (with_reducible rfl))
          try simp only [Act.put, List.setIfInBounds_toArray, List.set_cons_zero, List.set_cons_succ]
          refine wpAnyH_ready (rs := [21]) (by kernel_rfl) (by simp) ?_
          refine AllReadyH.cons (o := ⟨_, _, _, _, _, _⟩) rfl (fun K hK => ?_) AllReadyH.nil
          go_simp
          refine (st2_seal h5.swap.drew _ _ u x.num hax (by omega)).mono ?_
          rintro e w6 ⟨rfl, h6, hX6⟩
          rw [← HSS.out.1, ← HSS.out.2.1]
          have k1 := (h6.bel.cell (p := ⟨b, off + j * 5 + 1, none⟩) hb0).trans g1
          have k3 := (h6.bel.cell (p := ⟨b, off + j * 5 + 3, none⟩) hb0).trans g3
          have k2 := (h6.bel.cell (p := ⟨b, off + j * 5 + 2, none⟩) hb0).trans g2
          have hcv6 := HCV.out w6 ((hX6 _ rfl).trans (hX5 _ rfl))
          refine hK.out _ _ ⟨k1, k3, k2, hcv6⟩ (fun hHeld => ?_)
          clear hK K
          try simp only [Act.put, List.setIfInBounds_toArray, List.set_cons_zero, List.set_cons_succ]
          refine wpAnyH_take (i := 22) (oi := ⟨_, _, _, _, _, _⟩) (v := ?_) rfl (by kernel_rfl) (by kernel_rfl) (by kernel_rfl) (fun _ _ _ h => h) (Or.inl ⟨by rfl, ?_⟩) (by assumption) ?_
          rotate_left
          · intro w hSw; (try dsimp only at hSw); go_simp; (try (with_reducible rfl))
          try simp only [Act.put, List.setIfInBounds_toArray, List.set_cons_zero, List.set_cons_succ]
          refine wpAnyH_take (i := 23) (oi := ⟨_, _, _, _, _, _⟩) (v := ?_) rfl (by kernel_rfl) (by kernel_rfl) (by kernel_rfl) (fun _ _ _ h => h) (Or.inl ⟨by rfl, ?_⟩) (by assumption) ?_
          rotate_left
          · intro w hSw; (try dsimp only at hSw); go_simp; (try (with_reducible rfl))
          try simp only [Act.put, List.setIfInBounds_toArray, List.set_cons_zero, List.set_cons_succ]
          refine wpAnyH_take (i := 24) (oi := ⟨_, _, _, _, _, _⟩) (v := ?_) rfl (by kernel_rfl) (by kernel_rfl) (by kernel_rfl) (fun _ _ _ h => h) (Or.inl ⟨by rfl, ?_⟩) (by assumption) ?_
          rotate_left
          · intro w hSw; (try dsimp only at hSw); go_simp; (try (with_reducible rfl))
          try simp only [Act.put, List.setIfInBounds_toArray, List.set_cons_zero, List.set_cons_succ]
          refine wpAnyH_take (i := 25) (oi := ⟨_, _, _, _, _, _⟩) (v := ?_) rfl (by kernel_rfl) (by kernel_rfl) (by kernel_rfl) (fun _ _ _ h => h) (Or.inl ⟨by rfl, ?_⟩) (by assumption) ?_
          rotate_left
          · intro w hSw; (try dsimp only at hSw); go_simp; (try (with_reducible rfl))
          try simp only [Act.put, List.setIfInBounds_toArray, List.set_cons_zero, List.set_cons_succ]
          refine wpAnyH_take (i := 26) (oi := ⟨_, _, _, _, _, _⟩) (v := ?_) rfl (by kernel_rfl) (by kernel_rfl) (by kernel_rfl) (fun _ _ _ h => h) (Or.inl ⟨by rfl, ?_⟩) (by assumption) ?_
          rotate_left
          · intro w hSw; (try dsimp only at hSw); go_simp; (try (with_reducible rfl))
          try simp only [Act.put, List.setIfInBounds_toArray, List.set_cons_zero, List.set_cons_succ]
          refine wpAnyH_done (by kernel_rfl) ?_ _
          clear f1 f2 f3 f4 k1 k2 k3 hcv5 hcv6 h5
          have HS3 := hid HSS.out.2.2
          have HSZ := hid (same_size HS3.out (sealI S x.plain x.num))
          generalize sealT S x.key x.ad x.plain x.num = S1 at *
          generalize sealT S' (bits .xor .i64 x.key k) (x.ad ++ ⟨#[120]⟩) u x.num = S2 at *
          clear HSS
          generalize sealI S x.plain x.num = d at *
          go_wp2_with fail
          refine (st2_size h6.swap hI).mono ?_
          rintro e w7 ⟨rfl, h7⟩
          go_wp2_with fail
          refine (st2_size h7.swap hI).mono ?_
          rintro e w8 ⟨rfl, h8⟩
          rw [← HSZ.out]
          clear h6 h7
          go_wp2
          go_roundw
          case rel => exact ⟨j + 1, S1, S2, by omega, by go_num, h8.swap.none, HS3.out, by omega⟩
          case measure => simp [intOf]; omega
    · have e : n = j := by omega
      subst e
      have hnj : ¬ (n : Int) < n := by omega
      have b3 := below2 b1 h3.bel
      go_wp2
      go_ret
      exact ⟨rfl, b3⟩
end Go.Proofs.Ytdejhpinmkbngaa
