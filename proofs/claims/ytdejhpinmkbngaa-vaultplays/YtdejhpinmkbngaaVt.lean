/- The document's vault: Seal, Name: the walks. -/
import Derived.Test.YtdejhpinmkbngaaVs
namespace Go.Proofs.Ytdejhpinmkbngaa
open Go.RowKit Go.Maps

theorem Try.infoOne : (Try.prog.info? 62).map (fun i => (i.zero, i.size, i.bytes)) = some (some (.agg #[.int .i64 0, .int .i64 0, .string ⟨#[]⟩, .string ⟨#[]⟩]), 4, 48) := by kernel_rfl
theorem Try.infoName : (Try.prog.info? 66).map (fun i => (i.zero, i.size, i.bytes)) = some (some (.agg #[.int .i64 0, .int .i64 0, .string ⟨#[]⟩]), 3, 32) := by kernel_rfl
section
variable {w : World} {ops : Array Oper} {rest : List Oper} {o : Oper} {a : Act} {Q : Exit → Act → World → Prop} {A : Option Addr} {n c : Nat} {xs : List Value}
theorem wpAppO (h1 : w.ownsRow 0 62 4 (.slice A n c) n xs) (hn : n ≤ 1000) (hgd : o.guard = none) (s x : Operand) (ho : o.op = .call { callee := .builtin .append, args := #[s, x], argTypes := #[28, 28] })
    (he : a.eval s = .slice A n c) (q : Nat) (y : Sec) (hx : a.eval x = .slice (some ⟨q, 0, none⟩) 1 1) (hu : Blk w q (secV y) 62)
    (k : ∀ A' c' w', w'.ownsRow 0 62 4 (.slice A' (n + 1) c') (n + 1) (xs ++ secV y) → w.grownBy w' (Value.slice A n c).ownBlock → ((Value.slice A' (n + 1) c').ownBlock = (Value.slice A n c).ownBlock ∨ (Value.slice A' (n + 1) c').ownBlock = some w.heap.size) → wpList Try.prog ops Q rest (a.put o.dst (.slice A' (n + 1) c')) w') : wpList Try.prog ops Q (o :: rest) a w := by
  obtain ⟨i, hi, hz0, hz1, hz2⟩ := info_parts Try.infoOne
  refine wpList_append_own_at w hgd s x 28 ho 0 62 i _ 4 48 Try.underlying28 hi hz0 hz1 hz2 rfl (by decide) _ n xs he h1 ⟨q, 0, none⟩ 1 1 (secV y) hx rfl (fun j u hj => by rw [Addr.add_lit, hu.cell, Nat.zero_add]; exact hj) (by intro v hv; simp only [secV, List.mem_cons, List.not_mem_nil, or_false] at hv; rcases hv with rfl | rfl | rfl | rfl <;> rfl) (by unfold maxLen; omega) (by omega) (Nat.zero_le _) ?_
  intro v' w' hr hg _ hloc
  obtain ⟨A'', c'', rfl, -⟩ := ownN_form hr
  exact k A'' c'' w' hr hg hloc
theorem wpAppM (h1 : w.ownsRow 0 66 3 (.slice A n c) n xs) (hn : n ≤ 1000) (hgd : o.guard = none) (s x : Operand) (ho : o.op = .call { callee := .builtin .append, args := #[s, x], argTypes := #[29, 29] })
    (he : a.eval s = .slice A n c) (q : Nat) (y : Nam) (hx : a.eval x = .slice (some ⟨q, 0, none⟩) 1 1) (hu : Blk w q (namV y) 66)
    (k : ∀ A' c' w', w'.ownsRow 0 66 3 (.slice A' (n + 1) c') (n + 1) (xs ++ namV y) → w.grownBy w' (Value.slice A n c).ownBlock → ((Value.slice A' (n + 1) c').ownBlock = (Value.slice A n c).ownBlock ∨ (Value.slice A' (n + 1) c').ownBlock = some w.heap.size) → wpList Try.prog ops Q rest (a.put o.dst (.slice A' (n + 1) c')) w') : wpList Try.prog ops Q (o :: rest) a w := by
  obtain ⟨i, hi, hz0, hz1, hz2⟩ := info_parts Try.infoName
  refine wpList_append_own_at w hgd s x 29 ho 0 66 i _ 3 32 Try.underlying29 hi hz0 hz1 hz2 rfl (by decide) _ n xs he h1 ⟨q, 0, none⟩ 1 1 (namV y) hx rfl (fun j u hj => by rw [Addr.add_lit, hu.cell, Nat.zero_add]; exact hj) (by intro v hv; simp only [namV, List.mem_cons, List.not_mem_nil, or_false] at hv; rcases hv with rfl | rfl | rfl <;> rfl) (by unfold maxLen; omega) (by omega) (Nat.zero_le _) ?_
  intro v' w' hr hg _ hloc
  obtain ⟨A'', c'', rfl, -⟩ := ownN_form hr
  exact k A'' c'' w' hr hg hloc
end
theorem drawF_yes {u : List Int} {f : Nat} {m : Int} (h : isH u m = true) : drawF u (f + 1) m = drawF u f ((m + 1) % 4294967296) := by rw [drawF, if_pos (of_decide_eq_true h)]
theorem drawF_no {u : List Int} {f : Nat} {m : Int} (h : isH u m = false) : drawF u (f + 1) m = m := by rw [drawF, if_neg (of_decide_eq_false h)]

set_option maxHeartbeats 400000 in
theorem rseal_no {w : World} (g : Nat) (k : Int) (a p : ByteArray) (x : Int) (hp : 5116 < p.size) :
    Calls Try.prog 14 #[.pointer (some ⟨g, 0, none⟩), .int .i64 k, .string a, .string p, .int .i64 x] w fun e w' => e = .returned (.tuple #[.int .i64 0, .int .i64 5]) ∧ w' = w := by
  have HK := hid (bucket_no p.size hp)
  go_enter Try.func14, Try.ntmps14
  go_wp2_with fail
  refine (ref5Bucket _ _).mono ?_
  rintro e w1 ⟨rfl, rfl⟩
  rw [HK.out]
  go_wp2
  go_ret2
  exact ⟨rfl, rfl⟩

set_option maxHeartbeats 2000000 in
set_option maxRecDepth 10000 in
theorem rseal_yes {w : World} {g : Nat} {S : List Sec} {N : List Nam} {F : Nat → Prop} (h : RVt w g S N F) (k : Int) (a p : ByteArray) (x : Int) (hp : p.size ≤ 5116) (hl : S.length ≤ 1000) :
    Calls Try.prog 14 #[.pointer (some ⟨g, 0, none⟩), .int .i64 k, .string a, .string p, .int .i64 x] w (RPost w g (sealS S k a p x) N F (draw (S.map Sec.h) x)) := by
  have HBY := hid (bucket_yes p.size hp)
  have hh := handle_any h (by omega)
  obtain ⟨A1, c1, A2, c2, hB, h1, h2, h3, hF⟩ := h
  have k0 := hB.cell 0
  simp only [List.getElem?_cons_zero] at k0
  have HP : Hid (∀ {w1 w2 : World} {A' : Option Addr} {c' : Nat} {s : Sec}, Below w.heap.size w w1 → w2.ownsRow 0 62 4 (.slice A' (S.length + 1) c') (S.length + 1) (secC S ++ secV s) → w1.grownBy w2 (Value.slice A1 S.length c1).ownBlock → ((Value.slice A' (S.length + 1) c').ownBlock = (Value.slice A1 S.length c1).ownBlock ∨ (Value.slice A' (S.length + 1) c').ownBlock = some w1.heap.size) → _) := hid (fun hb hr hg hloc => rput1 hB h1 h2 h3 hF hb hr hg hloc)
  have HO := hid h1
  have HH := hid hh
  clear hB h2 h3 hF h1 hh
  have hm32 := mask32 x
  go_enter Try.func14, Try.ntmps14
  go_wp2_with fail
  refine (ref5Bucket _ _).mono ?_
  rintro e w1 ⟨rfl, rfl⟩
  have hbn : ¬ (bucketI p.size < 0) := by have := HBY.out; omega
  have hn1 : decide ((16384 : Int) ≤ S.length) = false := decide_eq_false (by omega)
  have HL := hid hl
  clear hl
  go_wp2_with fail
  clear hbn hn1 hm32 HBY
  have hl := HL.out
  go_loop [13, 14] (fun v i => ∃ (f : Nat) (m : Int), f ≤ S.length + 1 ∧ v = .int .i64 m ∧ i = .int .i64 f ∧ Hid (0 ≤ m ∧ m < 4294967296 ∧ drawF (S.map Sec.h) (S.length + 1 - f) m = draw (S.map Sec.h) x)) (fun _ i => S.length + 1 - (intOf i).toNat)
  case atStart => exact ⟨0, x % 4294967296, by omega, rfl, rfl, by omega, by omega, by rw [draw, List.length_map]; rfl⟩
  case round =>
    obtain ⟨f, m, hf, rfl, rfl, HI⟩ := hrel
    by_cases hfl : f ≤ S.length
    · have hfz : (f : Int) ≤ S.length := by omega
      have hm0 := HI.out.1
      have hm1 := HI.out.2.1
      have hm32 := mask32 (m + 1)
      go_wp2_with fail
      refine (HH.out m).mono ?_
      rintro e wv ⟨rfl, rfl⟩
      cases hm : isH (S.map Sec.h) m
      · have HD : Hid (draw (S.map Sec.h) x = m) := by
          show _ = _
          rw [← HI.out.2.2, show S.length + 1 - f = (S.length - f) + 1 by omega, drawF_no hm]
        clear hm hm32
        go_wp2_with (at_builtin; refine wpAppO (w := wv.alloc (.cells #[.int .i64 m, .int .i64 k, .string a, .string p] 62)) (HO.out.alloc _) (by omega) rfl _ _ rfl rfl wv.heap.size ⟨m, k, a, p⟩ rfl (Blk.new wv (secV ⟨m, k, a, p⟩) _) ?_; intro A' c' w2 hr2 hg2 hloc2; obtain ⟨c3, f3, hpost⟩ := HP.out ((Below.refl _ _).alloc (Nat.le_refl _) _) hr2 hg2 hloc2; have HPO := hid hpost; clear hpost hr2 hg2 hloc2)
        go_ret2
        rw [sealS, HD.out]
        exact HPO.out
      · have HI2 : Hid (0 ≤ (m + 1) % 4294967296 ∧ (m + 1) % 4294967296 < 4294967296 ∧ drawF (S.map Sec.h) (S.length + 1 - (f + 1)) ((m + 1) % 4294967296) = draw (S.map Sec.h) x) := by
          refine ⟨by omega, by omega, ?_⟩
          rw [← HI.out.2.2, show S.length + 1 - f = (S.length + 1 - (f + 1)) + 1 by omega, drawF_yes hm]
        clear hm
        go_wp2
        go_round
        case rel => exact ⟨f + 1, (m + 1) % 4294967296, by omega, rfl, by go_num, HI2⟩
        case measure => simp [intOf]; omega
    · have hfz : ¬ (f : Int) ≤ S.length := by omega
      have HD : Hid (draw (S.map Sec.h) x = m) := by
        show _ = _
        rw [← HI.out.2.2, show S.length + 1 - f = 0 by omega]
        rfl
      go_wp2_with (at_builtin; refine wpAppO (w := w.alloc (.cells #[.int .i64 m, .int .i64 k, .string a, .string p] 62)) (HO.out.alloc _) (by omega) rfl _ _ rfl rfl w.heap.size ⟨m, k, a, p⟩ rfl (Blk.new w (secV ⟨m, k, a, p⟩) _) ?_; intro A' c' w2 hr2 hg2 hloc2; obtain ⟨c3, f3, hpost⟩ := HP.out ((Below.refl _ _).alloc (Nat.le_refl _) _) hr2 hg2 hloc2; have HPO := hid hpost; clear hpost hr2 hg2 hloc2)
      go_ret2
      rw [sealS, HD.out]
      exact HPO.out

set_option maxHeartbeats 2000000 in
set_option maxRecDepth 10000 in
theorem rname_any {w : World} {g : Nat} {S : List Sec} {N : List Nam} {F : Nat → Prop} (h : RVt w g S N F) (k : Int) (l : ByteArray) (x : Int) (hl : N.length ≤ 1000) :
    Calls Try.prog 18 #[.pointer (some ⟨g, 0, none⟩), .int .i64 k, .string l, .int .i64 x] w (RPost w g S (nameN N k l x) F (nameI N k l x)) := by
  have hh := name_is_any h (by omega)
  have HV := hid h
  obtain ⟨B1, b1, B2, b2, k0', k1, -, r2⟩ := h.reads
  obtain ⟨A1, c1, A2, c2, hB, h1, h2, h3, hF⟩ := h
  have k0 := hB.cell 1
  simp only [List.getElem?_cons_zero, List.getElem?_cons_succ] at k0
  rw [k1] at k0
  injection k0 with k0
  injection k0 with e1 e2 e3
  subst e1 e3
  have HP : Hid (∀ {w1 w2 : World} {A' : Option Addr} {c' : Nat} {s : Nam}, Below w.heap.size w w1 → w2.ownsRow 0 66 3 (.slice A' (N.length + 1) c') (N.length + 1) (namC N ++ namV s) → w1.grownBy w2 (Value.slice B2 N.length b2).ownBlock → ((Value.slice A' (N.length + 1) c').ownBlock = (Value.slice B2 N.length b2).ownBlock ∨ (Value.slice A' (N.length + 1) c').ownBlock = some w1.heap.size) → _) := hid (fun hb hr hg hloc => rput2 hB h1 h2 h3 hF hb hr hg hloc)
  have HO := hid h2
  have HH := hid hh
  have HL := hid hl
  clear hB h2 h3 hF h1 hh k0' e2 hl
  go_enter Try.func18, Try.ntmps18
  go_wp2_with fail
  go_loop [10] (fun i => ∃ j : Nat, j ≤ N.length ∧ i = .int .i64 j ∧ Hid (∀ i (hi : i < N.length), i < j → ¬ (N[i].key = k ∧ N[i].label = l))) (fun i => N.length - (intOf i).toNat)
  case atStart => exact ⟨0, by omega, rfl, hid (fun i _ h => absurd h (by omega))⟩
  case round =>
    obtain ⟨j, hj, rfl, HO1⟩ := hrel
    by_cases hjl : j < N.length
    · obtain ⟨b, off, rfl, q0, q1, q2⟩ := r2.nam hjl
      have hlt : (j : Int) < N.length := by omega
      have hz : (0 : Int) ≤ j := by omega
      have hl := HL.out
      have hjm : j ≤ 1000 := by omega
      clear hl
      by_cases e : N[j].key = k ∧ N[j].label = l
      · have hfn := findN_skip HO1.out hjl e
        have HE : Hid (nameN N k l x = N ∧ nameI N k l x = N[j].h) := by show _ ∧ _; unfold nameN nameI; rw [hfn]; exact ⟨rfl, rfl⟩
        obtain ⟨e1, e2⟩ := e
        rw [e1] at q1
        rw [e2] at q2
        clear e1 e2 hfn
        generalize N[j].h = y at *
        go_wp2
        go_ret2
        rw [HE.out.1, HE.out.2]
        exact ⟨F, rfl, HV.out, Fr.refl _ _, fun i hi => .inl hi⟩
      · have HO2 : Hid (∀ i (hi : i < N.length), i < j + 1 → ¬ (N[i].key = k ∧ N[i].label = l)) := hid (fun i hi hij => by
          by_cases ej : i = j
          · subst ej; exact e
          · exact HO1.out i hi (by omega))
        generalize N[j] = s at *
        by_cases e1 : s.key = k
        · have hne := strs_apart (fun e2 => e ⟨e1, e2⟩)
          rw [e1] at q1
          clear e e1
          go_wp2
          go_round
          case rel => exact ⟨j + 1, by omega, by go_num, HO2⟩
          case measure => simp [intOf]; omega
        · have hne : (s.key == k) = false := beq_eq_false_iff_ne.2 e1
          clear e e1
          go_wp2
          go_round
          case rel => exact ⟨j + 1, by omega, by go_num, HO2⟩
          case measure => simp [intOf]; omega
    · have e : j = N.length := by omega
      subst e
      have hlt : ¬ (N.length : Int) < N.length := by omega
      have hfn := findN_all (fun i hi => HO1.out i hi hi)
      have HE : Hid (nameN N k l x = N ++ [⟨draw (N.map Nam.h) x, k, l⟩] ∧ nameI N k l x = draw (N.map Nam.h) x) := by show _ ∧ _; unfold nameN nameI; rw [hfn]; exact ⟨rfl, rfl⟩
      clear hfn
      have hm32 := mask32 x
      have hn1 : decide ((16384 : Int) ≤ N.length) = false := decide_eq_false (by have := HL.out; omega)
      go_wp2_with fail
      clear hn1 hm32
      have hl := HL.out
      go_loop [11, 12] (fun v i => ∃ (f : Nat) (m : Int), f ≤ N.length + 1 ∧ v = .int .i64 m ∧ i = .int .i64 f ∧ Hid (0 ≤ m ∧ m < 4294967296 ∧ drawF (N.map Nam.h) (N.length + 1 - f) m = draw (N.map Nam.h) x)) (fun _ i => N.length + 1 - (intOf i).toNat)
      case atStart => exact ⟨0, x % 4294967296, by omega, rfl, rfl, by omega, by omega, by rw [draw, List.length_map]; rfl⟩
      case round =>
        obtain ⟨f, m, hf, rfl, rfl, HI⟩ := hrel
        by_cases hfl : f ≤ N.length
        · have hfz : (f : Int) ≤ N.length := by omega
          have hm0 := HI.out.1
          have hm1 := HI.out.2.1
          have hm32 := mask32 (m + 1)
          go_wp2_with fail
          refine (HH.out m).mono ?_
          rintro e wv ⟨rfl, rfl⟩
          cases hm : isH (N.map Nam.h) m
          · have HD : Hid (draw (N.map Nam.h) x = m) := by
              show _ = _
              rw [← HI.out.2.2, show N.length + 1 - f = (N.length - f) + 1 by omega, drawF_no hm]
            clear hm hm32
            go_wp2_with (at_builtin; refine wpAppM (w := wv.alloc (.cells #[.int .i64 m, .int .i64 k, .string l] 66)) (HO.out.alloc _) (by omega) rfl _ _ rfl rfl wv.heap.size ⟨m, k, l⟩ rfl (Blk.new wv (namV ⟨m, k, l⟩) _) ?_; intro A' c' w2 hr2 hg2 hloc2; obtain ⟨c3, f3, hpost⟩ := HP.out ((Below.refl _ _).alloc (Nat.le_refl _) _) hr2 hg2 hloc2; have HPO := hid hpost; clear hpost hr2 hg2 hloc2)
            go_ret2
            rw [HE.out.1, HE.out.2, HD.out]
            exact HPO.out
          · have HI2 : Hid (0 ≤ (m + 1) % 4294967296 ∧ (m + 1) % 4294967296 < 4294967296 ∧ drawF (N.map Nam.h) (N.length + 1 - (f + 1)) ((m + 1) % 4294967296) = draw (N.map Nam.h) x) := by
              refine ⟨by omega, by omega, ?_⟩
              rw [← HI.out.2.2, show N.length + 1 - f = (N.length + 1 - (f + 1)) + 1 by omega, drawF_yes hm]
            clear hm
            go_wp2
            go_round
            case rel => exact ⟨f + 1, (m + 1) % 4294967296, by omega, rfl, by go_num, HI2⟩
            case measure => simp [intOf]; omega
        · have hfz : ¬ (f : Int) ≤ N.length := by omega
          have HD : Hid (draw (N.map Nam.h) x = m) := by
            show _ = _
            rw [← HI.out.2.2, show N.length + 1 - f = 0 by omega]
            rfl
          go_wp2_with (at_builtin; refine wpAppM (w := w.alloc (.cells #[.int .i64 m, .int .i64 k, .string l] 66)) (HO.out.alloc _) (by omega) rfl _ _ rfl rfl w.heap.size ⟨m, k, l⟩ rfl (Blk.new w (namV ⟨m, k, l⟩) _) ?_; intro A' c' w2 hr2 hg2 hloc2; obtain ⟨c3, f3, hpost⟩ := HP.out ((Below.refl _ _).alloc (Nat.le_refl _) _) hr2 hg2 hloc2; have HPO := hid hpost; clear hpost hr2 hg2 hloc2)
          go_ret2
          rw [HE.out.1, HE.out.2, HD.out]
          exact HPO.out
end Go.Proofs.Ytdejhpinmkbngaa
