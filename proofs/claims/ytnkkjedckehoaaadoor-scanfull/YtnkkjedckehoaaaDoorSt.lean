/- ScanFull: the walk. -/
import Derived.Test.YtnkkjedckehoaaaDoorSl
import Derived.Test.YtnkkjedckehoaaaDoorSs
import Derived.Lib.AppendZeros
namespace Go.Proofs.YtnkkjedckehoaaaDoor
open Go.RowKit

theorem conv_one (W : World) (x : UInt8) (z : Int) (hz : z = (x.toNat : Int)) : (convert 51 9 (.slice (some ⟨W.heap.size, 0, none⟩) 1 1)).run Tryd.prog (W.alloc (.cells #[.int .u8 z] 5)) = .ok (.string ⟨#[x]⟩) (W.alloc (.cells #[.int .u8 z] 5)) := by
  subst hz
  exact conv_rd (P := Tryd.prog) _ 51 9 5 Tryd.underlying51 Tryd.underlying5 Tryd.underlying9 (some ⟨W.heap.size, 0, none⟩) 1 1 [x] rfl (.inr ⟨_, rfl, new_cells W 5 (by8 [x])⟩)
/-- append of one, onto a row of the call's own. -/
theorem app_own {W : World} {n₀ : Nat} {v : Value} {k : Nat} {xs : List Value} {T E : TypeId} {z : Value} {size bytes : Nat} (hT : Tryd.prog.underlying T = some (.slice E)) (hinf : (Tryd.prog.info? E).map (fun i => (i.zero, i.size, i.bytes)) = some (some z, size, bytes)) (hz : z.cells.size = size) (h0 : 0 < size)
    (hrow : W.ownsRow n₀ E size v k xs) (hn : n₀ ≤ W.heap.size) (hk : (k + 1) * bytes ≤ 140737488355328) (hk2 : k + 1 ≤ maxLen) (cs : List Value) (hcs : cs.length = 1 * size) (hc1 : ∀ u ∈ cs, u.oneCell' = true) :
    ∃ A' c' w1, Hid ((Builtin.append_ #[T, T] T #[v, .slice (some ⟨W.heap.size, 0, none⟩) 1 1]).run Tryd.prog (W.alloc (.cells cs.toArray E)) = .ok (.slice A' (k + 1) c') w1) ∧ w1.ownsRow n₀ E size (.slice A' (k + 1) c') (k + 1) (xs ++ cs) ∧ (W.alloc (.cells cs.toArray E)).grownBy w1 v.ownBlock ∧ Below n₀ W w1 := by
  obtain ⟨i, hi, hz0, hz1, hz2⟩ := info_parts hinf
  obtain ⟨v', w1, h2, h3, h4, -⟩ := run_append_own (P := Tryd.prog) (W.alloc (.cells cs.toArray E)) n₀ T T E i z size bytes hT hi hz0 hz1 hz2 hz h0 v k xs (hrow.alloc _) ⟨W.heap.size, 0, none⟩ 1 1 cs hcs (new_cells W E cs) hc1 hk2 hk (by simp; omega)
  obtain ⟨g', cap', rfl⟩ := ownsRow_succ h3
  exact ⟨_, _, w1, h2, h3, h4, ((Below.refl n₀ W).alloc hn _).grown h4 (by simp; omega) fun j ej => (hrow.lt j ej).1⟩

theorem rF_cases {n k : Nat} : (n ≤ k ∧ rF n k = []) ∨ (k < n ∧ n ≤ k + 26 ∧ rF n k = [k]) ∨ (k + 26 < n ∧ rF n k = [k, k + 26]) := by
  unfold rF
  by_cases h1 : k < n
  · by_cases h2 : k + 26 < n
    · right; right; exact ⟨h2, by simp [h1, h2]⟩
    · right; left; exact ⟨h1, by omega, by simp [h1, h2]⟩
  · left; exact ⟨by omega, by simp [h1, show ¬ k + 26 < n by omega]⟩
theorem rF_at {n k s : Nat} (hn : n ≤ 32) (hs : s ≤ (rF n k).length) (h : k + 26 * s < n) : s < (rF n k).length ∧ (rF n k).take (s + 1) = (rF n k).take s ++ [k + 26 * s] := by
  rcases rF_cases (n := n) (k := k) with ⟨h1, e⟩ | ⟨h1, h2, e⟩ | ⟨h1, e⟩ <;> rw [e] at hs ⊢
  · omega
  · simp at hs
    obtain rfl : s = 0 := by omega
    simp
  · simp at hs
    have : s = 0 ∨ s = 1 := by omega
    rcases this with rfl | rfl <;> simp
theorem rF_end {n k s : Nat} (hs : s ≤ (rF n k).length) (h : ¬ k + 26 * s < n) : (rF n k).take s = rF n k := by
  rcases rF_cases (n := n) (k := k) with ⟨h1, e⟩ | ⟨h1, h2, e⟩ | ⟨h1, e⟩ <;> rw [e] at hs ⊢ <;> simp at hs
  · simp
  · rw [List.take_of_length_le (by simp; omega)]
  · rw [List.take_of_length_le (by simp; omega)]
theorem rF_two {n k : Nat} : (rF n k).length ≤ 2 := by
  rcases rF_cases (n := n) (k := k) with ⟨h1, e⟩ | ⟨h1, h2, e⟩ | ⟨h1, e⟩ <;> rw [e] <;> simp
theorem uF_le {n k : Nat} : (uF n k).length ≤ 2 * k := by
  induction k with
  | zero => simp [uF]
  | succ k ih => rw [uF_more, List.length_append, List.length_map]; have := @rF_two n k; omega
theorem own_len {W : World} {base : Nat} {A : Option Addr} {c k : Nat} {es : List Ent} (h : W.ownsRow base 37 5 (.slice A k c) k (entV es)) : es.length = k := by
  have := h.1
  rw [entV_length] at this
  omega

set_option maxRecDepth 20000 in
set_option maxHeartbeats 8000000 in
theorem scanFull_walk (n m : Int) (w : World) (_ : (Lit.int .i64 n).wf = true) (_ : (Lit.int .i64 m).wf = true) :
    Calls Tryd.prog 8 #[.int .i64 n, .int .i64 m] w fun e w' => e = .returned (.bool true) ∧ Below w.heap.size w w' := by
  go_enter Tryd.func8, Tryd.ntmps8
  go_wp2_with fail
  refine (small_any _).mono ?_
  rintro e w1 ⟨rfl, b1⟩
  by_cases hn0 : n < 0
  · go_wp2
    go_ret
    exact ⟨rfl, b1⟩
  have hn0b : decide (n < 0) = false := by simp; omega
  by_cases hn4 : 32 < n
  · go_wp2
    go_ret
    exact ⟨rfl, b1⟩
  have hn4b : decide (32 < n) = false := by simp; omega
  by_cases hm0 : m < 0
  · go_wp2
    go_ret
    exact ⟨rfl, b1⟩
  have hm0b : decide (m < 0) = false := by simp; omega
  by_cases hm7 : 16 < m
  · go_wp2
    go_ret
    exact ⟨rfl, b1⟩
  have hm7b : decide (16 < m) = false := by simp; omega
  obtain ⟨N, rfl⟩ : ∃ N : Nat, n = N := ⟨n.toNat, by omega⟩
  obtain ⟨M, rfl⟩ : ∃ M : Nat, m = M := ⟨m.toNat, by omega⟩
  go_wp2_with fail
  go_loopw [6, 7] (fun x i wr => ∃ (j : Nat) (A' : Option Addr) (c' : Nat), j ≤ N ∧ i = .int .i64 j ∧ x = .slice A' j c' ∧ wr.ownsRow w1.heap.size 37 5 (.slice A' j c') j (entV (lF j)) ∧ Below w1.heap.size w1 wr) (fun _ i _ => N - (intOf i).toNat)
  case atStart => exact ⟨0, none, 0, by omega, rfl, rfl, World.ownsRow_nil _ _ _ _, Below.refl _ _⟩
  case round =>
    obtain ⟨j, Aj, cj, hj, rfl, rfl, oj, b⟩ := hrel
    by_cases hjN : j < N
    · have hlt : (j : Int) < N := by omega
      have hj32 : j < 32 := by omega
      have hcv1 := conv_one wr (UInt8.ofNat (97 + j % 26)) (97 + (j : Int) % 26) (by rw [UInt8.toNat_ofNat']; omega)
      have hcv2 := conv_one (wr.alloc (.cells #[.int .u8 (97 + (j : Int) % 26)] 5)) (UInt8.ofNat (97 + j / 26)) (97 + (j : Int) / 26) (by rw [UInt8.toNat_ofNat']; omega)
      rw [show (wr.alloc (.cells #[.int .u8 (97 + (j : Int) % 26)] 5)).heap.size = wr.heap.size + 1 by simp] at hcv2
      obtain ⟨x1, HX1⟩ : ∃ x1 : UInt8, Hid (UInt8.ofNat (97 + j % 26) = x1) := ⟨_, rfl⟩
      obtain ⟨x2, HX2⟩ : ∃ x2 : UInt8, Hid (UInt8.ofNat (97 + j / 26) = x2) := ⟨_, rfl⟩
      rw [HX1.out] at hcv1
      rw [HX2.out] at hcv2
      have HS : Hid ((⟨#[97]⟩ : ByteArray) ++ ⟨#[x1]⟩ ++ ⟨#[x2]⟩ = pA j) := by show _ = _; rw [← HX1.out, ← HX2.out]; exact pA_join j
      have hbw : Below wr.heap.size wr ((wr.alloc (.cells #[.int .u8 (97 + (j : Int) % 26)] 5)).alloc (.cells #[.int .u8 (97 + (j : Int) / 26)] 5)) := ((Below.refl _ wr).alloc (Nat.le_refl _) _).alloc (by simp) _
      obtain ⟨A', c', w3, HRUN, o3, -, hb3⟩ := app_own (n₀ := w1.heap.size) Tryd.underlying22 Tryd.infoE rfl (by decide) (own_below oj hbw) (by have := b.size; have := hbw.size; omega) (by omega) (by unfold maxLen; omega) [.string ((⟨#[97]⟩ : ByteArray) ++ ⟨#[x1]⟩ ++ ⟨#[x2]⟩), .bool false, .string ⟨#[]⟩, .int .i64 1, .int .i64 0] rfl (by simp [Value.oneCell'])
      simp only [World.size_alloc] at HRUN
      rw [show ((⟨#[97]⟩ : ByteArray) ++ ⟨#[x1]⟩ ++ ⟨#[x2]⟩) = pA j from HS.out] at o3
      have o4 : w3.ownsRow w1.heap.size 37 5 (.slice A' (j + 1) c') (j + 1) (entV (lF (j + 1))) := by rw [lF_more, entV_append]; exact o3
      have b3 := b.trans ((hbw.mono b.size).trans hb3)
      clear hbw hb3 o3 oj b
      go_wp2_with (at_builtin; refine Lib.wpList_append_run _ rfl _ _ _ _ rfl _ _ rfl rfl _ _ HRUN.out ?_)
      go_roundw
      case rel => exact ⟨j + 1, A', c', by omega, by go_num, rfl, o4, b3⟩
      case measure => simp [intOf]; omega
    · have hnlt : ¬ (j : Int) < N := by omega
      obtain rfl : j = N := by omega
      have hrl := (own5_et (es := lF j) (by rw [lF_len]; exact oj) (by rw [lF_len]; omega) (fun e he => by obtain ⟨i, -, rfl⟩ := List.mem_map.1 he; exact eF_sz i)).rd
      have b2 := below2 b1 b
      clear b b1 oj
      obtain ⟨wA, rfl⟩ : ∃ wA, wA = wr := ⟨_, rfl⟩
      go_wp2_with fail
      go_loopw [8, 9] (fun x i wx => ∃ (k : Nat) (A' : Option Addr) (c' : Nat), k ≤ M ∧ i = .int .i64 k ∧ x = .slice A' k c' ∧ wx.ownsRow wA.heap.size 53 2 (.slice A' k c') k (filV (tF k)) ∧ Below wA.heap.size wA wx) (fun _ i _ => M - (intOf i).toNat)
      case atStart => exact ⟨0, none, 0, by omega, rfl, rfl, World.ownsRow_nil _ _ _ _, Below.refl _ _⟩
      case round =>
        obtain ⟨k, Ak, ck, hk, rfl, rfl, ok, b⟩ := hrel
        by_cases hkM : k < M
        · have hlt : (k : Int) < M := by omega
          have hcv1 := conv_one wr (UInt8.ofNat (97 + k)) (97 + (k : Int)) (by rw [UInt8.toNat_ofNat']; omega)
          obtain ⟨x1, HX1⟩ : ∃ x1 : UInt8, Hid (UInt8.ofNat (97 + k) = x1) := ⟨_, rfl⟩
          rw [HX1.out] at hcv1
          have HS : Hid ((⟨#[98]⟩ : ByteArray) ++ ⟨#[x1]⟩ = pB k) := by show _ = _; rw [← HX1.out]; exact pB_join k
          have hbw : Below wr.heap.size wr (wr.alloc (.cells #[.int .u8 (97 + (k : Int))] 5)) := (Below.refl _ wr).alloc (Nat.le_refl _) _
          obtain ⟨A', c', w3, HRUN, o3, -, hb3⟩ := app_own (n₀ := wA.heap.size) Tryd.underlying23 Tryd.infoF rfl (by decide) (own_below ok hbw) (by have := b.size; have := hbw.size; omega) (by omega) (by unfold maxLen; omega) [.string ((⟨#[98]⟩ : ByteArray) ++ ⟨#[x1]⟩), .string ⟨#[]⟩] rfl (by simp [Value.oneCell'])
          simp only [World.size_alloc] at HRUN
          rw [show ((⟨#[98]⟩ : ByteArray) ++ ⟨#[x1]⟩) = pB k from HS.out] at o3
          have o4 : w3.ownsRow wA.heap.size 53 2 (.slice A' (k + 1) c') (k + 1) (filV (tF (k + 1))) := by rw [tF_more, filV_append]; exact o3
          have b3 := b.trans ((hbw.mono b.size).trans hb3)
          clear hbw hb3 o3 ok b
          go_wp2_with (at_builtin; refine Lib.wpList_append_run _ rfl _ _ _ _ rfl _ _ rfl rfl _ _ HRUN.out ?_)
          go_roundw
          case rel => exact ⟨k + 1, A', c', by omega, by go_num, rfl, o4, b3⟩
          case measure => simp [intOf]; omega
        · have hnlt2 : ¬ (k : Int) < M := by omega
          obtain rfl : k = M := by omega
          obtain ⟨A9, c9, e9, F9⟩ := own2_ft (fs := tF k) (by rw [tF_len]; exact ok) (by rw [tF_len]; omega) tF_sz
          rw [tF_len] at e9 F9
          injection e9 with e91 e92 e93
          subst e91 e93
          have hrl2 := hrl.below b
          have b3 := below2 b2 b
          clear b b2 ok hrl
          obtain ⟨wB, rfl⟩ : ∃ wB, wB = wr := ⟨_, rfl⟩
          go_wp2_with fail
          go_loopw [10, 11] (fun x i wx => ∃ (r : Nat) (A' : Option Addr) (c' : Nat), r ≤ 26 ∧ i = .int .i64 r ∧ x = .slice A' (uF j r).length c' ∧ wx.ownsRow wB.heap.size 37 5 (.slice A' (uF j r).length c') (uF j r).length (entV (uF j r)) ∧ Below wB.heap.size wB wx) (fun _ i _ => 26 - (intOf i).toNat)
          case atStart => exact ⟨0, none, 0, by omega, rfl, rfl, World.ownsRow_nil _ _ _ _, Below.refl _ _⟩
          case round =>
            obtain ⟨r, Ar, cr, hr, rfl, rfl, or, b⟩ := hrel
            by_cases hr26 : r < 26
            · have hlt26 : (r : Int) < 26 := by omega
              have hb0 := b
              obtain ⟨wC, rfl⟩ : ∃ wC, wC = wr := ⟨_, rfl⟩
              go_wp2_with fail
              go_loopw [10, 12] (fun x i wx => ∃ (s : Nat) (A' : Option Addr) (c' : Nat) (up : List Ent), s ≤ (rF j r).length ∧ i = .int .i64 (r + 26 * s : Nat) ∧ x = .slice A' up.length c' ∧ Hid (up = uF j r ++ ((rF j r).take s).map eF) ∧ wx.ownsRow wB.heap.size 37 5 (.slice A' up.length c') up.length (entV up) ∧ Below wB.heap.size wB wx) (fun _ i _ => 100 - (intOf i).toNat)
              case atStart => exact ⟨0, Ar, cr, uF j r, by omega, by simp, rfl, by simp [Hid], or, b⟩
              case round =>
                obtain ⟨s, As, cs, up, hs, rfl, rfl, HU, os, b⟩ := hrel
                have hul : up.length ≤ 54 := by rw [HU.out, List.length_append, List.length_map, List.length_take]; have := @uF_le j r; have := @rF_two j r; omega
                have hs2 := @rF_two j r
                by_cases hsn : r + 26 * s < j
                · obtain ⟨hs1, he⟩ := rF_at (by omega) hs hsn
                  have HE := hid he
                  have hlt3 : ((r + 26 * s : Nat) : Int) < (j : Int) := by omega
                  have hz3 : (0 : Int) ≤ ((r + 26 * s : Nat) : Int) := by omega
                  obtain ⟨g, o, rfl, y0, y1, y2, y3, y4, -⟩ := (hrl2.below b).ent (j := r + 26 * s) (by rw [lF_len]; exact hsn)
                  rw [show (lF j)[r + 26 * s]'(by rw [lF_len]; exact hsn) = eF (r + 26 * s) by simp [lF]] at y0 y1 y2 y3 y4
                  have HUP : Hid (up ++ [eF (r + 26 * s)] = uF j r ++ ((rF j r).take (s + 1)).map eF) := by show _ = _; rw [HE.out, List.map_append, HU.out, List.append_assoc]; rfl
                  obtain ⟨z, hz⟩ : ∃ z, eF (r + 26 * s) = z := ⟨_, rfl⟩
                  rw [hz] at y0 y1 y2 y3 y4 HUP
                  obtain ⟨A', c', w3, HRUN, o3, -, hb3⟩ := app_own (n₀ := wB.heap.size) Tryd.underlying22 Tryd.infoE rfl (by decide) os b.size (by omega) (by unfold maxLen; omega) [.string z.path, .bool z.has, .string z.data, .int .i64 z.l, .int .i64 z.r] rfl (by simp [Value.oneCell'])
                  have o4 : w3.ownsRow wB.heap.size 37 5 (.slice A' (up.length + 1) c') (up.length + 1) (entV (up ++ [z])) := by rw [entV_append]; exact o3
                  have b4 := b.trans hb3
                  clear hz hb3 o3 os b he
                  generalize hI : r + 26 * s = I at *
                  have HI := hid hI
                  clear hI
                  go_wp2_with (at_builtin; refine Lib.wpList_append_run _ rfl _ _ _ _ rfl _ _ rfl rfl _ _ HRUN.out ?_)
                  go_roundw
                  case rel => exact ⟨s + 1, A', c', up ++ [z], hs1, by have := HI.out; rw [show r + 26 * (s + 1) = I + 26 by omega]; go_num, by simp, HUP, by simpa using o4, b4⟩
                  case measure => have := HI.out; simp [intOf]; omega
                · have hnlt3 : ¬ ((r + 26 * s : Nat) : Int) < (j : Int) := by omega
                  have he := rF_end hs hsn
                  have HE : Hid (up = uF j (r + 1)) := by show _ = _; rw [uF_more, HU.out, he]
                  generalize hI : r + 26 * s = I at *
                  clear hI he HU
                  go_wp2
                  go_roundw
                  case rel => exact ⟨r + 1, As, cs, by omega, by go_num, by rw [HE.out], by rw [← HE.out]; exact os, b⟩
                  case measure => simp [intOf]; omega
            · have hnlt26 : ¬ (r : Int) < 26 := by omega
              obtain rfl : r = 26 := by omega
              have hU := uF_len (n := j) (by omega)
              have E5 := own5_et or (by rw [hU]; omega) uF_sz
              have F5 := F9.below b
              have b4 := below2 b3 b
              rw [hU] at E5 ⊢
              clear b b3 or F9 hrl2 hU
              by_cases hnm : j + k ≤ 32
              · obtain ⟨y1, y2, y3⟩ := full_yes (n := j) (m := k) (by omega) (by omega) hnm
                have k5 := scan_val E5 F5 0 rfl y2 rfl y3 (show _ = 0 by rw [y1]; rfl)
                have HRT := hid ((archR_iff _).2 (scan_right y1))
                clear y1 y2 y3
                generalize scanA (uF j 26) (tF k) 0 = as_ at *
                generalize scanC (uF j 26) (tF k) 0 = cs_ at *
                go_wp2_with fail
                refine k5.mono ?_
                rintro e w6 ⟨A6, c6, B6, d6, rfl, E6, -, hb6⟩
                have b6 := below2 b4 hb6
                have k6 := archR_any E6
                rw [HRT.out] at k6
                have hsum : ¬ (32 : Int) < (j : Int) + k := by omega
                clear hb6 k5 b4 E5 F5
                go_wp2_with fail
                refine k6.mono ?_
                rintro e w7 ⟨rfl, hb7⟩
                have b7 := below2 b6 hb7
                go_wp2
                go_ret
                exact ⟨rfl, b7⟩
              · have y1 := full_no9 (n := j) (m := k) (by omega) (by omega) (by omega)
                have y2 := scan_none (es := uF j 26) (fs := tF k) (a := 0) (by rw [y1]; decide)
                have k5 := scan_val E5 F5 0 y2.1 (show _ = 0 from rfl) y2.2 (show _ = 0 from rfl) (show _ = 2 by rw [y1]; rfl)
                clear y1 y2
                go_wp2_with fail
                refine k5.mono ?_
                rintro e w6 ⟨A6, c6, B6, d6, rfl, E6, -, hb6⟩
                have b6 := below2 b4 hb6
                have hsum : (32 : Int) < (j : Int) + k := by omega
                clear hb6 k5 b4 E5 F5
                go_wp2
                go_ret
                exact ⟨rfl, b6⟩
end Go.Proofs.YtnkkjedckehoaaaDoor
