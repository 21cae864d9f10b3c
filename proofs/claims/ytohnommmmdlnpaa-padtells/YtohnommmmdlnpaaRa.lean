/- The document's answer of layer 1: what it writes. -/
import Derived.Test.YtohnommmmdlnpaaPc
import Derived.Deep.RegionLaw
namespace Go.Proofs.Ytohnommmmdlnpaa
open Go.RowKit

theorem own_empty (w : World) (e : TypeId) : (w.alloc (.cells #[] e)).ownsRow w.heap.size e 1 (.slice (some ⟨w.heap.size, 0, none⟩) 0 0) 0 [] :=
  World.ownsRow_made w #[] 0 (Nat.le_refl _) (by unfold maxLen; omega) rfl

set_option maxHeartbeats 1000000 in
theorem refNumber (A : Option Addr) (n c : Nat) (l : List UInt8) (x : Int) (w : World) (hl : l.length = n) (hr : Rd w A (by8 l)) (hn : n ≤ 140737488354000) :
    Calls Try.prog 31 #[.slice A n c, .int .i64 x] w fun e w' => ∃ A' c', e = .returned (.slice A' (n + 4) c') ∧ w'.ownsRow w.heap.size 5 1 (.slice A' (n + 4) c') (n + 4) (by8 (l ++ numB x)) ∧ Below w.heap.size w w' := by
  have HL := hid hl
  clear hl
  obtain ⟨y, hy⟩ : ∃ y : Nat, clampN x = y := ⟨_, rfl⟩
  have hy2 : y ≤ 4294967295 := by rw [← hy]; unfold clampN; omega
  have HB := hid (numB_cells x ((y : Int) / 16777216) ((y : Int) / 65536 % 256) ((y : Int) / 256 % 256) ((y : Int) % 256) y hy (by omega) (by omega) (by omega) (by omega))
  have HY : Hid (max 0 (min x 4294967295) = (y : Int)) := by rw [← hy]; unfold clampN; show _ = _; omega
  clear hy
  go_enter Try.func31, Try.ntmps31
  go_upto_region 1 with (fail)
  go_cut [1] (fun v wx => v = .int .i64 y ∧ w = wx)
  case first =>
    go_wp2_with fail
    all_goals
      go_meet
      case rel => exact ⟨by have := HY.out; congr 1; omega, rfl⟩
  case rest =>
  obtain ⟨rfl, rfl⟩ := hcut
  have hown0 := own_empty w 5
  go_wp2_with (at_builtin; refine wpApp _ rfl (.tmp 8) (.tmp 9) 23 rfl w.heap.size 5 (.int .u8 0) 1 Try.underlying23 Try.info8 rfl _ 0 0 [] rfl hown0 _ n _ (by8 l) rfl (by rw [by8_length]; exact HL.out) (hr.alloc _) (by8_one _) (by omega) (by simp) (by omega) ?_)
  intro A1 c1 w1 hown1 hg1
  have hb1 : Below w.heap.size w w1 := ((Below.refl _ _).alloc (Nat.le_refl _) _).grown hg1 (by simp) (by intro k hk; simp [Value.ownBlock] at hk; omega)
  clear hown0 hg1
  go_wp2_with (at_builtin; refine wpApp _ rfl (.tmp 10) (.tmp 22) 23 rfl w.heap.size 5 (.int .u8 0) 1 Try.underlying23 Try.info8 rfl A1 n c1 _ rfl (hown1.alloc _) _ _ _ [Value.int .u8 ((y : Int) / 16777216), .int .u8 ((y : Int) / 65536 % 256), .int .u8 ((y : Int) / 256 % 256), .int .u8 ((y : Int) % 256)] rfl rfl (.inr ⟨_, rfl, new_cells w1 5 _⟩) (by rw [HB.out]; exact by8_one _) (by omega) (by have := hb1.size; simp; omega) (by omega) ?_)
  intro A2 c2 w2 hown2 hg2
  rw [HB.out] at hown2
  go_wp2
  go_ret
  exact ⟨A2, c2, rfl, by rw [by8_append]; exact hown2, (hb1.alloc hb1.size _).grown hg2 (by have := hb1.size; simp; omega) (own_app_block hown1)⟩

theorem below_of_drew {w w1 : World} (h : Below w.drew.heap.size w.drew w1) : Below w.heap.size w w1 := ⟨h.os, h.tape, h.output, h.size, h.block⟩

/-- append(v, s...) of a string, where the order is open. -/
theorem stepAppS {P : Program} (w : World) {ops : Array Oper} {o : Oper} {a : Act} {K : Act → World → Prop} {Q : Exit → Act → World → Prop} {E : Prop} (hgd : o.guard = none) (sl x : Operand) (t u : TypeId)
    (ho : o.op = .call { callee := .builtin .append, args := #[sl, x], argTypes := #[t, u] })
    (base : Nat) (e : TypeId) (ht : P.underlying t = some (.slice e)) (hu : P.underlying u = some .string) (hinf : (P.info? e).map (fun i => (i.zero, i.size, i.bytes)) = some (some (.int .u8 0), 1, 1))
    (A : Option Addr) (n c : Nat) (xs : List Value) (hs : a.eval sl = .slice A n c) (hown : w.ownsRow base e 1 (.slice A n c) n xs) (s : ByteArray) (hx : a.eval x = .string s)
    (hbytes : n + s.size ≤ 140737488355328) (hbase : base ≤ w.heap.size)
    (h : ∀ A' c' w', w'.ownsRow base e 1 (.slice A' (n + s.size) c') (n + s.size) (xs ++ by8 s.data.toList) → w.grownBy w' (Value.slice A n c).ownBlock → K (a.put o.dst (.slice A' (n + s.size) c')) w') :
    if Region.wanted o (yielded ops a.tmps) = true then Oper.wp P o a w K Q else E := by
  rw [if_pos (by simp [Region.wanted, hgd])]
  obtain ⟨i, hi, hz0, hz1, hz2⟩ := info_parts hinf
  obtain ⟨v', w', hr, h2, h3, _⟩ := Lib.run_append_own_string (P := P) w base t u o.type e i ht hu hi hz0 hz1 hz2 _ n xs hown s (by unfold maxLen; omega) hbytes hbase
  obtain ⟨_, A', c', rfl, _⟩ := own_form h2
  unfold Oper.wp
  simp [execOp, ho, resolve, invoke, builtin, hs, hx, hr, Result.andThen]
  exact h A' c' w' h2 h3

set_option maxHeartbeats 1000000 in
theorem refString (A : Option Addr) (n c : Nat) (l : List UInt8) (s : ByteArray) (w : World) (hl : l.length = n) (hr : Rd w A (by8 l)) (hn : n ≤ 140737488320000) (hs : s.size ≤ maxLen) :
    Calls Try.prog 21 #[.slice A n c, .string s] w fun e w' => ∃ A' c', e = .returned (.slice A' (n + (strB s).length) c') ∧ w'.ownsRow w.heap.size 5 1 (.slice A' (n + (strB s).length) c') (n + (strB s).length) (by8 (l ++ strB s)) ∧ Below w.heap.size w w' := by
  unfold maxLen at hs
  have HL := hid hl
  clear hl
  by_cases hle : s.size ≤ 16384
  · have HE := hid (strB_short s hle)
    go_enter Try.func21, Try.ntmps21
    go_wp2_with fail
    go_region_law (first | (refine stepAppS _ rfl (.tmp 11) (.tmp 14) 23 9 rfl w.heap.size 5 Try.underlying23 Try.underlying9 Try.info8 _ (n + 4) _ (by8 (l ++ numB s.size)) rfl (by assumption) s rfl (by omega) (by assumption) ?_; intro A2 c2 w2 hown2 hg2) | (go_simp; go_at_call 31; refine (refNumber A n c l s.size _ HL.out hr.drew (by omega)).mono ?_; rintro e w1 ⟨A1, c1, rfl, hown1, hb1⟩; have hb1' := below_of_drew hb1; have hown1' : w1.ownsRow w.heap.size 5 1 (.slice A1 (n + 4) c1) (n + 4) (by8 (l ++ numB s.size)) := hown1; have hz1 : w.heap.size ≤ w1.heap.size := hb1'.size; clear hb1 hown1))
    all_goals
      go_wp2
      go_ret
      have hlen2 : n + (strB s).length = n + 4 + s.size := by rw [strB_length]; omega
      rw [hlen2, HE.out]
      refine ⟨_, _, rfl, ?_, ?_⟩
      · rw [← List.append_assoc, by8_append]
        assumption
      · exact hb1'.grown hg2 hz1 (own_app_block hown1')
  · have HS := hid (show (s.extract 0 16384).size = 16384 by
      have h := congrArg List.length (extract_list s 16384)
      rw [size_list, List.length_take, size_list] at h
      omega)
    have hsi : (16384 : Int) ≤ (s.size : Int) := by omega
    go_enter Try.func21, Try.ntmps21
    go_wp2_with fail
    go_region_law (first | (refine stepAppS _ rfl (.tmp 11) (.tmp 14) 23 9 rfl w.heap.size 5 Try.underlying23 Try.underlying9 Try.info8 _ (n + 4) _ (by8 (l ++ numB 16384)) rfl (by assumption) (s.extract 0 16384) rfl (by rw [HS.out]; omega) (by assumption) ?_; intro A2 c2 w2 hown2 hg2) | (go_simp; go_at_call 31; refine (refNumber A n c l 16384 _ HL.out hr.drew (by omega)).mono ?_; rintro e w1 ⟨A1, c1, rfl, hown1, hb1⟩; have hb1' := below_of_drew hb1; have hown1' : w1.ownsRow w.heap.size 5 1 (.slice A1 (n + 4) c1) (n + 4) (by8 (l ++ numB 16384)) := hown1; have hz1 : w.heap.size ≤ w1.heap.size := hb1'.size; clear hb1 hown1))
    all_goals
      rw [HS.out, extract_list] at hown2
      go_wp2
      go_ret
      have hlen2 : n + (strB s).length = n + 4 + 16384 := by rw [strB_length]; omega
      have hmin : min (s.size : Int) 16384 = 16384 := by omega
      rw [hlen2]
      refine ⟨A2, c2, by rw [show min 16384 s.size = 16384 by omega]; rfl, ?_, ?_⟩
      · rw [strB, hmin, ← List.append_assoc, by8_append]
        exact hown2
      · exact hb1'.grown hg2 hz1 (own_app_block hown1')

end Go.Proofs.Ytohnommmmdlnpaa
