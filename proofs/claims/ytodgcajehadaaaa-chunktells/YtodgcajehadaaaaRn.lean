/- The document's answer of layer 1: a number's bytes. -/
import Derived.Test.YtodgcajehadaaaaWa
import Derived.Deep.DeepCutAuto
namespace Go.Proofs.Ytodgcajehadaaaa
open Go.RowKit

theorem own_empty (w : World) (e : TypeId) : (w.alloc (.cells #[] e)).ownsRow w.heap.size e 1 (.slice (some ⟨w.heap.size, 0, none⟩) 0 0) 0 [] :=
  World.ownsRow_made w #[] 0 (Nat.le_refl _) (by unfold maxLen; omega) rfl

set_option maxHeartbeats 1000000 in
theorem refNumber (A : Option Addr) (n c : Nat) (l : List UInt8) (x : Int) (w : World) (hl : l.length = n) (hr : Rd w A (by8 l)) (hn : n ≤ 140737488354000) :
    Calls Try.prog 27 #[.slice A n c, .int .i64 x] w fun e w' => ∃ A' c', e = .returned (.slice A' (n + 4) c') ∧ w'.ownsRow w.heap.size 5 1 (.slice A' (n + 4) c') (n + 4) (by8 (l ++ numB x)) ∧ Below w.heap.size w w' := by
  have HL := hid hl
  clear hl
  obtain ⟨y, hy⟩ : ∃ y : Nat, clampN x = y := ⟨_, rfl⟩
  have hy2 : y ≤ 4294967295 := by rw [← hy]; unfold clampN; omega
  have HB := hid (numB_cells x ((y : Int) / 16777216) ((y : Int) / 65536 % 256) ((y : Int) / 256 % 256) ((y : Int) % 256) y hy (by omega) (by omega) (by omega) (by omega))
  have HY : Hid (max 0 (min x 4294967295) = (y : Int)) := by rw [← hy]; unfold clampN; show _ = _; omega
  clear hy
  go_enter Try.func27, Try.ntmps27
  go_upto_region 1 with (fail)
  go_cut [1] (fun v wx => v = .int .i64 y ∧ w = wx)
  case first =>
    go_wp2_with fail
    all_goals
      go_meet
      case rel => exact ⟨by have := HY.out; congr 1; omega, rfl⟩
  case rest =>
  obtain ⟨rfl, rfl⟩ := hcut
  have hown0 := own_empty w 5
  go_wp2_with (at_builtin; refine wpApp _ rfl (.tmp 8) (.tmp 9) 38 rfl w.heap.size 5 (.int .u8 0) 1 Try.underlying38 Try.info8 rfl _ 0 0 [] rfl hown0 _ n _ (by8 l) rfl (by rw [by8_length]; exact HL.out) (hr.alloc _) (by8_one _) (by omega) (by simp) (by omega) ?_)
  intro A1 c1 w1 hown1 hg1
  have hb1 : Below w.heap.size w w1 := ((Below.refl _ _).alloc (Nat.le_refl _) _).grown hg1 (by simp) (by intro k hk; simp [Value.ownBlock] at hk; omega)
  clear hown0 hg1
  go_wp2_with (at_builtin; refine wpApp _ rfl (.tmp 10) (.tmp 22) 38 rfl w.heap.size 5 (.int .u8 0) 1 Try.underlying38 Try.info8 rfl A1 n c1 _ rfl (hown1.alloc _) _ _ _ [Value.int .u8 ((y : Int) / 16777216), .int .u8 ((y : Int) / 65536 % 256), .int .u8 ((y : Int) / 256 % 256), .int .u8 ((y : Int) % 256)] rfl rfl (.inr ⟨_, rfl, new_cells w1 5 _⟩) (by rw [HB.out]; exact by8_one _) (by omega) (by have := hb1.size; simp; omega) (by omega) ?_)
  intro A2 c2 w2 hown2 hg2
  rw [HB.out] at hown2
  go_wp2
  go_ret
  exact ⟨A2, c2, rfl, by rw [by8_append]; exact hown2, (hb1.alloc hb1.size _).grown hg2 (by have := hb1.size; simp; omega) (own_app_block hown1)⟩
end Go.Proofs.Ytodgcajehadaaaa
