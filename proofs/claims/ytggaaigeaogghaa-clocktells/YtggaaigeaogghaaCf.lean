/- ClockParts: the walk. -/
import Derived.Test.YtggaaigeaogghaaCe
import Derived.Deep.DeepCutAuto
namespace Go.Proofs.Ytggaaigeaogghaa
open Go.RowKit

theorem tdiv_small (a b : Int) (ha : -1099511627776 ≤ a) (ha2 : a ≤ 1099511627776) : -1099511627776 ≤ a.tdiv b ∧ a.tdiv b ≤ 1099511627776 := by
  have h := Int.natAbs_tdiv_le_natAbs a b
  omega

theorem cl_min (n : Int) : cl n = min n.toNat 1073741824 := by unfold cl; omega

set_option maxHeartbeats 2000000 in
theorem clockParts_walk (a b d : Int) (w : World) (_ : (Lit.int .i64 a).wf = true) (_ : (Lit.int .i64 b).wf = true) (_ : (Lit.int .i64 d).wf = true) :
    Calls Try.prog 4 #[.int .i64 a, .int .i64 b, .int .i64 d] w fun e w' => e = .returned (.bool true) ∧ Below w.heap.size w w' := by
  go_enter Try.func4, Try.ntmps4
  go_wp2_with fail
  refine (small_any _).mono ?_
  rintro e w1 ⟨rfl, b1⟩
  go_upto_region 2 with (fail)
  go_cut [33] (fun x wx => w1 = wx ∧ ∃ t, x = .bool t ∧ (t = false → 1 ≤ d ∧ d ≤ 1000 ∧ -1099511627776 ≤ a ∧ a ≤ 1099511627776 ∧ -1099511627776 ≤ b ∧ b ≤ 1099511627776))
  case first =>
    go_wp2_with fail
    all_goals
      go_meet
      case rel => exact ⟨rfl, _, rfl, fun h => by first | (simp at h; omega) | simp at h⟩
  case rest =>
  obtain ⟨rfl, t, rfl, ht⟩ := hcut
  cases t
  · obtain ⟨h1, h2, h3, h4, h5, h6⟩ := ht rfl
    clear ht
    have ta := tdiv_small a d h3 h4
    have tb := tdiv_small b d h5 h6
    obtain ⟨x, hx, fx⟩ := quo_floor a d (by omega) (by omega) h1 h2
    obtain ⟨y, hy, fy⟩ := quo_floor b d (by omega) (by omega) h1 h2
    have rx := run_float_arith (P := Try.prog) w1 .quo 39 .f64 _ _ _ hx
    have ry := run_float_arith (P := Try.prog) w1 .quo 39 .f64 _ _ _ hy
    clear hx hy
    go_upto_region 4 with (fail)
    go_cut [8] (fun v wx => v = .int .i64 (cl (a.tdiv d)) ∧ w1 = wx)
    case first =>
      go_wp2_with fail
      all_goals
        go_meet
        case rel => exact ⟨by unfold cl; congr 1; omega, rfl⟩
    case rest =>
    obtain ⟨rfl, rfl⟩ := hcut
    go_upto_region 5 with (fail)
    go_cut [9] (fun v wx => v = .int .i64 (cl (b.tdiv d)) ∧ w1 = wx)
    case first =>
      go_wp2_with fail
      all_goals
        go_meet
        case rel => exact ⟨by unfold cl; congr 1; omega, rfl⟩
    case rest =>
    obtain ⟨rfl, rfl⟩ := hcut
    go_wp2_with fail
    refine (pair_any x y _ _ fx fy _).mono ?_
    rintro e w2 ⟨rfl, hb2⟩
    rw [← cl_min, ← cl_min]
    go_wp2
    go_ret
    exact ⟨rfl, below2 b1 hb2⟩
  · go_wp2
    go_ret
    exact ⟨rfl, b1⟩
end Go.Proofs.Ytggaaigeaogghaa
