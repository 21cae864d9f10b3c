/- Package chunk: Join, Label. -/
import Derived.Test.YtodgcajehadaaaaHd
namespace Go.Proofs.Ytodgcajehadaaaa
open Go.RowKit

theorem cells_snoc (ls : List ByteArray) (j : Nat) (h : j < ls.length) : Lib.byteCells ((ls.take j).map unB).flatten ++ Lib.strCells ls[j] = Lib.byteCells ((ls.take (j + 1)).map unB).flatten := by
  rw [List.take_succ_eq_append_getElem h, List.map_append, List.flatten_append]
  simp [Lib.byteCells, Lib.strCells, unB]
theorem cells_le {ls : List ByteArray} (h : ∀ x ∈ ls, x.size ≤ 64) : (Lib.byteCells (ls.map unB).flatten).length ≤ ls.length * 64 := by
  simp only [Lib.byteCells, List.length_map]
  induction ls with
  | nil => simp
  | cons a t ih =>
    simp only [List.map_cons, List.flatten_cons, List.length_append, List.length_cons, unB_size]
    have h1 := h a (by simp)
    have h2 := ih (fun x hx => h x (by simp [hx]))
    omega

set_option maxHeartbeats 1000000 in
theorem join_no (A : Option Addr) (n c : Nat) (ls : List ByteArray) (w : World) (hl : ls.length = n) (hr : Rd w A (strV ls)) (hn : n ≤ 140737488355328) (hno : rightB ls = false) :
    Calls Try.prog 11 #[.slice A n c] w fun e w' => e = .returned (.tuple #[.string ⟨#[]⟩, .bool false]) ∧ Below w.heap.size w w' := by
  have ha := arePieces_any A n c ls w hl hr hn
  rw [hno] at ha
  go_enter Try.func11, Try.ntmps11
  go_wp2_with fail
  refine ha.mono ?_
  rintro e w1 ⟨rfl, rfl⟩
  go_wp2
  go_ret2
  exact ⟨rfl, Below.refl _ _⟩

set_option maxHeartbeats 1000000 in
theorem join_yes (A : Option Addr) (n c : Nat) (ls : List ByteArray) (w : World) (hl : ls.length = n) (hr : Rd w A (strV ls)) (hn : n ≤ 1000000) (hyes : rightB ls = true) :
    Calls Try.prog 11 #[.slice A n c] w fun e w' => e = .returned (.tuple #[.string (joinS ls), .bool true]) ∧ Below w.heap.size w w' := by
  have ha := arePieces_any A n c ls w hl hr (by omega)
  rw [hyes] at ha
  have HL := hid hl
  clear hl
  have HS := hid (right_sizes hyes)
  clear hyes
  have hgrow := Try.Builder_Grow_fresh w.heap.size w.heap.size (n * 64) (w.alloc (.cells #[.pointer none, .slice none 0 0] 41)) (Nat.le_refl _) (heap_alloc_new w _) (by simp) (by omega)
  rw [show ((n * 64 : Nat) : Int) = (n : Int) * 64 by omega] at hgrow
  go_enter Try.func11, Try.ntmps11
  go_wp2_with fail
  refine ha.mono ?_
  rintro e w1 ⟨rfl, rfl⟩
  go_wp2_with fail
  refine hgrow.mono ?_
  rintro e w2 ⟨rfl, hbd, hb⟩
  have hb2 : Below w.heap.size w w2 := ((Below.refl _ w).alloc (Nat.le_refl _) _).trans hb
  clear hgrow ha hb
  go_wp2_with fail
  go_loopw [16] (fun i wr => ∃ j : Nat, j ≤ n ∧ i = .int .i64 j ∧ Lib.BuilderAt 41 5 w.heap.size w.heap.size (.pointer (some ⟨w.heap.size, 0, none⟩)) (Lib.byteCells ((ls.take j).map unB).flatten) wr ∧ Below w.heap.size w wr) (fun i _ => n - (intOf i).toNat)
  case atStart => exact ⟨0, by omega, rfl, hbd, hb2⟩
  case round =>
    clear hbd hb2
    obtain ⟨j, hj, rfl, hbd, hbw⟩ := hrel
    by_cases hjn : j < n
    · have hjl : j < ls.length := by rw [HL.out]; exact hjn
      obtain ⟨b, off, rfl, hc, hbb⟩ := hr.at_ (k := j) (by rw [strV_length]; exact hjl)
      have h1 : wr.cell? ⟨b, off + j, none⟩ = some (.string ls[j]) := by rw [hbw.cell hbb, hc]; simp [strV]
      clear hc
      have hsj := HS.out _ (List.getElem_mem hjl)
      have hcl := cells_le (ls := ls.take j) (fun x hx => HS.out x (List.mem_of_mem_take hx))
      have htl : (ls.take j).length ≤ j := List.length_take_le _ _
      have hws := Try.Builder_WriteString w.heap.size w.heap.size _ ls[j] wr (.inr hbd) (by omega) hbw.size
      rw [cells_snoc ls j hjl] at hws
      clear hcl htl hbd
      generalize ls[j] = x at *
      have hlt : (j : Int) < n := by omega
      go_wp2_with fail
      refine hws.mono ?_
      rintro e w3 ⟨rfl, hbd3, hb3⟩
      clear hws
      go_wp2
      go_roundw
      case rel => exact ⟨j + 1, by omega, by go_num, hbd3, hbw.trans hb3⟩
      case measure => simp [intOf]; omega
    · have e : j = n := by omega
      subst e
      have hst := Try.Builder_String_any w.heap.size w.heap.size _ wr (.inr hbd) hbw.size
      rw [List.take_of_length_le (by rw [HL.out]; omega)] at hst
      go_wp2_with fail
      refine hst.mono ?_
      rintro e w3 ⟨rfl, hb3⟩
      go_wp2
      go_ret2
      exact ⟨rfl, hbw.trans hb3⟩

/-- A label. -/
def labB (a b c : Int) : List UInt8 := numB a ++ numB b ++ numB c

set_option maxHeartbeats 1000000 in
theorem label_any (a b c : Int) (w : World) : Calls Try.prog 18 #[.int .i64 a, .int .i64 b, .int .i64 c] w fun e w' => e = .returned (.string (toB (labB a b c))) ∧ Below w.heap.size w w' := by
  have i0 : ∀ w : World, (Instr.index 33 (.agg #[.int .i64 a, .int .i64 b, .int .i64 c]) (.int .i64 0)).run Try.prog w = .ok (.int .i64 a) w := fun _ => by kernel_rfl
  have i1 : ∀ w : World, (Instr.index 33 (.agg #[.int .i64 a, .int .i64 b, .int .i64 c]) (.int .i64 1)).run Try.prog w = .ok (.int .i64 b) w := fun _ => by kernel_rfl
  have i2 : ∀ w : World, (Instr.index 33 (.agg #[.int .i64 a, .int .i64 b, .int .i64 c]) (.int .i64 2)).run Try.prog w = .ok (.int .i64 c) w := fun _ => by kernel_rfl
  go_enter Try.func18, Try.ntmps18
  go_wp2_with fail
  go_loopw [7, 14] (fun v i wr => ∃ (j : Nat) (A' : Option Addr) (c' : Nat), j ≤ 3 ∧ i = .int .i64 j ∧ v = .slice A' (j * 4) c' ∧ Rd wr A' (by8 ((labB a b c).take (j * 4))) ∧ Below w.heap.size w wr) (fun _ i _ => 3 - (intOf i).toNat)
  case atStart => exact ⟨0, none, 0, by omega, rfl, rfl, .inl rfl, Below.refl _ _⟩
  case round =>
    obtain ⟨j, A', c', hj, rfl, rfl, hrd, hb⟩ := hrel
    rcases (by omega : j = 0 ∨ j = 1 ∨ j = 2 ∨ j = 3) with rfl | rfl | rfl | rfl
    · go_wp2_with fail
      refine (number_any A' 0 c' ((labB a b c).take 0) a wr rfl hrd (by omega)).mono ?_
      rintro e w1 ⟨A1, c1, rfl, hown1, hb1⟩
      have hrd1 : Rd w1 A1 (by8 ((labB a b c).take 4)) := Rd.of_own hown1
      have hb2 := below2 hb hb1
      clear hown1 hb1 hrd
      go_wp2
      go_roundw
      case rel => exact ⟨1, A1, c1, by omega, by go_num, rfl, hrd1, hb2⟩
      case measure => simp [intOf]
    · go_wp2_with fail
      refine (number_any A' 4 c' ((labB a b c).take 4) b wr rfl hrd (by omega)).mono ?_
      rintro e w1 ⟨A1, c1, rfl, hown1, hb1⟩
      have hrd1 : Rd w1 A1 (by8 ((labB a b c).take 8)) := Rd.of_own hown1
      have hb2 := below2 hb hb1
      clear hown1 hb1 hrd
      go_wp2
      go_roundw
      case rel => exact ⟨2, A1, c1, by omega, by go_num, rfl, hrd1, hb2⟩
      case measure => simp [intOf]
    · go_wp2_with fail
      refine (number_any A' 8 c' ((labB a b c).take 8) c wr rfl hrd (by omega)).mono ?_
      rintro e w1 ⟨A1, c1, rfl, hown1, hb1⟩
      have hrd1 : Rd w1 A1 (by8 ((labB a b c).take 12)) := Rd.of_own hown1
      have hb2 := below2 hb hb1
      clear hown1 hb1 hrd
      go_wp2
      go_roundw
      case rel => exact ⟨3, A1, c1, by omega, by go_num, rfl, hrd1, hb2⟩
      case measure => simp [intOf]
    · have hcv := conv_rd (P := Try.prog) wr 38 9 5 Try.underlying38 Try.underlying5 Try.underlying9 A' 12 c' (labB a b c) rfl hrd
      go_wp2
      go_ret
      exact ⟨rfl, hb⟩
end Go.Proofs.Ytodgcajehadaaaa
