/- PathBytes: the walk. -/
import Derived.Test.YtekmclbnbbhcmaaDoorQe
import Derived.OpenShut
namespace Go.Proofs.YtekmclbnbbhcmaaDoor
open Go.RowKit

theorem mkS_size' (a : List UInt8) : (mkS a).size = a.length := rfl

/-- A new row begins with these bytes. -/
def Bytes8 (w : World) (g : Nat) (l : List UInt8) : Prop :=
  ∃ C fr t, w.heap[g]? = some (.cells C t fr) ∧ (∀ (i : Nat) (b : UInt8), l[i]? = some b → C[i]? = some (Value.int .u8 (b.toNat : Int))) ∧ ∀ i, i < l.length → i < fr.1
section
variable {w : World} {g : Nat} {l : List UInt8}
theorem Bytes8.cell (h : Bytes8 w g l) (i : Nat) (hi : i < l.length) : w.cell? ⟨g, i, none⟩ = some (.int .u8 (l[i].toNat : Int)) := by
  obtain ⟨C, fr, t, h1, h2, _⟩ := h
  rw [cell_of_row w g i C t fr h1]
  exact h2 i _ (List.getElem?_eq_getElem hi)
theorem Bytes8.rd (h : Bytes8 w g l) : Rd w (some ⟨g, 0, none⟩) (by8 l) := by
  refine .inr ⟨_, rfl, fun j u hu => ?_⟩
  have hj : j < l.length := by have := (List.getElem?_eq_some_iff.1 hu).1; rwa [by8_length] at this
  rw [by8_at l j hj] at hu
  injection hu with hu
  rw [Addr.add_lit, Nat.zero_add, h.cell j hj, hu]
theorem Bytes8.frozen (h : Bytes8 w g l) (i : Nat) (hi : i < l.length) : w.frozen? ⟨g, i, none⟩ = false := by
  obtain ⟨C, fr, t, h1, _, h3⟩ := h
  have := h3 i hi
  simp [World.frozen?, h1]
  omega
theorem Bytes8.set_ (h : Bytes8 w g l) (k : Nat) (b : UInt8) : Bytes8 (w.setCell ⟨g, k, none⟩ (.int .u8 (b.toNat : Int))) g (l.set k b) := by
  obtain ⟨C, fr, t, h1, h2, h3⟩ := h
  refine ⟨C.setIfInBounds k (.int .u8 (b.toNat : Int)), fr, t, by simp [World.setCell, Array.getElem?_modify, h1], ?_, by simpa using h3⟩
  intro i x hx
  rw [List.getElem?_set] at hx
  rw [Array.getElem?_setIfInBounds]
  split at hx
  · rename_i e
    subst e
    split at hx
    · rename_i hk
      injection hx with hx
      have := h2 k _ (List.getElem?_eq_getElem hk)
      rw [if_pos rfl, if_pos (Array.getElem?_eq_some_iff.1 this).1, hx]
    · cases hx
  · rename_i e
    rw [if_neg e]
    exact h2 i x hx
end
theorem conv_bytes (s : ByteArray) (w : World) : ∃ c w', (convert 9 36 (.string s)).run Tryd.prog w = .ok (.slice (some ⟨w.heap.size, 0, none⟩) s.size c) w' ∧ Bytes8 w' w.heap.size s.data.toList ∧ Below w.heap.size w w' := by
  refine ⟨_, _, run_bytes_of_string w 9 36 5 s Tryd.underlying9 Tryd.underlying36 Tryd.underlying5, ?_, ?_⟩
  · refine ⟨_, _, _, heap_alloc_new w.drew _, ?_, ?_⟩
    · intro i b hb
      have hi : i < s.data.size := by have := (List.getElem?_eq_some_iff.1 hb).1; simpa using this
      have e : s.data[i] = b := by
        rw [Array.getElem?_toList, Array.getElem?_eq_getElem hi] at hb
        injection hb
      unfold bytesRow
      rw [Array.getElem?_append_left (by simpa using hi), Array.getElem?_map, Array.getElem?_eq_getElem hi, e]
      rfl
    · intro i hi
      have hi' : i < s.data.size := by simpa using hi
      simp only [bytesRow, Array.size_append, Array.size_map]
      omega
  · exact ((Below.refl w.heap.size w).drew).alloc (Nat.le_refl _) _

/-- A byte, by what is asked of it. -/
theorem byte_cases (b : UInt8) : ∃ ok q45 q46 : Bool, okB b = ok ∧ ((b.toNat : Int) == 45) = q45 ∧ ((b.toNat : Int) == 46) = q46 ∧
    (((47 : Int) ≤ b.toNat ∧ (b.toNat : Int) < 48) ∧ ok = false ∧ ((b.toNat : Int) == 47) = true ∧ q45 = false ∧ q46 = false ∨ b ≠ 47 ∧ ((b.toNat : Int) == 47) = false ∧
      ((b.toNat : Int) < 45 ∧ ok = false ∧ q45 = false ∧ q46 = false ∨ ((45 : Int) ≤ b.toNat ∧ (b.toNat : Int) < 46) ∧ ok = true ∧ q45 = true ∧ q46 = false ∨ ((46 : Int) ≤ b.toNat ∧ (b.toNat : Int) < 47) ∧ ok = true ∧ q45 = false ∧ q46 = true ∨ ((48 : Int) ≤ b.toNat ∧ (b.toNat : Int) ≤ 57) ∧ ok = true ∧ q45 = false ∧ q46 = false ∨
        ((58 : Int) ≤ b.toNat ∧ (b.toNat : Int) < 97) ∧ ok = false ∧ q45 = false ∧ q46 = false ∨ ((97 : Int) ≤ b.toNat ∧ (b.toNat : Int) ≤ 122) ∧ ok = true ∧ q45 = false ∧ q46 = false ∨ (123 : Int) ≤ b.toNat ∧ ok = false ∧ q45 = false ∧ q46 = false)) := by
  refine ⟨_, _, _, rfl, rfl, rfl, ?_⟩
  have h47 : b = 47 ↔ b.toNat = 47 := ⟨fun h => by rw [h]; rfl, fun h => UInt8.toNat_inj.1 h⟩
  by_cases h : b.toNat = 47
  · left
    simp [okB, h]
  · right
    refine ⟨fun e => h (h47.1 e), by simp; omega, ?_⟩
    simp only [okB, Bool.or_eq_true, Bool.or_eq_false_iff, Bool.and_eq_true, Bool.and_eq_false_iff, decide_eq_true_eq, decide_eq_false_iff_not, beq_iff_eq, beq_eq_false_iff_ne, ne_eq]
    omega
theorem name_set {l : List UInt8} {k : Nat} (b : UInt8) (h : nameL l = true) (hk : k < l.length) :
    nameL (l.set k b) = (okB b && (!(l.set k b == [46])) && !(l.set k b == [46, 46])) := by
  have hl := nameL_head h
  have ha : l.all okB = true := by
    simp only [nameL, Bool.and_eq_true] at h
    exact h.2
  have e1 : (l.set k b).all okB = okB b := by
    rw [Bool.eq_iff_iff, List.all_eq_true]
    constructor
    · intro h1
      exact h1 b (List.mem_set hk b)
    · intro h1 x hx
      rcases List.mem_or_eq_of_mem_set hx with h2 | h2
      · exact List.all_eq_true.1 ha x h2
      · rw [h2]; exact h1
  unfold nameL
  rw [e1, Bool.eq_iff_iff]
  simp only [List.length_set, Bool.and_eq_true, decide_eq_true_eq, Bool.not_eq_true', beq_eq_false_iff_ne, ne_eq]
  constructor
  · rintro ⟨⟨_, _, h3, h4⟩, h5⟩
    exact ⟨⟨h5, h3⟩, h4⟩
  · rintro ⟨⟨h5, h3⟩, h4⟩
    exact ⟨⟨hl.1, hl.2.1, h3, h4⟩, h5⟩
theorem right_set {l : List UInt8} {k : Nat} (b : UInt8) (h : nameL l = true) (hb : b ≠ 47) : rightL (l.set k b) = nameL (l.set k b) := by
  have hf : 47 ∉ l.set k b := by
    intro hm
    rcases List.mem_or_eq_of_mem_set hm with h2 | h2
    · exact name_free h h2
    · exact hb h2.symm
  rw [rightL, pieces_none _ hf]
  simp [fineL]

set_option maxHeartbeats 1000000 in
theorem pathBytes_walk (s : ByteArray) (at_ z : Int) (w : World) (hs0 : s.size ≤ 140737488351232) (_ : (Lit.int .i64 at_).wf = true) (hz : (Lit.int .u8 z).wf = true) :
    Calls Tryd.prog 9 #[.string s, .int .i64 at_, .int .u8 z] w fun e w' => e = .returned (.bool true) ∧ Below w.heap.size w w' := by
  obtain ⟨b, rfl⟩ : ∃ b : UInt8, (b.toNat : Int) = z := ⟨UInt8.ofNat z.toNat, by have := bounds_u8 hz; simp; omega⟩
  clear hz
  go_enter Tryd.func9, Tryd.ntmps9
  go_wp2_with fail
  refine (small_any _).mono ?_
  rintro e w1 ⟨rfl, b1⟩
  by_cases h1 : (12 : Int) < s.size
  · go_wp2
    go_ret
    exact ⟨rfl, b1⟩
  go_wp2_with fail
  refine (name_any s _).mono ?_
  rintro e wx ⟨rfl, rfl⟩
  cases hn : nameL s.data.toList
  · go_wp2
    go_ret
    exact ⟨rfl, b1⟩
  by_cases h2 : at_ < 0
  · go_wp2
    go_ret
    exact ⟨rfl, b1⟩
  by_cases h3 : (s.size : Int) ≤ at_
  · go_wp2
    go_ret
    exact ⟨rfl, b1⟩
  obtain ⟨k, rfl⟩ : ∃ k : Nat, at_ = k := ⟨at_.toNat, by omega⟩
  have hk : k < s.size := by omega
  have hkl : k < s.data.toList.length := by rw [← size_len]; exact hk
  have HN := hid hn
  have HS := hid (name_set b hn hkl)
  have HR := hid (fun hb => right_set (k := k) b hn hb)
  clear hn
  obtain ⟨c, w2, hcv, hbs, hb2⟩ := conv_bytes s w1
  have hc0 := hbs.cell k hkl
  have hf0 := hbs.frozen k hkl
  have hb3 : Below w.heap.size w (w2.setCell ⟨w1.heap.size, k, none⟩ (.int .u8 (b.toNat : Int))) := (below2 b1 hb2).grown (grown_set k _) (below2 b1 hb2).size (by intro g hg; injection hg with hg; have := b1.size; omega)
  have hcv2 : (convert 36 9 (.slice (some ⟨w1.heap.size, 0, none⟩) s.size c)).run Tryd.prog (w2.setCell ⟨w1.heap.size, k, none⟩ (.int .u8 (b.toNat : Int))) = .ok (.string (mkS (s.data.toList.set k b))) (w2.setCell ⟨w1.heap.size, k, none⟩ (.int .u8 (b.toNat : Int))) :=
    conv_rd _ 36 9 5 Tryd.underlying36 Tryd.underlying5 Tryd.underlying9 _ s.size c (s.data.toList.set k b) (by rw [List.length_set, ← size_len]) (hbs.set_ k b).rd
  have HZ := hid (show (mkS (s.data.toList.set k b)).size < 4294967281 by rw [mkS_size', List.length_set, ← size_len]; omega)
  obtain ⟨l', hl'⟩ : ∃ l', s.data.toList.set k b = l' := ⟨_, rfl⟩
  rw [hl'] at hcv2 HZ HS HR
  clear hl' hbs hb2 HN
  obtain ⟨ok, q45, q46, hok, e45, e46, hcases⟩ := byte_cases b
  have hmd : (mkS l').toList = l' := by rw [Lib.toList_data, mkS_data]
  rcases hcases with ⟨⟨h5, h6⟩, rfl, e47, rfl, rfl⟩ | ⟨hne, e47, ⟨h5, rfl, rfl, rfl⟩ | ⟨⟨h5, h6⟩, rfl, rfl, rfl⟩ | ⟨⟨h5, h6⟩, rfl, rfl, rfl⟩ | ⟨⟨h5, h6⟩, rfl, rfl, rfl⟩ | ⟨⟨h5, h6⟩, rfl, rfl, rfl⟩ | ⟨⟨h5, h6⟩, rfl, rfl, rfl⟩ | ⟨h5, rfl, rfl, rfl⟩⟩
  all_goals
    have hV := HS.out
    rw [hok] at hV
    simp only [Bool.false_and, Bool.true_and] at hV
  all_goals first
    | (cases q1 : (l' == [46])
       all_goals cases q2 : (l' == [46, 46])
       all_goals rw [q1, q2] at hV)
    | skip
  all_goals
    try simp only [Bool.not_false, Bool.not_true, Bool.and_self, Bool.and_true, Bool.and_false] at hV
    go_wp2_with fail
    refine (name_any _ _).mono ?_
    rintro e wy ⟨he, rfl⟩
    rw [mkS_data, hV] at he
    subst he
    first
      | (have hR := HR.out hne
         rw [hV] at hR
         go_wp2_with fail
         refine (right_any _ _ HZ.out).mono ?_
         rintro e w5 ⟨he, hb5⟩
         rw [mkS_data, hR] at he
         subst he
         go_wp2_with fail
         refine (name_any _ _).mono ?_
         rintro e wy ⟨he, rfl⟩
         rw [mkS_data, hV] at he
         subst he
         go_wp2
         go_ret
         exact ⟨rfl, below2 hb3 hb5⟩)
      | (go_wp2
         go_ret
         exact ⟨rfl, hb3⟩)
end Go.Proofs.YtekmclbnbbhcmaaDoor
