/- Few; the small case; what Scan answers, as a slice of entries. -/
import Derived.Test.YtnkkjedckehoaaaDoorSj
import Derived.Test.YtnkkjedckehoaaaDoorTk
namespace Go.Proofs.YtnkkjedckehoaaaDoor
open Go.RowKit

/-! ### What Scan answers -/
theorem newE_sz {a : Int} {p : Ent × Ent} (h : SzE p.2) : SzE (newE a p) := by unfold SzE; rw [newE_path, newE_data]; exact h
theorem scanA_sz {es : List Ent} {fs : List Fil} (a : Int) (h1 : ∀ e ∈ es, SzE e) (h2 : ∀ f ∈ fs, SzF f) : ∀ e ∈ scanA es fs a, SzE e := by
  intro e he
  unfold scanA at he
  split at he
  · obtain ⟨p, hp, rfl⟩ := List.mem_map.1 he
    exact newE_sz (both_sz h1 h2 p hp)
  · cases he
theorem scanA_len (es : List Ent) (fs : List Fil) (a : Int) : (scanA es fs a).length ≤ 32 := by
  unfold scanA
  split
  · rename_i h
    rw [outP, List.length_map]
    exact okP_len (scanN_ok.1 h).2.2
  · simp
theorem scanC_len (es : List Ent) (fs : List Fil) (a : Int) : (scanC es fs a).length ≤ 32 := by
  unfold scanC
  split
  · rename_i h
    have := okP_len (scanN_ok.1 h).2.2
    have := chgP_len (bothL es fs)
    omega
  · simp
theorem own5_et {w : World} {base : Nat} {A : Option Addr} {c : Nat} {es : List Ent} (h : w.ownsRow base 37 5 (.slice A es.length c) es.length (entV es)) (hn : es.length ≤ 1000000) (hs : ∀ e ∈ es, SzE e) : Et w A es.length c es := by
  rcases h.2 with ⟨h1, h0⟩ | ⟨g, cap, cur, h1, _, _, h2, h3, _⟩
  · injection h1 with a1 a2 a3
    subst a1 a3
    exact ⟨rfl, .inl (List.eq_nil_of_length_eq_zero (by rw [entV_length, h0])), by omega, hn, by omega, hs⟩
  · injection h1 with a1 a2 a3
    subst a1 a3
    exact ⟨rfl, .inr ⟨_, rfl, h.cells (g := g) rfl⟩, h2, hn, h3, hs⟩
/-- What Scan answers, to be read. -/
def ScanOut (w : World) (es : List Ent) (fs : List Fil) (a : Int) (e : Ending) (w' : World) : Prop :=
  ∃ A' c' B' d', e = .returned (.tuple #[.slice A' (scanA es fs a).length c', .slice B' (scanC es fs a).length d', .int .i64 (scanN es fs a : Nat)]) ∧ Et w' A' (scanA es fs a).length c' (scanA es fs a) ∧ Rd w' B' (strV (scanC es fs a)) ∧ Below w.heap.size w w'
theorem scan_out {w : World} {A B : Option Addr} {n c m d : Nat} {es : List Ent} {fs : List Fil} (h : Et w A n c es) (k : Ft w B m d fs) (a : Int) :
    Calls Tryd.prog 12 #[.slice A n c, .slice B m d, .int .i64 a] w (ScanOut w es fs a) :=
  (scan_any h k a).mono fun _ _ ⟨A', c', B', d', he, o1, o2, hb⟩ => ⟨A', c', B', d', he, own5_et o1 (by have := scanA_len es fs a; omega) (scanA_sz a h.sz k.sz), Rd.of_own o2, hb⟩

theorem scan_val {w : World} {A B : Option Addr} {n c m d : Nat} {es : List Ent} {fs : List Fil} (h : Et w A n c es) (k : Ft w B m d fs) (a : Int) {as_ : List Ent} {cs : List ByteArray} {nA nC : Nat} {z : Int} (ha : scanA es fs a = as_) (hla : as_.length = nA) (hc : scanC es fs a = cs) (hlc : cs.length = nC) (hn : ((scanN es fs a : Nat) : Int) = z) :
    Calls Tryd.prog 12 #[.slice A n c, .slice B m d, .int .i64 a] w fun e w' => ∃ A' c' B' d', e = .returned (.tuple #[.slice A' nA c', .slice B' nC d', .int .i64 z]) ∧ Et w' A' nA c' as_ ∧ Rd w' B' (strV cs) ∧ Below w.heap.size w w' := by
  subst ha hla hc hlc hn
  exact scan_out h k a
theorem et_nil (w : World) : Et w none 0 0 [] := ⟨rfl, .inl rfl, Nat.le_refl _, by omega, by omega, by simp⟩
theorem ft_nil (w : World) : Ft w none 0 0 [] := ⟨rfl, .inl rfl, Nat.le_refl _, by omega, by omega, by simp⟩
theorem ft_one (w : World) (p d : ByteArray) (hp : p.size < 4294967281) (hd : d.size ≤ 140737488355328) : Ft (w.alloc (.cells #[.string p, .string d] 53)) (some ⟨w.heap.size, 0, none⟩) 1 1 [(p, d)] :=
  ⟨rfl, (Blk.new w [.string p, .string d] 53).rd, Nat.le_refl _, by omega, by omega, by simp; exact ⟨hp, hd⟩⟩

/-! ### Few -/
def fewE (e : Ent) : Bool := decide (e.path.size ≤ 100) && decide (e.data.size ≤ 1000)
def few9 (es : List Ent) : Bool := decide (es.length ≤ 60) && es.all fewE
theorem few9_sz {es : List Ent} (h : few9 es = true) : es.length ≤ 60 ∧ ∀ e ∈ es, e.path.size ≤ 100 ∧ e.data.size ≤ 1000 := by
  simp only [few9, fewE, Bool.and_eq_true, decide_eq_true_eq, List.all_eq_true] at h
  exact h
theorem few9_no {es : List Ent} {j : Nat} (hj : j < es.length) (h : fewE es[j] = false) : false = few9 es := by
  cases hf : few9 es with
  | false => rfl
  | true =>
    rw [few9, Bool.and_eq_true, List.all_eq_true] at hf
    rw [hf.2 _ (List.getElem_mem hj)] at h
    cases h
set_option maxHeartbeats 1000000 in
theorem few9_any (A : Option Addr) (n c : Nat) (es : List Ent) (w : World) (hl : es.length = n) (hr : Rd w A (entV es)) :
    Calls Tryd.prog 10 #[.slice A n c] w fun e w' => e = .returned (.bool (few9 es)) ∧ w = w' := by
  have HL := hid hl
  clear hl
  by_cases h60 : (60 : Int) < n
  · go_enter Tryd.func10, Tryd.ntmps10
    go_wp2
    go_ret
    refine ⟨ret_bool ?_, rfl⟩
    symm
    refine not_true fun h => ?_
    have := (few9_sz h).1
    have := HL.out
    omega
  · go_enter Tryd.func10, Tryd.ntmps10
    go_wp2_with fail
    go_loop [3] (fun i => ∃ j : Nat, j ≤ n ∧ i = .int .i64 j ∧ Hid ((es.take j).all fewE = true)) (fun i => n - (intOf i).toNat)
    case atStart => exact ⟨0, by omega, rfl, by simp [Hid]⟩
    case round =>
      obtain ⟨j, hj, rfl, HO⟩ := hrel
      by_cases hjn : j < n
      · have hjl : j < es.length := by rw [HL.out]; exact hjn
        obtain ⟨b, off, rfl, h1, -, h2, -⟩ := hr.ent hjl
        have HN := hid (@few9_no es j hjl)
        have HK := hid (all_take_more fewE es j hjl)
        have hz : (0 : Int) ≤ j := by omega
        have hlt : (j : Int) < n := by omega
        generalize es[j] = f at *
        by_cases hx : (100 : Int) < f.path.size
        · go_wp2
          go_ret
          exact ⟨ret_bool (HN.out (by simp [fewE]; omega)), rfl⟩
        · have hxb : decide ((100 : Int) < f.path.size) = false := by simp; omega
          by_cases hd : (1000 : Int) < f.data.size
          · go_wp2
            go_ret
            exact ⟨ret_bool (HN.out (by simp [fewE]; omega)), rfl⟩
          · have hdb : decide ((1000 : Int) < f.data.size) = false := by simp; omega
            go_wp2
            go_round
            case rel => exact ⟨j + 1, by omega, by go_num, hid (by rw [HK.out, HO.out]; simp [fewE]; omega)⟩
            case measure => simp [intOf]; omega
      · have HE := hid (show j = n by omega)
        have hnlt : ¬ (j : Int) < n := by omega
        go_wp2
        go_ret
        refine ⟨ret_bool ?_, rfl⟩
        have ho := HO.out
        rw [HE.out, ← HL.out, List.take_length] at ho
        rw [few9, ho, decide_eq_true (by rw [HL.out]; omega)]
        rfl
theorem few9_et {w : World} {A : Option Addr} {n c : Nat} {es : List Ent} (hf : few9 es = true) (hl : es.length = n) (hr : Rd w A (entV es)) (hc : n ≤ c) (hcm : c ≤ maxLen) : Et w A n c es := by
  obtain ⟨h1, h2⟩ := few9_sz hf
  exact ⟨hl, hr, hc, by omega, hcm, fun f hm => by have := h2 f hm; omega⟩

/-! ### The small case -/
abbrev sa : ByteArray := ⟨#[97]⟩
abbrev sb : ByteArray := ⟨#[98]⟩
abbrev s1 : ByteArray := ⟨#[49]⟩
abbrev L1 : List Ent := [⟨sa, true, s1, 1, 0⟩]
abbrev L2 : List Ent := [⟨sa, false, noS, 1, 1⟩, ⟨sb, true, noS, 0, 1⟩]
theorem smB1 : bothL [] [(sa, s1)] = [(fresh sa, kept (fresh sa) s1)] := by rw [bothL_t, bothL_nil]
theorem smB2 : bothL L1 [(sb, noS)] = [(⟨sa, true, s1, 1, 0⟩, ⟨sa, false, noS, 1, 0⟩), (fresh sb, kept (fresh sb) noS)] := by
  rw [bothL_gt (by decide) (by decide +kernel), bothL_t, bothL_nil]; rfl
theorem smB3 : bothL L2 [(sb, noS)] = [(⟨sa, false, noS, 1, 1⟩, ⟨sa, false, noS, 1, 1⟩), (⟨sb, true, noS, 0, 1⟩, ⟨sb, true, noS, 0, 1⟩)] := by
  rw [bothL_gt (by decide) (by decide +kernel), bothL_eq (by rfl), bothL_nil]; rfl
theorem smN1 : scanN [] [(sa, s1)] 0 = 0 := by rw [scanN, smB1]; decide +kernel
theorem smN2 : scanN L1 [(sb, noS)] 1 = 0 := by rw [scanN, smB2]; decide +kernel
theorem smN3 : scanN L2 [(sb, noS)] 0 = 0 := by rw [scanN, smB3]; decide +kernel
theorem smA1 : scanA [] [(sa, s1)] 0 = L1 := by rw [scanA, if_pos smN1, smB1]; decide +kernel
theorem smA2 : scanA L1 [(sb, noS)] 1 = L2 := by rw [scanA, if_pos smN2, smB2]; decide +kernel
theorem smA3 : scanA L2 [(sb, noS)] 0 = L2 := by rw [scanA, if_pos smN3, smB3]; decide +kernel
theorem smC1 : scanC [] [(sa, s1)] 0 = [sa] := by rw [scanC, if_pos smN1, smB1]; decide +kernel
theorem smC2 : scanC L1 [(sb, noS)] 1 = [sa, sb] := by rw [scanC, if_pos smN2, smB2]; decide +kernel
theorem smC3 : scanC L2 [(sb, noS)] 0 = [] := by rw [scanC, if_pos smN3, smB3]; decide +kernel
theorem smR2 : archR L2 = true := by decide +kernel
theorem smR4 : archR [⟨sa, true, noS, 0, 0⟩] = false := by decide +kernel
theorem smF2 : findE L2 sb = 1 := by decide +kernel
theorem smT2 : (treeE L2).length = 1 := by decide +kernel
end Go.Proofs.YtnkkjedckehoaaaDoor
