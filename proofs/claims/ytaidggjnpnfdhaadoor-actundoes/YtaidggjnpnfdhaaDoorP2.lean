/- The texts Sk, Qf, Qr, Ua, Ub, Uc, Xa, Cr, Ck, Cl, Xb, App, Shelf2, Jc, Jd, Xc, Je, Ji, Jj, ArgL, Jb, Jh, Jf, Rst, Jg, Jk, Jm, Jn, Sm, Jo, Jp, Jr, Jv, in one. -/
import Derived.Test.YtaidggjnpnfdhaaDoorP1
import Derived.Deep.RegionHeld3
import Derived.Lib.AppendZeros
import Derived.Shelf.Sort.Plain
import Derived.Shelf.Slices.CompactS
import Derived.Shelf.Slices.In.SortNone
import Derived.Test.YtaidggjnpnfdhaaDoorProg
import Derived.Lib.OwnBridge
import Derived.Sort.OwnSorted
import Derived.Sort.Grow
import Derived.Deep.DeepCutAuto
import Derived.Laws.StructEq
import Derived.Deep.Slices
import Derived.Lib.SmallJoins
namespace Go.Proofs.YtaidggjnpnfdhaaDoor
open Go.RowKit

/-! ### What Scan answers -/
theorem newE_sz {a : Int} {p : Ent × Ent} (h : SzE p.2) : SzE (newE a p) := by unfold SzE; rw [newE_path, newE_data]; exact h
theorem scanA_sz {es : List Ent} {fs : List Fil} (a : Int) (h1 : ∀ e ∈ es, SzE e) (h2 : ∀ f ∈ fs, SzF f) : ∀ e ∈ scanA es fs a, SzE e := by
  intro e he
  unfold scanA at he
  split at he
  · obtain ⟨p, hp, rfl⟩ := List.mem_map.1 he
    exact newE_sz (both_sz h1 h2 p hp)
  · cases he
theorem scanA_len (es : List Ent) (fs : List Fil) (a : Int) : (scanA es fs a).length ≤ 32 := by
  unfold scanA
  split
  · rename_i h
    rw [outP, List.length_map]
    exact okP_len (scanN_ok.1 h).2.2
  · simp
theorem scanC_len (es : List Ent) (fs : List Fil) (a : Int) : (scanC es fs a).length ≤ 32 := by
  unfold scanC
  split
  · rename_i h
    have := okP_len (scanN_ok.1 h).2.2
    have := chgP_len (bothL es fs)
    omega
  · simp
/-- What Scan answers, to be read. -/
def ScanOut (w : World) (es : List Ent) (fs : List Fil) (a : Int) (e : Ending) (w' : World) : Prop :=
  ∃ A' c' B' d', e = .returned (.tuple #[.slice A' (scanA es fs a).length c', .slice B' (scanC es fs a).length d', .int .i64 (scanN es fs a : Nat)]) ∧ Et w' A' (scanA es fs a).length c' (scanA es fs a) ∧ Rd w' B' (strV (scanC es fs a)) ∧ Below w.heap.size w w'
theorem et_nil (w : World) : Et w none 0 0 [] := ⟨rfl, .inl rfl, Nat.le_refl _, by omega, by omega, by simp⟩
theorem ft_nil (w : World) : Ft w none 0 0 [] := ⟨rfl, .inl rfl, Nat.le_refl _, by omega, by omega, by simp⟩
theorem ft_one (w : World) (p d : ByteArray) (hp : p.size < 4294967281) (hd : d.size ≤ 140737488355328) : Ft (w.alloc (.cells #[.string p, .string d] 46)) (some ⟨w.heap.size, 0, none⟩) 1 1 [(p, d)] :=
  ⟨rfl, (Blk.new w [.string p, .string d] 46).rd, Nat.le_refl _, by omega, by omega, by simp; exact ⟨hp, hd⟩⟩

/-! ### Few -/
def fewE (e : Ent) : Bool := decide (e.path.size ≤ 100) && decide (e.data.size ≤ 1000)
def few9 (es : List Ent) : Bool := decide (es.length ≤ 60) && es.all fewE
theorem few9_sz {es : List Ent} (h : few9 es = true) : es.length ≤ 60 ∧ ∀ e ∈ es, e.path.size ≤ 100 ∧ e.data.size ≤ 1000 := by
  simp only [few9, fewE, Bool.and_eq_true, decide_eq_true_eq, List.all_eq_true] at h
  exact h
theorem few9_no {es : List Ent} {j : Nat} (hj : j < es.length) (h : fewE es[j] = false) : false = few9 es := by
  cases hf : few9 es with
  | false => rfl
  | true =>
    rw [few9, Bool.and_eq_true, List.all_eq_true] at hf
    rw [hf.2 _ (List.getElem_mem hj)] at h
    cases h
theorem few9_et {w : World} {A : Option Addr} {n c : Nat} {es : List Ent} (hf : few9 es = true) (hl : es.length = n) (hr : Rd w A (entV es)) (hc : n ≤ c) (hcm : c ≤ maxLen) : Et w A n c es := by
  obtain ⟨h1, h2⟩ := few9_sz hf
  exact ⟨hl, hr, hc, by omega, hcm, fun f hm => by have := h2 f hm; omega⟩

/-! ### The small case -/
abbrev sa : ByteArray := ⟨#[97]⟩
abbrev sb : ByteArray := ⟨#[98]⟩
abbrev s1 : ByteArray := ⟨#[49]⟩
abbrev L1 : List Ent := [⟨sa, true, s1, 1, 0⟩]
abbrev L2 : List Ent := [⟨sa, false, noS, 1, 1⟩, ⟨sb, true, noS, 0, 1⟩]
theorem smB1 : bothL [] [(sa, s1)] = [(fresh sa, kept (fresh sa) s1)] := by rw [bothL_t, bothL_nil]
theorem smB2 : bothL L1 [(sb, noS)] = [(⟨sa, true, s1, 1, 0⟩, ⟨sa, false, noS, 1, 0⟩), (fresh sb, kept (fresh sb) noS)] := by
  rw [bothL_gt (by decide) (by decide +kernel), bothL_t, bothL_nil]; rfl
theorem smB3 : bothL L2 [(sb, noS)] = [(⟨sa, false, noS, 1, 1⟩, ⟨sa, false, noS, 1, 1⟩), (⟨sb, true, noS, 0, 1⟩, ⟨sb, true, noS, 0, 1⟩)] := by
  rw [bothL_gt (by decide) (by decide +kernel), bothL_eq (by rfl), bothL_nil]; rfl
theorem smN1 : scanN [] [(sa, s1)] 0 = 0 := by rw [scanN, smB1]; decide +kernel
theorem smN2 : scanN L1 [(sb, noS)] 1 = 0 := by rw [scanN, smB2]; decide +kernel
theorem smN3 : scanN L2 [(sb, noS)] 0 = 0 := by rw [scanN, smB3]; decide +kernel
theorem smA1 : scanA [] [(sa, s1)] 0 = L1 := by rw [scanA, if_pos smN1, smB1]; decide +kernel
theorem smA2 : scanA L1 [(sb, noS)] 1 = L2 := by rw [scanA, if_pos smN2, smB2]; decide +kernel
theorem smA3 : scanA L2 [(sb, noS)] 0 = L2 := by rw [scanA, if_pos smN3, smB3]; decide +kernel
theorem smC1 : scanC [] [(sa, s1)] 0 = [sa] := by rw [scanC, if_pos smN1, smB1]; decide +kernel
theorem smC2 : scanC L1 [(sb, noS)] 1 = [sa, sb] := by rw [scanC, if_pos smN2, smB2]; decide +kernel
theorem smC3 : scanC L2 [(sb, noS)] 0 = [] := by rw [scanC, if_pos smN3, smB3]; decide +kernel
theorem smR2 : archR L2 = true := by decide +kernel
theorem smR4 : archR [⟨sa, true, noS, 0, 0⟩] = false := by decide +kernel
theorem smF2 : findE L2 sb = 1 := by decide +kernel
theorem smT2 : (treeE L2).length = 1 := by decide +kernel
end Go.Proofs.YtaidggjnpnfdhaaDoor
namespace Go.Proofs.YtaidggjnpnfdhaaDoor
open Go.RowKit

theorem okB_no {b : UInt8} (h : okB b = false) : ((b.toNat : Int) < 97 ∨ (122 : Int) < b.toNat) ∧ ((b.toNat : Int) < 48 ∨ (57 : Int) < b.toNat) ∧ (b.toNat : Int) ≠ 46 ∧ (b.toNat : Int) ≠ 45 := by
  simp [okB] at h
  omega
theorem okB_yes {b : UInt8} (h : okB b = true) : ((97 : Int) ≤ b.toNat ∧ (b.toNat : Int) ≤ 122) ∨ ((48 : Int) ≤ b.toNat ∧ (b.toNat : Int) ≤ 57) ∨ (b.toNat : Int) = 46 ∨ (b.toNat : Int) = 45 := by
  simp [okB] at h
  omega

/-- What is cut so far: the pieces that end, and from where the last one goes on. -/
def CutInv (l : List UInt8) (j f : Nat) (done : List (List UInt8)) : Prop :=
  (j ≤ l.length ∧ f ≤ j ∧ 47 ∉ (l.drop f).take (j - f) ∧ done ++ pieces (l.drop f) = pieces l) ∨ (j = l.length + 1 ∧ done = pieces l)
theorem cut_last {l : List UInt8} {f : Nat} {done : List (List UInt8)} (h : CutInv l l.length f done) : f ≤ l.length ∧ done ++ [(l.drop f).take (l.length - f)] = pieces l := by
  rcases h with ⟨_, h2, h3, h4⟩ | ⟨h1, _⟩
  · have e : (l.drop f).take (l.length - f) = l.drop f := List.take_of_length_le (by simp)
    rw [e] at h3 ⊢
    rw [← h4, pieces_none _ h3]
    exact ⟨h2, rfl⟩
  · omega
theorem drop_at {l : List UInt8} {j f : Nat} (h : j < l.length) (hf : f ≤ j) : l.drop f = (l.drop f).take (j - f) ++ l[j] :: l.drop (j + 1) := by
  have e1 : (l.drop f).drop (j - f) = l.drop j := by rw [List.drop_drop]; congr 1; omega
  have e2 : l.drop j = l[j] :: l.drop (j + 1) := List.drop_eq_getElem_cons h
  rw [← e2, ← e1, List.take_append_drop]
theorem cut_stroke {l : List UInt8} {j f : Nat} {done : List (List UInt8)} (h : CutInv l j f done) (hj : j < l.length) (hb : l[j] = 47) :
    f ≤ j ∧ CutInv l (j + 1) (j + 1) (done ++ [(l.drop f).take (j - f)]) := by
  rcases h with ⟨_, h2, h3, h4⟩ | ⟨h1, _⟩
  · refine ⟨h2, .inl ⟨by omega, Nat.le_refl _, by simp, ?_⟩⟩
    have e := drop_at hj h2
    rw [hb] at e
    have e2 : pieces (l.drop f) = (l.drop f).take (j - f) :: pieces (l.drop (j + 1)) := by
      conv => lhs; rw [e]
      rw [pieces_app, pieces_none _ h3]
      rfl
    rw [← h4, e2]
    simp
  · omega
theorem cut_on {l : List UInt8} {j f : Nat} {done : List (List UInt8)} (h : CutInv l j f done) (hj : j < l.length) (hb : l[j] ≠ 47) : CutInv l (j + 1) f done := by
  rcases h with ⟨_, h2, h3, h4⟩ | ⟨h1, _⟩
  · refine .inl ⟨by omega, by omega, ?_, h4⟩
    have e : j + 1 - f = (j - f) + 1 := by omega
    have e2 : (l.drop f)[j - f]? = some l[j] := by rw [List.getElem?_drop, show f + (j - f) = j by omega, List.getElem?_eq_getElem hj]
    rw [e, List.take_add_one, e2]
    intro hm
    rcases List.mem_append.1 hm with hm | hm
    · exact h3 hm
    · simp at hm
      exact hb hm.symm
  · omega
theorem ba_at (s : ByteArray) (j : Nat) (h : j < s.size) : s[j] = s.data.toList[j]'(by have := size_len s; omega) := rfl

/-- A slice of pieces that the call made. -/
def CutPost (w : World) (L : List (List UInt8)) (e : Ending) (w' : World) : Prop :=
  ∃ A c, e = .returned (.slice A L.length c) ∧ Rd w' A (strV (L.map mkS)) ∧ L.length ≤ c ∧ Below w.heap.size w w'

end Go.Proofs.YtaidggjnpnfdhaaDoor
namespace Go.Proofs.YtaidggjnpnfdhaaDoor
open Go.RowKit

theorem all_take_step (L : List (List UInt8)) (j : Nat) (h : j < L.length) : (L.take (j + 1)).all nameL = ((L.take j).all nameL && nameL L[j]) := by
  rw [List.take_add_one, List.getElem?_eq_getElem h, List.all_append]
  simp
theorem not_fine_at {L : List (List UInt8)} {j : Nat} (h : j < L.length) (hb : nameL L[j] = false) : fineL L = false := by
  cases hf : fineL L with
  | false => rfl
  | true =>
    have := fine_all hf L[j] (List.getElem_mem h)
    rw [hb] at this
    cases this

theorem pre_no {s d : List UInt8} (h : s.length ≤ d.length) : Lib.hasPrefix s (d ++ [47]) = false := by
  cases hp : Lib.hasPrefix s (d ++ [47]) with
  | false => rfl
  | true =>
    have := Lib.hasPrefix_of_take s (d ++ [47])
    rw [hp] at this
    simp at this
    omega
theorem pre_at {s d : List UInt8} (h : d.length < s.length) : Lib.hasPrefix s (d ++ [47]) = (s.take d.length == d && s[d.length] == 47) := by
  rw [← Lib.hasPrefix_of_take]
  have e1 : decide ((d ++ [47]).length ≤ s.length) = true := by simp; omega
  have e2 : s.take (d ++ [47]).length = s.take d.length ++ [s[d.length]] := by
    rw [List.length_append, List.length_cons, List.length_nil, List.take_add_one, List.getElem?_eq_getElem h]
    rfl
  rw [e1, e2, Bool.true_and, Bool.eq_iff_iff]
  simp only [beq_iff_eq, Bool.and_eq_true]
  constructor
  · intro e
    have := List.append_inj' e rfl
    exact ⟨this.1, by simpa using this.2⟩
  · rintro ⟨h1, h2⟩
    rw [h1, h2]

end Go.Proofs.YtaidggjnpnfdhaaDoor
namespace Go.Proofs.YtaidggjnpnfdhaaDoor
open Go.RowKit

/-- Where a path stands, in a tree that rises. -/
def posT (fs : List Fil) (p : List UInt8) : Int := if thereT fs p then ((lowT fs p).length : Int) else -1
theorem pos_at {fs : List Fil} {p : List UInt8} (hs : Srt fs) {j : Nat} (hj : j < fs.length) (e : pth fs[j] = p) : posT fs p = j := by
  have ht : thereT fs p = true := there_iff.2 ⟨fs[j], List.getElem_mem hj, e⟩
  obtain ⟨hl, e2⟩ := (there_at hs).1 ht
  rw [posT, if_pos ht]
  have hp := List.pairwise_iff_getElem.1 hs
  generalize (lowT fs p).length = k at *
  rcases Nat.lt_trichotomy k j with h | h | h
  · have h1 := hp k j hl hj h
    rw [e2, e] at h1
    exact absurd h1 (List.lt_irrefl _)
  · rw [h]
  · have h1 := hp j k hj hl h
    rw [e2, e] at h1
    exact absurd h1 (List.lt_irrefl _)

end Go.Proofs.YtaidggjnpnfdhaaDoor
namespace Go.Proofs.YtaidggjnpnfdhaaDoor
open Go.RowKit

def ltAt (fs : List Fil) (j : Nat) (hj : j < fs.length) : Prop := ∀ _ : 0 < j, pth fs[j - 1] < pth fs[j]
theorem lt_none {fs : List Fil} {j : Nat} (hj : j < fs.length) : ¬ 0 < j → ltAt fs j hj := fun h0 h => absurd h h0
def okAt (fs : List Fil) (i : Nat) (hi : i < fs.length) : Prop :=
  rightL (pth fs[i]) = true ∧ fs[i].2.size ≤ 600 ∧ (∀ _ : 0 < i, pth fs[i - 1] < pth fs[i]) ∧ ∀ k (hk : k < i), underL (pth fs[i]) (pth (fs[k]'(by omega))) = false
theorem tree_bad {fs : List Fil} (h : treeR fs = true) (i : Nat) (hi : i < fs.length) : okAt fs i hi := by
  have hR := (treeR_iff fs).1 h
  have hs := List.pairwise_iff_getElem.1 hR.srt
  exact ⟨hR.paths _ (List.getElem_mem hi), hR.datas _ (List.getElem_mem hi), fun h0 => hs (i - 1) i (by omega) hi (by omega), fun k hk => hR.apart _ (List.getElem_mem hi) _ (List.getElem_mem _)⟩
theorem tree_good {fs : List Fil} (h16 : fs.length ≤ 16) (h : ∀ i (hi : i < fs.length), okAt fs i hi) : treeR fs = true := by
  have hl : (fs.map pth).length = fs.length := by simp
  have e : ∀ i (hi : i < fs.length), (fs.map pth).getD i [] = pth fs[i] := fun i hi => by simp [List.getD, hi]
  unfold treeR
  rw [Bool.and_eq_true, Bool.and_eq_true, Bool.and_eq_true, decide_eq_true_eq]
  refine ⟨⟨⟨h16, List.all_eq_true.2 fun f hf => ?_⟩, List.all_eq_true.2 fun i hi => ?_⟩, (apart_idx _).2 fun i k hik hk => ?_⟩
  · obtain ⟨i, hi, rfl⟩ := List.mem_iff_getElem.1 hf
    exact decide_eq_true (h i hi).2.1
  · have hi' : i < fs.length := by rw [← hl]; exact List.mem_range.1 hi
    unfold srtAt
    rw [Bool.and_eq_true, Bool.or_eq_true, e i hi']
    refine ⟨(h i hi').1, ?_⟩
    by_cases h0 : i = 0
    · left; simp [h0]
    · right
      rw [e (i - 1) (by omega), less_iff]
      exact (h i hi').2.2.1 (by omega)
  · rw [List.getElem_map, List.getElem_map]
    exact (h k (by rw [← hl]; exact hk)).2.2.2 i hik

end Go.Proofs.YtaidggjnpnfdhaaDoor
namespace Go.Proofs.YtaidggjnpnfdhaaDoor
open Go.RowKit

/-! ### append onto files of the call's own -/
/-- Files in memory of the call's own, as an append leaves them. -/
def OwnR (base : Nat) (w : World) (A : Option Addr) (n c : Nat) (fs : List Fil) : Prop := fs.length = n ∧ w.ownsRow base 46 2 (.slice A n c) n (filV fs)
theorem OwnR.form {base : Nat} {w : World} {A : Option Addr} {n c : Nat} {fs : List Fil} (h : OwnR base w A n c fs) : n ≤ c ∧ c ≤ 9223372036854775807 ∧ Rd w A (filV fs) := by
  obtain ⟨hl, h⟩ := h
  rcases h.2 with ⟨hv, hn⟩ | ⟨g, cap, cur, hv, _, _, h1, h2, _⟩
  · injection hv with a1 a2 a3
    subst a1 a2 a3
    exact ⟨Nat.le_refl _, by omega, .inl (List.eq_nil_of_length_eq_zero (by rw [filV_length, hl]))⟩
  · injection hv with a1 a2 a3
    subst a1 a3
    exact ⟨h1, h2, .inr ⟨_, rfl, h.cells (g := g) rfl⟩⟩
theorem OwnR.ft {base : Nat} {w : World} {A : Option Addr} {n c : Nat} {fs : List Fil} (h : OwnR base w A n c fs) (hn : n ≤ 140737488355328) (hs : ∀ f ∈ fs, f.1.size < 4294967281 ∧ f.2.size ≤ 140737488355328) : Ft w A n c fs := ⟨h.1, h.form.2.2, h.form.1, hn, h.form.2.1, hs⟩
theorem OwnR.empty (w : World) : OwnR w.heap.size (w.alloc (.cells #[] 46)) (some ⟨w.heap.size, 0, none⟩) 0 0 [] :=
  ⟨rfl, World.ownsRow_made w #[] 0 (Nat.le_refl _) (by unfold maxLen; omega) (by simp)⟩
theorem app_nilF {w : World} (base : Nat) (ty : TypeId) (v : Value) (n : Nat) (xs : List Value) (hown : w.ownsRow base 46 2 v n xs) (c : Nat) : (Builtin.append_ #[22, 22] ty #[v, .slice none 0 c]).run Tryd.prog w = .ok v w := by
  obtain ⟨i, hi, hz0, hz1, hz2⟩ := info_parts Tryd.infoF
  rcases hown.2 with ⟨rfl, rfl⟩ | ⟨g, cap, cur, rfl, _, _, hnc, _⟩
  · simp [Builtin.append_, run_underlying Tryd.underlying22, sizeOf, typeInfo, hi, Builtin.lenOf, Builtin.firstCells]
  · simp [Builtin.append_, run_underlying Tryd.underlying22, sizeOf, typeInfo, hi, Builtin.lenOf, Builtin.firstCells, hnc, storeCells]
/-- append(v, x...), v files of the call's own: its run. -/
theorem run_appF {w : World} {base : Nat} {A : Option Addr} {n c : Nat} {fs : List Fil} (hown : OwnR base w A n c fs) (B : Option Addr) (m d : Nat) (gs : List Fil) (hl : gs.length = m) (hr : Rd w B (filV gs)) (hnm : n + m ≤ 1000000) (hbase : base ≤ w.heap.size) :
    ∃ A' c' w', Hid (∀ ty, (Builtin.append_ #[22, 22] ty #[.slice A n c, .slice B m d]).run Tryd.prog w = .ok (.slice A' (n + m) c') w') ∧ OwnR base w' A' (n + m) c' (fs ++ gs) ∧ w.grownBy w' (Value.slice A n c).ownBlock := by
  obtain ⟨i, hi, hz0, hz1, hz2⟩ := info_parts Tryd.infoF
  have hll : (fs ++ gs).length = n + m := by rw [List.length_append, hown.1, hl]
  have own : ∀ ad, (∀ j u, (filV gs)[j]? = some u → w.cell? (ad.add j) = some u) → ∃ A' c' w', Hid (∀ ty, (Builtin.append_ #[22, 22] ty #[.slice A n c, .slice (some ad) m d]).run Tryd.prog w = .ok (.slice A' (n + m) c') w') ∧ OwnR base w' A' (n + m) c' (fs ++ gs) ∧ w.grownBy w' (Value.slice A n c).ownBlock := by
    intro ad hc
    have key := fun ty => run_append_own (P := Tryd.prog) w base 22 ty 46 i _ 2 32 Tryd.underlying22 hi hz0 hz1 hz2 rfl (by decide) _ n (filV fs) hown.2 ad m d (filV gs) (by rw [filV_length, hl]) hc (filV_one _) (by unfold maxLen; omega) (by omega) hbase
    obtain ⟨v', w', h2, h3, h4, _⟩ := key 0
    have hv : ∃ A' c', v' = .slice A' (n + m) c' := by
      rcases h3.2 with ⟨rfl, e⟩ | ⟨g, cap, cur, rfl, _⟩
      · exact ⟨none, 0, by rw [e]⟩
      · exact ⟨_, cap, rfl⟩
    obtain ⟨A', c', rfl⟩ := hv
    exact ⟨A', c', w', fun ty => h2, ⟨hll, by rw [filV_append]; exact h3⟩, h4⟩
  rcases hr with h0 | ⟨ad, rfl, hc⟩
  · have hg : gs = [] := List.eq_nil_of_length_eq_zero (by have h5 := congrArg List.length h0; rw [filV_length, List.length_nil] at h5; omega)
    subst hg
    obtain rfl : m = 0 := hl.symm
    cases B with
    | none => exact ⟨A, c, w, fun ty => app_nilF base ty _ n _ hown.2 d, by rw [List.append_nil]; exact hown, World.grownBy.refl _ _⟩
    | some ad => exact own ad (by simp [filV])
  · exact own ad hc
theorem OwnR.block {base : Nat} {w : World} {A : Option Addr} {n c : Nat} {fs : List Fil} (h : OwnR base w A n c fs) : ∀ k, (Value.slice A n c).ownBlock = some k → base ≤ k := fun k hk => (h.2.lt k hk).1

/-- Files, and an error's number, were answered: what is read of them. -/
def OutR (w : World) (out : List Fil) (er : Nat) (e : Ending) (w' : World) : Prop :=
  ∃ A n c, e = .returned (.tuple #[.slice A n c, .int .i64 er]) ∧ Ft w' A n c out ∧ Below w.heap.size w w'
theorem outR_err {w w' : World} {out : List Fil} {er e : Nat} (h : er = e) (ho : out = []) (hb : Below w.heap.size w w') : OutR w out er (.returned (.tuple #[.slice none 0 0, .int .i64 (e : Int)])) w' := by
  subst h ho
  exact ⟨none, 0, 0, rfl, ⟨rfl, .inl rfl, Nat.le_refl _, by omega, by omega, by simp⟩, hb⟩

theorem Rd.pre {w : World} {A : Option Addr} {xs : List Value} (h : Rd w A xs) (q : Nat) : Rd w A (xs.take q) := by
  rcases h with rfl | ⟨ad, rfl, hc⟩
  · exact .inl (by simp)
  · refine .inr ⟨ad, rfl, fun j u hu => hc j u ?_⟩
    rw [List.getElem?_take] at hu
    split at hu
    · exact hu
    · cases hu
theorem Rd.post {w : World} {b off : Nat} {xs : List Value} (h : Rd w (some ⟨b, off, none⟩) xs) (q : Nat) : Rd w (some ⟨b, off + q, none⟩) (xs.drop q) := by
  refine .inr ⟨_, rfl, fun j u hu => ?_⟩
  rw [List.getElem?_drop] at hu
  rw [Addr.add_lit, Nat.add_assoc]
  exact h.cells _ _ hu
theorem take_szs {fs : List Fil} {P : Fil → Prop} (h : ∀ f ∈ fs, P f) {gs : List Fil} (hg : ∀ f ∈ gs, f ∈ fs) : ∀ f ∈ gs, P f := fun f hf => h f (hg f hf)

end Go.Proofs.YtaidggjnpnfdhaaDoor
namespace Go.Proofs.YtaidggjnpnfdhaaDoor
open Go.RowKit

end Go.Proofs.YtaidggjnpnfdhaaDoor
namespace Go.Proofs.YtaidggjnpnfdhaaDoor
open Go.RowKit

/-- A pair lies there. -/
def PairAt (w : World) (g : Nat) (l r : Int) : Prop := w.cell? ⟨g, 0, none⟩ = some (.int .i64 l) ∧ w.cell? ⟨g, 1, none⟩ = some (.int .i64 r)
theorem PairAt.below {w w' : World} {g : Nat} {l r : Int} (h : PairAt w g l r) (hb : Below w.heap.size w w') : PairAt w' g l r :=
  ⟨(hb.cell (World.block_lt_of_cell? w _ h.1)).trans h.1, (hb.cell (World.block_lt_of_cell? w _ h.2)).trans h.2⟩
theorem PairAt.lt {w : World} {g : Nat} {l r : Int} (h : PairAt w g l r) : g < w.heap.size := World.block_lt_of_cell? w _ h.1
theorem PairAt.new (w : World) (l r : Int) (t : TypeId) : PairAt (w.alloc (.cells #[.int .i64 l, .int .i64 r] t)) w.heap.size l r :=
  ⟨new_cells w t [.int .i64 l, .int .i64 r] 0 _ rfl, new_cells w t [.int .i64 l, .int .i64 r] 1 _ rfl⟩
theorem PairAt.alloc {w : World} {g : Nat} {l r : Int} (h : PairAt w g l r) (o : Obj) : PairAt (w.alloc o) g l r := h.below ((Below.refl _ _).alloc (Nat.le_refl _) o)

theorem below_al {w w' : World} (o : Obj) (h : Below (w.alloc o).heap.size (w.alloc o) w') : Below w.heap.size w w' := below2 ((Below.refl _ _).alloc (Nat.le_refl _) o) h
end Go.Proofs.YtaidggjnpnfdhaaDoor
namespace Go.Proofs.YtaidggjnpnfdhaaDoor
open Go.RowKit

end Go.Proofs.YtaidggjnpnfdhaaDoor
namespace Go.Proofs.YtaidggjnpnfdhaaDoor
open Go.RowKit

theorem and_bit (n : Int) : bits BinOp.and IntKind.i64 n 1 = n % 2 := by
  show IntKind.i64.wrap ((BitVec.ofInt 64 n &&& BitVec.ofInt 64 1).toNat : Int) = _
  rw [BitVec.toNat_and, show (BitVec.ofInt 64 1).toNat = 1 by decide, Nat.and_one_is_mod, BitVec.toNat_ofInt, IntKind.wrap_i64]
  have e : ((2 ^ 64 : Nat) : Int) = 18446744073709551616 := by decide
  rw [e]
  omega
theorem and_odd (n : Int) : (bits BinOp.and IntKind.i64 n 1 == 1) = odd n := by
  rw [and_bit]
  unfold odd
  rw [Bool.eq_iff_iff]
  simp only [beq_iff_eq, bne_iff_ne]
  omega

end Go.Proofs.YtaidggjnpnfdhaaDoor
namespace Go.Proofs.YtaidggjnpnfdhaaDoor
open Go.RowKit

/-- append of one, onto a row of the call's own. -/
theorem app_own2 {W : World} {n₀ : Nat} {v : Value} {k : Nat} {xs : List Value} {T E : TypeId} {z : Value} {size bytes : Nat} (hT : Tryd.prog.underlying T = some (.slice E)) (hinf : (Tryd.prog.info? E).map (fun i => (i.zero, i.size, i.bytes)) = some (some z, size, bytes)) (hz : z.cells.size = size) (h0 : 0 < size)
    (hrow : W.ownsRow n₀ E size v k xs) (hn : n₀ ≤ W.heap.size) (hk : (k + 1) * bytes ≤ 140737488355328) (hk2 : k + 1 ≤ maxLen) (cs : List Value) (hcs : cs.length = 1 * size) (hc1 : ∀ u ∈ cs, u.oneCell' = true) :
    ∃ A' c' w1, Hid ((Builtin.append_ #[T, T] T #[v, .slice (some ⟨W.heap.size, 0, none⟩) 1 1]).run Tryd.prog (W.alloc (.cells cs.toArray E)) = .ok (.slice A' (k + 1) c') w1) ∧ w1.ownsRow n₀ E size (.slice A' (k + 1) c') (k + 1) (xs ++ cs) ∧ (W.alloc (.cells cs.toArray E)).grownBy w1 v.ownBlock ∧ Below n₀ W w1 := by
  obtain ⟨i, hi, hz0, hz1, hz2⟩ := info_parts hinf
  obtain ⟨v', w1, h2, h3, h4, -⟩ := run_append_own (P := Tryd.prog) (W.alloc (.cells cs.toArray E)) n₀ T T E i z size bytes hT hi hz0 hz1 hz2 hz h0 v k xs (hrow.alloc _) ⟨W.heap.size, 0, none⟩ 1 1 cs hcs (new_cells W E cs) hc1 hk2 hk (by simp; omega)
  obtain ⟨g', cap', rfl⟩ := ownsRow_succ h3
  exact ⟨_, _, w1, h2, h3, h4, ((Below.refl n₀ W).alloc hn _).grown h4 (by simp; omega) fun j ej => (hrow.lt j ej).1⟩
theorem filesOf_more (es : List Ent) (j : Nat) (h : j < es.length) : filesOf (es.take (j + 1)) = filesOf (es.take j) ++ (if es[j].has then [(es[j].path, es[j].data)] else []) := by
  rw [List.take_add_one, List.getElem?_eq_getElem h, filesOf_append]
  congr 1
  simp only [Option.toList, filesOf_cons]
  rfl
/-! ### Right -/
def okE (es : List Ent) (i : Nat) (hi : i < es.length) : Prop := rightL (epth es[i]) = true ∧ fineE es[i] = true ∧ ∀ _ : 0 < i, epth es[i - 1] < epth es[i]
theorem arch_bad {es : List Ent} (h : archR es = true) (i : Nat) (hi : i < es.length) : okE es i hi := by
  have hR := (archR_iff es).1 h
  have hs := List.pairwise_iff_getElem.1 hR.srt
  exact ⟨hR.paths _ (List.getElem_mem hi), hR.fine _ (List.getElem_mem hi), fun h0 => hs (i - 1) i (by omega) hi (by omega)⟩
theorem arch_good {es : List Ent} (h32 : es.length ≤ 32) (h : ∀ i (hi : i < es.length), okE es i hi) : archR es = treeR (filesOf es) := by
  have hl : (es.map epth).length = es.length := by simp
  have e : ∀ i (hi : i < es.length), (es.map epth).getD i [] = epth es[i] := fun i hi => by simp [List.getD, hi]
  have h1 : es.all fineE = true := List.all_eq_true.2 fun f hf => by
    obtain ⟨i, hi, rfl⟩ := List.mem_iff_getElem.1 hf
    exact (h i hi).2.1
  have h2 : sortedL (es.map epth) = true := List.all_eq_true.2 fun i hi => by
    have hi' : i < es.length := by rw [← hl]; exact List.mem_range.1 hi
    unfold srtAt
    rw [Bool.and_eq_true, Bool.or_eq_true, e i hi']
    refine ⟨(h i hi').1, ?_⟩
    by_cases h0 : i = 0
    · left; simp [h0]
    · right
      rw [e (i - 1) (by omega), less_iff]
      exact (h i hi').2.2 (by omega)
  unfold archR
  rw [h1, h2, decide_eq_true h32]
  rfl
theorem fine_bool (e : Ent) : fineE e = (rt e.l e.r && !((e.l == 0) && (e.r == 0)) && (e.has || decide (e.data = noS))) := by
  unfold fineE
  rw [show decide (e.l = 0) = (e.l == 0) from rfl, show decide (e.r = 0) = (e.r == 0) from rfl]

end Go.Proofs.YtaidggjnpnfdhaaDoor
namespace Go.Proofs.YtaidggjnpnfdhaaDoor
open Go.RowKit

/-- append(v, x...), v the call's own, elements of one cell. -/
theorem run_app {P : Program} (w : World) (base : Nat) (t ty e : TypeId) (z : Value) (bytes : Nat) (ht : P.underlying t = some (.slice e)) (hinf : (P.info? e).map (fun i => (i.zero, i.size, i.bytes)) = some (some z, 1, bytes)) (hz : z.cells.size = 1)
    (A : Option Addr) (n c : Nat) (xs : List Value) (hown : w.ownsRow base e 1 (.slice A n c) n xs)
    (B : Option Addr) (m d : Nat) (news : List Value) (hl : news.length = m) (hr : Rd w B news) (h1 : ∀ u ∈ news, u.oneCell' = true)
    (hbytes : (n + m) * bytes ≤ 140737488355328) (hbase : base ≤ w.heap.size) (h63 : n + m ≤ maxLen) :
    ∃ A' c' w', (Builtin.append_ #[t, t] ty #[.slice A n c, .slice B m d]).run P w = .ok (.slice A' (n + m) c') w' ∧ w'.ownsRow base e 1 (.slice A' (n + m) c') (n + m) (xs ++ news) ∧ w.grownBy w' (Value.slice A n c).ownBlock := by
  obtain ⟨i, hi, hz0, hz1, hz2⟩ := info_parts hinf
  have own : ∀ ad, (∀ j u, news[j]? = some u → w.cell? (ad.add j) = some u) → ∃ A' c' w', (Builtin.append_ #[t, t] ty #[.slice A n c, .slice (some ad) m d]).run P w = .ok (.slice A' (n + m) c') w' ∧ w'.ownsRow base e 1 (.slice A' (n + m) c') (n + m) (xs ++ news) ∧ w.grownBy w' (Value.slice A n c).ownBlock := by
    intro ad hc
    obtain ⟨v', w', h2, h3, h4, _⟩ := run_append_own (P := P) w base t ty e i z 1 bytes ht hi hz0 hz1 hz2 hz (by decide) _ n xs hown ad m d news (by omega) hc h1 h63 hbytes hbase
    obtain ⟨_, A', c', rfl, _⟩ := own_form h3
    exact ⟨A', c', w', h2, h3, h4⟩
  rcases hr with rfl | ⟨ad, rfl, hc⟩
  · have hm : m = 0 := by simpa using hl.symm
    subst hm
    cases B with
    | none => exact ⟨A, c, w, run_app_nil (P := P) w base t ty e i ht hi _ n xs hown d, by simpa using hown, World.grownBy.refl _ _⟩
    | some ad => exact own ad (by simp)
  · exact own ad hc

/-- append where the order is open: its run is known. -/
theorem stepApp {P : Program} {w w' : World} {ops : Array Oper} {o : Oper} {a : Act} {K : Act → World → Prop} {Q : Exit → Act → World → Prop} {E : Prop} (hw : Region.wanted o (yielded ops a.tmps) = true) (s x : Operand) (t : TypeId)
    (ho : o.op = .call { callee := .builtin .append, args := #[s, x], argTypes := #[t, t] }) (v1 v2 v : Value) (hs : a.eval s = v1) (hx : a.eval x = v2)
    (hrun : (Builtin.append_ #[t, t] o.type #[v1, v2]).run P w = .ok v w') (h : K (a.put o.dst v) w') : if Region.wanted o (yielded ops a.tmps) = true then Oper.wp P o a w K Q else E := by
  rw [if_pos hw]
  unfold Oper.wp
  simp [execOp, ho, resolve, invoke, builtin, hs, hx, hrun, Result.andThen]
  exact h

/-- append behind a guard that holds: its run is known. -/
theorem wpAppG {P : Program} {w w' : World} {ops : Array Oper} {rest : List Oper} {o : Oper} {a : Act} {Q : Exit → Act → World → Prop} (hw : Region.wanted o (yielded ops a.tmps) = true) (s x : Operand) (t : TypeId)
    (ho : o.op = .call { callee := .builtin .append, args := #[s, x], argTypes := #[t, t] }) (v1 v2 v : Value) (hs : a.eval s = v1) (hx : a.eval x = v2)
    (hrun : (Builtin.append_ #[t, t] o.type #[v1, v2]).run P w = .ok v w') (h : wpList P ops Q rest (a.put o.dst v) w') : wpList P ops Q (o :: rest) a w :=
  wpList_step fun _ hK => stepApp hw s x t ho v1 v2 v hs hx hrun (hK _ _ h)

end Go.Proofs.YtaidggjnpnfdhaaDoor
namespace Go.Proofs
open Go.Shelf
def Tryd.lays190_ren : Go.Shelf.Ren := ⟨fun | 190 => 29 | 125 => 42 | 258 => 41 | 128 => 58 | 129 => 59 | 302 => 49 | 303 => 50 | 304 => 51 | 305 => 52 | 306 => 53 | 307 => 54 | 308 => 55 | 309 => 56 | 310 => 57 | 333 => 67 | 329 => 68 | 330 => 69 | 334 => 70 | 335 => 71 | 336 => 72 | 344 => 81 | n => n, fun | 31 => 40 | 9 => 9 | 3 => 3 | 46 => 69 | 0 => 0 | 51 => 85 | 53 => 87 | 4 => 4 | 183 => 79 | 182 => 78 | 131 => 54 | 5 => 5 | 218 => 94 | 222 => 98 | 228 => 104 | 229 => 105 | n => n, fun | n => n⟩
theorem Tryd.lays190 : Go.Proofs.Lays.n190 Tryd.prog Tryd.lays190_ren := {
  mixed := by kernel_rfl
  f125 := Tryd.func42.trans (congrArg some (by kernel_rfl))
  f128 := Tryd.func58.trans (congrArg some (by kernel_rfl))
  f129 := Tryd.func59.trans (congrArg some (by kernel_rfl))
  f190 := Tryd.func29.trans (congrArg some (by kernel_rfl))
  f258 := Tryd.func41.trans (congrArg some (by kernel_rfl))
  f302 := Tryd.func49.trans (congrArg some (by kernel_rfl))
  f303 := Tryd.func50.trans (congrArg some (by kernel_rfl))
  f304 := Tryd.func51.trans (congrArg some (by kernel_rfl))
  f305 := Tryd.func52.trans (congrArg some (by kernel_rfl))
  f306 := Tryd.func53.trans (congrArg some (by kernel_rfl))
  f307 := Tryd.func54.trans (congrArg some (by kernel_rfl))
  f308 := Tryd.func55.trans (congrArg some (by kernel_rfl))
  f309 := Tryd.func56.trans (congrArg some (by kernel_rfl))
  f310 := Tryd.func57.trans (congrArg some (by kernel_rfl))
  f329 := Tryd.func68.trans (congrArg some (by kernel_rfl))
  f330 := Tryd.func69.trans (congrArg some (by kernel_rfl))
  f333 := Tryd.func67.trans (congrArg some (by kernel_rfl))
  f334 := Tryd.func70.trans (congrArg some (by kernel_rfl))
  f335 := Tryd.func71.trans (congrArg some (by kernel_rfl))
  f336 := Tryd.func72.trans (congrArg some (by kernel_rfl))
  f344 := Tryd.func81.trans (congrArg some (by kernel_rfl))
  t0 := Tryd.underlying0
  a0 := Tryd.isAgg0
  z0 := Tryd.sizeOf0
  v0 := Tryd.zeroValue0
  t3 := Tryd.underlying3
  a3 := Tryd.isAgg3
  z3 := Tryd.sizeOf3
  v3 := Tryd.zeroValue3
  t4 := Tryd.underlying4
  a4 := Tryd.isAgg4
  z4 := Tryd.sizeOf4
  v4 := Tryd.zeroValue4
  t5 := Tryd.underlying5
  a5 := Tryd.isAgg5
  z5 := Tryd.sizeOf5
  v5 := Tryd.zeroValue5
  t9 := Tryd.underlying9
  a9 := Tryd.isAgg9
  z9 := Tryd.sizeOf9
  v9 := Tryd.zeroValue9
  t31 := Tryd.underlying40
  a31 := Tryd.isAgg40
  z31 := Tryd.sizeOf40
  v31 := Tryd.zeroValue40
  t46 := Tryd.underlying69
  a46 := Tryd.isAgg69
  z46 := Tryd.sizeOf69
  v46 := Tryd.zeroValue69
  t51 := Tryd.underlying85
  a51 := Tryd.isAgg85
  z51 := Tryd.sizeOf85
  v51 := Tryd.zeroValue85
  t53 := Tryd.underlying87
  a53 := Tryd.isAgg87
  z53 := Tryd.sizeOf87
  v53 := Tryd.zeroValue87
  t131 := Tryd.underlying54
  a131 := Tryd.isAgg54
  z131 := Tryd.sizeOf54
  v131 := Tryd.zeroValue54
  t182 := Tryd.underlying78
  a182 := Tryd.isAgg78
  z182 := Tryd.sizeOf78
  v182 := Tryd.zeroValue78
  t183 := Tryd.underlying79
  a183 := Tryd.isAgg79
  z183 := Tryd.sizeOf79
  v183 := Tryd.zeroValue79
  t218 := Tryd.underlying94
  a218 := Tryd.isAgg94
  z218 := Tryd.sizeOf94
  v218 := Tryd.zeroValue94
  t222 := Tryd.underlying98
  a222 := Tryd.isAgg98
  z222 := Tryd.sizeOf98
  v222 := Tryd.zeroValue98
  t228 := Tryd.underlying104
  a228 := Tryd.isAgg104
  z228 := Tryd.sizeOf104
  v228 := Tryd.zeroValue104
  t229 := Tryd.underlying105
  a229 := Tryd.isAgg105
  z229 := Tryd.sizeOf105
  v229 := Tryd.zeroValue105 }
open Go.Sort Go.RowKit in
theorem Tryd.slices_Sort_string (blk off cap : Nat) (ss : List (List UInt8)) (w : World) (hH : Holds encStr w blk off ss.toArray) (hblk : blk < w.heap.size) (hsz : ss.length < 4611686018427387904) :
    Calls Tryd.prog 29 #[.slice (some ⟨blk, off, none⟩) ss.length cap] w fun e w' =>
      e = .returned (.tuple #[]) ∧ ∃ n os, w' = grow (putRow encStr (Sort.ahead w n) blk off (ss.mergeSort fun x y => decide (x ≤ y)).toArray) os := Any.slices_Sort_string Tryd.lays190 blk off cap ss w hH hblk hsz
def Tryd.lays194_ren : Go.Shelf.Ren := ⟨fun | 194 => 30 | n => n, fun | 31 => 40 | 9 => 9 | 3 => 3 | 4 => 4 | 0 => 0 | n => n, fun | n => n⟩
theorem Tryd.lays194 : Go.Proofs.Lays.n194 Tryd.prog Tryd.lays194_ren := {
  mixed := by kernel_rfl
  f194 := Tryd.func30.trans (congrArg some (by kernel_rfl))
  t0 := Tryd.underlying0
  a0 := Tryd.isAgg0
  z0 := Tryd.sizeOf0
  v0 := Tryd.zeroValue0
  t3 := Tryd.underlying3
  a3 := Tryd.isAgg3
  z3 := Tryd.sizeOf3
  v3 := Tryd.zeroValue3
  t4 := Tryd.underlying4
  a4 := Tryd.isAgg4
  z4 := Tryd.sizeOf4
  v4 := Tryd.zeroValue4
  t9 := Tryd.underlying9
  a9 := Tryd.isAgg9
  z9 := Tryd.sizeOf9
  v9 := Tryd.zeroValue9
  t31 := Tryd.underlying40
  a31 := Tryd.isAgg40
  z31 := Tryd.sizeOf40
  v31 := Tryd.zeroValue40 }
open Go.RowKit Go.Lib Go.Sort in
theorem Tryd.slices_Compact_string_arr (blk off cap : Nat) (d : Array (List UInt8)) (w : World) (hH : Holds encStr w blk off d) (hsz : d.size ≤ 9223372036854775807) (hcap : d.size ≤ cap) :
    Calls Tryd.prog 30 #[.slice (some ⟨blk, off, none⟩) d.size cap] w fun e w' => e = .returned (.slice (some ⟨blk, off, none⟩) (compactUpTo d d.size).length cap) ∧ ∃ q, w' = putRow encStr (Sort.ahead w q) blk off (compactUpTo d d.size ++ List.replicate (d.size - (compactUpTo d d.size).length) []).toArray := Any.slices_Compact_string_arr Tryd.lays194 blk off cap d w hH hsz hcap
open Go.RowKit Go.Lib Go.Sort in
theorem Tryd.slices_Compact_string (blk off cap : Nat) (zs : List (List UInt8)) (w : World) (hH : Holds encStr w blk off zs.toArray) (hsz : zs.length ≤ 9223372036854775807) (hcap : zs.length ≤ cap) :
    Calls Tryd.prog 30 #[.slice (some ⟨blk, off, none⟩) zs.length cap] w fun e w' => e = .returned (.slice (some ⟨blk, off, none⟩) (Lib.compact zs).length cap) ∧ ∃ q, w' = putRow encStr (Sort.ahead w q) blk off (Lib.compact zs ++ List.replicate (zs.length - (Lib.compact zs).length) []).toArray := Any.slices_Compact_string Tryd.lays194 blk off cap zs w hH hsz hcap
open Go.RowKit Go.Lib Go.Sort in
theorem Tryd.slices_Compact_string_empty (a : Option Addr) (cap : Nat) (w : World) :
    Calls Tryd.prog 30 #[.slice a 0 cap] w fun e w' => e = .returned (.slice a 0 cap) ∧ w' = w := Any.slices_Compact_string_empty Tryd.lays194 a cap w
open Go.RowKit Go.Sort in
theorem Tryd.slices_Sort_string_none (p : Option Addr) (cap : Nat) (w : World) :
    Calls Tryd.prog 29 #[.slice p 0 cap] w fun e w' => e = .returned (.tuple #[]) ∧ w' = w := Any.slices_Sort_string_none Tryd.lays190 p cap w
end Go.Proofs
namespace Go.Proofs.YtaidggjnpnfdhaaDoor
open Go.RowKit Go.Sort

/-! ### Room for entries -/
end Go.Proofs.YtaidggjnpnfdhaaDoor
namespace Go.Proofs.YtaidggjnpnfdhaaDoor
open Go.RowKit Go.Sort

/-! ### Sorted, and each once: plain lists -/
theorem compact_has {zs : List (List UInt8)} {x : List UInt8} : x ∈ Lib.compact zs ↔ x ∈ zs := by
  unfold Lib.compact Lib.compactUpTo
  constructor
  · intro h
    obtain ⟨i, hi, rfl⟩ := List.mem_map.1 h
    have hi' : i < zs.length := List.mem_range.1 (List.mem_filter.1 hi).1
    simp [getElem!_pos, hi']
  · intro h
    obtain ⟨i, hi, rfl⟩ := List.mem_iff_getElem.1 h
    have key : ∀ i (hi : i < zs.length), ∃ j, j ≤ i ∧ Lib.keeps zs.toArray j = true ∧ zs.toArray[j]! = zs[i] := by
      intro i
      induction i with
      | zero => intro hi; exact ⟨0, Nat.le_refl _, Lib.keeps_lt_one _ 0 (by omega), by simp [getElem!_pos, hi]⟩
      | succ i ih =>
        intro hi
        by_cases e : zs.toArray[i + 1]! = zs.toArray[i + 1 - 1]!
        · obtain ⟨j, h1, h2, h3⟩ := ih (by omega)
          refine ⟨j, by omega, h2, ?_⟩
          rw [h3]
          simp only [Nat.add_sub_cancel] at e
          rw [getElem!_pos _ _ (by simpa using hi), getElem!_pos _ _ (by simp; omega)] at e
          simpa using e.symm
        · exact ⟨i + 1, Nat.le_refl _, Lib.keeps_pos e, by simp [getElem!_pos, hi]⟩
    obtain ⟨j, h1, h2, h3⟩ := key i hi
    exact List.mem_map.2 ⟨j, List.mem_filter.2 ⟨List.mem_range.2 (by omega), h2⟩, h3⟩
theorem compact_rises {zs : List (List UInt8)} (hs : zs.Pairwise fun a b => a ≤ b) : (Lib.compact zs).Pairwise fun a b => a < b := by
  have hle : ∀ i j (hi : i < zs.length) (hj : j < zs.length), i ≤ j → zs[i] ≤ zs[j] := fun i j hi hj h => by
    rcases Nat.lt_or_ge i j with e | e
    · exact List.pairwise_iff_getElem.1 hs i j hi hj e
    · have : i = j := by omega
      subst this
      exact List.le_refl _
  unfold Lib.compact Lib.compactUpTo
  rw [List.pairwise_map]
  have hr := (List.pairwise_lt_range (n := zs.toArray.size)).filter (Lib.keeps zs.toArray)
  refine hr.imp_of_mem ?_
  intro a b ha hb hab
  have hb1 : b < zs.length := by simpa using List.mem_range.1 (List.mem_filter.1 hb).1
  have hk := (List.mem_filter.1 hb).2
  have hne : zs.toArray[b]! ≠ zs.toArray[b - 1]! := fun e => by
    rw [Lib.keeps_neg (by omega) e] at hk
    cases hk
  rw [getElem!_pos zs.toArray b (by simpa using hb1), getElem!_pos zs.toArray (b - 1) (by simp; omega)] at hne
  rw [getElem!_pos zs.toArray b (by simpa using hb1), getElem!_pos zs.toArray a (by simp; omega)]
  simp only [List.getElem_toArray] at hne ⊢
  have h1 := hle a (b - 1) (by omega) (by omega) (by omega)
  have h2 := hle (b - 1) b (by omega) hb1 (by omega)
  rcases List.le_iff_lt_or_eq.1 h2 with e | e
  · exact List.lt_of_le_of_lt h1 e
  · exact absurd e.symm hne
def knownL (ss : List (List UInt8)) : List (List UInt8) := Lib.compact (ss.mergeSort fun x y => decide (x ≤ y))
theorem known_has {ss : List (List UInt8)} {x : List UInt8} : x ∈ knownL ss ↔ x ∈ ss := by
  rw [knownL, compact_has]
  exact (List.mergeSort_perm ss _).mem_iff
theorem known_rises (ss : List (List UInt8)) : (knownL ss).Pairwise fun a b => a < b := by
  refine compact_rises ?_
  have := List.pairwise_mergeSort (le := fun x y => decide (x ≤ y)) (fun a b c h1 h2 => by simp only [decide_eq_true_eq] at *; exact List.le_trans h1 h2) (fun a b => by
    simp only [Bool.or_eq_true, decide_eq_true_eq]; exact List.le_total a b) ss
  exact this.imp fun h => by simpa using h
theorem known_is {l m : List Ent} (hl : SrtE l) (hm : SrtE m) : (knownL ((l ++ m).map epth)).map mkS = (mrgL l m).map (·.1.path) := by
  refine mrg_paths hl hm ?_ fun x => ?_
  · refine List.pairwise_map.2 ((known_rises _).imp fun h => ?_)
    simpa [mkS] using h
  · rw [List.mem_map]
    constructor
    · rintro ⟨y, hy, rfl⟩
      obtain ⟨e, he, rfl⟩ := List.mem_map.1 (known_has.1 hy)
      have : mkS (epth e) = e.path := data_inj (by simp [mkS, epth])
      rw [this]
      rcases List.mem_append.1 he with h | h
      · exact .inl (List.mem_map.2 ⟨e, h, rfl⟩)
      · exact .inr (List.mem_map.2 ⟨e, h, rfl⟩)
    · intro h
      refine ⟨x.data.toList, known_has.2 ?_, data_inj (by simp [mkS])⟩
      rcases h with h | h <;> obtain ⟨e, he, rfl⟩ := List.mem_map.1 h
      · exact List.mem_map.2 ⟨e, List.mem_append_left _ he, rfl⟩
      · exact List.mem_map.2 ⟨e, List.mem_append_right _ he, rfl⟩

/-! ### known -/
def KnownPost (w : World) (ss : List (List UInt8)) (e : Ending) (w' : World) : Prop :=
  ∃ C q, e = .returned (.slice C (knownL ss).length q) ∧ Rd w' C (strV ((knownL ss).map mkS)) ∧ Below w.heap.size w w'
theorem strV_enc (L : List (List UInt8)) : strV (L.map mkS) = L.map encStr := by
  rw [strV, List.map_map]
  rfl
theorem known_end {w w1 : World} {g cap n nn q base : Nat} {os : Array Obj} {ss : List (List UInt8)} (hown : w1.ownsRow base 9 1 (.slice (some ⟨g, 0, none⟩) n cap) n (ss.map encStr)) (hbel : Below w.heap.size w w1) (hbg : base ≤ g) (hwb : w.heap.size ≤ base) (hlen : ss.length = n) :
    KnownPost w ss (.returned (.slice (some ⟨g, 0, none⟩) (knownL ss).length cap))
      (putRow encStr (Sort.ahead (grow (putRow encStr (Sort.ahead w1 nn) g 0 (ss.mergeSort fun x y => decide (x ≤ y)).toArray) os) q) g 0 (knownL ss ++ List.replicate (n - (knownL ss).length) []).toArray) := by
  have hl2 : (ss.mergeSort fun x y => decide (x ≤ y)).length = ss.length := List.length_mergeSort ss
  have hle : (knownL ss).length ≤ ss.length := by rw [← hl2]; exact Lib.compact_length_le _
  subst hlen
  rcases hown.2 with ⟨h0, _⟩ | ⟨g', cap', cur, hv, hbase, hb, h1, h2, h3, h4⟩
  · cases h0
  cases hv
  have hs := ownsRow_sorted (n := nn) (os := os) (ts := ss.mergeSort fun x y => decide (x ≤ y)) hl2 hbase hb h1 h2 h3
  have hc := Lib.ownsRow_putRow (q := q) (k := (knownL ss).length) (ys := knownL ss ++ List.replicate (ss.length - (knownL ss).length) []) hs (by simp; omega) (by omega)
  rw [List.take_left] at hc
  refine ⟨_, cap, rfl, ?_, Lib.below_putRow (hbel.grown (grownBy_sorted _) hbel.size (fun j hj => by cases hj; omega)) (by omega)⟩
  rw [strV_enc]
  exact Rd.of_own hc

end Go.Proofs.YtaidggjnpnfdhaaDoor
namespace Go.Proofs.YtaidggjnpnfdhaaDoor
open Go.RowKit

/-! ### A path is put at its place -/
def lessS (s p : ByteArray) : Bool := Op.bytesLess s.data.toList p.data.toList
def atS (out : List ByteArray) (p : ByteArray) : Nat := out.findIdx fun s => !lessS s p
def insP (out : List ByteArray) (p : ByteArray) : List ByteArray := if out[atS out p]? = some p then out else out.take (atS out p) ++ p :: out.drop (atS out p)
def SrtS (out : List ByteArray) : Prop := out.Pairwise fun a b => a.data.toList < b.data.toList
theorem atS_le (out : List ByteArray) (p : ByteArray) : atS out p ≤ out.length := List.findIdx_le_length
theorem atS_low {out : List ByteArray} {p : ByteArray} {k : Nat} (hk : k < out.length) (h : k < atS out p) : lessS out[k] p = true := by
  have := List.not_of_lt_findIdx h
  simpa using this
theorem atS_at {out : List ByteArray} {p : ByteArray} (h : atS out p < out.length) : lessS out[atS out p] p = false := by
  have h1 : (!lessS out[atS out p] p) = true := List.findIdx_getElem (p := fun s => !lessS s p) (w := h)
  simpa using h1
theorem atS_is {out : List ByteArray} {p : ByteArray} {k : Nat} (hk : k ≤ out.length) (h1 : ∀ i (hi : i < out.length), i < k → lessS out[i] p = true) (h2 : ∀ hi : k < out.length, lessS out[k] p = false) : atS out p = k := by
  by_cases hlt : k < out.length
  · exact (List.findIdx_eq hlt).2 ⟨by simp [h2 hlt], fun i hi => by simp [h1 i (by omega) hi]⟩
  · obtain rfl : k = out.length := by omega
    refine List.findIdx_eq_length.2 fun x hx => ?_
    obtain ⟨i, hi, rfl⟩ := List.mem_iff_getElem.1 hx
    simp [h1 i hi hi]
theorem ins_mem {out : List ByteArray} {p x : ByteArray} : x ∈ insP out p ↔ x = p ∨ x ∈ out := by
  unfold insP
  split
  · rename_i h
    have := List.mem_of_getElem? h
    constructor
    · exact .inr
    · rintro (rfl | h)
      · exact this
      · exact h
  · have e : ∀ y, y ∈ out ↔ y ∈ out.take (atS out p) ∨ y ∈ out.drop (atS out p) := fun y => by
      conv => lhs; rw [← List.take_append_drop (atS out p) out]
      rw [List.mem_append]
    rw [List.mem_append, List.mem_cons, e x]
    constructor
    · rintro (h | h | h)
      · exact .inr (.inl h)
      · exact .inl h
      · exact .inr (.inr h)
    · rintro (h | h | h)
      · exact .inr (.inl h)
      · exact .inl h
      · exact .inr (.inr h)
theorem ins_srt {out : List ByteArray} {p : ByteArray} (h : SrtS out) : SrtS (insP out p) := by
  unfold insP
  split
  · exact h
  · rename_i hne
    have hh := List.pairwise_iff_getElem.1 h
    have low : ∀ a ∈ out.take (atS out p), a.data.toList < p.data.toList := by
      intro a ha
      obtain ⟨i, hi, rfl⟩ := List.mem_iff_getElem.1 ha
      rw [List.length_take] at hi
      rw [List.getElem_take]
      exact (less_iff _ _).1 (atS_low (by omega) (by omega))
    have high : ∀ b ∈ out.drop (atS out p), p.data.toList < b.data.toList := by
      intro b hb
      obtain ⟨i, hi, rfl⟩ := List.mem_iff_getElem.1 hb
      rw [List.length_drop] at hi
      rw [List.getElem_drop]
      have h0 : atS out p < out.length := by omega
      have h1 : p.data.toList < out[atS out p].data.toList := by
        rcases lt_tri p.data.toList out[atS out p].data.toList with x | x | x
        · exact x
        · exact absurd ((List.getElem?_eq_getElem h0).trans (congrArg some (data_inj x).symm)) hne
        · have := atS_at h0
          rw [lessS, (less_iff _ _).2 x] at this
          cases this
      by_cases hi0 : i = 0
      · subst hi0; exact h1
      · exact List.lt_trans h1 (hh _ _ h0 (by omega) (by omega))
    refine List.pairwise_append.2 ⟨h.sublist (List.take_sublist _ _), List.pairwise_cons.2 ⟨high, h.sublist (List.drop_sublist _ _)⟩, ?_⟩
    intro a ha b hb
    rcases List.mem_cons.1 hb with rfl | hb
    · exact low a ha
    · exact List.lt_trans (low a ha) (high b hb)
def pthL (l : List Ent) (t : List Fil) : List ByteArray := l.map (·.path) ++ t.map (·.1)
def allL (l : List Ent) (t : List Fil) : List ByteArray := (pthL l t).foldl insP []
theorem fold_ins (xs : List ByteArray) : ∀ (out : List ByteArray), SrtS out → SrtS (xs.foldl insP out) ∧ ∀ x, x ∈ xs.foldl insP out ↔ x ∈ xs ∨ x ∈ out := by
  induction xs with
  | nil => exact fun out h => ⟨h, fun x => by simp⟩
  | cons y xs ih =>
    intro out h
    obtain ⟨h1, h2⟩ := ih (insP out y) (ins_srt h)
    refine ⟨h1, fun x => ?_⟩
    rw [List.foldl_cons, h2, ins_mem, List.mem_cons]
    constructor
    · rintro (h | h | h)
      · exact .inl (.inr h)
      · exact .inl (.inl h)
      · exact .inr h
    · rintro ((h | h) | h)
      · exact .inr (.inl h)
      · exact .inl h
      · exact .inr (.inr h)
theorem srtS_one : ∀ {a b : List ByteArray}, SrtS a → SrtS b → (∀ x, x ∈ a ↔ x ∈ b) → a = b := by
  intro a b ha hb h
  have e := Srt.unique (a := a.map fun s => (s, noS)) (b := b.map fun s => (s, noS)) (List.pairwise_map.2 ha) (List.pairwise_map.2 hb) (fun f => by
    simp only [List.mem_map]
    constructor
    · rintro ⟨x, hx, rfl⟩; exact ⟨x, (h x).1 hx, rfl⟩
    · rintro ⟨x, hx, rfl⟩; exact ⟨x, (h x).2 hx, rfl⟩)
  have := congrArg (List.map Prod.fst) e
  simpa [List.map_map, Function.comp_def] using this
theorem all_both {l : List Ent} {t : List Fil} (hl : SrtE l) (ht : Srt t) : allL l t = (bothL l t).map (·.2.path) := by
  obtain ⟨h1, h2⟩ := fold_ins (pthL l t) [] List.Pairwise.nil
  refine srtS_one h1 (List.pairwise_map.2 (both_srt l t hl ht)) fun x => ?_
  rw [show allL l t = (pthL l t).foldl insP [] from rfl] at *
  rw [h2, both_path, pthL, List.mem_append]
  simp
theorem ins_len (out : List ByteArray) (p : ByteArray) : (insP out p).length ≤ out.length + 1 := by
  unfold insP
  split
  · omega
  · rw [List.length_append, List.length_take, List.length_cons, List.length_drop]; have := atS_le out p; omega
theorem fold_len (xs : List ByteArray) : ∀ (out : List ByteArray), (xs.foldl insP out).length ≤ out.length + xs.length := by
  induction xs with
  | nil => simp
  | cons y xs ih => intro out; rw [List.foldl_cons]; have := ih (insP out y); have := ins_len out y; simp; omega

/-! ### Slices of strings, cut -/
theorem cut_pre (B : Option Addr) (n c k : Nat) (hk : k ≤ c) (w : World) : (Instr.slice 40 (.slice B n c) none (some (.int .i64 (k : Int))) none).run Tryd.prog w = .ok (.slice (if c = 0 then B else B.map (·.add 0)) k c) w := by
  simp [Instr.slice, Instr.sliceBounds, Instr.sliceBound, run_underlying Tryd.underlying40, Tryd.sizeOf9, asIntOf]
  intro h
  omega
theorem cut_post (B : Option Addr) (n c k : Nat) (hk : k ≤ n) (w : World) : (Instr.slice 40 (.slice B n c) (some (.int .i64 (k : Int))) none none).run Tryd.prog w = .ok (.slice (if c = k then B else B.map (·.add k)) (n - k) (c - k)) w := by
  simp [Instr.slice, Instr.sliceBounds, Instr.sliceBound, run_underlying Tryd.underlying40, Tryd.sizeOf9, asIntOf]
  intro h
  omega
theorem cuts {w : World} {B : Option Addr} {c k : Nat} {out : List ByteArray} (h : Rd w B (strV out)) (hc : out.length ≤ c) (hk : k ≤ out.length) :
    ∃ B1 B2, (∀ w, (Instr.slice 40 (.slice B out.length c) none (some (.int .i64 (k : Int))) none).run Tryd.prog w = .ok (.slice B1 k c) w) ∧ (∀ w, (Instr.slice 40 (.slice B out.length c) (some (.int .i64 (k : Int))) none none).run Tryd.prog w = .ok (.slice B2 (out.length - k) (c - k)) w) ∧
      Rd w B1 (strV (out.take k)) ∧ Rd w B2 (strV (out.drop k)) := by
  have hl := strV_length out
  refine ⟨_, _, cut_pre B out.length c k (by omega), cut_post B out.length c k hk, ?_, ?_⟩
  · have := h.cut (k := 0) (m := k) (cap := c) (by omega) (by omega)
    rw [List.drop_zero] at this
    rw [show strV (out.take k) = (strV out).take k by simp [strV, List.map_take]]
    exact this
  · have := h.cut (k := k) (m := out.length - k) (cap := c) (by omega) (by omega)
    rw [List.take_of_length_le (by rw [List.length_drop]; omega)] at this
    rw [show strV (out.drop k) = (strV out).drop k by simp [strV, List.map_drop]]
    exact this
/-- append of strings onto a row of the call's own. -/
theorem app_strs {W : World} {n₀ : Nat} {A : Option Addr} {k c : Nat} {xs : List ByteArray} (hrow : W.ownsRow n₀ 9 1 (.slice A k c) k (strV xs)) (hn : n₀ ≤ W.heap.size) {B : Option Addr} {m d : Nat} {ys : List ByteArray} (hl : ys.length = m) (hr : Rd W B (strV ys)) {t : Nat} (ht : k + m = t) (hk : t ≤ 1000000) :
    ∃ A' c' w1, Hid ((Builtin.append_ #[40, 40] 40 #[.slice A k c, .slice B m d]).run Tryd.prog W = .ok (.slice A' t c') w1) ∧ w1.ownsRow n₀ 9 1 (.slice A' t c') t (strV (xs ++ ys)) ∧ W.grownBy w1 (Value.slice A k c).ownBlock ∧ Below n₀ W w1 := by
  subst ht
  obtain ⟨A', c', w1, h1, h2, h3⟩ := run_app (P := Tryd.prog) W n₀ 40 40 9 (.string ⟨#[]⟩) 16 Tryd.underlying40 Tryd.infoS rfl A k c (strV xs) hrow B m d (strV ys) (by rw [strV_length]; exact hl) hr (strV_one _) (by omega) hn (by unfold maxLen; omega)
  exact ⟨A', c', w1, h1, by rw [strV_append]; exact h2, h3, (Below.refl n₀ W).grown h3 hn fun j ej => (hrow.lt j ej).1⟩
theorem own_none (w : World) (base : Nat) (h : base ≤ w.heap.size) : (w.alloc (.cells #[] 9)).ownsRow base 9 1 (.slice (some ⟨w.heap.size, 0, none⟩) 0 0) 0 (strV []) := World.ownsRow_made w #[] 0 h (by unfold maxLen; omega) (by simp)
theorem rd_one (w : World) (p : ByteArray) : Rd (w.alloc (.cells #[.string p] 9)) (some ⟨w.heap.size, 0, none⟩) (strV [p]) := (Blk.new w [.string p] 9).rd
theorem rd_apart {w w' : World} {g : Nat} {row : Option Nat} {ys : List Value} (h : Rd w (some ⟨g, 0, none⟩) ys) (hg : w.grownBy w' row) (hlt : g < w.heap.size) (hne : some g ≠ row) : Rd w' (some ⟨g, 0, none⟩) ys := by
  rcases h with h | ⟨ad, e, hc⟩
  · exact .inl h
  · injection e with e
    subst e
    refine .inr ⟨_, rfl, fun j u hu => ?_⟩
    rw [← hc j u hu]
    exact World.cell?_of_block (by rw [add_block]; exact hg.block g hlt hne)

end Go.Proofs.YtaidggjnpnfdhaaDoor
namespace Go.Proofs.YtaidggjnpnfdhaaDoor
open Go.RowKit

/-! ### Does one of these clash with a path? -/
def clB (a b : ByteArray) : Bool := clashL a.data.toList b.data.toList
def idxB (l : List ByteArray) (q : ByteArray → Bool) : Int := if l.any q then (l.findIdx q : Int) else -1
theorem idxB_at {l : List ByteArray} {q : ByteArray → Bool} {j : Nat} (hj : j < l.length) (h : q l[j] = true) (hn : ∀ k (hk : k < l.length), k < j → q l[k] = false) : idxB l q = j := by
  have h1 : l.any q = true := List.any_eq_true.2 ⟨_, List.getElem_mem hj, h⟩
  have h2 : l.findIdx q = j := by
    refine (List.findIdx_eq hj).2 ⟨h, fun k hk => ?_⟩
    rw [hn k (by omega) hk]
  rw [idxB, if_pos h1, h2]
theorem idxB_no {l : List ByteArray} {q : ByteArray → Bool} (hn : ∀ k (hk : k < l.length), q l[k] = false) : idxB l q = -1 := by
  have : l.any q = false := List.any_eq_false.2 fun x hx => by
    obtain ⟨k, hk, rfl⟩ := List.mem_iff_getElem.1 hx
    simp [hn k hk]
  rw [idxB, this]; rfl
theorem idxB_pos (l : List ByteArray) (q : ByteArray → Bool) : decide (0 ≤ idxB l q) = l.any q := by
  unfold idxB
  cases h : l.any q with
  | true => rw [if_pos rfl]; simp
  | false => rfl
theorem str_at {w : World} {B : Option Addr} {l : List ByteArray} (h : Rd w B (strV l)) {j : Nat} (hj : j < l.length) : ∃ g o, B = some ⟨g, o, none⟩ ∧ w.cell? ⟨g, o + j, none⟩ = some (.string l[j]) ∧ g < w.heap.size := by
  obtain ⟨g, o, e, hc, hg⟩ := h.at_ (k := j) (by rw [strV_length]; exact hj)
  exact ⟨g, o, e, by rw [hc]; simp [strV], hg⟩

/-! ### fits -/
def fpaths (es : List Ent) : List ByteArray := (filesOf es).map (·.1)
theorem fpaths_more (es : List Ent) (j : Nat) (h : j < es.length) : fpaths (es.take (j + 1)) = fpaths (es.take j) ++ (if es[j].has then [es[j].path] else []) := by
  rw [fpaths, filesOf_more es j h, List.map_append, fpaths]
  congr 1
  split <;> rfl
theorem fpaths_len (es : List Ent) : (fpaths es).length = (filesOf es).length := by rw [fpaths, List.length_map]
abbrev Apt (l : List ByteArray) : Prop := l.Pairwise fun b a => clB a b = false
def fitN (es : List Ent) : Nat := if 32 < es.length ∨ 16 < (filesOf es).length then 2 else if Apt (fpaths es) then 0 else 6
theorem apt_more {l : List ByteArray} {j : Nat} (hj : j < l.length) : Apt (l.take (j + 1)) ↔ Apt (l.take j) ∧ (l.take j).any (clB l[j]) = false := by
  rw [List.take_add_one, List.getElem?_eq_getElem hj]
  simp only [Option.toList_some, Apt, List.pairwise_append, List.any_eq_false, List.mem_singleton]
  constructor
  · rintro ⟨h1, -, h2⟩
    exact ⟨h1, fun x hx => by simp [h2 x hx _ rfl]⟩
  · rintro ⟨h1, h2⟩
    exact ⟨h1, List.pairwise_singleton .., fun x hx y hy => by subst hy; simpa using h2 x hx⟩
theorem apt_no {l : List ByteArray} {j : Nat} (hj : j < l.length) (h : (l.take j).any (clB l[j]) = true) : ¬ Apt l := fun hA => by
  have := (apt_more hj).1 (List.Pairwise.sublist (List.take_sublist _ _) hA)
  rw [h] at this
  cases this.2
end Go.Proofs.YtaidggjnpnfdhaaDoor
namespace Go.Proofs.YtaidggjnpnfdhaaDoor
open Go.RowKit

theorem eqF (f g : Fil) (w : World) : (binOp .eql 46 (.agg #[.string f.1, .string f.2]) (.agg #[.string g.1, .string g.2])).run Tryd.prog w = .ok (.bool (decide (f = g))) w := by
  have u9 := Tryd.underlying9
  have a9 := Tryd.isAgg9
  have z9 := Tryd.sizeOf9
  have hS : Tryd.prog.underlying 46 = some (.struct (Tryd.prog.fieldsOf 46)) := by kernel_rfl
  have hp : Tryd.prog.stoodInHeld 46 = false := by kernel_rfl
  rw [run_eql_struct, show (10000 : Nat) = 9999 + 1 from rfl, run_equalIn_agg w 9999 46 _ _ hS hp]
  simp only [Program.fieldsOf, Tryd.underlying46]
  go_simp
  have inj : ∀ {a b : ByteArray}, a.toList = b.toList → a = b := fun h => data_inj (by rw [← Lib.toList_data, ← Lib.toList_data]; exact h)
  by_cases h1 : f.1.toList = g.1.toList
  · by_cases h2 : f.2.toList = g.2.toList
    · have e : f = g := Prod.ext (inj h1) (inj h2)
      rw [if_pos h1, if_pos h2, decide_eq_true e]
    · have e : f ≠ g := fun e => h2 (by rw [e])
      rw [if_pos h1, if_neg h2, decide_eq_false e]
  · have e : f ≠ g := fun e => h1 (by rw [e])
    rw [if_neg h1, decide_eq_false e]

/-! ### Is a string there? -/
end Go.Proofs.YtaidggjnpnfdhaaDoor
namespace Go.Proofs.YtaidggjnpnfdhaaDoor
open Go.RowKit

/-! ### Actions -/
abbrev Ac := ByteArray × Bool × ByteArray
def aV (a : Ac) : List Value := [.string a.1, .bool a.2.1, .string a.2.2]
def actV (l : List Ac) : List Value := l.flatMap aV
theorem actV_append (a b : List Ac) : actV (a ++ b) = actV a ++ actV b := by simp [actV]
theorem actV_one (l : List Ac) : ∀ u ∈ actV l, u.oneCell' = true := by
  intro u hu
  obtain ⟨a, -, ha⟩ := List.mem_flatMap.1 hu
  simp only [aV, List.mem_cons, List.not_mem_nil, or_false] at ha
  rcases ha with rfl | rfl | rfl <;> rfl
theorem actV_length (l : List Ac) : (actV l).length = l.length * 3 := by
  induction l with
  | nil => rfl
  | cons a l ih => rw [show actV (a :: l) = aV a ++ actV l from rfl, List.length_append, ih, List.length_cons]; simp [aV]; omega
theorem Tryd.infoA : (Tryd.prog.info? 33).map (fun i => (i.zero, i.size, i.bytes)) = some (some (.agg #[zS, .bool false, zS]), 3, 40) := by kernel_rfl
def dropsL (t u : List Fil) : List Ac := (t.filter fun f => !(u.any fun g => decide (g.1 = f.1))).map fun f => (f.1, false, noS)
def putsL (t u : List Fil) : List Ac := (u.filter fun f => !(t.any fun g => decide (f = g))).map fun f => (f.1, true, f.2)
def planL (t u : List Fil) : List Ac := dropsL t u ++ putsL t u
theorem drops_more (t u : List Fil) (j : Nat) (h : j < t.length) : dropsL (t.take (j + 1)) u = dropsL (t.take j) u ++ (if u.any (fun g => decide (g.1 = t[j].1)) then [] else [(t[j].1, false, noS)]) := by
  rw [dropsL, List.take_add_one, List.getElem?_eq_getElem h, List.filter_append, List.map_append, dropsL]
  congr 1
  simp only [Option.toList_some, List.filter_cons, List.filter_nil]
  cases u.any (fun g => decide (g.1 = t[j].1)) <;> rfl
theorem puts_more (t u : List Fil) (j : Nat) (h : j < u.length) : putsL t (u.take (j + 1)) = putsL t (u.take j) ++ (if t.any (fun g => decide (u[j] = g)) then [] else [(u[j].1, true, u[j].2)]) := by
  rw [putsL, List.take_add_one, List.getElem?_eq_getElem h, List.filter_append, List.map_append, putsL]
  congr 1
  simp only [Option.toList_some, List.filter_cons, List.filter_nil]
  cases t.any (fun g => decide (u[j] = g)) <;> rfl
theorem drops_len (t u : List Fil) : (dropsL t u).length ≤ t.length := by rw [dropsL, List.length_map]; exact List.length_filter_le _ _
theorem puts_len (t u : List Fil) : (putsL t u).length ≤ u.length := by rw [putsL, List.length_map]; exact List.length_filter_le _ _
def planN (t : List Fil) (es : List Ent) : Nat := if treeR t && archR es then 0 else 1
def planA (t : List Fil) (es : List Ent) : List Ac := if planN t es = 0 then planL t (treeE es) else []
def PlanPost (w : World) (t : List Fil) (es : List Ent) (e : Ending) (w' : World) : Prop :=
  ∃ A' c', e = .returned (.tuple #[.slice A' (planA t es).length c', .int .i64 (planN t es : Nat)]) ∧
    w'.ownsRow w.heap.size 33 3 (.slice A' (planA t es).length c') (planA t es).length (actV (planA t es)) ∧ Below w.heap.size w w'
theorem plan_err {w w' : World} {t : List Fil} {es : List Ent} (h : (treeR t && archR es) = false) (hb : Below w.heap.size w w') : PlanPost w t es (.returned (.tuple #[.slice none 0 0, .int .i64 1])) w' := by
  have e0 : planN t es = 1 := by unfold planN; rw [h]; rfl
  have e1 : planA t es = [] := by unfold planA; rw [e0, if_neg (by decide)]
  refine ⟨none, 0, ?_, ?_, hb⟩
  · rw [e1, e0]; rfl
  · rw [e1]; exact World.ownsRow_nil _ _ _ _
/-- One more action. -/
theorem app_act {W : World} {n₀ : Nat} {v : Value} {xs : List Ac} (hrow : W.ownsRow n₀ 33 3 v xs.length (actV xs)) (hn : n₀ ≤ W.heap.size) (hk : xs.length ≤ 1000000) (a : Ac) :
    ∃ A' c' w1, Hid ((Builtin.append_ #[23, 23] 23 #[v, .slice (some ⟨W.heap.size, 0, none⟩) 1 1]).run Tryd.prog (W.alloc (.cells #[.string a.1, .bool a.2.1, .string a.2.2] 33)) = .ok (.slice A' (xs ++ [a]).length c') w1) ∧ w1.ownsRow n₀ 33 3 (.slice A' (xs ++ [a]).length c') (xs ++ [a]).length (actV (xs ++ [a])) ∧ Below n₀ W w1 := by
  obtain ⟨A', c', w1, h1, h2, -, h4⟩ := app_own2 (n₀ := n₀) Tryd.underlying23 Tryd.infoA rfl (by decide) hrow hn (by omega) (by unfold maxLen; omega) (aV a) rfl (by intro u hu; exact actV_one [a] u (by simpa [actV] using hu))
  refine ⟨A', c', w1, ?_, ?_, h4⟩
  · rw [List.length_append, List.length_singleton]; exact h1
  · rw [List.length_append, List.length_singleton, actV_append]
    simpa [actV] using h2

theorem rd_own3 {w : World} {base : Nat} {A : Option Addr} {n c : Nat} {l : List Ac} (hl : l.length = n) (h : w.ownsRow base 33 3 (.slice A n c) n (actV l)) : Rd w A (actV l) := by
  rcases h.2 with ⟨e1, e0⟩ | ⟨g, cap, cur, e1, _⟩
  · have : l = [] := List.eq_nil_of_length_eq_zero (by rw [hl, e0])
    subst this; exact .inl rfl
  · injection e1 with e1 e2 e3
    subst e1
    exact .inr ⟨_, rfl, h.cells (g := g) rfl⟩

end Go.Proofs.YtaidggjnpnfdhaaDoor
namespace Go.Proofs.YtaidggjnpnfdhaaDoor
open Go.ChangeShapes Go.WideShapes Go.ChangeAt Go.RowKit Go.Deep

theorem list3 {α : Type} {l : List α} (h : l.length = 3) : ∃ a b c, l = [a, b, c] := by
  match l, h with
  | [a, b, c], _ => exact ⟨a, b, c, rfl⟩
theorem actV_at : ∀ (l : List Ac) (j : Nat) (h : j < l.length) (q : Nat), q < 3 → (actV l)[j * 3 + q]? = (aV l[j])[q]? := by
  intro l
  induction l with
  | nil => intro j h; simp at h
  | cons a l ih =>
    intro j h q hq
    rw [show actV (a :: l) = aV a ++ actV l from rfl]
    cases j with
    | zero => rw [Nat.zero_mul, Nat.zero_add, List.getElem?_append_left (by simp [aV]; exact hq)]; rfl
    | succ j => rw [List.getElem?_append_right (by simp [aV]; omega), show (j + 1) * 3 + q - (aV a).length = j * 3 + q by simp [aV]; omega, ih j (by simpa using h) q hq]; rfl
theorem trod_ac {H : Type} {enc : TypeId × Value → H} {W : World} {base : Nat} {sp : Nat → Bool} {hd : Bool} {fuel : Nat} {cs : List Value} {y : DataW H × List MemPlace} (h : DataW.trod enc Tryd.prog W base sp hd fuel 33 cs = some y) : ∃ x : Ac, cs = aV x := by
  have hct : Tryd.prog.cellsOf 33 = 3 := by kernel_rfl
  have hcs : Tryd.prog.cellsOf 9 = 1 := by kernel_rfl
  have hcb : Tryd.prog.cellsOf 4 = 1 := by kernel_rfl
  obtain ⟨xs, n, -, -, hl, hlen, hf⟩ := DataW.trod_struct Tryd.underlying33 h
  rw [hct] at hl
  obtain ⟨u0, u1, u2, rfl⟩ := list3 hl
  obtain ⟨y0, y1, y2, rfl⟩ := list3 (hlen.trans rfl)
  have h0 := hf 0 _ rfl
  have h1 := hf 1 _ rfl
  have h2 := hf 2 _ rfl
  simp only [List.getElem?_cons_zero, List.getElem?_cons_succ] at h0 h1 h2
  obtain ⟨z0, e0, -⟩ := DataW.trod_string Tryd.underlying9 h0
  obtain ⟨z1, e1, -⟩ := DataW.trod_bool Tryd.underlying4 h1
  obtain ⟨z2, e2, -⟩ := DataW.trod_string Tryd.underlying9 h2
  simp [hcs] at e0 e2
  simp [hcb] at e1
  exact ⟨(z0, z1, z2), by rw [e0, e1, e2]; rfl⟩
set_option maxRecDepth 100000 in
theorem arg__api_Action {H : Type} {enc : TypeId × Value → H} {W : World} {base : Nat} {v : Value} {d : DataW H} {p : List MemPlace} (hv : Value.okWide Tryd.prog W .any base 23 v)
    (h : DataW.Trod enc Tryd.prog W 0 (fun _ => true) true 23 v d p) (_ : ∀ elems spare, d = .slice elems spare → (elems.length + spare.length) * Tryd.prog.bytesOf 33 ≤ reachBytes) :
    ∃ (A : Option Addr) (c : Nat) (ps : List Ac), v = .slice A ps.length c ∧ Rd W A (actV ps) ∧ ps.length ≤ c ∧ c ≤ maxLen ∧ True := by
  have hct : Tryd.prog.cellsOf 33 = 3 := by kernel_rfl
  obtain ⟨a, len, cap, rfl⟩ := okWide_slice Tryd.underlying23 hv
  obtain ⟨fuel, hf⟩ := h
  rcases open_slice Tryd.underlying23 hf with ⟨hcs, _⟩ | ⟨x, l, c, m, n, D, Pl, hcs, _, hl, hm, hmm, hx, hcell⟩
  · simp [Value.cells] at hcs
    obtain ⟨rfl, rfl, rfl⟩ := hcs
    exact ⟨none, 0, [], rfl, .inl rfl, Nat.le_refl _, by unfold maxLen; omega, trivial⟩
  · simp [Value.cells] at hcs
    obtain ⟨rfl, rfl, rfl⟩ := hcs
    have hmm' : m = cap := by simpa using hmm
    have one : ∀ i, ∃ z : Ac, i < len → ∀ k, k < 3 → W.cell? (x.add (i * 3 + k)) = (aV z)[k]? := by
      intro i
      by_cases hi : i < len
      · obtain ⟨cs', hc1, hc2⟩ := hcell i (by omega)
        rw [hct] at hc1
        obtain ⟨-, hl2, hg⟩ := World.cells?_some hc1
        obtain ⟨z, rfl⟩ := trod_ac hc2
        refine ⟨z, fun _ k hk => ?_⟩
        have := hg k (by simpa [aV] using hk)
        rw [add_assoc'] at this
        exact this
      · exact ⟨(noS, false, noS), fun h => absurd h hi⟩
    obtain ⟨B, hB⟩ := Classical.axiomOfChoice one
    refine ⟨some x, cap, (List.range len).map B, by simp, ?_, by simpa using hl, hm, trivial⟩
    refine .inr ⟨x, rfl, fun j u hu => ?_⟩
    have hjl := (List.getElem?_eq_some_iff.1 hu).1
    rw [actV_length, List.length_map, List.length_range] at hjl
    have hi' : j / 3 < len := by omega
    have hi2 : j / 3 < ((List.range len).map B).length := by simpa using hi'
    have eB : ((List.range len).map B)[j / 3] = B (j / 3) := by simp
    have e := actV_at _ _ hi2 (j % 3) (by omega)
    rw [eB, show j / 3 * 3 + j % 3 = j by omega, hu] at e
    have := hB (j / 3) hi' (j % 3) (by omega)
    rw [show j / 3 * 3 + j % 3 = j by omega] at this
    rw [this, ← e]
end Go.Proofs.YtaidggjnpnfdhaaDoor
namespace Go.Proofs.YtaidggjnpnfdhaaDoor
open Go.RowKit

/-! ### place -/
/-! ### joined -/
/-! ### What comes of a path -/
end Go.Proofs.YtaidggjnpnfdhaaDoor
namespace Go.Proofs.YtaidggjnpnfdhaaDoor
open Go.RowKit

def agreeB (es fs : List Ent) (p : ByteArray) : Bool := archR es && archR fs && decide (atE es p = atE fs p)

end Go.Proofs.YtaidggjnpnfdhaaDoor
namespace Go.Proofs.YtaidggjnpnfdhaaDoor
open Go.RowKit

end Go.Proofs.YtaidggjnpnfdhaaDoor
namespace Go.Proofs.YtaidggjnpnfdhaaDoor
open Go.RowKit

end Go.Proofs.YtaidggjnpnfdhaaDoor
namespace Go.Proofs.YtaidggjnpnfdhaaDoor
open Go.RowKit

def mrgN (es fs : List Ent) : Nat := if archR es && archR fs then fitN (mA es fs) else 1
def mrgA (es fs : List Ent) : List Ent := if mrgN es fs = 0 then mA es fs else []
def mrgC (es fs : List Ent) : List ByteArray := if mrgN es fs = 0 then mC es fs else []
theorem mrgN_arg {es fs : List Ent} (h : (archR es && archR fs) = false) : mrgN es fs = 1 := by unfold mrgN; rw [h]; rfl
theorem mrgN_fit {es fs : List Ent} (h : archR es = true) (k : archR fs = true) : mrgN es fs = fitN (mA es fs) := by unfold mrgN; rw [h, k]; rfl
def mAp (M : List (Ent × Bool)) : List Ent := M.map (·.1)
def mCp (M : List (Ent × Bool)) : List ByteArray := (M.filter (·.2)).map (·.1.path)
theorem mAp_more (M : List (Ent × Bool)) (j : Nat) (h : j < M.length) : mAp (M.take (j + 1)) = mAp (M.take j) ++ [M[j].1] := by
  rw [mAp, List.take_add_one, List.getElem?_eq_getElem h, List.map_append]; rfl
theorem mCp_more (M : List (Ent × Bool)) (j : Nat) (h : j < M.length) : mCp (M.take (j + 1)) = mCp (M.take j) ++ (if M[j].2 then [M[j].1.path] else []) := by
  rw [mCp, List.take_add_one, List.getElem?_eq_getElem h, List.filter_append, List.map_append, mCp]
  congr 1
  simp only [Option.toList_some, List.filter_cons, List.filter_nil]
  split <;> rfl
theorem mCp_len (M : List (Ent × Bool)) : (mCp M).length ≤ M.length := by rw [mCp, List.length_map]; exact List.length_filter_le _ _
/-- What comes of two archives is of the size of theirs. -/
theorem come_sz {a b : Ent} (ha : SzE a) (hb : SzE b) : SzE (comeE a b).1 := by
  unfold comeE
  split
  · exact hb
  · split
    · exact ha
    · split
      · simp only []; split
        · exact ha
        · exact ha
      · exact ha
theorem mrg_sz (l m : List Ent) (hl : ∀ e ∈ l, SzE e) (hm : ∀ e ∈ m, SzE e) : ∀ x ∈ mrgL l m, SzE x.1 := by
  fun_induction mrgL l m with
  | case1 => simp
  | case2 a l ih => intro x hx; exact (List.mem_cons.1 hx).elim (fun e => by subst e; exact hl _ List.mem_cons_self) (fun h => ih (fun e he => hl e (List.mem_cons_of_mem _ he)) hm x h)
  | case3 b m ih => intro x hx; exact (List.mem_cons.1 hx).elim (fun e => by subst e; exact hm _ List.mem_cons_self) (fun h => ih hl (fun e he => hm e (List.mem_cons_of_mem _ he)) x h)
  | case4 a l b m h ih => intro x hx; exact (List.mem_cons.1 hx).elim (fun e => by subst e; exact come_sz (hl _ List.mem_cons_self) (hm _ List.mem_cons_self)) (fun h => ih (fun e he => hl e (List.mem_cons_of_mem _ he)) (fun e he => hm e (List.mem_cons_of_mem _ he)) x h)
  | case5 a l b m h h2 ih => intro x hx; exact (List.mem_cons.1 hx).elim (fun e => by subst e; exact hl _ List.mem_cons_self) (fun h => ih (fun e he => hl e (List.mem_cons_of_mem _ he)) hm x h)
  | case6 a l b m h h2 ih => intro x hx; exact (List.mem_cons.1 hx).elim (fun e => by subst e; exact hm _ List.mem_cons_self) (fun h => ih hl (fun e he => hm e (List.mem_cons_of_mem _ he)) x h)
theorem mA_sz {l m : List Ent} (hl : ∀ e ∈ l, SzE e) (hm : ∀ e ∈ m, SzE e) : ∀ e ∈ mA l m, SzE e := fun e he => by
  obtain ⟨x, hx, rfl⟩ := List.mem_map.1 he
  exact mrg_sz l m hl hm x hx

end Go.Proofs.YtaidggjnpnfdhaaDoor
namespace Go.Proofs.YtaidggjnpnfdhaaDoor
open Go.RowKit

def inB (p : ByteArray) (l : List ByteArray) : Bool := l.any fun s => decide (p = s)
theorem inB_iff {p : ByteArray} {l : List ByteArray} : inB p l = true ↔ p ∈ l := by
  unfold inB
  rw [List.any_eq_true]
  constructor
  · rintro ⟨x, hx, h⟩
    have := of_decide_eq_true h
    subst this
    exact hx
  · exact fun h => ⟨p, h, by simp⟩
theorem inB_no {p : ByteArray} {l : List ByteArray} (h : ¬ p ∈ l) : inB p l = false := not_true fun e => h (inB_iff.1 e)
def setE (x y : Ent) (tk : Bool) (a : Int) : Ent := ⟨x.path, if tk then y.has else x.has, if tk then y.data else x.data, (tickL (joinC x y).1 (joinC x y).2 a).1, (tickL (joinC x y).1 (joinC x y).2 a).2⟩
def setN (es fs : List Ent) (p : ByteArray) (tk : Bool) (a : Int) : Nat :=
  if mrgN es fs ≠ 0 then mrgN es fs else if inB p (mC es fs) then
    match atE es p, atE fs p with
    | some x, some y => if tickL (joinC x y).1 (joinC x y).2 a = joinC x y then 2 else fitN (es.set (idxE es p).toNat (setE x y tk a))
    | _, _ => 3
  else 3
def setA (es fs : List Ent) (p : ByteArray) (tk : Bool) (a : Int) : List Ent :=
  if setN es fs p tk a = 0 then match atE es p, atE fs p with
    | some x, some y => es.set (idxE es p).toNat (setE x y tk a)
    | _, _ => []
  else []
theorem setN_mrg {es fs : List Ent} {p : ByteArray} {tk : Bool} {a : Int} (h : mrgN es fs ≠ 0) : setN es fs p tk a = mrgN es fs := by unfold setN; rw [if_pos h]
theorem setN_no {es fs : List Ent} {p : ByteArray} {tk : Bool} {a : Int} (h : mrgN es fs = 0) (hp : ¬ p ∈ mC es fs) : setN es fs p tk a = 3 := by unfold setN; rw [if_neg (by rw [h]; exact fun h => h rfl), inB_no hp]; rfl
theorem setN_at {es fs : List Ent} {p : ByteArray} {tk : Bool} {a : Int} (h : mrgN es fs = 0) (hp : p ∈ mC es fs) {i j : Nat} (hi : i < es.length) (hj : j < fs.length) (e1 : idxE es p = i) (e2 : idxE fs p = j) :
    setN es fs p tk a = if tickL (joinC es[i] fs[j]).1 (joinC es[i] fs[j]).2 a = joinC es[i] fs[j] then 2 else fitN (es.set i (setE es[i] fs[j] tk a)) := by
  unfold setN; rw [if_neg (by rw [h]; exact fun h => h rfl), if_pos (inB_iff.2 hp), atE_yes hi e1, atE_yes hj e2, e1]; rfl
theorem setA_at {es fs : List Ent} {p : ByteArray} {tk : Bool} {a : Int} (h : setN es fs p tk a = 0) {i j : Nat} (hi : i < es.length) (hj : j < fs.length) (e1 : idxE es p = i) (e2 : idxE fs p = j) :
    setA es fs p tk a = es.set i (setE es[i] fs[j] tk a) := by
  unfold setA; rw [if_pos h, atE_yes hi e1, atE_yes hj e2, e1]; rfl
theorem clk_set : ∀ (es : List Ent) (j : Nat) (h : j < es.length) (l r : Int), ((entV es).set (j * 5 + 3) (.int .i64 l)).set (j * 5 + 4) (.int .i64 r) = entV (es.set j ⟨es[j].path, es[j].has, es[j].data, l, r⟩)
  | x :: es, 0, _, l, r => rfl
  | x :: es, j + 1, h, l, r => by
    have ih := clk_set es j (by simpa using h) l r
    have e0 : (j + 1) * 5 + 3 = (j * 5 + 3) + 1 + 1 + 1 + 1 + 1 := by omega
    have e1 : (j + 1) * 5 + 4 = (j * 5 + 4) + 1 + 1 + 1 + 1 + 1 := by omega
    rw [List.set_cons_succ, entV_cons, entV_cons, e0, e1]
    simp only [eV, List.cons_append, List.nil_append, List.set_cons_succ, List.getElem_cons_succ, ih]
theorem val_set : ∀ (es : List Ent) (j : Nat) (h : j < es.length) (b : Bool) (d : ByteArray), ((entV es).set (j * 5 + 1) (.bool b)).set (j * 5 + 2) (.string d) = entV (es.set j ⟨es[j].path, b, d, es[j].l, es[j].r⟩)
  | x :: es, 0, _, b, d => rfl
  | x :: es, j + 1, h, b, d => by
    have ih := val_set es j (by simpa using h) b d
    have e0 : (j + 1) * 5 + 1 = (j * 5 + 1) + 1 + 1 + 1 + 1 + 1 := by omega
    have e1 : (j + 1) * 5 + 2 = (j * 5 + 2) + 1 + 1 + 1 + 1 + 1 := by omega
    rw [List.set_cons_succ, entV_cons, entV_cons, e0, e1]
    simp only [eV, List.cons_append, List.nil_append, List.set_cons_succ, List.getElem_cons_succ, ih]
/-- A conflict is of both. -/
theorem conf_both {es fs : List Ent} (hl : SrtE es) (hm : SrtE fs) {p : ByteArray} (h : p ∈ mC es fs) : ∃ (i j : Nat) (hi : i < es.length) (hj : j < fs.length), idxE es p = i ∧ idxE fs p = j ∧ es[i].path = p ∧ fs[j].path = p := by
  obtain ⟨e, he⟩ := (mC_mem hl hm p).1 h
  rcases idxE_cases es p with ⟨e1, -⟩ | ⟨i, hi, e1, p1⟩
  · rw [atE_no e1] at he
    rcases idxE_cases fs p with ⟨e2, -⟩ | ⟨j, hj, e2, -⟩
    · rw [atE_no e2] at he; cases he
    · rw [atE_yes hj e2] at he; cases he
  · rcases idxE_cases fs p with ⟨e2, -⟩ | ⟨j, hj, e2, p2⟩
    · rw [atE_no e2, atE_yes hi e1] at he; cases he
    · exact ⟨i, j, hi, hj, e1, e2, p1, p2⟩
theorem mrg_right {es fs : List Ent} (h : mrgN es fs = 0) : RightA es ∧ RightA fs := by
  unfold mrgN at h
  cases h1 : archR es with
  | false => rw [h1] at h; simp at h
  | true =>
    cases h2 : archR fs with
    | false => rw [h1, h2] at h; simp at h
    | true => exact ⟨(archR_iff _).1 h1, (archR_iff _).1 h2⟩

end Go.Proofs.YtaidggjnpnfdhaaDoor
namespace Go.Proofs.YtaidggjnpnfdhaaDoor
open Go.RowKit

/-! ### What is told, to be read -/
theorem mrgA_sz {es fs : List Ent} (h : ∀ e ∈ es, SzE e) (k : ∀ e ∈ fs, SzE e) : ∀ e ∈ mrgA es fs, SzE e := by
  unfold mrgA
  split
  · exact mA_sz h k
  · simp
theorem fit_len {es : List Ent} (h : fitN es = 0) : es.length ≤ 32 := by
  unfold fitN at h
  split at h
  · cases h
  · omega
theorem mrgA_len (es fs : List Ent) : (mrgA es fs).length ≤ 32 := by
  unfold mrgA
  split
  · rename_i h
    unfold mrgN at h
    split at h
    · exact fit_len h
    · cases h
  · simp
theorem mrgC_len (es fs : List Ent) : (mrgC es fs).length ≤ 32 := by
  have h1 := mrgA_len es fs
  unfold mrgA at h1
  unfold mrgC
  split
  · rename_i h
    rw [if_pos h] at h1
    have h2 := mCp_len (mrgL es fs)
    have h3 : (mC es fs).length = (mCp (mrgL es fs)).length := rfl
    have h4 : (mA es fs).length = (mrgL es fs).length := List.length_map ..
    omega
  · simp
theorem setE_sz {x y : Ent} (hx : SzE x) (hy : SzE y) (tk : Bool) (a : Int) : SzE (setE x y tk a) := by
  unfold setE SzE
  cases tk
  · exact hx
  · exact ⟨hx.1, hy.2⟩
theorem setA_sz {es fs : List Ent} {p : ByteArray} {tk : Bool} {a : Int} (h : ∀ e ∈ es, SzE e) (k : ∀ e ∈ fs, SzE e) : ∀ e ∈ setA es fs p tk a, SzE e := by
  intro e he
  unfold setA at he
  split at he
  · split at he
    · rename_i x y h1 h2
      rcases List.mem_or_eq_of_mem_set he with h3 | h3
      · exact h e h3
      · subst h3; exact setE_sz (h x (atE_mem h1).1) (k y (atE_mem h2).1) tk a
    · cases he
  · cases he
theorem setA_len {es fs : List Ent} {p : ByteArray} {tk : Bool} {a : Int} : (setA es fs p tk a).length ≤ es.length := by
  unfold setA
  split
  · split
    · rw [List.length_set]; exact Nat.le_refl _
    · simp
  · simp
/-! ### Actions alike -/
abbrev acA (a : Ac) : Value := .agg #[.string a.1, .bool a.2.1, .string a.2.2]
theorem eqAc (f g : Ac) (w : World) : (binOp .eql 33 (acA f) (acA g)).run Tryd.prog w = .ok (.bool (decide (f = g))) w := by
  have u9 := Tryd.underlying9
  have a9 := Tryd.isAgg9
  have z9 := Tryd.sizeOf9
  have u4 := Tryd.underlying4
  have a4 := Tryd.isAgg4
  have z4 := Tryd.sizeOf4
  have hS : Tryd.prog.underlying 33 = some (.struct (Tryd.prog.fieldsOf 33)) := by kernel_rfl
  have hp : Tryd.prog.stoodInHeld 33 = false := by kernel_rfl
  obtain ⟨f1, f2, f3⟩ := f
  obtain ⟨g1, g2, g3⟩ := g
  rw [run_eql_struct, show (10000 : Nat) = 9999 + 1 from rfl, run_equalIn_agg w 9999 33 _ _ hS hp]
  simp only [Program.fieldsOf, Tryd.underlying33]
  go_simp
  have inj : ∀ {a b : ByteArray}, a.toList = b.toList → a = b := fun h => data_inj (by rw [← Lib.toList_data, ← Lib.toList_data]; exact h)
  by_cases h1 : f1.toList = g1.toList
  · by_cases h2 : f2 = g2
    · by_cases h3 : f3.toList = g3.toList
      · rw [if_pos h1, if_pos h2, if_pos h3, decide_eq_true (inj h1), decide_eq_true h2, decide_eq_true (inj h3)]; rfl
      · rw [if_pos h1, if_pos h2, if_neg h3, decide_eq_true (inj h1), decide_eq_true h2, decide_eq_false (fun e => h3 (congrArg ByteArray.toList e))]; rfl
    · rw [if_pos h1, if_neg h2, decide_eq_true (inj h1), decide_eq_false h2]; rfl
  · rw [if_neg h1, decide_eq_false (fun e => h1 (congrArg ByteArray.toList e))]; rfl
theorem Rd.act {w : World} {A : Option Addr} {l : List Ac} (h : Rd w A (actV l)) {j : Nat} (hj : j < l.length) :
    ∃ b off, A = some ⟨b, off, none⟩ ∧ w.cell? ⟨b, off + j * 3, none⟩ = some (.string l[j].1) ∧ w.cell? ⟨b, off + j * 3 + 1, none⟩ = some (.bool l[j].2.1) ∧ w.cell? ⟨b, off + j * 3 + 2, none⟩ = some (.string l[j].2.2) ∧ b < w.heap.size := by
  have hl := actV_length l
  obtain ⟨b, off, rfl, -, hb⟩ := h.at_ (k := j * 3) (by omega)
  have at3 : ∀ (l : List Ac) (j : Nat) (h : j < l.length) (q : Nat), q < 3 → (actV l)[j * 3 + q]? = (aV l[j])[q]? := by
    intro l
    induction l with
    | nil => intro j h; simp at h
    | cons a l ih =>
      intro j h q hq
      rw [show actV (a :: l) = aV a ++ actV l from rfl]
      cases j with
      | zero => rw [Nat.zero_mul, Nat.zero_add, List.getElem?_append_left (by simp [aV]; exact hq)]; rfl
      | succ j => rw [List.getElem?_append_right (by simp [aV]; omega), show (j + 1) * 3 + q - (aV a).length = j * 3 + q by simp [aV]; omega, ih j (by simpa using h) q hq]; rfl
  have g : ∀ q, q < 3 → w.cell? ⟨b, off + j * 3 + q, none⟩ = (aV l[j])[q]? := by
    intro q hq
    rw [Nat.add_assoc]
    obtain ⟨b', off', e, hc, -⟩ := h.at_ (k := j * 3 + q) (by omega)
    injection e with e; injection e with e1 e2; subst e1 e2
    rw [hc, ← List.getElem?_eq_getElem, at3 l j hj q hq]
  exact ⟨b, off, rfl, g 0 (by omega), g 1 (by omega), g 2 (by omega), hb⟩

/-! ### The small case's lists -/
abbrev tf : ByteArray := ⟨#[102]⟩
abbrev tg : ByteArray := ⟨#[103]⟩
abbrev th : ByteArray := ⟨#[104]⟩
abbrev tx : ByteArray := ⟨#[120]⟩
abbrev t1s : ByteArray := ⟨#[49]⟩
abbrev t2s : ByteArray := ⟨#[50]⟩
abbrev e1f : Ent := ⟨tf, true, t1s, 2, 0⟩
abbrev e1g : Ent := ⟨tg, true, t1s, 1, 0⟩
abbrev e2f : Ent := ⟨tf, true, t2s, 1, 1⟩
abbrev e2g : Ent := ⟨tg, false, noS, 1, 1⟩
abbrev e2h : Ent := ⟨th, true, noS, 0, 1⟩
abbrev e3f : Ent := ⟨tf, true, t2s, 3, 1⟩
abbrev SA : List Ent := [e1f, e1g]
abbrev SB : List Ent := [e2f, e2g, e2h]
abbrev SL : List Ent := [e1f, e2g, e2h]
abbrev SS : List Ent := [e3f, e2g, e2h]
theorem sm1 : mrgL SA SB = [(e1f, true), (e2g, false), (e2h, false)] := by
  rw [mrgL, if_pos rfl, mrgL, if_pos rfl, mrgL, mrgL, show comeE e1f e2f = (e1f, true) by decide +kernel, show comeE e1g e2g = (e2g, false) by decide +kernel]
theorem sm2 : mrgL SL SB = [(e1f, true), (e2g, false), (e2h, false)] := by
  rw [mrgL, if_pos rfl, mrgL, if_pos rfl, mrgL, if_pos rfl, mrgL, show comeE e1f e2f = (e1f, true) by decide +kernel, show comeE e2g e2g = (e2g, false) by decide +kernel, show comeE e2h e2h = (e2h, false) by decide +kernel]
theorem sm_fit : fitN SL = 0 := by decide +kernel
theorem sm_mN : mrgN SA SB = 0 := by
  rw [mrgN_fit (by decide +kernel) (by decide +kernel), mA, sm1]; exact sm_fit
theorem sm_mA : mrgA SA SB = SL := by rw [mrgA, if_pos sm_mN, mA, sm1]; rfl
theorem sm_mC : mrgC SA SB = [tf] := by rw [mrgC, if_pos sm_mN, mC, sm1]; rfl
theorem sm_mN2 : mrgN SL SB = 0 := by
  rw [mrgN_fit (by decide +kernel) (by decide +kernel), mA, sm2]; exact sm_fit
theorem sm_mC2 : mC SL SB = [tf] := by rw [mC, sm2]; rfl
theorem sm_sN : setN SL SB tf true 0 = 0 := by
  rw [setN_at (i := 0) (j := 0) sm_mN2 (by rw [sm_mC2]; exact List.mem_singleton.2 rfl) (by decide) (by decide) (by decide +kernel) (by decide +kernel)]
  decide +kernel
theorem sm_sA : setA SL SB tf true 0 = SS := by
  rw [setA_at (i := 0) (j := 0) sm_sN (by decide) (by decide) (by decide +kernel) (by decide +kernel)]
  decide +kernel
theorem sm_sN2 : setN SL SB tg true 0 = 3 := setN_no sm_mN2 (by rw [sm_mC2, List.mem_singleton]; decide +kernel)
theorem sm_sA2 : setA SL SB tg true 0 = [] := by unfold setA; rw [sm_sN2]; rfl
theorem sm_t : treeE SA = [(tf, t1s), (tg, t1s)] := by decide +kernel
theorem sm_pN : planN [(tf, t1s), (tg, t1s)] SL = 0 := by decide +kernel
theorem sm_pA : planA [(tf, t1s), (tg, t1s)] SL = [(tg, false, noS), (th, true, noS)] := by decide +kernel
theorem sm_a1 : agreeB SL SB tg = true := by decide +kernel
theorem sm_a2 : agreeB SL SB tf = false := by decide +kernel
theorem sm_a3 : agreeB SL SB tx = true := by decide +kernel
end Go.Proofs.YtaidggjnpnfdhaaDoor
namespace Go.Proofs.YtaidggjnpnfdhaaDoor
open Go.RowKit

end Go.Proofs.YtaidggjnpnfdhaaDoor
namespace Go.Proofs.YtaidggjnpnfdhaaDoor
open Go.RowKit

theorem gone_same {e : Ent} (h1 : e.has = false) (h2 : e.data = noS) : gone e = e := Ent.same rfl h1.symm h2.symm rfl rfl
theorem kept_same {e : Ent} (h1 : e.has = true) : kept e e.data = e := Ent.same rfl h1.symm rfl rfl rfl
theorem both_same : ∀ {es : List Ent}, SrtE es → (∀ e ∈ es, e.has = true ∨ e.data = noS) → bothL es (filesOf es) = es.map fun e => (e, e)
  | [], _, _ => bothL_nil
  | e :: es, hs, hd => by
    have hs' := List.pairwise_cons.1 hs
    have ih := both_same hs'.2 fun x hx => hd x (List.mem_cons_of_mem _ hx)
    rw [filesOf_cons, List.map_cons]
    cases hh : e.has with
    | true => rw [if_pos rfl, bothL_eq rfl, ih, kept_same hh]
    | false =>
      have hg : gone e = e := gone_same hh ((hd e (by simp)).resolve_left (by simp [hh]))
      rw [if_neg (by simp)]
      cases hf : filesOf es with
      | nil => rw [hf] at ih; rw [bothL_l, ih, hg]
      | cons f t =>
        have hm : f ∈ filesOf es := by rw [hf]; simp
        obtain ⟨x, hx, -, rfl⟩ := mem_files.1 hm
        have hlt := hs'.1 x hx
        rw [hf] at ih
        have h1 : ¬ e.path = ((x.path, x.data) : Fil).1 := fun h => by
          have e1 : epth e = epth x := epth_inj.2 h
          rw [e1] at hlt; exact List.lt_irrefl _ hlt
        have h2 : Op.bytesLess (pth (x.path, x.data)) (epth e) = false := less_no fun h => List.lt_asymm hlt h
        rw [bothL_gt h1 h2, ih, hg]
theorem fine_data {es : List Ent} (h : RightA es) : ∀ e ∈ es, e.has = true ∨ e.data = noS := fun e he => ((fineE_iff e).1 (h.fine e he)).2.2
theorem scan_self {es : List Ent} (h : RightA es) (a : Int) : scanN es (filesOf es) a = 0 ∧ scanA es (filesOf es) a = es ∧ scanC es (filesOf es) a = [] := by
  have hb := both_same h.srt (fine_data h)
  have hn : scanN es (filesOf es) a = 0 := by
    refine scanN_ok.2 ⟨h, (treeR_iff _).1 h.tree, ?_⟩
    rw [hb, okP, List.length_map, decide_eq_true h.few, Bool.true_and, List.all_eq_true]
    intro p hp
    obtain ⟨e, -, rfl⟩ := List.mem_map.1 hp
    simp [stuck]
  refine ⟨hn, ?_, ?_⟩
  · rw [scanA, if_pos hn, hb, outP, List.map_map]
    conv => rhs; rw [← List.map_id es]
    refine List.map_congr_left fun e _ => ?_
    simp [newE]
  · rw [scanC, if_pos hn, hb, chgP, List.map_eq_nil_iff, List.filter_eq_nil_iff]
    intro p hp
    obtain ⟨e, -, rfl⟩ := List.mem_map.1 hp
    simp

/-! ### What was scanned is right -/
theorem newE_files (a : Int) (ps : List (Ent × Ent)) : filesOf (outP a ps) = filesOf (ps.map (·.2)) := by
  induction ps with
  | nil => rfl
  | cons p ps ih =>
    rw [outP, List.map_cons, List.map_cons, filesOf_cons, filesOf_cons, newE_has, newE_path, newE_data]
    rw [outP] at ih
    rw [ih]
theorem tick_rt (l r a : Int) : 0 ≤ (tickL l r a).1 ∧ (tickL l r a).1 ≤ 1073741824 ∧ 0 ≤ (tickL l r a).2 ∧ (tickL l r a).2 ≤ 1073741824 := by
  have := tkc_le l r a
  rw [tickL_eq]
  simp only
  omega
theorem tick_pos (l r a : Int) : ¬ ((tickL l r a).1 = 0 ∧ (tickL l r a).2 = 0) := by
  unfold tickL up
  split <;> simp only <;> omega
/-- What a pair is, of a right archive and a right tree. -/
theorem pair_right {es : List Ent} {fs : List Fil} (h : RightA es) (k : RightT fs) {p : Ent × Ent} (hp : p ∈ bothL es fs) : rightL (epth p.2) = true := by
  have hP := both_pair es fs p hp
  have hpath := (both_path (x := p.2.path)).1 (List.mem_map.2 ⟨p, hp, rfl⟩)
  rcases hpath with h1 | h1
  · obtain ⟨e, he, h2⟩ := List.mem_map.1 h1
    have := h.paths e he
    unfold epth at this ⊢
    rw [← h2]; exact this
  · obtain ⟨f, hf, h2⟩ := List.mem_map.1 h1
    have := k.paths f hf
    unfold pth at this
    unfold epth
    rw [← h2]; exact this
theorem pair_new {es : List Ent} {fs : List Fil} {p : Ent × Ent} (hp : p ∈ bothL es fs) (he : p.2 = p.1) : p.1 ∈ es := by
  have hP := both_pair es fs p hp
  rcases hP.was with h | ⟨h, h2⟩
  · exact h
  · rw [he, h] at h2; cases h2
theorem scan_right {es : List Ent} {fs : List Fil} {a : Int} (hn : scanN es fs a = 0) : RightA (scanA es fs a) := by
  obtain ⟨h, k, ho⟩ := scanN_ok.1 hn
  rw [scanA, if_pos hn]
  have hsrt := both_srt es fs h.srt k.srt
  refine ⟨?_, ?_, ?_, ?_, ?_⟩
  · rw [outP, List.length_map]; exact okP_len ho
  · refine List.pairwise_map.2 (hsrt.imp fun {p q} hpq => ?_)
    unfold epth
    rw [newE_path, newE_path]; exact hpq
  · intro e he
    obtain ⟨p, hp, rfl⟩ := List.mem_map.1 he
    have := pair_right h k hp
    unfold epth at this ⊢
    rw [newE_path]; exact this
  · intro e he
    obtain ⟨p, hp, rfl⟩ := List.mem_map.1 he
    have hP := both_pair es fs p hp
    by_cases heq : p.2 = p.1
    · rw [newE_eq heq, heq]
      exact h.fine _ (pair_new hp heq)
    · rw [fineE_iff]
      have h1 := tick_rt p.1.l p.1.r a
      have h2 := tick_pos p.1.l p.1.r a
      unfold newE
      rw [if_neg heq]
      refine ⟨h1, h2, ?_⟩
      cases hh : p.2.has with
      | true => exact .inl rfl
      | false => exact .inr (hP.none hh)
  · rw [newE_files, both_files]
    exact (treeR_iff _).2 k
theorem scan_files {es : List Ent} {fs : List Fil} {a : Int} (hn : scanN es fs a = 0) : filesOf (scanA es fs a) = fs := by rw [scanA, if_pos hn, newE_files, both_files]
theorem scan_tree {es : List Ent} {fs : List Fil} {a : Int} (hn : scanN es fs a = 0) : treeE (scanA es fs a) = fs := by rw [treeE, (archR_iff _).2 (scan_right hn), if_pos rfl, scan_files hn]
/-- Scanned again nothing changed. -/
theorem scan_again {es : List Ent} {fs : List Fil} {a : Int} (hn : scanN es fs a = 0) (b : Int) : scanN (scanA es fs a) fs b = 0 ∧ scanA (scanA es fs a) fs b = scanA es fs a ∧ scanC (scanA es fs a) fs b = [] := by
  have := scan_self (scan_right hn) b
  rw [scan_files hn] at this
  exact this
theorem scan_none {es : List Ent} {fs : List Fil} {a : Int} (hn : scanN es fs a ≠ 0) : scanA es fs a = [] ∧ scanC es fs a = [] := ⟨by rw [scanA, if_neg hn], by rw [scanC, if_neg hn]⟩
end Go.Proofs.YtaidggjnpnfdhaaDoor
namespace Go.Proofs.YtaidggjnpnfdhaaDoor
open Go.RowKit

theorem ord_self (a : Ent) : ordE a a = 0 := by unfold ordE ordI; rw [if_pos ⟨rfl, rfl⟩]
theorem like_self (a : Ent) : likeE a a = true := by unfold likeE; simp
theorem come_self (a : Ent) : comeE a a = (a, false) := by
  unfold comeE
  rw [ord_self, like_self, if_neg (by decide), if_neg (by decide), if_pos rfl, if_neg (by decide)]
theorem mrg_self : ∀ (a : List Ent), mrgL a a = a.map fun e => (e, false)
  | [] => by rw [mrgL]; rfl
  | x :: a => by rw [mrgL, if_pos rfl, come_self, mrg_self a]; rfl
theorem mrg_l : ∀ (a : List Ent), mrgL a [] = a.map fun e => (e, false)
  | [] => by rw [mrgL]; rfl
  | x :: a => by rw [mrgL, mrg_l a]; rfl
theorem mrg_r : ∀ (a : List Ent), mrgL [] a = a.map fun e => (e, false)
  | [] => by rw [mrgL]; rfl
  | x :: a => by rw [mrgL, mrg_r a]; rfl
theorem own_A {l m a : List Ent} (h : mrgL l m = a.map fun e => (e, false)) : mA l m = a ∧ mC l m = [] := by
  unfold mA mC
  rw [h]
  constructor
  · rw [List.map_map]; exact List.map_id a
  · have : ((a.map fun e => ((e, false) : Ent × Bool)).filter (·.2)) = [] := List.filter_eq_nil_iff.2 (by simp)
    rw [this]; rfl
theorem apt_tree {fs : List Fil} (h : RightT fs) : Apt (fs.map (·.1)) := by
  have key : ∀ (l : List Fil), (∀ f ∈ l, f ∈ fs) → Apt (l.map (·.1)) := by
    intro l
    induction l with
    | nil => intro _; exact List.Pairwise.nil
    | cons a l ih =>
      intro hl
      refine List.pairwise_cons.2 ⟨fun x hx => ?_, ih fun f hf => hl f (List.mem_cons_of_mem _ hf)⟩
      obtain ⟨g, hg, rfl⟩ := List.mem_map.1 hx
      have h1 := h.apart g (hl g (List.mem_cons_of_mem _ hg)) a (hl a List.mem_cons_self)
      have h2 := h.apart a (hl a List.mem_cons_self) g (hl g (List.mem_cons_of_mem _ hg))
      show clashL (pth g) (pth a) = false
      unfold clashL
      rw [h1, h2]; rfl
  exact key fs fun _ h => h
theorem fit_right {es : List Ent} (h : RightA es) : fitN es = 0 := by
  have ht := (treeR_iff _).1 h.tree
  unfold fitN
  rw [if_neg (by have h1 := h.few; have h2 := ht.few; omega), if_pos (show Apt (fpaths es) from apt_tree ht)]
theorem right_none : RightA ([] : List Ent) := (archR_iff _).1 (by decide +kernel)
theorem own_any {l m a : List Ent} (hl : RightA l) (hm : RightA m) (ha : RightA a) (h : mrgL l m = a.map fun e => (e, false)) : mrgN l m = 0 ∧ mrgA l m = a ∧ mrgC l m = [] := by
  have h1 := own_A h
  have h0 : mrgN l m = 0 := by rw [mrgN_fit ((archR_iff _).2 hl) ((archR_iff _).2 hm), h1.1]; exact fit_right ha
  exact ⟨h0, by rw [mrgA, if_pos h0, h1.1], by rw [mrgC, if_pos h0, h1.2]⟩

end Go.Proofs.YtaidggjnpnfdhaaDoor
namespace Go.Proofs.YtaidggjnpnfdhaaDoor
open Go.RowKit

/-! ### One path: counts, and values -/
def leE (a b : Ent) : Prop := cl a.l ≤ cl b.l ∧ cl a.r ≤ cl b.r
instance (a b : Ent) : Decidable (leE a b) := by unfold leE; exact inferInstance
def vlE (e : Ent) : Bool × ByteArray := (e.has, e.data)
def FnE (e : Ent) : Prop := ((cl e.l : Nat) : Int) = e.l ∧ ((cl e.r : Nat) : Int) = e.r
theorem fn_of {e : Ent} (h : fineE e = true) : FnE e := by
  have := ((fineE_iff e).1 h).1
  unfold FnE cl
  omega
theorem like_iff {a b : Ent} : likeE a b = true ↔ vlE a = vlE b := by
  unfold likeE vlE
  rw [Bool.and_eq_true, decide_eq_true_eq, decide_eq_true_eq, Prod.mk.injEq]
theorem ord0 {a b : Ent} : ordE a b = 0 ↔ leE a b ∧ leE b a := by
  unfold ordE ordI leE
  split
  · constructor
    · intro _; omega
    · intro _; rfl
  · split
    · constructor
      · intro h; cases h
      · intro _; omega
    · split
      · constructor
        · intro h; cases h
        · intro _; omega
      · constructor
        · intro h; cases h
        · intro _; omega
theorem ord1 {a b : Ent} : ordE a b = 1 ↔ leE a b ∧ ¬ leE b a := by
  unfold ordE ordI leE
  split
  · constructor
    · intro h; cases h
    · intro _; omega
  · split
    · constructor
      · intro _; omega
      · intro _; rfl
    · split
      · constructor
        · intro h; cases h
        · intro _; omega
      · constructor
        · intro h; cases h
        · intro _; omega
theorem ord2 {a b : Ent} : ordE a b = 2 ↔ ¬ leE a b ∧ leE b a := by
  unfold ordE ordI leE
  split
  · constructor
    · intro h; cases h
    · intro _; omega
  · split
    · constructor
      · intro h; cases h
      · intro _; omega
    · split
      · constructor
        · intro _; omega
        · intro _; rfl
      · constructor
        · intro h; cases h
        · intro _; omega
theorem come_1 {a b : Ent} (h : leE a b) (k : ¬ leE b a) : comeE a b = (b, false) := by unfold comeE; rw [if_pos (ord1.2 ⟨h, k⟩)]
theorem come_2 {a b : Ent} (h : ¬ leE a b) (k : leE b a) : comeE a b = (a, false) := by
  unfold comeE; rw [if_neg (fun e => h (ord1.1 e).1), if_pos (ord2.2 ⟨h, k⟩)]
theorem come_0 {a b : Ent} (h : leE a b) (k : leE b a) : comeE a b = (a, !likeE a b) := by
  have h0 := ord0.2 ⟨h, k⟩
  unfold comeE; rw [h0, if_neg (by decide), if_neg (by decide)]
  cases likeE a b <;> rfl
theorem come_3 {a b : Ent} (h : ¬ leE a b) (k : ¬ leE b a) : comeE a b = (if likeE a b then joinE a b else a, !likeE a b) := by
  have h1 : ordE a b ≠ 1 := fun e => h (ord1.1 e).1
  have h2 : ordE a b ≠ 2 := fun e => k (ord2.1 e).2
  have h3 : ordE a b = 3 := by
    have h0 : ordE a b ≠ 0 := fun e => h (ord0.1 e).1
    rcases ord_cases (cl a.l) (cl a.r) (cl b.l) (cl b.r) with e | e | e | e
    · exact absurd e h0
    · exact absurd e h1
    · exact absurd e h2
    · exact e
  unfold comeE; rw [if_neg h1, if_neg h2, h3]
  cases likeE a b <;> rfl
/-- Is it no conflict? -/
def ncE (a b : Ent) : Prop := (comeE a b).2 = false
theorem nc_iff {a b : Ent} : ncE a b ↔ vlE a = vlE b ∨ (leE a b ∧ ¬ leE b a) ∨ (leE b a ∧ ¬ leE a b) := by
  unfold ncE
  rw [← like_iff]
  by_cases h : leE a b <;> by_cases k : leE b a
  · rw [come_0 h k]; simp [h, k]
  · rw [come_1 h k]; simp [h, k]
  · rw [come_2 h k]; simp [h, k]
  · rw [come_3 h k]; simp [h, k]
theorem nc_flip {a b : Ent} : ncE a b ↔ ncE b a := by
  rw [nc_iff, nc_iff]
  constructor
  · rintro (h | h | h)
    · exact .inl h.symm
    · exact .inr (.inr h)
    · exact .inr (.inl h)
  · rintro (h | h | h)
    · exact .inl h.symm
    · exact .inr (.inr h)
    · exact .inr (.inl h)
theorem cl_cast {n : Nat} (h : n ≤ 1073741824) : cl (n : Int) = n := by unfold cl; omega
theorem come_val {a b : Ent} (ha : FnE a) (hb : FnE b) (hn : ncE a b) :
    vlE (comeE a b).1 = (if leE a b then vlE b else vlE a) ∧ (comeE a b).1.l = ((max (cl a.l) (cl b.l) : Nat) : Int) ∧ (comeE a b).1.r = ((max (cl a.r) (cl b.r) : Nat) : Int) := by
  obtain ⟨a1, a2⟩ := ha
  obtain ⟨b1, b2⟩ := hb
  by_cases h : leE a b <;> by_cases k : leE b a
  · rw [if_pos h, come_0 h k]
    have hl : vlE a = vlE b := by
      rcases nc_iff.1 hn with e | e | e
      · exact e
      · exact absurd k e.2
      · exact absurd h e.2
    unfold leE at h k
    exact ⟨hl, by simp only []; omega, by simp only []; omega⟩
  · rw [if_pos h, come_1 h k]
    unfold leE at h k
    exact ⟨rfl, by simp only []; omega, by simp only []; omega⟩
  · rw [if_neg h, come_2 h k]
    unfold leE at h k
    exact ⟨rfl, by simp only []; omega, by simp only []; omega⟩
  · have hl : vlE a = vlE b := by
      rcases nc_iff.1 hn with e | e | e
      · exact e
      · exact absurd e.1 h
      · exact absurd e.1 k
    rw [if_neg h, come_3 h k, if_pos (like_iff.2 hl)]
    exact ⟨rfl, rfl, rfl⟩
theorem come_cl {a b : Ent} (ha : FnE a) (hb : FnE b) (hn : ncE a b) : cl (comeE a b).1.l = max (cl a.l) (cl b.l) ∧ cl (comeE a b).1.r = max (cl a.r) (cl b.r) := by
  obtain ⟨-, h1, h2⟩ := come_val ha hb hn
  rw [h1, h2]
  exact ⟨cl_cast (by have := cl_le a.l; have := cl_le b.l; omega), cl_cast (by have := cl_le a.r; have := cl_le b.r; omega)⟩
theorem come_fn {a b : Ent} (ha : FnE a) (hb : FnE b) (hn : ncE a b) : FnE (comeE a b).1 := by
  have h := come_cl ha hb hn
  have k := come_val ha hb hn
  exact ⟨by rw [h.1, k.2.1], by rw [h.2, k.2.2]⟩
set_option maxHeartbeats 2000000 in
theorem come_assoc {a b c : Ent} (ha : FnE a) (hb : FnE b) (hc : FnE c) (hp : a.path = b.path) (hq : b.path = c.path) (n1 : ncE a b) (n2 : ncE b c) (n3 : ncE a c) (n4 : ncE (comeE a b).1 c) (n5 : ncE a (comeE b c).1) :
    (comeE (comeE a b).1 c).1 = (comeE a (comeE b c).1).1 := by
  have v1 := come_val ha hb n1
  have v2 := come_val hb hc n2
  have c1 := come_cl ha hb n1
  have c2 := come_cl hb hc n2
  have v3 := come_val (come_fn ha hb n1) hc n4
  have v4 := come_val ha (come_fn hb hc n2) n5
  have p1 : (comeE a b).1.path = c.path := by rw [comeE_path hp, hp, hq]
  have p2 : a.path = (comeE b c).1.path := by rw [comeE_path hq, hp]
  have hv : vlE (comeE (comeE a b).1 c).1 = vlE (comeE a (comeE b c).1).1 := by
    have L1 : leE (comeE a b).1 c ↔ (max (cl a.l) (cl b.l) ≤ cl c.l ∧ max (cl a.r) (cl b.r) ≤ cl c.r) := by unfold leE; rw [c1.1, c1.2]
    have L2 : leE a (comeE b c).1 ↔ (cl a.l ≤ max (cl b.l) (cl c.l) ∧ cl a.r ≤ max (cl b.r) (cl c.r)) := by unfold leE; rw [c2.1, c2.2]
    have L3 : leE (comeE b c).1 a ↔ (max (cl b.l) (cl c.l) ≤ cl a.l ∧ max (cl b.r) (cl c.r) ≤ cl a.r) := by unfold leE; rw [c2.1, c2.2]
    have L4 : ∀ x y : Ent, leE x y ↔ (cl x.l ≤ cl y.l ∧ cl x.r ≤ cl y.r) := fun _ _ => Iff.rfl
    have m1 := nc_iff.1 n1
    have m2 := nc_iff.1 n2
    have m3 := nc_iff.1 n3
    have m5 := nc_iff.1 n5
    rw [v2.1, L2, L3] at m5
    rw [L4 a b, L4 b a] at m1
    rw [L4 b c, L4 c b] at m2
    rw [L4 a c, L4 c a] at m3
    rw [v3.1, v4.1, v1.1, v2.1]
    clear v1 v2 v3 v4 c1 c2 p1 p2 n1 n2 n3 n4 n5 ha hb hc hp hq
    by_cases hT : leE (comeE a b).1 c
    · have hT' := L1.1 hT
      rw [if_pos hT, if_pos (L2.2 (by clear m1 m2 m3 m5; omega)), if_pos ((L4 b c).2 (by clear m1 m2 m3 m5; omega))]
    · have hT' : ¬ (max (cl a.l) (cl b.l) ≤ cl c.l ∧ max (cl a.r) (cl b.r) ≤ cl c.r) := fun e => hT (L1.2 e)
      by_cases hP : leE a b
      · have hP' := (L4 a b).1 hP
        rw [if_neg hT, if_pos hP, if_pos (L2.2 (by clear m1 m2 m3 m5; omega)), if_neg (fun e => by have := (L4 b c).1 e; clear m1 m2 m3 m5; omega)]
      · have hP' : ¬ (cl a.l ≤ cl b.l ∧ cl a.r ≤ cl b.r) := fun e => hP ((L4 a b).2 e)
        by_cases hS : leE a (comeE b c).1
        · have hS' := L2.1 hS
          have hQ' : ¬ (cl b.l ≤ cl c.l ∧ cl b.r ≤ cl c.r) := by clear m1 m2 m3 m5; omega
          have hQ : ¬ leE b c := fun e => hQ' ((L4 b c).1 e)
          rw [if_neg hT, if_neg hP, if_pos hS, if_neg hQ]
          rw [if_neg hQ] at m5
          rcases m1 with e | e | e
          · exact e
          · exact absurd e.1 hP'
          · rcases m5 with f | f | f
            · exact f
            · rcases m3 with g | g | g
              · rcases m2 with k | k | k
                · rw [g, k]
                · exact absurd k.1 hQ'
                · exfalso; omega
              · exfalso; omega
              · exfalso; omega
            · exact absurd hS' f.2
        · rw [if_neg hT, if_neg hP, if_neg hS]
  have h1 : (comeE (comeE a b).1 c).1.has = (comeE a (comeE b c).1).1.has := congrArg Prod.fst hv
  have h2 : (comeE (comeE a b).1 c).1.data = (comeE a (comeE b c).1).1.data := congrArg Prod.snd hv
  refine Ent.same ?_ h1 h2 ?_ ?_
  · rw [comeE_path p1, comeE_path p2, comeE_path hp]
  · rw [v3.2.1, v4.2.1, c1.1, c2.1]; omega
  · rw [v3.2.2, v4.2.2, c1.2, c2.2]; omega

/-! ### Archives -/
theorem cm_path {l m : List Ent} {p : ByteArray} {x : Ent × Bool} (h : cm (atE l p) (atE m p) = some x) : x.1.path = p := by
  cases h1 : atE l p with
  | some a =>
    have pa := (atE_mem h1).2
    cases h2 : atE m p with
    | some b =>
      have pb := (atE_mem h2).2
      rw [h1, h2] at h
      injection h with h
      rw [← h, comeE_path (by rw [pa, pb]), pa]
    | none => rw [h1, h2] at h; injection h with h; rw [← h]; exact pa
  | none =>
    cases h2 : atE m p with
    | some b => rw [h1, h2] at h; injection h with h; rw [← h]; exact (atE_mem h2).2
    | none => rw [h1, h2] at h; cases h
theorem right_fn {l : List Ent} (h : RightA l) {p : ByteArray} {e : Ent} (he : atE l p = some e) : FnE e := fn_of (h.fine e (atE_mem he).1)
theorem mC_nil {l m : List Ent} (hl : SrtE l) (hm : SrtE m) (h : mC l m = []) {p : ByteArray} {a b : Ent} (ha : atE l p = some a) (hb : atE m p = some b) : ncE a b := by
  unfold ncE
  cases hc : (comeE a b).2 with
  | false => rfl
  | true =>
    have : p ∈ mC l m := (mC_mem hl hm p).2 ⟨(comeE a b).1, by rw [ha, hb]; show some (comeE a b) = _; rw [← hc]⟩
    rw [h] at this
    cases this
theorem mrg_mA {l m : List Ent} (h : mrgN l m = 0) : mrgA l m = mA l m ∧ mrgC l m = mC l m := by
  unfold mrgA mrgC; rw [if_pos h, if_pos h]; exact ⟨rfl, rfl⟩
theorem three_same {a b c : List Ent} (h1 : mrgN a b = 0) (h2 : mrgN b c = 0) (h3 : mrgN a c = 0) (c1 : mrgC a b = []) (c2 : mrgC b c = []) (c3 : mrgC a c = [])
    (h4 : mrgN (mrgA a b) c = 0) (h5 : mrgN a (mrgA b c) = 0) (c4 : mrgC (mrgA a b) c = []) (c5 : mrgC a (mrgA b c) = []) : mrgA (mrgA a b) c = mrgA a (mrgA b c) := by
  have ra := (mrg_right h1).1
  have rb := (mrg_right h1).2
  have rc := (mrg_right h2).2
  have rx := (mrg_right h4).1
  have ry := (mrg_right h5).2
  rw [(mrg_mA h1).2] at c1
  rw [(mrg_mA h2).2] at c2
  rw [(mrg_mA h3).2] at c3
  rw [(mrg_mA h4).2] at c4
  rw [(mrg_mA h5).2] at c5
  rw [(mrg_mA h4).1, (mrg_mA h5).1]
  have sx : SrtE (mrgA a b) := rx.srt
  have sy : SrtE (mrgA b c) := ry.srt
  refine srtE_one (mA_srt sx rc.srt) (mA_srt ra.srt sy) fun p => ?_
  rw [mA_at sx rc.srt, mA_at ra.srt sy]
  have ex : atE (mrgA a b) p = (cm (atE a p) (atE b p)).map (·.1) := by rw [(mrg_mA h1).1, mA_at ra.srt rb.srt]
  have ey : atE (mrgA b c) p = (cm (atE b p) (atE c p)).map (·.1) := by rw [(mrg_mA h2).1, mA_at rb.srt rc.srt]
  cases e1 : atE a p with
  | none =>
    rw [e1] at ex
    cases e2 : atE b p with
    | none =>
      rw [e2] at ex ey
      cases e3 : atE c p with
      | none => rw [e3] at ey; rw [ex, ey]; rfl
      | some z => rw [e3] at ey; rw [ex, ey]; rfl
    | some y =>
      rw [e2] at ex ey
      cases e3 : atE c p with
      | none => rw [e3] at ey; rw [ex, ey]; rfl
      | some z => rw [e3] at ey; rw [ex, ey]; rfl
  | some x =>
    rw [e1] at ex
    cases e2 : atE b p with
    | none =>
      rw [e2] at ex ey
      cases e3 : atE c p with
      | none => rw [e3] at ey; rw [ex, ey]; rfl
      | some z => rw [e3] at ey; rw [ex, ey]; rfl
    | some y =>
      rw [e2] at ex ey
      cases e3 : atE c p with
      | none => rw [e3] at ey; rw [ex, ey]; rfl
      | some z =>
        rw [e3] at ey
        have fx := right_fn ra e1
        have fy := right_fn rb e2
        have fz := right_fn rc e3
        have px := (atE_mem e1).2
        have py := (atE_mem e2).2
        have pz := (atE_mem e3).2
        have k := come_assoc fx fy fz (by rw [px, py]) (by rw [py, pz]) (mC_nil ra.srt rb.srt c1 e1 e2) (mC_nil rb.srt rc.srt c2 e2 e3) (mC_nil ra.srt rc.srt c3 e1 e3) (mC_nil sx rc.srt c4 ex e3) (mC_nil ra.srt sy c5 e1 ey)
        rw [ex, ey]
        exact congrArg some k
end Go.Proofs.YtaidggjnpnfdhaaDoor
namespace Go.Proofs.YtaidggjnpnfdhaaDoor
open Go.RowKit

theorem le_join {x y : Ent} : leE x (joinE x y) ∧ leE y (joinE x y) := by
  have h1 := cl_le x.l
  have h2 := cl_le x.r
  have h3 := cl_le y.l
  have h4 := cl_le y.r
  have e1 : cl (joinE x y).l = max (cl x.l) (cl y.l) := cl_cast (by omega)
  have e2 : cl (joinE x y).r = max (cl x.r) (cl y.r) := cl_cast (by omega)
  unfold leE
  rw [e1, e2]
  omega
theorem join_le {x y z : Ent} (h : leE (joinE x y) z) : leE x z ∧ leE y z := by
  have h1 := (le_join (x := x) (y := y)).1
  have h2 := (le_join (x := x) (y := y)).2
  unfold leE at *
  omega
theorem come_again (x y : Ent) : comeE (comeE x y).1 y = comeE x y := by
  by_cases h : leE x y <;> by_cases k : leE y x
  · rw [come_0 h k]; exact come_0 h k
  · rw [come_1 h k]; exact come_self y
  · rw [come_2 h k]; exact come_2 h k
  · rw [come_3 h k]
    cases hl : likeE x y with
    | false => rw [if_neg (by decide)]; show comeE x y = _; rw [come_3 h k, hl, if_neg (by decide)]
    | true => rw [if_pos rfl]; exact come_2 (fun e => h (join_le e).1) le_join.2
theorem come_mine (x y : Ent) : comeE (comeE x y).1 x = ((comeE x y).1, false) := by
  by_cases h : leE x y <;> by_cases k : leE y x
  · rw [come_0 h k]; exact come_self x
  · rw [come_1 h k]; exact come_2 k h
  · rw [come_2 h k]; exact come_self x
  · rw [come_3 h k]
    cases hl : likeE x y with
    | false => rw [if_neg (by decide)]; exact come_self x
    | true => rw [if_pos rfl]; exact come_2 (fun e => k (join_le e).2) le_join.1
theorem come_turn {x y : Ent} (hx : FnE x) (hy : FnE y) (hp : x.path = y.path) (hn : ncE x y) : (comeE x y).1 = (comeE y x).1 := by
  have v1 := come_val hx hy hn
  have v2 := come_val hy hx (nc_flip.1 hn)
  have hv : vlE (comeE x y).1 = vlE (comeE y x).1 := by
    rw [v1.1, v2.1]
    by_cases h : leE x y <;> by_cases k : leE y x
    · rw [if_pos h, if_pos k]
      rcases nc_iff.1 hn with e | e | e
      · exact e.symm
      · exact absurd k e.2
      · exact absurd h e.2
    · rw [if_pos h, if_neg k]
    · rw [if_neg h, if_pos k]
    · rw [if_neg h, if_neg k]
      rcases nc_iff.1 hn with e | e | e
      · exact e
      · exact absurd e.1 h
      · exact absurd e.1 k
  refine Ent.same (by rw [comeE_path hp, comeE_path hp.symm, hp]) (congrArg Prod.fst hv) (congrArg Prod.snd hv) ?_ ?_
  · rw [v1.2.1, v2.2.1]; omega
  · rw [v1.2.2, v2.2.2]; omega
theorem cm_again (x y : Option Ent) : cm ((cm x y).map (·.1)) y = cm x y := by
  cases x with
  | none => cases y with
    | none => rfl
    | some y => show some (comeE y y) = some (y, false); rw [come_self]
  | some x => cases y with
    | none => rfl
    | some y => exact congrArg some (come_again x y)
theorem cm_mine (x y : Option Ent) : cm ((cm x y).map (·.1)) x = (cm x y).map fun z => (z.1, false) := by
  cases x with
  | none => cases y with
    | none => rfl
    | some y => rfl
  | some x => cases y with
    | none => show some (comeE x x) = some (x, false); rw [come_self]
    | some y => exact congrArg some (come_mine x y)

/-! ### What comes of two right archives is right -/
theorem come_of (a b : Ent) : vlE (comeE a b).1 = vlE a ∨ vlE (comeE a b).1 = vlE b := by
  by_cases h : leE a b <;> by_cases k : leE b a
  · rw [come_0 h k]; exact .inl rfl
  · rw [come_1 h k]; exact .inr rfl
  · rw [come_2 h k]; exact .inl rfl
  · rw [come_3 h k]; split <;> exact .inl rfl
theorem come_fine {a b : Ent} (ha : fineE a = true) (hb : fineE b = true) : fineE (comeE a b).1 = true := by
  by_cases h : leE a b <;> by_cases k : leE b a
  · rw [come_0 h k]; exact ha
  · rw [come_1 h k]; exact hb
  · rw [come_2 h k]; exact ha
  · rw [come_3 h k]
    split
    · have h1 := (fineE_iff a).1 ha
      have e1 := (fn_of ha).1
      have e2 := (fn_of ha).2
      have c1 := cl_le a.l
      have c2 := cl_le a.r
      have c3 := cl_le b.l
      have c4 := cl_le b.r
      refine (fineE_iff _).2 ⟨⟨?_, ?_, ?_, ?_⟩, ?_, h1.2.2⟩
      · show (0 : Int) ≤ ((max (cl a.l) (cl b.l) : Nat) : Int); omega
      · show ((max (cl a.l) (cl b.l) : Nat) : Int) ≤ 1073741824; omega
      · show (0 : Int) ≤ ((max (cl a.r) (cl b.r) : Nat) : Int); omega
      · show ((max (cl a.r) (cl b.r) : Nat) : Int) ≤ 1073741824; omega
      · have := h1.2.1
        show ¬ (((max (cl a.l) (cl b.l) : Nat) : Int) = 0 ∧ ((max (cl a.r) (cl b.r) : Nat) : Int) = 0)
        omega
    · exact ha
/-- Of each that comes: it is fine, its path is right, and its file is one of theirs. -/
theorem cm_each {l m : List Ent} (hl : RightA l) (hm : RightA m) {e : Ent} (he : e ∈ mA l m) : fineE e = true ∧ rightL (epth e) = true ∧ (e.has = true → e.data.size ≤ 600) := by
  have hat := (atE_iff (mA_srt hl.srt hm.srt)).1 he
  rw [mA_at hl.srt hm.srt] at hat
  have dl : ∀ x ∈ l, x.has = true → x.data.size ≤ 600 := fun x hx hh => ((treeR_iff _).1 hl.tree).datas (x.path, x.data) (mem_files.2 ⟨x, hx, hh, rfl⟩)
  have dm : ∀ x ∈ m, x.has = true → x.data.size ≤ 600 := fun x hx hh => ((treeR_iff _).1 hm.tree).datas (x.path, x.data) (mem_files.2 ⟨x, hx, hh, rfl⟩)
  cases h1 : atE l e.path with
  | none =>
    cases h2 : atE m e.path with
    | none => rw [h1, h2] at hat; cases hat
    | some y => rw [h1, h2] at hat; injection hat with hat; have hy := (atE_mem h2).1; have hat' : y = e := hat; subst hat'; exact ⟨hm.fine _ hy, hm.paths _ hy, dm _ hy⟩
  | some x =>
    have hx := (atE_mem h1).1
    cases h2 : atE m e.path with
    | none => rw [h1, h2] at hat; injection hat with hat; have hat' : x = e := hat; subst hat'; exact ⟨hl.fine _ hx, hl.paths _ hx, dl _ hx⟩
    | some y =>
      have hy := (atE_mem h2).1
      rw [h1, h2] at hat
      injection hat with hat
      have hat' : (comeE x y).1 = e := hat
      subst hat'
      have hp : x.path = y.path := by rw [(atE_mem h1).2, (atE_mem h2).2]
      refine ⟨come_fine (hl.fine _ hx) (hm.fine _ hy), ?_, fun hh => ?_⟩
      · have := hl.paths _ hx
        rw [epth, ← comeE_path hp] at this
        exact this
      · rcases come_of x y with e | e
        · have e1 : (comeE x y).1.has = x.has := congrArg Prod.fst e
          have e2 : (comeE x y).1.data = x.data := congrArg Prod.snd e
          rw [e2]; exact dl x hx (by rw [← e1]; exact hh)
        · have e1 : (comeE x y).1.has = y.has := congrArg Prod.fst e
          have e2 : (comeE x y).1.data = y.data := congrArg Prod.snd e
          rw [e2]; exact dm y hy (by rw [← e1]; exact hh)
theorem apt_under {l : List ByteArray} (h : Apt l) : ∀ a ∈ l, ∀ b ∈ l, underL a.data.toList b.data.toList = false := by
  induction l with
  | nil => intro a ha; cases ha
  | cons x l ih =>
    have hc := List.pairwise_cons.1 h
    have key : ∀ y ∈ l, underL y.data.toList x.data.toList = false ∧ underL x.data.toList y.data.toList = false := fun y hy => by
      have := hc.1 y hy
      unfold clB clashL at this
      simpa using this
    intro a ha b hb
    rcases List.mem_cons.1 ha with rfl | ha' <;> rcases List.mem_cons.1 hb with rfl | hb'
    · exact under_self _
    · exact (key b hb').2
    · exact (key a ha').1
    · exact ih hc.2 a ha' b hb'
theorem files_srt {l : List Ent} (h : SrtE l) : Srt (filesOf l) := by
  unfold filesOf Srt
  rw [List.pairwise_map]
  exact (h.filter _).imp fun h => h
theorem arch_of {l : List Ent} (hs : SrtE l) (hf : fitN l = 0) (h : ∀ e ∈ l, fineE e = true ∧ rightL (epth e) = true ∧ (e.has = true → e.data.size ≤ 600)) : RightA l := by
  have h1 : ¬ (32 < l.length ∨ 16 < (filesOf l).length) := fun e => by unfold fitN at hf; rw [if_pos e] at hf; cases hf
  have h2 : Apt (fpaths l) := by
    unfold fitN at hf
    rw [if_neg h1] at hf
    by_cases e : Apt (fpaths l)
    · exact e
    · rw [if_neg e] at hf; cases hf
  refine ⟨by omega, hs, fun e he => (h e he).2.1, fun e he => (h e he).1, (treeR_iff _).2 ⟨by omega, files_srt hs, ?_, ?_, ?_⟩⟩
  · intro f hf'
    obtain ⟨e, he, -, rfl⟩ := mem_files.1 hf'
    exact (h e he).2.1
  · intro f hf'
    obtain ⟨e, he, hh, rfl⟩ := mem_files.1 hf'
    exact (h e he).2.2 hh
  · intro f hf' g hg'
    exact apt_under h2 f.1 (List.mem_map.2 ⟨f, hf', rfl⟩) g.1 (List.mem_map.2 ⟨g, hg', rfl⟩)
theorem merge_right {l m : List Ent} (h : mrgN l m = 0) : RightA (mrgA l m) := by
  obtain ⟨hl, hm⟩ := mrg_right h
  rw [(mrg_mA h).1]
  refine arch_of (mA_srt hl.srt hm.srt) ?_ fun e he => cm_each hl hm he
  rw [mrgN_fit ((archR_iff _).2 hl) ((archR_iff _).2 hm)] at h
  exact h

/-! ### Turned, and again -/
theorem mC_turn {l m : List Ent} (hl : SrtE l) (hm : SrtE m) : mC l m = mC m l := by
  refine srtB_one (mC_srt hl hm) (mC_srt hm hl) fun p => ?_
  rw [mC_mem hl hm, mC_mem hm hl]
  have key : ∀ x y : Option Ent, (∃ e, cm x y = some (e, true)) → ∃ e, cm y x = some (e, true) := by
    intro x y
    rintro ⟨e, he⟩
    cases x with
    | none => cases y <;> cases he
    | some x => cases y with
      | none => cases he
      | some y =>
        have he' : comeE x y = (e, true) := Option.some.inj he
        refine ⟨(comeE y x).1, congrArg some ?_⟩
        have : (comeE y x).2 = true := by
          cases hc : (comeE y x).2 with
          | true => rfl
          | false => have := nc_flip.1 (show ncE y x from hc); unfold ncE at this; rw [he'] at this; cases this
        rw [← this]
  exact ⟨key _ _, key _ _⟩
theorem mA_paths {l m : List Ent} (hl : SrtE l) (hm : SrtE m) : (mA l m).map (·.path) = (mA m l).map (·.path) := by
  have e1 : (mA l m).map (·.path) = (mrgL l m).map (·.1.path) := by rw [mA, List.map_map]; rfl
  have e2 : (mA m l).map (·.path) = (mrgL m l).map (·.1.path) := by rw [mA, List.map_map]; rfl
  rw [e1, e2]
  refine mrg_paths hm hl (List.pairwise_map.2 (mrg_srt l m hl hm)) fun x => ?_
  rw [mrg_mem]; exact Or.comm
theorem mA_turn {l m : List Ent} (hl : RightA l) (hm : RightA m) {p : ByteArray} (h : ¬ p ∈ mC l m) : atE (mA l m) p = atE (mA m l) p := by
  rw [mA_at hl.srt hm.srt, mA_at hm.srt hl.srt]
  cases h1 : atE l p with
  | none => cases h2 : atE m p <;> rfl
  | some x => cases h2 : atE m p with
    | none => rfl
    | some y =>
      have hn : ncE x y := by
        unfold ncE
        cases hc : (comeE x y).2 with
        | false => rfl
        | true => exact absurd ((mC_mem hl.srt hm.srt p).2 ⟨(comeE x y).1, by rw [h1, h2]; show some (comeE x y) = _; rw [← hc]⟩) h
      exact congrArg some (come_turn (right_fn hl h1) (right_fn hm h2) (by rw [(atE_mem h1).2, (atE_mem h2).2]) hn)
theorem merge_again {l m : List Ent} (h : mrgN l m = 0) : mrgN (mrgA l m) m = 0 ∧ mrgA (mrgA l m) m = mrgA l m ∧ mrgC (mrgA l m) m = mrgC l m := by
  obtain ⟨hl, hm⟩ := mrg_right h
  have hR := merge_right h
  have hat : ∀ p, atE (mrgA l m) p = (cm (atE l p) (atE m p)).map (·.1) := fun p => by rw [(mrg_mA h).1, mA_at hl.srt hm.srt]
  have e1 : mA (mrgA l m) m = mrgA l m := srtE_one (mA_srt hR.srt hm.srt) hR.srt fun p => by rw [mA_at hR.srt hm.srt, hat, cm_again]
  have e2 : mC (mrgA l m) m = mC l m := srtB_one (mC_srt hR.srt hm.srt) (mC_srt hl.srt hm.srt) fun p => by rw [mC_mem hR.srt hm.srt, mC_mem hl.srt hm.srt, hat, cm_again]
  have h0 : mrgN (mrgA l m) m = 0 := by rw [mrgN_fit ((archR_iff _).2 hR) ((archR_iff _).2 hm), e1]; exact fit_right hR
  exact ⟨h0, by rw [(mrg_mA h0).1, e1], by rw [(mrg_mA h0).2, (mrg_mA h).2, e2]⟩
theorem merge_mine {l m : List Ent} (h : mrgN l m = 0) : mrgN (mrgA l m) l = 0 ∧ mrgA (mrgA l m) l = mrgA l m ∧ mrgC (mrgA l m) l = [] := by
  obtain ⟨hl, hm⟩ := mrg_right h
  have hR := merge_right h
  have hat : ∀ p, atE (mrgA l m) p = (cm (atE l p) (atE m p)).map (·.1) := fun p => by rw [(mrg_mA h).1, mA_at hl.srt hm.srt]
  have e1 : mA (mrgA l m) l = mrgA l m := srtE_one (mA_srt hR.srt hl.srt) hR.srt fun p => by
    rw [mA_at hR.srt hl.srt, hat, cm_mine, Option.map_map]
    rfl
  have e2 : mC (mrgA l m) l = [] := by
    cases hc : mC (mrgA l m) l with
    | nil => rfl
    | cons p ps =>
      have : p ∈ mC (mrgA l m) l := by rw [hc]; exact List.mem_cons_self
      obtain ⟨e, he⟩ := (mC_mem hR.srt hl.srt p).1 this
      rw [hat, cm_mine] at he
      cases hx : cm (atE l p) (atE m p) with
      | none => rw [hx] at he; cases he
      | some z => rw [hx] at he; injection he with he; injection he with he1 he2; cases he2
  have h0 : mrgN (mrgA l m) l = 0 := by rw [mrgN_fit ((archR_iff _).2 hR) ((archR_iff _).2 hl), e1]; exact fit_right hR
  exact ⟨h0, by rw [(mrg_mA h0).1, e1], by rw [(mrg_mA h0).2, e2]⟩
/-- One is told not to be right just if the other is. -/
theorem merge_arg (l m : List Ent) : (mrgN l m = 1) ↔ (mrgN m l = 1) := by
  have key : ∀ l m : List Ent, mrgN l m = 1 → mrgN m l = 1 := by
    intro l m h
    unfold mrgN at h ⊢
    rw [Bool.and_comm]
    split at h
    · exfalso
      unfold fitN at h
      split at h
      · cases h
      · split at h <;> cases h
    · rename_i hn
      rw [if_neg hn]
  exact ⟨key l m, key m l⟩
end Go.Proofs.YtaidggjnpnfdhaaDoor
namespace Go.Proofs.YtaidggjnpnfdhaaDoor
open Go.RowKit

theorem plan_mem {t u : List Fil} {x : Ac} : x ∈ planL t u ↔ (∃ f ∈ t, (∀ g ∈ u, g.1 ≠ f.1) ∧ x = (f.1, false, noS)) ∨ (∃ g ∈ u, ¬ g ∈ t ∧ x = (g.1, true, g.2)) := by
  unfold planL dropsL putsL
  rw [List.mem_append, List.mem_map, List.mem_map]
  constructor
  · rintro (⟨f, hf, rfl⟩ | ⟨g, hg, rfl⟩)
    · obtain ⟨h1, h2⟩ := List.mem_filter.1 hf
      refine .inl ⟨f, h1, fun g hg e => ?_, rfl⟩
      have : (u.any fun g => decide (g.1 = f.1)) = true := List.any_eq_true.2 ⟨g, hg, by simp [e]⟩
      rw [this] at h2
      cases h2
    · obtain ⟨h1, h2⟩ := List.mem_filter.1 hg
      refine .inr ⟨g, h1, fun e => ?_, rfl⟩
      have : (t.any fun f => decide (g = f)) = true := List.any_eq_true.2 ⟨g, e, by simp⟩
      rw [this] at h2
      cases h2
  · rintro (⟨f, hf, hn, rfl⟩ | ⟨g, hg, hn, rfl⟩)
    · refine .inl ⟨f, List.mem_filter.2 ⟨hf, ?_⟩, rfl⟩
      have : (u.any fun g => decide (g.1 = f.1)) = false := List.any_eq_false.2 fun g hg => by simp [hn g hg]
      rw [this]; rfl
    · refine .inr ⟨g, List.mem_filter.2 ⟨hg, ?_⟩, rfl⟩
      have : (t.any fun f => decide (g = f)) = false := List.any_eq_false.2 fun f hf => by
        have : g ≠ f := fun e => by subst e; exact hn hf
        simp [this]
      rw [this]; rfl
/-- What stands ahead of what. -/
def AhA (a b : Ac) : Prop := (a.2.1 = false ∧ b.2.1 = true) ∨ (a.2.1 = b.2.1 ∧ a.1.data.toList < b.1.data.toList)
theorem plan_srt {t u : List Fil} (ht : Srt t) (hu : Srt u) : (planL t u).Pairwise AhA := by
  unfold planL dropsL putsL
  rw [List.pairwise_append]
  refine ⟨?_, ?_, ?_⟩
  · rw [List.pairwise_map]; exact (ht.filter _).imp fun h => .inr ⟨rfl, h⟩
  · rw [List.pairwise_map]; exact (hu.filter _).imp fun h => .inr ⟨rfl, h⟩
  · intro a ha b hb
    obtain ⟨f, -, rfl⟩ := List.mem_map.1 ha
    obtain ⟨g, -, rfl⟩ := List.mem_map.1 hb
    exact .inl ⟨rfl, rfl⟩

/-! ### How many there are -/
def inF (l : List Fil) (p : ByteArray) : Bool := l.any fun g => decide (g.1 = p)
def hasF (l : List Fil) (f : Fil) : Bool := l.any fun g => decide (f = g)
theorem inF_iff {l : List Fil} {p : ByteArray} : inF l p = true ↔ ∃ g ∈ l, g.1 = p := by unfold inF; rw [List.any_eq_true]; simp
theorem hasF_iff {l : List Fil} {f : Fil} : hasF l f = true ↔ f ∈ l := by
  unfold hasF
  rw [List.any_eq_true]
  constructor
  · rintro ⟨x, hx, h⟩
    have := of_decide_eq_true h
    subst this
    exact hx
  · exact fun h => ⟨f, h, by simp⟩
theorem srt_one {l : List Fil} (h : Srt l) {f g : Fil} (hf : f ∈ l) (hg : g ∈ l) (e : f.1 = g.1) : f = g := by
  obtain ⟨i, hi, rfl⟩ := List.mem_iff_getElem.1 hf
  obtain ⟨j, hj, rfl⟩ := List.mem_iff_getElem.1 hg
  have key : ∀ a b (ha : a < l.length) (hb : b < l.length), a < b → l[a].1 ≠ l[b].1 := fun a b ha hb hab e => by
    have := List.pairwise_iff_getElem.1 h a b ha hb hab
    rw [show pth l[a] = pth l[b] by unfold pth; rw [e]] at this
    exact absurd this (List.lt_irrefl _)
  rcases Nat.lt_trichotomy i j with h1 | h1 | h1
  · exact absurd e (key i j hi hj h1)
  · subst h1; rfl
  · exact absurd e.symm (key j i hj hi h1)
theorem cnt_split (u : List Fil) : ∀ (t : List Fil), (t.filter fun f => !hasF u f).length = (t.filter fun f => !inF u f.1).length + (t.filter fun f => inF u f.1 && !hasF u f).length
  | [] => rfl
  | f :: t => by
    have ih := cnt_split u t
    have himp : hasF u f = true → inF u f.1 = true := fun h => inF_iff.2 ⟨f, hasF_iff.1 h, rfl⟩
    rw [List.filter_cons, List.filter_cons, List.filter_cons]
    cases h1 : hasF u f <;> cases h2 : inF u f.1 <;> simp [ih]
    · omega
    · omega
    · have := himp h1; rw [h2] at this; cases this
theorem cnt_same {t u : List Fil} (ht : Srt t) (hu : Srt u) : (t.filter fun f => inF u f.1 && !hasF u f).length = (u.filter fun g => inF t g.1 && !hasF t g).length := by
  have key : (t.filter fun f => inF u f.1 && !hasF u f).map (·.1) = (u.filter fun g => inF t g.1 && !hasF t g).map (·.1) := by
    have half : ∀ {t u : List Fil}, Srt t → ∀ x : ByteArray, x ∈ (t.filter fun f => inF u f.1 && !hasF u f).map (·.1) → x ∈ (u.filter fun g => inF t g.1 && !hasF t g).map (·.1) := by
      intro t u ht x hx
      obtain ⟨f, hf, rfl⟩ := List.mem_map.1 hx
      obtain ⟨h1, h2⟩ := List.mem_filter.1 hf
      rw [Bool.and_eq_true, Bool.not_eq_true'] at h2
      obtain ⟨g, hg, e⟩ := inF_iff.1 h2.1
      refine List.mem_map.2 ⟨g, List.mem_filter.2 ⟨hg, ?_⟩, e⟩
      rw [Bool.and_eq_true, Bool.not_eq_true']
      refine ⟨inF_iff.2 ⟨f, h1, e.symm⟩, not_true fun h3 => ?_⟩
      have := srt_one ht h1 (hasF_iff.1 h3) e.symm
      subst this
      rw [hasF_iff.2 hg] at h2
      cases h2.2
    refine srtB_one ?_ ?_ fun x => ⟨half ht x, half hu x⟩
    · exact List.pairwise_map.2 ((ht.filter _).imp fun h => h)
    · exact List.pairwise_map.2 ((hu.filter _).imp fun h => h)
  have := congrArg List.length key
  rwa [List.length_map, List.length_map] at this
theorem plan_count {t u : List Fil} (ht : Srt t) (hu : Srt u) : (t.filter fun f => !hasF u f).length + (u.filter fun g => !inF t g.1).length = (planL t u).length := by
  have e1 := cnt_split u t
  have e2 := cnt_split t u
  have e3 := cnt_same ht hu
  have e4 : (planL t u).length = (t.filter fun f => !inF u f.1).length + (u.filter fun g => !hasF t g).length := by
    unfold planL dropsL putsL
    rw [List.length_append, List.length_map, List.length_map]
    rfl
  omega

/-! ### What tree and archive have there -/
theorem gT_some {fs : List Fil} (h : RightT fs) {f : Fil} (hf : f ∈ fs) : getT fs f.1.data.toList = some f.2 := by
  have ht : thereT fs f.1.data.toList = true := there_iff.2 ⟨f, hf, rfl⟩
  obtain ⟨hl, e⟩ := get_of (p := f.1) ((treeR_iff fs).2 h) ht
  rw [e]
  obtain ⟨hl2, e2⟩ := (there_at h.srt).1 ht
  have : fs[(lowT fs f.1.data.toList).length] = f := h.srt.inj (List.getElem_mem _) hf e2
  rw [this]
theorem gT_none {fs : List Fil} {p : ByteArray} (h : ∀ f ∈ fs, f.1 ≠ p) : getT fs p.data.toList = none := by
  have ht : thereT fs p.data.toList = false := there_no.2 fun f hf e => h f hf (data_inj e)
  exact get_none (by rw [ht, Bool.and_false])
theorem gT_iff {fs : List Fil} (h : RightT fs) (f : Fil) : getT fs f.1.data.toList = some f.2 ↔ f ∈ fs := by
  constructor
  · intro e
    by_cases k : ∃ g ∈ fs, g.1 = f.1
    · obtain ⟨g, hg, hp⟩ := k
      have := gT_some h hg
      rw [hp, e] at this
      have hf : f = g := Prod.ext hp.symm (Option.some.inj this)
      rw [hf]; exact hg
    · rw [gT_none fun g hg hp => k ⟨g, hg, hp⟩] at e; cases e
  · exact gT_some h
theorem gT_in {fs : List Fil} (h : RightT fs) (p : ByteArray) : (getT fs p.data.toList).isSome = inF fs p := by
  cases k : inF fs p with
  | true => obtain ⟨g, hg, rfl⟩ := inF_iff.1 k; rw [gT_some h hg]; rfl
  | false =>
    rw [gT_none fun g hg hp => ?_]
    · rfl
    · rw [inF_iff.2 ⟨g, hg, hp⟩] at k; cases k
theorem find_in {fs : List Fil} (h : RightT fs) (p : ByteArray) : decide (findT fs p.data.toList < 0) = !inF fs p := by
  unfold findT
  rw [(treeR_iff fs).2 h, Bool.true_and]
  have e : thereT fs p.data.toList = inF fs p := by
    cases k : inF fs p with
    | true => obtain ⟨g, hg, rfl⟩ := inF_iff.1 k; exact there_iff.2 ⟨g, hg, rfl⟩
    | false => exact there_no.2 fun f hf e => by rw [inF_iff.2 ⟨f, hf, data_inj e⟩] at k; cases k
  rw [e]
  cases inF fs p
  · rfl
  · rw [if_pos rfl]; simp
/-- What a plan says of a path. -/
theorem plan_at {t u : List Fil} (ht : RightT t) (hu : RightT u) {x : Ac} (hx : x ∈ planL t u) :
    getT t x.1.data.toList ≠ getT u x.1.data.toList ∧ x.2.1 = (getT u x.1.data.toList).isSome ∧ x.2.2 = (getT u x.1.data.toList).getD noS := by
  rcases plan_mem.1 hx with ⟨f, hf, hn, rfl⟩ | ⟨g, hg, hn, rfl⟩
  · dsimp only
    rw [gT_some ht hf, gT_none hn]
    exact ⟨by simp, rfl, rfl⟩
  · dsimp only
    rw [gT_some hu hg]
    exact ⟨fun e => hn ((gT_iff ht g).1 e), rfl, rfl⟩
end Go.Proofs.YtaidggjnpnfdhaaDoor
