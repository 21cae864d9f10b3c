/- The texts Jl, Qf, Qr, Ua, Ub, Uc, Xa, Cr, Ck, Cl, in one. -/
import Derived.Test.YtlmccjdpmhancaaGreatDoorK6
import Derived.Deep.RegionHeld3
namespace Go.Proofs.YtlmccjdpmhancaaGreatDoor
open Go.RowKit

theorem atE_nil (p : ByteArray) : atE [] p = none := rfl
theorem idxE_cons (a : Ent) (l : List Ent) (p : ByteArray) : idxE (a :: l) p = if a.path = p then 0 else if idxE l p < 0 then -1 else idxE l p + 1 := by
  by_cases h : a.path = p
  · rw [if_pos h]
    exact idxE_at (es := a :: l) (j := 0) (by simp) h (fun k _ hk => absurd hk (by omega))
  · rw [if_neg h]
    unfold idxE
    rw [List.any_cons, decide_eq_false h, Bool.false_or]
    by_cases hx : l.any (fun e => decide (e.path = p)) = true
    · rw [if_pos hx, if_pos hx, if_neg (by omega), List.findIdx_cons, decide_eq_false h]
      simp
    · rw [if_neg hx, if_neg hx]; rfl
theorem atE_cons (a : Ent) (l : List Ent) (p : ByteArray) : atE (a :: l) p = if a.path = p then some a else atE l p := by
  unfold atE
  rw [idxE_cons]
  by_cases h : a.path = p
  · rw [if_pos h, if_pos h, if_neg (by omega)]; rfl
  · rw [if_neg h, if_neg h]
    by_cases hx : idxE l p < 0
    · rw [if_pos hx, if_pos (by omega), if_pos hx]
    · rw [if_neg hx, if_neg (by omega), if_neg hx, show (idxE l p + 1).toNat = (idxE l p).toNat + 1 by omega, List.getElem?_cons_succ]
theorem atE_mem : ∀ {l : List Ent} {p : ByteArray} {e : Ent}, atE l p = some e → e ∈ l ∧ e.path = p
  | [], _, _, h => by cases h
  | a :: l, p, e, h => by
    rw [atE_cons] at h
    split at h
    · injection h with h; subst h; exact ⟨List.mem_cons_self, by assumption⟩
    · obtain ⟨h1, h2⟩ := atE_mem h; exact ⟨List.mem_cons_of_mem _ h1, h2⟩
theorem atE_none : ∀ {l : List Ent} {p : ByteArray}, atE l p = none ↔ ∀ e ∈ l, e.path ≠ p
  | [], _ => by simp [atE_nil]
  | a :: l, p => by
    rw [atE_cons]
    split
    · simp; intro h; exact absurd (by assumption) h
    · rw [atE_none]; simp_all
theorem atE_iff {l : List Ent} (hs : SrtE l) {e : Ent} : e ∈ l ↔ atE l e.path = some e := by
  constructor
  · intro h
    obtain ⟨j, hj, rfl⟩ := List.mem_iff_getElem.1 h
    exact atE_yes hj (idxE_srt hs hj)
  · exact fun h => (atE_mem h).1

/-! ### Rising lists are known by what they have -/
theorem pw_one {α : Type} {r : α → α → Prop} (asym : ∀ a b, r a b → ¬ r b a) : ∀ {a b : List α}, a.Pairwise r → b.Pairwise r → (∀ x, x ∈ a ↔ x ∈ b) → a = b
  | [], [], _, _, _ => rfl
  | [], y :: ys, _, _, h => absurd ((h y).2 List.mem_cons_self) (by simp)
  | x :: xs, [], _, _, h => absurd ((h x).1 List.mem_cons_self) (by simp)
  | x :: xs, y :: ys, ha, hb, h => by
    have ha' := List.pairwise_cons.1 ha
    have hb' := List.pairwise_cons.1 hb
    have e : x = y := by
      rcases List.mem_cons.1 ((h x).1 List.mem_cons_self) with e | e
      · exact e
      · rcases List.mem_cons.1 ((h y).2 List.mem_cons_self) with f | f
        · exact f.symm
        · exact absurd (ha'.1 y f) (asym _ _ (hb'.1 x e))
    subst e
    congr 1
    refine pw_one asym ha'.2 hb'.2 fun z => ?_
    constructor
    · intro hz
      rcases List.mem_cons.1 ((h z).1 (List.mem_cons_of_mem _ hz)) with e | e
      · subst e; exact absurd (ha'.1 z hz) (asym _ _ (ha'.1 z hz))
      · exact e
    · intro hz
      rcases List.mem_cons.1 ((h z).2 (List.mem_cons_of_mem _ hz)) with e | e
      · subst e; exact absurd (hb'.1 z hz) (asym _ _ (hb'.1 z hz))
      · exact e
theorem srtE_one {a b : List Ent} (ha : SrtE a) (hb : SrtE b) (h : ∀ p, atE a p = atE b p) : a = b :=
  pw_one (fun _ _ h1 h2 => absurd h2 (List.lt_asymm h1)) ha hb fun x => by rw [atE_iff ha, atE_iff hb, h]

/-! ### Both, in order -/
theorem comeE_path {a b : Ent} (h : a.path = b.path) : (comeE a b).1.path = a.path := by
  unfold comeE
  split
  · exact h.symm
  · split
    · rfl
    · split
      · simp only []; split <;> rfl
      · rfl
def mrgL : List Ent → List Ent → List (Ent × Bool)
  | [], [] => []
  | a :: l, [] => (a, false) :: mrgL l []
  | [], b :: m => (b, false) :: mrgL [] m
  | a :: l, b :: m => if a.path = b.path then comeE a b :: mrgL l m else if Op.bytesLess (epth a) (epth b) then (a, false) :: mrgL l (b :: m) else (b, false) :: mrgL (a :: l) m
termination_by l m => l.length + m.length
theorem mrg_mem (l m : List Ent) (x : ByteArray) : x ∈ (mrgL l m).map (·.1.path) ↔ x ∈ l.map (·.path) ∨ x ∈ m.map (·.path) := by
  fun_induction mrgL l m with
  | case1 => simp
  | case2 a l ih => simp only [List.map_cons, List.mem_cons, ih]; simp; 
  | case3 b m ih => simp only [List.map_cons, List.mem_cons, ih]; simp
  | case4 a l b m h ih => simp only [List.map_cons, List.mem_cons, ih, comeE_path h, ← h]; grind
  | case5 a l b m h h2 ih => simp only [List.map_cons, List.mem_cons, ih]; grind
  | case6 a l b m h h2 ih => simp only [List.map_cons, List.mem_cons, ih]; grind
theorem mrg_len (l m : List Ent) : (mrgL l m).length ≤ l.length + m.length := by
  fun_induction mrgL l m with
  | case1 => simp
  | case2 a l ih => simp at ih ⊢; omega
  | case3 b m ih => simp at ih ⊢; omega
  | case4 a l b m h ih => simp at ih ⊢; omega
  | case5 a l b m h h2 ih => simp at ih ⊢; omega
  | case6 a l b m h h2 ih => simp at ih ⊢; omega
def SrtM (M : List (Ent × Bool)) : Prop := M.Pairwise fun a b => epth a.1 < epth b.1
theorem path_of {x : Ent × Bool} {M : List (Ent × Bool)} (h : x ∈ M) : x.1.path ∈ M.map (·.1.path) := List.mem_map.2 ⟨x, h, rfl⟩
theorem not_less_lt {a b : Ent} (h : ¬ a.path = b.path) (h2 : Op.bytesLess (epth a) (epth b) = false) : epth b < epth a := by
  have h3 : ¬ epth a < epth b := fun e => by rw [(less_iff _ _).2 e] at h2; cases h2
  rcases List.le_iff_lt_or_eq.1 (List.not_lt.1 h3) with e | e
  · exact e
  · exact absurd (epth_inj.1 e.symm) h
theorem mrg_srt (l m : List Ent) (hl : SrtE l) (hm : SrtE m) : SrtM (mrgL l m) := by
  have key : ∀ (l m : List Ent) (z : List UInt8), (∀ e ∈ l, z < epth e) → (∀ e ∈ m, z < epth e) → ∀ x ∈ mrgL l m, z < epth x.1 := by
    intro l m z h1 h2 x hx
    rcases (mrg_mem l m x.1.path).1 (path_of hx) with h | h
    · obtain ⟨e, he, hp⟩ := List.mem_map.1 h
      have := h1 e he
      rwa [epth, hp] at this
    · obtain ⟨e, he, hp⟩ := List.mem_map.1 h
      have := h2 e he
      rwa [epth, hp] at this
  fun_induction mrgL l m with
  | case1 => exact List.Pairwise.nil
  | case2 a l ih => exact List.pairwise_cons.2 ⟨key _ _ _ (List.pairwise_cons.1 hl).1 (by simp), ih (List.pairwise_cons.1 hl).2 hm⟩
  | case3 b m ih => exact List.pairwise_cons.2 ⟨key _ _ _ (by simp) (List.pairwise_cons.1 hm).1, ih hl (List.pairwise_cons.1 hm).2⟩
  | case4 a l b m h ih =>
    have e : epth (comeE a b).1 = epth a := epth_inj.2 (comeE_path h)
    refine List.pairwise_cons.2 ⟨fun x hx => ?_, ih (List.pairwise_cons.1 hl).2 (List.pairwise_cons.1 hm).2⟩
    rw [e]
    refine key _ _ _ (List.pairwise_cons.1 hl).1 (fun f hf => ?_) x hx
    rw [epth_inj.2 h]
    exact (List.pairwise_cons.1 hm).1 f hf
  | case5 a l b m h h2 ih =>
    have hlt : epth a < epth b := (less_iff _ _).1 h2
    refine List.pairwise_cons.2 ⟨key _ _ _ (List.pairwise_cons.1 hl).1 (fun f hf => ?_), ih (List.pairwise_cons.1 hl).2 hm⟩
    rcases List.mem_cons.1 hf with rfl | hf
    · exact hlt
    · exact List.lt_trans hlt ((List.pairwise_cons.1 hm).1 f hf)
  | case6 a l b m h h2 ih =>
    have hlt : epth b < epth a := not_less_lt h (Bool.eq_false_iff.2 h2)
    refine List.pairwise_cons.2 ⟨key _ _ _ (fun f hf => ?_) (List.pairwise_cons.1 hm).1, ih hl (List.pairwise_cons.1 hm).2⟩
    rcases List.mem_cons.1 hf with rfl | hf
    · exact hlt
    · exact List.lt_trans hlt ((List.pairwise_cons.1 hl).1 f hf)
theorem gt_no {l : List Ent} {z : ByteArray} (h : ∀ e ∈ l, z.data.toList < epth e) : atE l z = none :=
  atE_none.2 fun e he hp => by
    have := h e he
    rw [epth, hp] at this
    exact absurd this (List.lt_irrefl _)
theorem mrg_at (l m : List Ent) (hl : SrtE l) (hm : SrtE m) : ∀ x ∈ mrgL l m, cm (atE l x.1.path) (atE m x.1.path) = some x := by
  have ne : ∀ {a : Ent} {x : Ent × Bool}, epth a < epth x.1 → a.path ≠ x.1.path := fun h e => by rw [epth, e] at h; exact absurd h (List.lt_irrefl _)
  have hs := mrg_srt l m hl hm
  fun_induction mrgL l m with
  | case1 => simp
  | case2 a l ih =>
    intro x hx
    rcases List.mem_cons.1 hx with rfl | hx'
    · rw [atE_cons, if_pos rfl, atE_nil]; rfl
    · rw [atE_cons, if_neg (ne ((List.pairwise_cons.1 hs).1 x hx'))]
      exact ih (List.pairwise_cons.1 hl).2 hm (List.pairwise_cons.1 hs).2 x hx'
  | case3 b m ih =>
    intro x hx
    rcases List.mem_cons.1 hx with rfl | hx'
    · rw [atE_cons, if_pos rfl, atE_nil]; rfl
    · rw [atE_cons b, if_neg (ne ((List.pairwise_cons.1 hs).1 x hx'))]
      exact ih hl (List.pairwise_cons.1 hm).2 (List.pairwise_cons.1 hs).2 x hx'
  | case4 a l b m h ih =>
    have e : epth (comeE a b).1 = epth a := epth_inj.2 (comeE_path h)
    intro x hx
    rcases List.mem_cons.1 hx with rfl | hx'
    · rw [comeE_path h, atE_cons, if_pos rfl, atE_cons, if_pos h.symm]; rfl
    · have := (List.pairwise_cons.1 hs).1 x hx'
      rw [e] at this
      have n1 := ne this
      rw [atE_cons, if_neg n1, atE_cons, if_neg (by rw [← h]; exact n1)]
      exact ih (List.pairwise_cons.1 hl).2 (List.pairwise_cons.1 hm).2 (List.pairwise_cons.1 hs).2 x hx'
  | case5 a l b m h h2 ih =>
    have hlt : epth a < epth b := (less_iff _ _).1 h2
    intro x hx
    rcases List.mem_cons.1 hx with rfl | hx'
    · rw [atE_cons, if_pos rfl, gt_no (fun f hf => ?_)]
      · rfl
      rcases List.mem_cons.1 hf with rfl | hf
      · exact hlt
      · exact List.lt_trans hlt ((List.pairwise_cons.1 hm).1 f hf)
    · rw [atE_cons a, if_neg (ne ((List.pairwise_cons.1 hs).1 x hx'))]
      exact ih (List.pairwise_cons.1 hl).2 hm (List.pairwise_cons.1 hs).2 x hx'
  | case6 a l b m h h2 ih =>
    have hlt : epth b < epth a := not_less_lt h (Bool.eq_false_iff.2 h2)
    intro x hx
    rcases List.mem_cons.1 hx with rfl | hx'
    · rw [atE_cons b, if_pos rfl, gt_no (fun f hf => ?_)]
      · rfl
      rcases List.mem_cons.1 hf with rfl | hf
      · exact hlt
      · exact List.lt_trans hlt ((List.pairwise_cons.1 hl).1 f hf)
    · rw [atE_cons b, if_neg (ne ((List.pairwise_cons.1 hs).1 x hx'))]
      exact ih hl (List.pairwise_cons.1 hm).2 (List.pairwise_cons.1 hs).2 x hx'

/-! ### What is told of two archives -/
def mA (l m : List Ent) : List Ent := (mrgL l m).map (·.1)
def mC (l m : List Ent) : List ByteArray := ((mrgL l m).filter (·.2)).map (·.1.path)
theorem mA_srt {l m : List Ent} (hl : SrtE l) (hm : SrtE m) : SrtE (mA l m) := by
  have := mrg_srt l m hl hm
  exact List.pairwise_map.2 this
theorem mA_at {l m : List Ent} (hl : SrtE l) (hm : SrtE m) (p : ByteArray) : atE (mA l m) p = (cm (atE l p) (atE m p)).map (·.1) := by
  by_cases h : p ∈ (mrgL l m).map (·.1.path)
  · obtain ⟨x, hx, rfl⟩ := List.mem_map.1 h
    rw [mrg_at l m hl hm x hx]
    exact (atE_iff (mA_srt hl hm)).1 (List.mem_map.2 ⟨x, hx, rfl⟩)
  · have h1 : atE l p = none := atE_none.2 fun e he hp => h ((mrg_mem l m p).2 (.inl (List.mem_map.2 ⟨e, he, hp⟩)))
    have h2 : atE m p = none := atE_none.2 fun e he hp => h ((mrg_mem l m p).2 (.inr (List.mem_map.2 ⟨e, he, hp⟩)))
    rw [h1, h2]
    exact atE_none.2 fun e he hp => by
      obtain ⟨x, hx, rfl⟩ := List.mem_map.1 he
      exact h (List.mem_map.2 ⟨x, hx, hp⟩)
theorem mC_mem {l m : List Ent} (hl : SrtE l) (hm : SrtE m) (p : ByteArray) : p ∈ mC l m ↔ ∃ e, cm (atE l p) (atE m p) = some (e, true) := by
  constructor
  · intro h
    obtain ⟨x, hx, rfl⟩ := List.mem_map.1 h
    obtain ⟨h1, h2⟩ := List.mem_filter.1 hx
    exact ⟨x.1, by rw [mrg_at l m hl hm x h1, ← h2]⟩
  · rintro ⟨e, he⟩
    have h : p ∈ (mrgL l m).map (·.1.path) := by
      rw [mrg_mem]
      cases h1 : atE l p with
      | some a => exact .inl (List.mem_map.2 ⟨a, atE_mem h1⟩)
      | none =>
        cases h2 : atE m p with
        | some b => exact .inr (List.mem_map.2 ⟨b, atE_mem h2⟩)
        | none => rw [h1, h2] at he; cases he
    obtain ⟨x, hx, rfl⟩ := List.mem_map.1 h
    have := mrg_at l m hl hm x hx
    rw [he] at this
    injection this with this
    exact List.mem_map.2 ⟨x, List.mem_filter.2 ⟨hx, by rw [← this]⟩, rfl⟩
def SrtB (l : List ByteArray) : Prop := l.Pairwise fun a b => a.data.toList < b.data.toList
theorem mC_srt {l m : List Ent} (hl : SrtE l) (hm : SrtE m) : SrtB (mC l m) := by
  have := (mrg_srt l m hl hm).filter (·.2)
  exact List.pairwise_map.2 this
theorem srtB_one {a b : List ByteArray} (ha : SrtB a) (hb : SrtB b) (h : ∀ x, x ∈ a ↔ x ∈ b) : a = b :=
  pw_one (fun _ _ h1 h2 => absurd h2 (List.lt_asymm h1)) ha hb h
theorem mrg_paths {l m : List Ent} (hl : SrtE l) (hm : SrtE m) {ps : List ByteArray} (hs : SrtB ps) (h : ∀ x, x ∈ ps ↔ x ∈ l.map (·.path) ∨ x ∈ m.map (·.path)) : ps = (mrgL l m).map (·.1.path) :=
  srtB_one hs (List.pairwise_map.2 (mrg_srt l m hl hm)) fun x => by rw [h, mrg_mem]
end Go.Proofs.YtlmccjdpmhancaaGreatDoor
namespace Go.Proofs.YtlmccjdpmhancaaGreatDoor
open Go.RowKit

theorem okB_no {b : UInt8} (h : okB b = false) : ((b.toNat : Int) < 97 ∨ (122 : Int) < b.toNat) ∧ ((b.toNat : Int) < 48 ∨ (57 : Int) < b.toNat) ∧ (b.toNat : Int) ≠ 46 ∧ (b.toNat : Int) ≠ 45 := by
  simp [okB] at h
  omega
theorem okB_yes {b : UInt8} (h : okB b = true) : ((97 : Int) ≤ b.toNat ∧ (b.toNat : Int) ≤ 122) ∨ ((48 : Int) ≤ b.toNat ∧ (b.toNat : Int) ≤ 57) ∨ (b.toNat : Int) = 46 ∨ (b.toNat : Int) = 45 := by
  simp [okB] at h
  omega

set_option maxHeartbeats 2000000 in
theorem refName (s : ByteArray) (w : World) :
    Calls Tryz.prog 107 #[.string s] w fun e w' => e = .returned (.bool (nameL s.data.toList)) ∧ w = w' := by
  by_cases h1 : (s.size : Int) < 1
  · go_enter Tryz.func107, Tryz.ntmps107
    go_wp2
    go_ret
    exact ⟨ret_bool (nameL_no (by have := size_len s; omega)), rfl⟩
  by_cases h2 : (12 : Int) < s.size
  · go_enter Tryz.func107, Tryz.ntmps107
    go_wp2
    go_ret
    exact ⟨ret_bool (nameL_no (by have := size_len s; omega)), rfl⟩
  cases h3 : (s.toList == [46])
  case true =>
    have H := hid (show s.data.toList = [46] by rw [← Lib.toList_data s]; simpa using h3)
    go_enter Tryz.func107, Tryz.ntmps107
    go_wp2
    go_ret
    exact ⟨ret_bool (nameL_no (fun h => h.2.2.1 H.out)), rfl⟩
  cases h4 : (s.toList == [46, 46])
  case true =>
    have H := hid (show s.data.toList = [46, 46] by rw [← Lib.toList_data s]; simpa using h4)
    go_enter Tryz.func107, Tryz.ntmps107
    go_wp2
    go_ret
    exact ⟨ret_bool (nameL_no (fun h => h.2.2.2 H.out)), rfl⟩
  have HH := hid (show 1 ≤ s.data.toList.length ∧ s.data.toList.length ≤ 12 ∧ s.data.toList ≠ [46] ∧ s.data.toList ≠ [46, 46] by
    have hl := size_len s
    rw [Lib.toList_data s] at h3 h4
    exact ⟨by omega, by omega, by simpa using h3, by simpa using h4⟩)
  go_enter Tryz.func107, Tryz.ntmps107
  go_wp2_with fail
  go_loop [3] (fun i => ∃ j : Nat, j ≤ s.size ∧ i = .int .i64 j ∧ (s.data.toList.take j).all okB = true) (fun i => s.size - (intOf i).toNat)
  case atStart => exact ⟨0, by omega, rfl, by simp⟩
  case round =>
    obtain ⟨j, hj, rfl, hok⟩ := hrel
    by_cases hjn : j < s.size
    · have hlt : (j : Int) < s.size := by omega
      have HK := hid (take_ok s j hjn)
      have HO := hid hok
      clear hok
      obtain ⟨b, hb⟩ : ∃ b, s[j] = b := ⟨_, rfl⟩
      rw [hb] at HK
      have hyes : okB b = true → (s.data.toList.take (j + 1)).all okB = true := fun h => by rw [HK.out, HO.out, h]; rfl
      have hno : okB b = false → false = nameL s.data.toList := fun h => by
        have hk : (s.data.toList.take (j + 1)).all okB = false := by rw [HK.out, HO.out, h]; rfl
        cases hn : nameL s.data.toList with
        | false => rfl
        | true =>
          simp only [nameL, Bool.and_eq_true, List.all_eq_true] at hn
          have : (s.data.toList.take (j + 1)).all okB = true := List.all_eq_true.2 fun b hbm => hn.2 b (List.mem_of_mem_take hbm)
          rw [hk] at this
          cases this
      have HY := hid hyes
      have HN := hid hno
      clear hyes hno HK
      cases hob : okB b
      · have h5 := okB_no hob
        go_wp2
        all_goals first
          | (go_ret; exact ⟨ret_bool (HN.out hob), rfl⟩)
          | (exfalso; rename_i h; simp at h; omega)
      · have HT := HY.out hob
        clear HY HN
        rcases okB_yes hob with ⟨h5, h6⟩ | ⟨h5, h6⟩ | h5 | h5
        all_goals
          go_wp2
          go_roundw
          case rel => exact ⟨j + 1, by omega, by go_num, HT⟩
          case measure => simp [intOf]; omega
    · have e : s.size = j := by omega
      have HE := hid e
      have HO := hid hok
      have hnlt : ¬ (j : Int) < s.size := by omega
      clear e hok
      go_wp2
      go_ret
      refine ⟨ret_bool ?_, rfl⟩
      have hl := size_len s
      have ho := HO.out
      rw [← HE.out, hl, List.take_length] at ho
      have hh := HH.out
      simp only [nameL, ho, Bool.and_true]
      exact (decide_eq_true hh).symm

/-- What is cut so far: the pieces that end, and from where the last one goes on. -/
def CutInv (l : List UInt8) (j f : Nat) (done : List (List UInt8)) : Prop :=
  (j ≤ l.length ∧ f ≤ j ∧ 47 ∉ (l.drop f).take (j - f) ∧ done ++ pieces (l.drop f) = pieces l) ∨ (j = l.length + 1 ∧ done = pieces l)
theorem cut_last {l : List UInt8} {f : Nat} {done : List (List UInt8)} (h : CutInv l l.length f done) : f ≤ l.length ∧ done ++ [(l.drop f).take (l.length - f)] = pieces l := by
  rcases h with ⟨_, h2, h3, h4⟩ | ⟨h1, _⟩
  · have e : (l.drop f).take (l.length - f) = l.drop f := List.take_of_length_le (by simp)
    rw [e] at h3 ⊢
    rw [← h4, pieces_none _ h3]
    exact ⟨h2, rfl⟩
  · omega
theorem drop_at {l : List UInt8} {j f : Nat} (h : j < l.length) (hf : f ≤ j) : l.drop f = (l.drop f).take (j - f) ++ l[j] :: l.drop (j + 1) := by
  have e1 : (l.drop f).drop (j - f) = l.drop j := by rw [List.drop_drop]; congr 1; omega
  have e2 : l.drop j = l[j] :: l.drop (j + 1) := List.drop_eq_getElem_cons h
  rw [← e2, ← e1, List.take_append_drop]
theorem cut_stroke {l : List UInt8} {j f : Nat} {done : List (List UInt8)} (h : CutInv l j f done) (hj : j < l.length) (hb : l[j] = 47) :
    f ≤ j ∧ CutInv l (j + 1) (j + 1) (done ++ [(l.drop f).take (j - f)]) := by
  rcases h with ⟨_, h2, h3, h4⟩ | ⟨h1, _⟩
  · refine ⟨h2, .inl ⟨by omega, Nat.le_refl _, by simp, ?_⟩⟩
    have e := drop_at hj h2
    rw [hb] at e
    have e2 : pieces (l.drop f) = (l.drop f).take (j - f) :: pieces (l.drop (j + 1)) := by
      conv => lhs; rw [e]
      rw [pieces_app, pieces_none _ h3]
      rfl
    rw [← h4, e2]
    simp
  · omega
theorem cut_on {l : List UInt8} {j f : Nat} {done : List (List UInt8)} (h : CutInv l j f done) (hj : j < l.length) (hb : l[j] ≠ 47) : CutInv l (j + 1) f done := by
  rcases h with ⟨_, h2, h3, h4⟩ | ⟨h1, _⟩
  · refine .inl ⟨by omega, by omega, ?_, h4⟩
    have e : j + 1 - f = (j - f) + 1 := by omega
    have e2 : (l.drop f)[j - f]? = some l[j] := by rw [List.getElem?_drop, show f + (j - f) = j by omega, List.getElem?_eq_getElem hj]
    rw [e, List.take_add_one, e2]
    intro hm
    rcases List.mem_append.1 hm with hm | hm
    · exact h3 hm
    · simp at hm
      exact hb hm.symm
  · omega
theorem ba_at (s : ByteArray) (j : Nat) (h : j < s.size) : s[j] = s.data.toList[j]'(by have := size_len s; omega) := rfl

/-- A slice of pieces that the call made. -/
def CutPost (w : World) (L : List (List UInt8)) (e : Ending) (w' : World) : Prop :=
  ∃ A c, e = .returned (.slice A L.length c) ∧ Rd w' A (strV (L.map mkS)) ∧ L.length ≤ c ∧ Below w.heap.size w w'

set_option maxHeartbeats 2000000 in
theorem refCut (s : ByteArray) (w : World) (hs : s.size < 4294967281) :
    Calls Tryz.prog 106 #[.string s] w (CutPost w (pieces s.data.toList)) := by
  go_enter Tryz.func106, Tryz.ntmps106
  go_wp2_with fail
  go_loopw [3, 4, 5] (fun v f i wr => ∃ j k : Nat, ∃ done : List ByteArray, ∃ A c, i = .int .i64 j ∧ f = .int .i64 k ∧ v = .slice A done.length c ∧ done.length ≤ j ∧ j ≤ s.size + 1 ∧ wr.ownsRow w.heap.size 9 1 (.slice A done.length c) done.length (strV done) ∧ CutInv s.data.toList j k (lst done) ∧ Below w.heap.size w wr) (fun _ _ i _ => s.size + 1 - (intOf i).toNat)
  case atStart => exact ⟨0, 0, [], none, 0, rfl, rfl, rfl, Nat.le_refl _, by omega, World.ownsRow_nil _ _ _ _, .inl ⟨by omega, Nat.le_refl _, by simp, rfl⟩, Below.refl _ _⟩
  case round =>
    obtain ⟨j, k, done, A, c, rfl, rfl, rfl, hdl, hj, hown, hinv, hb⟩ := hrel
    have HI := hid hinv
    clear hinv
    by_cases hjs : j ≤ s.size
    · have hle : (j : Int) ≤ s.size := by omega
      by_cases hje : j = s.size
      · subst hje
        have HI2 := hid (show CutInv s.data.toList (s.size + 1) (s.size + 1) (lst done ++ [(s.data.toList.drop k).take (s.size - k)]) by
          have h := HI.out
          rw [size_len] at h ⊢
          exact .inr ⟨rfl, (cut_last h).2⟩)
        have hk : (k : Int) ≤ s.size := by
          have h := HI.out
          rw [size_len] at h ⊢
          have := (cut_last h).1
          omega
        clear HI
        go_wp2_with (at_builtin; refine wpApp _ rfl _ _ 25 rfl w.heap.size 9 (.string ⟨#[]⟩) 16 Tryz.underlying25 Tryz.infoS rfl A done.length c _ rfl (hown.alloc _) _ _ _ (strV [s.extract k s.size]) rfl rfl (.inr ⟨_, rfl, new_cells wr 9 _⟩) (strV_one _) (by omega) (by have := hb.size; simp; omega) (by omega) ?_)
        intro A2 c2 w2 hown2 hg2
        have hb2 : Below w.heap.size w w2 := (hb.alloc hb.size _).grown hg2 (by have := hb.size; simp; omega) (own_app_block hown)
        have hown3 : w2.ownsRow w.heap.size 9 1 (.slice A2 (done ++ [s.extract k s.size]).length c2) (done ++ [s.extract k s.size]).length (strV (done ++ [s.extract k s.size])) := by
          rw [strV_append, List.length_append]
          exact hown2
        clear hown hown2 hg2 hb
        go_wp2
        go_roundw
        case rel =>
          exact ⟨s.size + 1, s.size + 1, done ++ [s.extract k s.size], A2, c2, by go_num, by go_num, by simp, by simp; omega, by omega, hown3, by rw [lst, List.map_append, List.map_cons, List.map_nil, Lib.extract_data]; exact HI2.out, hb2⟩
        case measure => simp [intOf]
      · have hjn : j < s.size := by omega
        have hlt : (j : Int) < s.size := by omega
        have hne : ((j : Int) == (s.size : Int)) = false := by simp; omega
        have hjl : j < s.data.toList.length := by rw [← size_len]; exact hjn
        have HB := hid (ba_at s j hjn)
        obtain ⟨b, hbe⟩ : ∃ b, s[j] = b := ⟨_, rfl⟩
        rw [hbe] at HB
        by_cases h47 : b = 47
        · subst h47
          have HI2 := hid (show CutInv s.data.toList (j + 1) (j + 1) (lst done ++ [(s.data.toList.drop k).take (j - k)]) from (cut_stroke HI.out hjl HB.out.symm).2)
          have hk : (k : Int) ≤ j := by
            have := (cut_stroke HI.out hjl HB.out.symm).1
            omega
          clear HI HB
          go_wp2_with (at_builtin; refine wpApp _ rfl _ _ 25 rfl w.heap.size 9 (.string ⟨#[]⟩) 16 Tryz.underlying25 Tryz.infoS rfl A done.length c _ rfl (hown.alloc _) _ _ _ (strV [s.extract k j]) rfl rfl (.inr ⟨_, rfl, new_cells wr 9 _⟩) (strV_one _) (by omega) (by have := hb.size; simp; omega) (by omega) ?_)
          intro A2 c2 w2 hown2 hg2
          have hb2 : Below w.heap.size w w2 := (hb.alloc hb.size _).grown hg2 (by have := hb.size; simp; omega) (own_app_block hown)
          have hown3 : w2.ownsRow w.heap.size 9 1 (.slice A2 (done ++ [s.extract k j]).length c2) (done ++ [s.extract k j]).length (strV (done ++ [s.extract k j])) := by
            rw [strV_append, List.length_append]
            exact hown2
          clear hown hown2 hg2 hb
          go_wp2
          go_roundw
          case rel =>
            exact ⟨j + 1, j + 1, done ++ [s.extract k j], A2, c2, by go_num, by go_num, by simp, by simp; omega, by omega, hown3, by rw [lst, List.map_append, List.map_cons, List.map_nil, Lib.extract_data]; exact HI2.out, hb2⟩
          case measure => simp [intOf]; omega
        · have hb47 : ¬ (b.toNat : Int) = 47 := fun h => h47 (by
            have : b.toNat = 47 := by omega
            exact UInt8.toNat_inj.1 this)
          have hq : ((b.toNat : Int) == 47) = false := by simpa using hb47
          have HI2 := hid (cut_on HI.out hjl (by rw [← HB.out]; exact h47))
          clear HI HB
          go_wp2
          go_roundw
          case rel => exact ⟨j + 1, k, done, A, c, by go_num, rfl, rfl, by omega, by omega, hown, HI2.out, hb⟩
          case measure => simp [intOf]; omega
    · have hnle : ¬ (j : Int) ≤ s.size := by omega
      have HJ := hid (show j = s.size + 1 by omega)
      go_wp2
      go_ret
      have e : lst done = pieces s.data.toList := by
        rcases HI.out with ⟨h1, _⟩ | ⟨_, h2⟩
        · have := HJ.out
          rw [size_len] at this
          omega
        · exact h2
      rw [← e]
      obtain ⟨_, A', c', hv, hc, _⟩ := own_form hown
      injection hv with e1 e2 e3
      subst e1 e3
      refine ⟨A, c, by rw [lst_length]; rfl, ?_, by rw [lst_length]; exact hc, hb⟩
      rw [lst, mkS_map]
      exact Rd.of_own hown
end Go.Proofs.YtlmccjdpmhancaaGreatDoor
namespace Go.Proofs.YtlmccjdpmhancaaGreatDoor
open Go.RowKit

theorem all_take_step (L : List (List UInt8)) (j : Nat) (h : j < L.length) : (L.take (j + 1)).all nameL = ((L.take j).all nameL && nameL L[j]) := by
  rw [List.take_add_one, List.getElem?_eq_getElem h, List.all_append]
  simp
theorem not_fine_at {L : List (List UInt8)} {j : Nat} (h : j < L.length) (hb : nameL L[j] = false) : fineL L = false := by
  cases hf : fineL L with
  | false => rfl
  | true =>
    have := fine_all hf L[j] (List.getElem_mem h)
    rw [hb] at this
    cases this

set_option maxHeartbeats 1000000 in
theorem refRight (s : ByteArray) (w : World) (hs : s.size < 4294967281) :
    Calls Tryz.prog 75 #[.string s] w fun e w' => e = .returned (.bool (rightL s.data.toList)) ∧ Below w.heap.size w w' := by
  have c0 := refCut s w hs
  have hpl := pieces_len s.data.toList
  rw [← size_len] at hpl
  have hpos := List.length_pos_iff.2 (pieces_ne s.data.toList)
  unfold rightL
  generalize pieces s.data.toList = L at c0 hpl hpos ⊢
  go_enter Tryz.func75, Tryz.ntmps75
  go_wp2_with fail
  refine c0.mono ?_
  clear c0
  rintro e w1 ⟨A, c, rfl, hr1, hc1, hb1⟩
  by_cases h4 : (4 : Int) < L.length
  · go_wp2
    go_ret
    exact ⟨ret_bool (fine_long (by omega)).symm, hb1⟩
  go_wp2_with fail
  go_loop [4] (fun i => ∃ j : Nat, j ≤ L.length ∧ i = .int .i64 j ∧ (L.take j).all nameL = true) (fun i => L.length - (intOf i).toNat)
  case atStart => exact ⟨0, by omega, rfl, by simp⟩
  case round =>
    obtain ⟨j, hj, rfl, hok⟩ := hrel
    by_cases hjn : j < L.length
    · obtain ⟨b, off, rfl, hc, -⟩ := hr1.at_ (k := j) (by rw [strV_length, List.length_map]; exact hjn)
      have h5 : w1.cell? ⟨b, off + j, none⟩ = some (.string (mkS L[j])) := by rw [hc]; simp [strV]
      have HK := hid (all_take_step L j hjn)
      have HO := hid hok
      clear hc hok
      have hz : (0 : Int) ≤ j := by omega
      have hlt : (j : Int) < L.length := by omega
      go_wp2_with fail
      refine (refName _ _).mono ?_
      rintro e w2 ⟨he, rfl⟩
      rw [mkS_data] at he
      subst he
      cases hb : nameL L[j]
      · go_wp2
        go_ret
        exact ⟨ret_bool (not_fine_at hjn hb).symm, hb1⟩
      · go_wp2
        go_roundw
        case rel => exact ⟨j + 1, by omega, by go_num, by rw [HK.out, HO.out, hb]; rfl⟩
        case measure => simp [intOf]; omega
    · have HE := hid (show j = L.length by omega)
      have HO := hid hok
      have hnlt : ¬ (j : Int) < L.length := by omega
      clear hok
      go_wp2
      go_ret
      refine ⟨ret_bool ?_, hb1⟩
      have ho := HO.out
      rw [HE.out, List.take_length] at ho
      exact (fine_mk (by omega) (by omega) (List.all_eq_true.1 ho)).symm

theorem pre_no {s d : List UInt8} (h : s.length ≤ d.length) : Lib.hasPrefix s (d ++ [47]) = false := by
  cases hp : Lib.hasPrefix s (d ++ [47]) with
  | false => rfl
  | true =>
    have := Lib.hasPrefix_of_take s (d ++ [47])
    rw [hp] at this
    simp at this
    omega
theorem pre_at {s d : List UInt8} (h : d.length < s.length) : Lib.hasPrefix s (d ++ [47]) = (s.take d.length == d && s[d.length] == 47) := by
  rw [← Lib.hasPrefix_of_take]
  have e1 : decide ((d ++ [47]).length ≤ s.length) = true := by simp; omega
  have e2 : s.take (d ++ [47]).length = s.take d.length ++ [s[d.length]] := by
    rw [List.length_append, List.length_cons, List.length_nil, List.take_add_one, List.getElem?_eq_getElem h]
    rfl
  rw [e1, e2, Bool.true_and, Bool.eq_iff_iff]
  simp only [beq_iff_eq, Bool.and_eq_true]
  constructor
  · intro e
    have := List.append_inj' e rfl
    exact ⟨this.1, by simpa using this.2⟩
  · rintro ⟨h1, h2⟩
    rw [h1, h2]

set_option maxHeartbeats 1000000 in
theorem refUnder (s d : ByteArray) (w : World) (hs : s.size < 4294967281) (hd : d.size < 4294967281) :
    Calls Tryz.prog 79 #[.string s, .string d] w fun e w' => e = .returned (.bool (underL s.data.toList d.data.toList)) ∧ Below w.heap.size w w' := by
  have HL1 := hid (size_len s)
  have HL2 := hid (size_len d)
  go_enter Tryz.func79, Tryz.ntmps79
  go_wp2_with fail
  refine (refRight s _ hs).mono ?_
  rintro e w1 ⟨rfl, hb1⟩
  cases h1 : rightL s.data.toList
  · go_wp2
    go_ret
    exact ⟨ret_bool (by simp [underL, h1]), hb1⟩
  · go_wp2_with fail
    refine (refRight d _ hd).mono ?_
    rintro e w2 ⟨rfl, hb2⟩
    have hb2' := below2 hb1 hb2
    clear hb1 hb2
    cases h2 : rightL d.data.toList
    · go_wp2
      go_ret
      exact ⟨ret_bool (by simp [underL, h2]), hb2'⟩
    · by_cases hle : (s.size : Int) ≤ d.size
      · go_wp2
        go_ret
        exact ⟨ret_bool (by rw [underL, pre_no (by have := HL1.out; have := HL2.out; omega)]; simp), hb2'⟩
      · have hlt : d.size < s.size := by omega
        have HP := hid (pre_at (s := s.data.toList) (d := d.data.toList) (by have := HL1.out; have := HL2.out; omega))
        cases h7 : ((s.extract 0 d.size).toList == d.toList)
        · go_wp2
          go_ret
          refine ⟨ret_bool ?_, hb2'⟩
          rw [underL, h1, h2, HP.out]
          rw [Lib.toList_data, Lib.toList_data, Lib.extract_from_zero, HL2.out] at h7
          rw [h7]
          rfl
        · have hlti : (d.size : Int) < s.size := by omega
          have HB := hid (ba_at s d.size hlt)
          go_wp2
          go_ret
          refine ⟨ret_bool ?_, hb2'⟩
          rw [underL, h1, h2, HP.out]
          rw [Lib.toList_data, Lib.toList_data, Lib.extract_from_zero, HL2.out] at h7
          rw [h7, HB.out]
          have e : s.data.toList[d.size]'(by have := HL1.out; omega) = s.data.toList[d.data.toList.length]'(by have := HL1.out; have := HL2.out; omega) := by congr 1
          rw [e]
          generalize s.data.toList[d.data.toList.length]'(by have := HL1.out; have := HL2.out; omega) = b
          rw [Bool.eq_iff_iff]
          simp only [beq_iff_eq, Bool.and_self, Bool.true_and]
          constructor
          · intro h
            exact UInt8.toNat_inj.1 (show b.toNat = 47 by omega)
          · rintro rfl
            rfl
end Go.Proofs.YtlmccjdpmhancaaGreatDoor
namespace Go.Proofs.YtlmccjdpmhancaaGreatDoor
open Go.RowKit

/-- Where a path stands, in a tree that rises. -/
def posT (fs : List Fil) (p : List UInt8) : Int := if thereT fs p then ((lowT fs p).length : Int) else -1
theorem pos_at {fs : List Fil} {p : List UInt8} (hs : Srt fs) {j : Nat} (hj : j < fs.length) (e : pth fs[j] = p) : posT fs p = j := by
  have ht : thereT fs p = true := there_iff.2 ⟨fs[j], List.getElem_mem hj, e⟩
  obtain ⟨hl, e2⟩ := (there_at hs).1 ht
  rw [posT, if_pos ht]
  have hp := List.pairwise_iff_getElem.1 hs
  generalize (lowT fs p).length = k at *
  rcases Nat.lt_trichotomy k j with h | h | h
  · have h1 := hp k j hl hj h
    rw [e2, e] at h1
    exact absurd h1 (List.lt_irrefl _)
  · rw [h]
  · have h1 := hp j k hj hl h
    rw [e2, e] at h1
    exact absurd h1 (List.lt_irrefl _)

set_option maxHeartbeats 400000 in
theorem refPos {w : World} {A : Option Addr} {n c : Nat} {fs : List Fil} (h : Ft w A n c fs) (hs : Srt fs) (p : ByteArray) :
    Calls Tryz.prog 109 #[.slice A n c, .string p] w fun e w' => e = .returned (.int .i64 (posT fs p.data.toList)) ∧ w = w' := by
  have hn := h.big
  have HL := hid h.len
  have hr := h.rd
  have HS := hid hs
  clear h hs
  go_enter Tryz.func109, Tryz.ntmps109
  go_wp2_with fail
  go_loop [5] (fun i => ∃ j : Nat, j ≤ n ∧ i = .int .i64 j ∧ Hid (∀ k (hk : k < fs.length), k < j → pth fs[k] ≠ p.data.toList)) (fun i => n - (intOf i).toNat)
  case atStart => exact ⟨0, by omega, rfl, hid (fun k _ hk => absurd hk (by omega))⟩
  case round =>
    obtain ⟨j, hj, rfl, HO⟩ := hrel
    by_cases hjn : j < n
    · have hjl : j < fs.length := by rw [HL.out]; exact hjn
      obtain ⟨b, off, rfl, h1, -, -⟩ := hr.fil hjl
      have hz : (0 : Int) ≤ j := by omega
      have hlt : (j : Int) < n := by omega
      by_cases he : fs[j].1 = p
      · have hb := toList_eq he
        have HP := hid (pos_at HS.out hjl (show fs[j].1.data.toList = p.data.toList by rw [he]))
        clear he
        generalize fs[j].1 = x at *
        go_wp2
        go_ret
        exact ⟨ret_int HP.out.symm, rfl⟩
      · have hb := toList_ne he
        have HP := hid (show pth fs[j] ≠ p.data.toList from fun e => he (data_inj e))
        clear he
        have HX := hid (rfl : fs[j].1 = fs[j].1)
        generalize fs[j].1 = x at h1 hb
        go_wp2
        go_round
        case rel =>
          refine ⟨j + 1, by omega, by go_num, hid (fun k hk hkj => ?_)⟩
          by_cases e : k = j
          · subst e; exact HP.out
          · exact HO.out k hk (by omega)
        case measure => simp [intOf]; omega
    · have HE := hid (show j = n by omega)
      have hnlt : ¬ (j : Int) < n := by omega
      go_wp2
      go_ret
      refine ⟨ret_int ?_, rfl⟩
      have ht : thereT fs p.data.toList = false := there_no.2 fun f hf => by
        obtain ⟨k, hk, rfl⟩ := List.mem_iff_getElem.1 hf
        exact HO.out k hk (by have h1 := HE.out; have h2 := HL.out; omega)
      rw [posT, ht]
      rfl
end Go.Proofs.YtlmccjdpmhancaaGreatDoor
namespace Go.Proofs.YtlmccjdpmhancaaGreatDoor
open Go.RowKit

def ltAt (fs : List Fil) (j : Nat) (hj : j < fs.length) : Prop := ∀ _ : 0 < j, pth fs[j - 1] < pth fs[j]
theorem lt_none {fs : List Fil} {j : Nat} (hj : j < fs.length) : ¬ 0 < j → ltAt fs j hj := fun h0 h => absurd h h0
def okAt (fs : List Fil) (i : Nat) (hi : i < fs.length) : Prop :=
  rightL (pth fs[i]) = true ∧ fs[i].2.size ≤ 600 ∧ (∀ _ : 0 < i, pth fs[i - 1] < pth fs[i]) ∧ ∀ k (hk : k < i), underL (pth fs[i]) (pth (fs[k]'(by omega))) = false
theorem tree_bad {fs : List Fil} (h : treeR fs = true) (i : Nat) (hi : i < fs.length) : okAt fs i hi := by
  have hR := (treeR_iff fs).1 h
  have hs := List.pairwise_iff_getElem.1 hR.srt
  exact ⟨hR.paths _ (List.getElem_mem hi), hR.datas _ (List.getElem_mem hi), fun h0 => hs (i - 1) i (by omega) hi (by omega), fun k hk => hR.apart _ (List.getElem_mem hi) _ (List.getElem_mem _)⟩
theorem tree_good {fs : List Fil} (h16 : fs.length ≤ 16) (h : ∀ i (hi : i < fs.length), okAt fs i hi) : treeR fs = true := by
  have hl : (fs.map pth).length = fs.length := by simp
  have e : ∀ i (hi : i < fs.length), (fs.map pth).getD i [] = pth fs[i] := fun i hi => by simp [List.getD, hi]
  unfold treeR
  rw [Bool.and_eq_true, Bool.and_eq_true, Bool.and_eq_true, decide_eq_true_eq]
  refine ⟨⟨⟨h16, List.all_eq_true.2 fun f hf => ?_⟩, List.all_eq_true.2 fun i hi => ?_⟩, (apart_idx _).2 fun i k hik hk => ?_⟩
  · obtain ⟨i, hi, rfl⟩ := List.mem_iff_getElem.1 hf
    exact decide_eq_true (h i hi).2.1
  · have hi' : i < fs.length := by rw [← hl]; exact List.mem_range.1 hi
    unfold srtAt
    rw [Bool.and_eq_true, Bool.or_eq_true, e i hi']
    refine ⟨(h i hi').1, ?_⟩
    by_cases h0 : i = 0
    · left; simp [h0]
    · right
      rw [e (i - 1) (by omega), less_iff]
      exact (h i hi').2.2.1 (by omega)
  · rw [List.getElem_map, List.getElem_map]
    exact (h k (by rw [← hl]; exact hk)).2.2.2 i hik

set_option maxHeartbeats 4000000 in
set_option maxRecDepth 10000 in
theorem refTree {w : World} {A : Option Addr} {n c : Nat} {fs : List Fil} (h : Ft w A n c fs) :
    Calls Tryz.prog 46 #[.slice A n c] w fun e w' => e = .returned (.bool (treeR fs)) ∧ Below w.heap.size w w' := by
  have HL := hid h.len
  have HS := hid h.sz
  have hr := h.rd
  clear h
  by_cases h16 : (16 : Int) < n
  · go_enter Tryz.func46, Tryz.ntmps46
    go_wp2
    go_ret
    refine ⟨ret_bool ?_, Below.refl _ _⟩
    symm
    refine treeR_no fun h => ?_
    have h1 := h.few
    have h2 := HL.out
    omega
  · have hn16 : n ≤ 16 := by omega
    go_enter Tryz.func46, Tryz.ntmps46
    go_wp2_with fail
    go_loopw [3] (fun i wr => ∃ j : Nat, j ≤ n ∧ i = .int .i64 j ∧ Hid (∀ i (hi : i < fs.length), i < j → okAt fs i hi) ∧ Below w.heap.size w wr) (fun i _ => n - (intOf i).toNat)
    case atStart => exact ⟨0, by omega, rfl, hid (fun i _ h => absurd h (by omega)), Below.refl _ _⟩
    case round =>
      obtain ⟨j, hj, rfl, HO, hb⟩ := hrel
      by_cases hjn : j < n
      · have hjl : j < fs.length := by rw [HL.out]; exact hjn
        have hr1 := hr.below hb
        obtain ⟨b, off, rfl, h1, h2, -⟩ := hr1.fil hjl
        have hz : (0 : Int) ≤ j := by omega
        have hlt : (j : Int) < n := by omega
        have hsx := (HS.out fs[j] (List.getElem_mem hjl)).1
        obtain ⟨x, hx⟩ : ∃ x, fs[j].1 = x := ⟨_, rfl⟩
        obtain ⟨d, hd⟩ : ∃ d, fs[j].2 = d := ⟨_, rfl⟩
        have HX := hid hx
        have HD := hid hd
        rw [hx] at h1 hsx
        rw [hd] at h2
        clear hx hd hr1
        go_wp2_with fail
        refine (refRight x _ hsx).mono ?_
        rintro e w2 ⟨rfl, hb2⟩
        have k1 := (hb2.cell (p := ⟨b, off + j * 2, none⟩) (World.block_lt_of_cell? _ _ h1)).trans h1
        have k2 := (hb2.cell (p := ⟨b, off + j * 2 + 1, none⟩) (World.block_lt_of_cell? _ _ h2)).trans h2
        have b2 := below2 hb hb2
        have hr2 := hr.below b2
        clear h1 h2 hb hb2
        cases hf : rightL x.data.toList
        · have HF := hid hf
          clear hf
          go_wp2_with fail
          go_quiet (fail)
          go_wp2
          go_ret
          refine ⟨ret_bool ?_, below_drewN b2 _⟩
          symm
          refine not_true fun hT => ?_
          have := (tree_bad hT j hjl).1
          rw [pth, HX.out, HF.out] at this
          cases this
        · have HF := hid hf
          clear hf
          by_cases hd6 : (600 : Int) < d.size
          · go_wp2_with fail
            go_quiet (fail)
            go_wp2
            go_ret
            refine ⟨ret_bool ?_, below_drewN b2 _⟩
            symm
            refine not_true fun hT => ?_
            have := (tree_bad hT j hjl).2.1
            rw [HD.out] at this
            omega
          · have hd6b : decide ((600 : Int) < d.size) = false := by simp; omega
            by_cases hj0 : 0 < j
            · have hj0z : (0 : Int) < j := by omega
              have hjl2 : j - 1 < fs.length := by omega
              obtain ⟨b', off', he, k3, -, -⟩ := hr2.fil hjl2
              injection he with he
              injection he with he1 he2
              subst he1 he2
              obtain ⟨y, hy⟩ : ∃ y, fs[j - 1].1 = y := ⟨_, rfl⟩
              have HY := hid hy
              rw [hy] at k3
              clear hy
              have hj1 : ((j : Int) - 1) = ((j - 1 : Nat) : Int) := by omega
              have hj1z : (0 : Int) ≤ (j - 1 : Nat) := by omega
              have hj1n : ((j - 1 : Nat) : Int) < n := by omega
              have hfl := less_flip y.data.toList x.data.toList
              cases hls : Op.bytesLess y.data.toList x.data.toList
              · rw [hls] at hfl
                rw [← Lib.toList_data, ← Lib.toList_data] at hfl
                have HLS := hid hls
                clear hls
                go_wp2_with fail
                go_quiet (fail)
                go_wp2
                go_ret
                refine ⟨ret_bool ?_, below_drewN b2 _⟩
                symm
                refine not_true fun hT => ?_
                have := (tree_bad hT j hjl).2.2.1 hj0
                rw [show pth fs[j - 1] = y.data.toList by rw [pth, HY.out], show pth fs[j] = x.data.toList by rw [pth, HX.out], ← less_iff, HLS.out] at this
                cases this
              · rw [hls] at hfl
                rw [← Lib.toList_data, ← Lib.toList_data] at hfl
                have HLT := hid (show ∀ _ : 0 < j, pth fs[j - 1] < pth fs[j] from fun _ => by
                  rw [show pth fs[j - 1] = y.data.toList by rw [pth, HY.out], show pth fs[j] = x.data.toList by rw [pth, HX.out], ← less_iff]
                  exact hls)
                clear hls
                go_wp2_with fail
                go_quiet (fail)
                clear k1 k2 k3 hr2 hj1 hj1z hj1n hfl hd6b
                go_wp2_with fail
                go_loopw [5] (fun v wx => ∃ k : Nat, k ≤ j ∧ v = .int .i64 k ∧ Hid (∀ i (hi : i < fs.length), i < k → underL x.data.toList (pth fs[i]) = false) ∧ Below w.heap.size w wx) (fun v _ => j - (intOf v).toNat)
                case atStart => exact ⟨0, by omega, rfl, hid (fun i _ h => absurd h (by omega)), below_drewN b2 _⟩
                case round =>
                  clear b2
                  obtain ⟨k, hk, rfl, HU, hb4⟩ := hrel
                  by_cases hkj : k < j
                  · have hkl : k < fs.length := by omega
                    have hr4 := hr.below hb4
                    obtain ⟨b', off', he, m1, -, -⟩ := hr4.fil hjl
                    injection he with he
                    injection he with he1 he2
                    subst he1 he2
                    obtain ⟨b', off', he, m2, -, -⟩ := hr4.fil hkl
                    injection he with he
                    injection he with he1 he2
                    subst he1 he2
                    rw [HX.out] at m1
                    have hsy := (HS.out fs[k] (List.getElem_mem hkl)).1
                    obtain ⟨y, hy⟩ : ∃ y, fs[k].1 = y := ⟨_, rfl⟩
                    have HYY := hid hy
                    rw [hy] at m2 hsy
                    clear hy hr4
                    have hkz : (0 : Int) ≤ k := by omega
                    have hkz1 : (k : Int) < j := by omega
                    have hkz2 : (k : Int) < n := by omega
                    go_wp2_with fail
                    refine wp_region_held_drew (S := fun w' => w'.cell? ⟨b, off + j * 2, none⟩ = some (.string x) ∧ w'.cell? ⟨b, off + k * 2, none⟩ = some (.string y)) (by kernel_rfl) ⟨m1, m2⟩ (fun hHeld => ?_)
                    refine wpAnyH_take (i := 0) (oi := ⟨_, _, _, _, _, _⟩) (v := ?_) rfl (by kernel_rfl) (by kernel_rfl) (by kernel_rfl) (fun _ _ _ h => h) (Or.inl ⟨by rfl, ?_⟩) (by assumption) ?_
                    rotate_left
                    · intro w hSw; (try dsimp only at hSw); go_simp; (try (with_reducible rfl))
                    try simp only [Act.put, List.setIfInBounds_toArray, List.set_cons_zero, List.set_cons_succ]
                    refine wpAnyH_take (i := 1) (oi := ⟨_, _, _, _, _, _⟩) (v := ?_) rfl (by kernel_rfl) (by kernel_rfl) (by kernel_rfl) (fun _ _ _ h => h) (Or.inl ⟨by rfl, ?_⟩) (by assumption) ?_
                    rotate_left
                    · intro w hSw; (try dsimp only at hSw); go_simp; (try (with_reducible rfl))
                    try simp only [Act.put, List.setIfInBounds_toArray, List.set_cons_zero, List.set_cons_succ]
                    refine wpAnyH_take (i := 2) (oi := ⟨_, _, _, _, _, _⟩) (v := ?_) rfl (by kernel_rfl) (by kernel_rfl) (by kernel_rfl) (fun _ _ _ h => h) (Or.inl ⟨by rfl, ?_⟩) (by assumption) ?_
                    rotate_left
                    · intro w hSw; (try dsimp only at hSw); go_simp; (try (with_reducible rfl))
                    try simp only [Act.put, List.setIfInBounds_toArray, List.set_cons_zero, List.set_cons_succ]
                    refine wpAnyH_take (i := 3) (oi := ⟨_, _, _, _, _, _⟩) (v := ?_) rfl (by kernel_rfl) (by kernel_rfl) (by kernel_rfl) (fun _ _ _ h => h) (Or.inl ⟨by rfl, ?_⟩) (by assumption) ?_
                    rotate_left
                    · intro w hSw; (try dsimp only at hSw); go_simp; (try (with_reducible rfl))
                    try simp only [Act.put, List.setIfInBounds_toArray, List.set_cons_zero, List.set_cons_succ]
                    refine wpAnyH_take (i := 4) (oi := ⟨_, _, _, _, _, _⟩) (v := ?_) rfl (by kernel_rfl) (by kernel_rfl) (by kernel_rfl) (fun _ _ _ h => h) (Or.inl ⟨by rfl, ?_⟩) (by assumption) ?_
                    rotate_left
                    · intro w hSw; (try dsimp only at hSw); go_simp; (try (with_reducible rfl))
                    try simp only [Act.put, List.setIfInBounds_toArray, List.set_cons_zero, List.set_cons_succ]
                    refine wpAnyH_take (i := 5) (oi := ⟨_, _, _, _, _, _⟩) (v := ?_) rfl (by kernel_rfl) (by kernel_rfl) (by kernel_rfl) (fun _ _ _ h => h) (Or.inl ⟨by rfl, ?_⟩) (by assumption) ?_
                    rotate_left
                    · intro w hSw; (try dsimp only at hSw); go_simp; (try (with_reducible rfl))
                    try simp only [Act.put, List.setIfInBounds_toArray, List.set_cons_zero, List.set_cons_succ]
                    refine wpAnyH_take (i := 6) (oi := ⟨_, _, _, _, _, _⟩) (v := ?_) rfl (by kernel_rfl) (by kernel_rfl) (by kernel_rfl) (fun _ _ _ h => h) (Or.inl ⟨by rfl, ?_⟩) (by assumption) ?_
                    rotate_left
                    · intro w hSw; (try dsimp only at hSw); go_simp; (try (with_reducible rfl))
                    try simp only [Act.put, List.setIfInBounds_toArray, List.set_cons_zero, List.set_cons_succ]
                    refine wpAnyH_take (i := 7) (oi := ⟨_, _, _, _, _, _⟩) (v := ?_) rfl (by kernel_rfl) (by kernel_rfl) (by kernel_rfl) (fun _ _ _ h => h) (Or.inl ⟨by rfl, ?_⟩) (by assumption) ?_
                    rotate_left
                    · intro w hSw; (try dsimp only at hSw); go_simp; (try (with_reducible rfl))
                    try simp only [Act.put, List.setIfInBounds_toArray, List.set_cons_zero, List.set_cons_succ]
                    refine wpAnyH_take (i := 8) (oi := ⟨_, _, _, _, _, _⟩) (v := ?_) rfl (by kernel_rfl) (by kernel_rfl) (by kernel_rfl) (fun _ _ _ h => h) (Or.inl ⟨by rfl, ?_⟩) (by assumption) ?_
                    rotate_left
                    · intro w hSw; (try dsimp only at hSw); go_simp; (try (with_reducible rfl))
                    try simp only [Act.put, List.setIfInBounds_toArray, List.set_cons_zero, List.set_cons_succ]
                    refine wpAnyH_take (i := 9) (oi := ⟨_, _, _, _, _, _⟩) (v := ?_) rfl (by kernel_rfl) (by kernel_rfl) (by kernel_rfl) (fun _ _ _ h => h) (Or.inl ⟨by rfl, ?_⟩) (by assumption) ?_
                    rotate_left
                    · intro w hSw; (try dsimp only at hSw); go_simp; (try (with_reducible rfl))
                    try simp only [Act.put, List.setIfInBounds_toArray, List.set_cons_zero, List.set_cons_succ]
                    refine wpAnyH_ready (rs := [10]) (by kernel_rfl) (by simp) ?_
                    refine AllReadyH.cons (o := ⟨_, _, _, _, _, _⟩) rfl (fun K hK => ?_) AllReadyH.nil
                    go_simp
                    refine (refUnder x y _ hsx hsy).mono ?_
                    rintro e w5 ⟨rfl, hb5⟩
                    have n1 := (hb5.cell (p := ⟨b, off + j * 2, none⟩) (World.block_lt_of_cell? _ _ m1)).trans m1
                    have n2 := (hb5.cell (p := ⟨b, off + k * 2, none⟩) (World.block_lt_of_cell? _ _ m2)).trans m2
                    have b5 := hb4.drew.trans (hb5.mono hb4.drew.size)
                    refine hK.out _ _ ⟨n1, n2⟩ (fun hHeld => ?_)
                    clear hK K
                    try simp only [Act.put, List.setIfInBounds_toArray, List.set_cons_zero, List.set_cons_succ]
                    refine wpAnyH_done (by kernel_rfl) ?_ _
                    cases hu : underL x.data.toList y.data.toList
                    · have HUU := hid hu
                      clear hu hHeld
                      go_wp2
                      go_roundw
                      case rel =>
                        refine ⟨k + 1, by omega, by go_num, hid (fun i hi hik => ?_), b5⟩
                        by_cases e : i = k
                        · subst e
                          rw [pth, HYY.out]
                          exact HUU.out
                        · exact HU.out i hi (by omega)
                      case measure => simp [intOf]; omega
                    · have HUU := hid hu
                      clear hu hHeld
                      go_wp2
                      go_ret
                      refine ⟨ret_bool ?_, b5⟩
                      symm
                      refine not_true fun hT => ?_
                      have := (tree_bad hT j hjl).2.2.2 k hkj
                      rw [show pth fs[k] = y.data.toList by rw [pth, HYY.out], show pth fs[j] = x.data.toList by rw [pth, HX.out], HUU.out] at this
                      cases this
                  · have hnk : ¬ (k : Int) < j := by omega
                    go_wp2
                    go_roundw
                    case rel =>
                      refine ⟨j + 1, by omega, by go_num, hid (fun i hi hij => ?_), hb4⟩
                      by_cases e : i = j
                      · subst e
                        refine ⟨by rw [pth, HX.out]; exact HF.out, by rw [HD.out]; omega, HLT.out, fun q hq => ?_⟩
                        rw [show pth fs[i] = x.data.toList by rw [pth, HX.out]]
                        exact HU.out q (by omega) (by omega)
                      · exact HO.out i hi (by omega)
                    case measure => simp [intOf]; omega
            · have HLT := hid (lt_none hjl hj0)
              have hj0b : decide ((0 : Int) < j) = false := by simp; omega
              have hj0n : ¬ (0 : Int) < j := by omega
              have hj0c : decide (0 < j) = false := decide_eq_false hj0
              clear hj0
              go_wp2_with fail
              go_quiet (fail)
              clear k1 k2 hr2 hd6b hj0b hj0n hj0c
              go_wp2_with fail
              go_loopw [5] (fun v wx => ∃ k : Nat, k ≤ j ∧ v = .int .i64 k ∧ Hid (∀ i (hi : i < fs.length), i < k → underL x.data.toList (pth fs[i]) = false) ∧ Below w.heap.size w wx) (fun v _ => j - (intOf v).toNat)
              case atStart => exact ⟨0, by omega, rfl, hid (fun i _ h => absurd h (by omega)), below_drewN b2 _⟩
              case round =>
                clear b2
                obtain ⟨k, hk, rfl, HU, hb4⟩ := hrel
                by_cases hkj : k < j
                · have hkl : k < fs.length := by omega
                  have hr4 := hr.below hb4
                  obtain ⟨b', off', he, m1, -, -⟩ := hr4.fil hjl
                  injection he with he
                  injection he with he1 he2
                  subst he1 he2
                  obtain ⟨b', off', he, m2, -, -⟩ := hr4.fil hkl
                  injection he with he
                  injection he with he1 he2
                  subst he1 he2
                  rw [HX.out] at m1
                  have hsy := (HS.out fs[k] (List.getElem_mem hkl)).1
                  obtain ⟨y, hy⟩ : ∃ y, fs[k].1 = y := ⟨_, rfl⟩
                  have HYY := hid hy
                  rw [hy] at m2 hsy
                  clear hy hr4
                  have hkz : (0 : Int) ≤ k := by omega
                  have hkz1 : (k : Int) < j := by omega
                  have hkz2 : (k : Int) < n := by omega
                  go_wp2_with fail
                  refine wp_region_held_drew (S := fun w' => w'.cell? ⟨b, off + j * 2, none⟩ = some (.string x) ∧ w'.cell? ⟨b, off + k * 2, none⟩ = some (.string y)) (by kernel_rfl) ⟨m1, m2⟩ (fun hHeld => ?_)
                  refine wpAnyH_take (i := 0) (oi := ⟨_, _, _, _, _, _⟩) (v := ?_) rfl (by kernel_rfl) (by kernel_rfl) (by kernel_rfl) (fun _ _ _ h => h) (Or.inl ⟨by rfl, ?_⟩) (by assumption) ?_
                  rotate_left
                  · intro w hSw; (try dsimp only at hSw); go_simp; (try (with_reducible rfl))
                  try simp only [Act.put, List.setIfInBounds_toArray, List.set_cons_zero, List.set_cons_succ]
                  refine wpAnyH_take (i := 1) (oi := ⟨_, _, _, _, _, _⟩) (v := ?_) rfl (by kernel_rfl) (by kernel_rfl) (by kernel_rfl) (fun _ _ _ h => h) (Or.inl ⟨by rfl, ?_⟩) (by assumption) ?_
                  rotate_left
                  · intro w hSw; (try dsimp only at hSw); go_simp; (try (with_reducible rfl))
                  try simp only [Act.put, List.setIfInBounds_toArray, List.set_cons_zero, List.set_cons_succ]
                  refine wpAnyH_take (i := 2) (oi := ⟨_, _, _, _, _, _⟩) (v := ?_) rfl (by kernel_rfl) (by kernel_rfl) (by kernel_rfl) (fun _ _ _ h => h) (Or.inl ⟨by rfl, ?_⟩) (by assumption) ?_
                  rotate_left
                  · intro w hSw; (try dsimp only at hSw); go_simp; (try (with_reducible rfl))
                  try simp only [Act.put, List.setIfInBounds_toArray, List.set_cons_zero, List.set_cons_succ]
                  refine wpAnyH_take (i := 3) (oi := ⟨_, _, _, _, _, _⟩) (v := ?_) rfl (by kernel_rfl) (by kernel_rfl) (by kernel_rfl) (fun _ _ _ h => h) (Or.inl ⟨by rfl, ?_⟩) (by assumption) ?_
                  rotate_left
                  · intro w hSw; (try dsimp only at hSw); go_simp; (try (with_reducible rfl))
                  try simp only [Act.put, List.setIfInBounds_toArray, List.set_cons_zero, List.set_cons_succ]
                  refine wpAnyH_take (i := 4) (oi := ⟨_, _, _, _, _, _⟩) (v := ?_) rfl (by kernel_rfl) (by kernel_rfl) (by kernel_rfl) (fun _ _ _ h => h) (Or.inl ⟨by rfl, ?_⟩) (by assumption) ?_
                  rotate_left
                  · intro w hSw; (try dsimp only at hSw); go_simp; (try (with_reducible rfl))
                  try simp only [Act.put, List.setIfInBounds_toArray, List.set_cons_zero, List.set_cons_succ]
                  refine wpAnyH_take (i := 5) (oi := ⟨_, _, _, _, _, _⟩) (v := ?_) rfl (by kernel_rfl) (by kernel_rfl) (by kernel_rfl) (fun _ _ _ h => h) (Or.inl ⟨by rfl, ?_⟩) (by assumption) ?_
                  rotate_left
                  · intro w hSw; (try dsimp only at hSw); go_simp; (try (with_reducible rfl))
                  try simp only [Act.put, List.setIfInBounds_toArray, List.set_cons_zero, List.set_cons_succ]
                  refine wpAnyH_take (i := 6) (oi := ⟨_, _, _, _, _, _⟩) (v := ?_) rfl (by kernel_rfl) (by kernel_rfl) (by kernel_rfl) (fun _ _ _ h => h) (Or.inl ⟨by rfl, ?_⟩) (by assumption) ?_
                  rotate_left
                  · intro w hSw; (try dsimp only at hSw); go_simp; (try (with_reducible rfl))
                  try simp only [Act.put, List.setIfInBounds_toArray, List.set_cons_zero, List.set_cons_succ]
                  refine wpAnyH_take (i := 7) (oi := ⟨_, _, _, _, _, _⟩) (v := ?_) rfl (by kernel_rfl) (by kernel_rfl) (by kernel_rfl) (fun _ _ _ h => h) (Or.inl ⟨by rfl, ?_⟩) (by assumption) ?_
                  rotate_left
                  · intro w hSw; (try dsimp only at hSw); go_simp; (try (with_reducible rfl))
                  try simp only [Act.put, List.setIfInBounds_toArray, List.set_cons_zero, List.set_cons_succ]
                  refine wpAnyH_take (i := 8) (oi := ⟨_, _, _, _, _, _⟩) (v := ?_) rfl (by kernel_rfl) (by kernel_rfl) (by kernel_rfl) (fun _ _ _ h => h) (Or.inl ⟨by rfl, ?_⟩) (by assumption) ?_
                  rotate_left
                  · intro w hSw; (try dsimp only at hSw); go_simp; (try (with_reducible rfl))
                  try simp only [Act.put, List.setIfInBounds_toArray, List.set_cons_zero, List.set_cons_succ]
                  refine wpAnyH_take (i := 9) (oi := ⟨_, _, _, _, _, _⟩) (v := ?_) rfl (by kernel_rfl) (by kernel_rfl) (by kernel_rfl) (fun _ _ _ h => h) (Or.inl ⟨by rfl, ?_⟩) (by assumption) ?_
                  rotate_left
                  · intro w hSw; (try dsimp only at hSw); go_simp; (try (with_reducible rfl))
                  try simp only [Act.put, List.setIfInBounds_toArray, List.set_cons_zero, List.set_cons_succ]
                  refine wpAnyH_ready (rs := [10]) (by kernel_rfl) (by simp) ?_
                  refine AllReadyH.cons (o := ⟨_, _, _, _, _, _⟩) rfl (fun K hK => ?_) AllReadyH.nil
                  go_simp
                  refine (refUnder x y _ hsx hsy).mono ?_
                  rintro e w5 ⟨rfl, hb5⟩
                  have n1 := (hb5.cell (p := ⟨b, off + j * 2, none⟩) (World.block_lt_of_cell? _ _ m1)).trans m1
                  have n2 := (hb5.cell (p := ⟨b, off + k * 2, none⟩) (World.block_lt_of_cell? _ _ m2)).trans m2
                  have b5 := hb4.drew.trans (hb5.mono hb4.drew.size)
                  refine hK.out _ _ ⟨n1, n2⟩ (fun hHeld => ?_)
                  clear hK K
                  try simp only [Act.put, List.setIfInBounds_toArray, List.set_cons_zero, List.set_cons_succ]
                  refine wpAnyH_done (by kernel_rfl) ?_ _
                  cases hu : underL x.data.toList y.data.toList
                  · have HUU := hid hu
                    clear hu hHeld
                    go_wp2
                    go_roundw
                    case rel =>
                      refine ⟨k + 1, by omega, by go_num, hid (fun i hi hik => ?_), b5⟩
                      by_cases e : i = k
                      · subst e
                        rw [pth, HYY.out]
                        exact HUU.out
                      · exact HU.out i hi (by omega)
                    case measure => simp [intOf]; omega
                  · have HUU := hid hu
                    clear hu hHeld
                    go_wp2
                    go_ret
                    refine ⟨ret_bool ?_, b5⟩
                    symm
                    refine not_true fun hT => ?_
                    have := (tree_bad hT j hjl).2.2.2 k hkj
                    rw [show pth fs[k] = y.data.toList by rw [pth, HYY.out], show pth fs[j] = x.data.toList by rw [pth, HX.out], HUU.out] at this
                    cases this
                · have hnk : ¬ (k : Int) < j := by omega
                  go_wp2
                  go_roundw
                  case rel =>
                    refine ⟨j + 1, by omega, by go_num, hid (fun i hi hij => ?_), hb4⟩
                    by_cases e : i = j
                    · subst e
                      refine ⟨by rw [pth, HX.out]; exact HF.out, by rw [HD.out]; omega, HLT.out, fun q hq => ?_⟩
                      rw [show pth fs[i] = x.data.toList by rw [pth, HX.out]]
                      exact HU.out q (by omega) (by omega)
                    · exact HO.out i hi (by omega)
                  case measure => simp [intOf]; omega
      · have HE := hid (show j = n by omega)
        have hnlt : ¬ (j : Int) < n := by omega
        go_wp2
        go_ret
        refine ⟨ret_bool ?_, hb⟩
        symm
        exact tree_good (by rw [HL.out]; exact hn16) (fun i hi => HO.out i hi (by have h1 := HE.out; have h2 := HL.out; omega))
end Go.Proofs.YtlmccjdpmhancaaGreatDoor
namespace Go.Proofs.YtlmccjdpmhancaaGreatDoor
open Go.RowKit

set_option maxHeartbeats 400000 in
theorem refFind {w : World} {A : Option Addr} {n c : Nat} {fs : List Fil} (h : Ft w A n c fs) (p : ByteArray) :
    Calls Tryz.prog 84 #[.slice A n c, .string p] w fun e w' => e = .returned (.int .i64 (findT fs p.data.toList)) ∧ Below w.heap.size w w' := by
  go_enter Tryz.func84, Tryz.ntmps84
  go_wp2_with fail
  refine (refTree h).mono ?_
  rintro e w1 ⟨rfl, hb1⟩
  cases hR : treeR fs
  · go_wp2
    go_ret
    exact ⟨ret_int (by rw [findT, hR]; rfl), hb1⟩
  · have HR := hid hR
    have hT := (treeR_iff fs).1 hR
    have h1 := h.below hb1
    clear hR h
    go_wp2_with fail
    refine (refPos h1 hT.srt p).mono ?_
    rintro e w2 ⟨rfl, rfl⟩
    go_wp2
    go_ret
    exact ⟨ret_int (by rw [findT, HR.out, posT, Bool.true_and]), hb1⟩

set_option maxHeartbeats 400000 in
theorem refGet {w : World} {A : Option Addr} {n c : Nat} {fs : List Fil} (h : Ft w A n c fs) (p : ByteArray) :
    Calls Tryz.prog 48 #[.slice A n c, .string p] w fun e w' => e = .returned (getV (getT fs p.data.toList)) ∧ Below w.heap.size w w' := by
  have c0 := refFind h p
  have HG := hid (@get_of fs p)
  have HN := hid (@get_none fs p)
  unfold findT at c0
  go_enter Tryz.func48, Tryz.ntmps48
  go_wp2_with fail
  refine c0.mono ?_
  clear c0
  rintro e w1 ⟨rfl, hb1⟩
  have h1 := h.below hb1
  clear h
  cases hc : (treeR fs && thereT fs p.data.toList)
  · rw [if_neg (by simp)]
    have HC := hid hc
    clear hc
    go_wp2
    go_ret2
    rw [HN.out HC.out]
    exact ⟨rfl, hb1⟩
  · rw [if_pos rfl]
    rw [Bool.and_eq_true] at hc
    obtain ⟨hl, he⟩ := HG.out hc.1 hc.2
    obtain ⟨b, off, rfl, -, k2, -⟩ := h1.rd.fil hl
    have HE := hid he
    have hln := h1.len
    clear hc he h1 HN HG
    generalize fs[(lowT fs p.data.toList).length].2 = x at *
    generalize (lowT fs p.data.toList).length = k at *
    have hz : ¬ (k : Int) < 0 := by omega
    have hz0 : (0 : Int) ≤ k := by omega
    have hlt : (k : Int) < n := by omega
    go_wp2
    go_ret2
    rw [HE.out]
    exact ⟨rfl, hb1⟩

/-! ### append onto files of the call's own -/
/-- Files in memory of the call's own, as an append leaves them. -/
def OwnR (base : Nat) (w : World) (A : Option Addr) (n c : Nat) (fs : List Fil) : Prop := fs.length = n ∧ w.ownsRow base 57 2 (.slice A n c) n (filV fs)
theorem OwnR.form {base : Nat} {w : World} {A : Option Addr} {n c : Nat} {fs : List Fil} (h : OwnR base w A n c fs) : n ≤ c ∧ c ≤ 9223372036854775807 ∧ Rd w A (filV fs) := by
  obtain ⟨hl, h⟩ := h
  rcases h.2 with ⟨hv, hn⟩ | ⟨g, cap, cur, hv, _, _, h1, h2, _⟩
  · injection hv with a1 a2 a3
    subst a1 a2 a3
    exact ⟨Nat.le_refl _, by omega, .inl (List.eq_nil_of_length_eq_zero (by rw [filV_length, hl]))⟩
  · injection hv with a1 a2 a3
    subst a1 a3
    exact ⟨h1, h2, .inr ⟨_, rfl, h.cells (g := g) rfl⟩⟩
theorem OwnR.ft {base : Nat} {w : World} {A : Option Addr} {n c : Nat} {fs : List Fil} (h : OwnR base w A n c fs) (hn : n ≤ 140737488355328) (hs : ∀ f ∈ fs, f.1.size < 4294967281 ∧ f.2.size ≤ 140737488355328) : Ft w A n c fs := ⟨h.1, h.form.2.2, h.form.1, hn, h.form.2.1, hs⟩
theorem OwnR.empty (w : World) : OwnR w.heap.size (w.alloc (.cells #[] 57)) (some ⟨w.heap.size, 0, none⟩) 0 0 [] :=
  ⟨rfl, World.ownsRow_made w #[] 0 (Nat.le_refl _) (by unfold maxLen; omega) (by simp)⟩
theorem app_nilF {w : World} (base : Nat) (ty : TypeId) (v : Value) (n : Nat) (xs : List Value) (hown : w.ownsRow base 57 2 v n xs) (c : Nat) : (Builtin.append_ #[36, 36] ty #[v, .slice none 0 c]).run Tryz.prog w = .ok v w := by
  obtain ⟨i, hi, hz0, hz1, hz2⟩ := info_parts Tryz.infoF
  rcases hown.2 with ⟨rfl, rfl⟩ | ⟨g, cap, cur, rfl, _, _, hnc, _⟩
  · simp [Builtin.append_, run_underlying Tryz.underlying36, sizeOf, typeInfo, hi, Builtin.lenOf, Builtin.firstCells]
  · simp [Builtin.append_, run_underlying Tryz.underlying36, sizeOf, typeInfo, hi, Builtin.lenOf, Builtin.firstCells, hnc, storeCells]
/-- append(v, x...), v files of the call's own: its run. -/
theorem run_appF {w : World} {base : Nat} {A : Option Addr} {n c : Nat} {fs : List Fil} (hown : OwnR base w A n c fs) (B : Option Addr) (m d : Nat) (gs : List Fil) (hl : gs.length = m) (hr : Rd w B (filV gs)) (hnm : n + m ≤ 1000000) (hbase : base ≤ w.heap.size) :
    ∃ A' c' w', Hid (∀ ty, (Builtin.append_ #[36, 36] ty #[.slice A n c, .slice B m d]).run Tryz.prog w = .ok (.slice A' (n + m) c') w') ∧ OwnR base w' A' (n + m) c' (fs ++ gs) ∧ w.grownBy w' (Value.slice A n c).ownBlock := by
  obtain ⟨i, hi, hz0, hz1, hz2⟩ := info_parts Tryz.infoF
  have hll : (fs ++ gs).length = n + m := by rw [List.length_append, hown.1, hl]
  have own : ∀ ad, (∀ j u, (filV gs)[j]? = some u → w.cell? (ad.add j) = some u) → ∃ A' c' w', Hid (∀ ty, (Builtin.append_ #[36, 36] ty #[.slice A n c, .slice (some ad) m d]).run Tryz.prog w = .ok (.slice A' (n + m) c') w') ∧ OwnR base w' A' (n + m) c' (fs ++ gs) ∧ w.grownBy w' (Value.slice A n c).ownBlock := by
    intro ad hc
    have key := fun ty => run_append_own (P := Tryz.prog) w base 36 ty 57 i _ 2 32 Tryz.underlying36 hi hz0 hz1 hz2 rfl (by decide) _ n (filV fs) hown.2 ad m d (filV gs) (by rw [filV_length, hl]) hc (filV_one _) (by unfold maxLen; omega) (by omega) hbase
    obtain ⟨v', w', h2, h3, h4, _⟩ := key 0
    have hv : ∃ A' c', v' = .slice A' (n + m) c' := by
      rcases h3.2 with ⟨rfl, e⟩ | ⟨g, cap, cur, rfl, _⟩
      · exact ⟨none, 0, by rw [e]⟩
      · exact ⟨_, cap, rfl⟩
    obtain ⟨A', c', rfl⟩ := hv
    exact ⟨A', c', w', fun ty => h2, ⟨hll, by rw [filV_append]; exact h3⟩, h4⟩
  rcases hr with h0 | ⟨ad, rfl, hc⟩
  · have hg : gs = [] := List.eq_nil_of_length_eq_zero (by have h5 := congrArg List.length h0; rw [filV_length, List.length_nil] at h5; omega)
    subst hg
    obtain rfl : m = 0 := hl.symm
    cases B with
    | none => exact ⟨A, c, w, fun ty => app_nilF base ty _ n _ hown.2 d, by rw [List.append_nil]; exact hown, World.grownBy.refl _ _⟩
    | some ad => exact own ad (by simp [filV])
  · exact own ad hc
theorem OwnR.block {base : Nat} {w : World} {A : Option Addr} {n c : Nat} {fs : List Fil} (h : OwnR base w A n c fs) : ∀ k, (Value.slice A n c).ownBlock = some k → base ≤ k := fun k hk => (h.2.lt k hk).1

/-- Files, and an error's number, were answered: what is read of them. -/
def OutR (w : World) (out : List Fil) (er : Nat) (e : Ending) (w' : World) : Prop :=
  ∃ A n c, e = .returned (.tuple #[.slice A n c, .int .i64 er]) ∧ Ft w' A n c out ∧ Below w.heap.size w w'
theorem outR_err {w w' : World} {out : List Fil} {er e : Nat} (h : er = e) (ho : out = []) (hb : Below w.heap.size w w') : OutR w out er (.returned (.tuple #[.slice none 0 0, .int .i64 (e : Int)])) w' := by
  subst h ho
  exact ⟨none, 0, 0, rfl, ⟨rfl, .inl rfl, Nat.le_refl _, by omega, by omega, by simp⟩, hb⟩

theorem Rd.pre {w : World} {A : Option Addr} {xs : List Value} (h : Rd w A xs) (q : Nat) : Rd w A (xs.take q) := by
  rcases h with rfl | ⟨ad, rfl, hc⟩
  · exact .inl (by simp)
  · refine .inr ⟨ad, rfl, fun j u hu => hc j u ?_⟩
    rw [List.getElem?_take] at hu
    split at hu
    · exact hu
    · cases hu
theorem Rd.post {w : World} {b off : Nat} {xs : List Value} (h : Rd w (some ⟨b, off, none⟩) xs) (q : Nat) : Rd w (some ⟨b, off + q, none⟩) (xs.drop q) := by
  refine .inr ⟨_, rfl, fun j u hu => ?_⟩
  rw [List.getElem?_drop] at hu
  rw [Addr.add_lit, Nat.add_assoc]
  exact h.cells _ _ hu
theorem take_szs {fs : List Fil} {P : Fil → Prop} (h : ∀ f ∈ fs, P f) {gs : List Fil} (hg : ∀ f ∈ gs, f ∈ fs) : ∀ f ∈ gs, P f := fun f hf => h f (hg f hf)

end Go.Proofs.YtlmccjdpmhancaaGreatDoor
namespace Go.Proofs.YtlmccjdpmhancaaGreatDoor
open Go.RowKit

set_option maxHeartbeats 1000000 in
theorem rsame_any {w : World} {A B : Option Addr} {n c m d : Nat} {fs gs : List Ent} (hl : fs.length = n) (hr : Rd w A (entV fs)) (hl2 : gs.length = m) (hr2 : Rd w B (entV gs)) (hn : n ≤ 1000000) :
    Calls Tryz.prog 13 #[.slice A n c, .slice B m d] w fun e w' => e = .returned (.bool (decide (fs = gs))) ∧ Below w.heap.size w w' := by
  have HL := hid hl
  have HL2 := hid hl2
  clear hl hl2
  by_cases hnm : n = m
  · subst hnm
    go_enter Tryz.func13, Tryz.ntmps13
    go_wp2
    go_loopw [5] (fun i wr => ∃ j : Nat, j ≤ n ∧ i = .int .i64 j ∧ Hid (fs.take j = gs.take j) ∧ ∃ q, wr = w.drewN q) (fun i _ => n - (intOf i).toNat)
    case atStart => exact ⟨0, by omega, rfl, by simp [Hid], 0, rfl⟩
    case round =>
      obtain ⟨j, hj, rfl, HO, q, rfl⟩ := hrel
      by_cases hjn : j < n
      · have hjl : j < fs.length := by rw [HL.out]; exact hjn
        have hjl2 : j < gs.length := by rw [HL2.out]; exact hjn
        obtain ⟨b, off, rfl, h1, h2, h3, h4, h5, -⟩ := hr.ent hjl
        obtain ⟨b', off', rfl, g1, g2, g3, g4, g5, -⟩ := hr2.ent hjl2
        have HN := hid (@same_noE fs gs j hjl hjl2)
        have HT1 := hid (show fs.take (j + 1) = fs.take j ++ [fs[j]] by rw [List.take_add_one, List.getElem?_eq_getElem hjl]; rfl)
        have HT2 := hid (show gs.take (j + 1) = gs.take j ++ [gs[j]] by rw [List.take_add_one, List.getElem?_eq_getElem hjl2]; rfl)
        have hz : (0 : Int) ≤ j := by omega
        have hlt : (j : Int) < n := by omega
        have hneq := neqE fs[j] gs[j]
        generalize fs[j] = f at *
        generalize gs[j] = g at *
        by_cases hfg : f = g
        · rw [decide_eq_true hfg] at hneq
          have HFG := hid hfg
          clear hfg
          go_wp2_with fail
          go_quiet (fail)
          go_wp2
          go_roundw
          case rel => exact ⟨j + 1, by omega, by go_num, hid (by rw [HT1.out, HT2.out, HO.out, HFG.out]), _, rfl⟩
          case measure => simp [intOf]; omega
        · rw [decide_eq_false hfg] at hneq
          have HFG := hid hfg
          clear hfg
          go_wp2_with fail
          go_quiet (fail)
          go_wp2
          go_ret
          exact ⟨ret_bool (decide_eq_false (HN.out HFG.out)).symm, below_drewN (below_drewN (Below.refl _ _) _) _⟩
      · have HE := hid (show j = n by omega)
        have hnlt : ¬ (j : Int) < n := by omega
        go_wp2
        go_ret
        refine ⟨ret_bool ?_, below_drewN (Below.refl _ _) _⟩
        have ho := HO.out
        have e1 := HE.out
        rw [e1, List.take_of_length_le (by rw [HL.out]; omega), List.take_of_length_le (by rw [HL2.out]; omega)] at ho
        exact (decide_eq_true ho).symm
  · have hnz : ¬ (n : Int) = m := by omega
    go_enter Tryz.func13, Tryz.ntmps13
    go_wp2
    go_ret
    refine ⟨ret_bool ?_, Below.refl _ _⟩
    refine (decide_eq_false ?_).symm
    intro e
    subst e
    exact hnm (by rw [← HL.out, HL2.out])

end Go.Proofs.YtlmccjdpmhancaaGreatDoor
namespace Go.Proofs.YtlmccjdpmhancaaGreatDoor
open Go.RowKit

/-- A pair lies there. -/
def PairAt (w : World) (g : Nat) (l r : Int) : Prop := w.cell? ⟨g, 0, none⟩ = some (.int .i64 l) ∧ w.cell? ⟨g, 1, none⟩ = some (.int .i64 r)
theorem PairAt.below {w w' : World} {g : Nat} {l r : Int} (h : PairAt w g l r) (hb : Below w.heap.size w w') : PairAt w' g l r :=
  ⟨(hb.cell (World.block_lt_of_cell? w _ h.1)).trans h.1, (hb.cell (World.block_lt_of_cell? w _ h.2)).trans h.2⟩
theorem PairAt.lt {w : World} {g : Nat} {l r : Int} (h : PairAt w g l r) : g < w.heap.size := World.block_lt_of_cell? w _ h.1
theorem PairAt.new (w : World) (l r : Int) (t : TypeId) : PairAt (w.alloc (.cells #[.int .i64 l, .int .i64 r] t)) w.heap.size l r :=
  ⟨new_cells w t [.int .i64 l, .int .i64 r] 0 _ rfl, new_cells w t [.int .i64 l, .int .i64 r] 1 _ rfl⟩
theorem PairAt.alloc {w : World} {g : Nat} {l r : Int} (h : PairAt w g l r) (o : Obj) : PairAt (w.alloc o) g l r := h.below ((Below.refl _ _).alloc (Nat.le_refl _) o)

theorem below_al {w w' : World} (o : Obj) (h : Below (w.alloc o).heap.size (w.alloc o) w') : Below w.heap.size w w' := below2 ((Below.refl _ _).alloc (Nat.le_refl _) o) h
end Go.Proofs.YtlmccjdpmhancaaGreatDoor
namespace Go.Proofs.YtlmccjdpmhancaaGreatDoor
open Go.RowKit

set_option maxHeartbeats 400000 in
theorem rclamp_any (n : Int) (w : World) :
    Calls Tryz.prog 91 #[.int .i64 n] w fun e w' => e = .returned (.int .i64 (cl n)) ∧ w' = w := by
  go_enter Tryz.func91, Tryz.ntmps91
  go_wp2
  all_goals
    go_ret
    exact ⟨ret_int (by unfold cl; omega), rfl⟩

set_option maxHeartbeats 1000000 in
theorem rfit_any (l r : Int) (w : World) :
    Calls Tryz.prog 90 #[.agg #[.int .i64 l, .int .i64 r]] w fun e w' => e = .returned (.agg #[.int .i64 (cl l : Nat), .int .i64 (cl r : Nat)]) ∧ Below w.heap.size w w' := by
  have p0 := (PairAt.new w l r 32).alloc (.cells #[.int .i64 0, .int .i64 0] 32)
  go_enter Tryz.func90, Tryz.ntmps90
  go_wp2_with fail
  have ⟨d1, d2⟩ := p0
  refine wp_region_held_drew (S := fun w' => w'.cell? ⟨w.heap.size, 0, none⟩ = some (.int .i64 l) ∧ w'.cell? ⟨w.heap.size, 1, none⟩ = some (.int .i64 r)) (by kernel_rfl) ⟨d1, d2⟩ (fun hHeld => ?_)
  refine wpAnyH_take (i := 0) (oi := ⟨_, _, _, _, _, _⟩) (v := ?_) rfl (by kernel_rfl) (by kernel_rfl) (by kernel_rfl) (fun _ _ _ h => h) (Or.inl ⟨by rfl, ?_⟩) (by assumption) ?_
  rotate_left
  · intro w hSw; (try dsimp only at hSw); go_simp; (try (with_reducible rfl))
  try simp only [Act.put, List.setIfInBounds_toArray, List.set_cons_zero, List.set_cons_succ]
  refine wpAnyH_take (i := 1) (oi := ⟨_, _, _, _, _, _⟩) (v := ?_) rfl (by kernel_rfl) (by kernel_rfl) (by kernel_rfl) (fun _ _ _ h => h) (Or.inl ⟨by rfl, ?_⟩) (by assumption) ?_
  rotate_left
  · intro w hSw; (try dsimp only at hSw); go_simp; (try (with_reducible rfl))
  try simp only [Act.put, List.setIfInBounds_toArray, List.set_cons_zero, List.set_cons_succ]
  refine wpAnyH_take (i := 3) (oi := ⟨_, _, _, _, _, _⟩) (v := ?_) rfl (by kernel_rfl) (by kernel_rfl) (by kernel_rfl) (fun _ _ _ h => h) (Or.inl ⟨by rfl, ?_⟩) (by assumption) ?_
  rotate_left
  · intro w hSw; (try dsimp only at hSw); go_simp; (try (with_reducible rfl))
  try simp only [Act.put, List.setIfInBounds_toArray, List.set_cons_zero, List.set_cons_succ]
  refine wpAnyH_take (i := 4) (oi := ⟨_, _, _, _, _, _⟩) (v := ?_) rfl (by kernel_rfl) (by kernel_rfl) (by kernel_rfl) (fun _ _ _ h => h) (Or.inl ⟨by rfl, ?_⟩) (by assumption) ?_
  rotate_left
  · intro w hSw; (try dsimp only at hSw); go_simp; (try (with_reducible rfl))
  try simp only [Act.put, List.setIfInBounds_toArray, List.set_cons_zero, List.set_cons_succ]
  refine wpAnyH_ready (rs := [2]) (by kernel_rfl) (by simp) ?_
  refine AllReadyH.cons (o := ⟨_, _, _, _, _, _⟩) rfl (fun K hK => ?_) AllReadyH.nil
  go_simp
  refine (rclamp_any _ _).mono ?_
  rintro e wu ⟨rfl, rfl⟩
  refine hK.out _ _ ⟨d1, d2⟩ (fun hHeld => ?_)
  clear hK K
  try simp only [Act.put, List.setIfInBounds_toArray, List.set_cons_zero, List.set_cons_succ]
  refine wpAnyH_ready (rs := [5]) (by kernel_rfl) (by simp) ?_
  refine AllReadyH.cons (o := ⟨_, _, _, _, _, _⟩) rfl (fun K hK => ?_) AllReadyH.nil
  go_simp
  refine (rclamp_any _ _).mono ?_
  rintro e wu ⟨rfl, rfl⟩
  refine hK.out _ _ ⟨d1, d2⟩ (fun hHeld => ?_)
  clear hK K
  try simp only [Act.put, List.setIfInBounds_toArray, List.set_cons_zero, List.set_cons_succ]
  refine wpAnyH_take (i := 6) (oi := ⟨_, _, _, _, _, _⟩) (v := ?_) rfl (by kernel_rfl) (by kernel_rfl) (by kernel_rfl) (fun _ _ _ h => h) (Or.inl ⟨by rfl, ?_⟩) (by assumption) ?_
  rotate_left
  · intro w hSw; (try dsimp only at hSw); go_simp; (try (with_reducible rfl))
  try simp only [Act.put, List.setIfInBounds_toArray, List.set_cons_zero, List.set_cons_succ]
  refine wpAnyH_ready (rs := [7]) (by kernel_rfl) (by simp) ?_
  refine AllReadyH.cons (o := ⟨_, _, _, _, _, _⟩) rfl (fun K hK => ?_) AllReadyH.nil
  go_simp
  refine hK.out _ _ ((PairAt.new w l r 32).alloc (.cells #[.int .i64 (cl l : Nat), .int .i64 (cl r : Nat)] 32)) (fun hHeld => ?_)
  clear hK K
  try simp only [Act.put, List.setIfInBounds_toArray, List.set_cons_zero, List.set_cons_succ]
  refine wpAnyH_done (by kernel_rfl) ?_ _
  go_wp2
  go_returns
  refine ⟨rfl, ?_⟩
  go_grown
end Go.Proofs.YtlmccjdpmhancaaGreatDoor
namespace Go.Proofs.YtlmccjdpmhancaaGreatDoor
open Go.RowKit

theorem and_bit (n : Int) : bits BinOp.and IntKind.i64 n 1 = n % 2 := by
  show IntKind.i64.wrap ((BitVec.ofInt 64 n &&& BitVec.ofInt 64 1).toNat : Int) = _
  rw [BitVec.toNat_and, show (BitVec.ofInt 64 1).toNat = 1 by decide, Nat.and_one_is_mod, BitVec.toNat_ofInt, IntKind.wrap_i64]
  have e : ((2 ^ 64 : Nat) : Int) = 18446744073709551616 := by decide
  rw [e]
  omega
theorem and_odd (n : Int) : (bits BinOp.and IntKind.i64 n 1 == 1) = odd n := by
  rw [and_bit]
  unfold odd
  rw [Bool.eq_iff_iff]
  simp only [beq_iff_eq, bne_iff_ne]
  omega

set_option maxHeartbeats 1000000 in
theorem rright_any (l r : Int) (w : World) :
    Calls Tryz.prog 76 #[.agg #[.int .i64 l, .int .i64 r]] w fun e w' => e = .returned (.bool (rt l r)) ∧ Below w.heap.size w w' := by
  go_enter Tryz.func76, Tryz.ntmps76
  go_wp2
  all_goals
    go_ret
    refine ⟨?_, ?_⟩
    · refine congrArg (fun b => Ending.returned (.bool b)) ?_
      unfold rt
      rw [Bool.eq_iff_iff]
      simp
      omega
    · go_grown

set_option maxHeartbeats 1000000 in
set_option maxRecDepth 10000 in
theorem rtick_even (l r author : Int) (w : World) (ho : odd author = false) :
    Calls Tryz.prog 55 #[.agg #[.int .i64 l, .int .i64 r], .int .i64 author] w fun e w' => e = .returned (.agg #[.int .i64 (up (cl l) : Nat), .int .i64 (cl r : Nat)]) ∧ Below w.heap.size w w' := by
  have k1 := cl_le l
  have hu := hid (cl_up k1)
  rw [← and_odd] at ho
  go_enter Tryz.func55, Tryz.ntmps55
  go_wp2_with fail
  refine (rfit_any _ _ _).mono ?_
  rintro e w1 ⟨rfl, hb1⟩
  have p1 : Blk w1 w.heap.size [.int .i64 l, .int .i64 r] 32 := ((Blk.new w [.int .i64 l, .int .i64 r] 32).below ((Below.refl _ _).alloc (Nat.le_refl _) (.cells #[.int .i64 0, .int .i64 0] 32))).below hb1
  have q1 := (Blk.new (w.alloc (.cells #[.int .i64 l, .int .i64 r] 32)) [.int .i64 0, .int .i64 0] 32).below hb1
  simp only [World.size_alloc] at q1
  have b1 : Below w.heap.size w w1 := below_al _ (below_al _ hb1)
  have d1 := p1.cell 0
  have d2 := p1.cell 1
  have z1 := p1.frozen 0
  have z2 := p1.frozen 1
  have d3 := q1.cell 0
  have d4 := q1.cell 1
  have z3 := q1.frozen 0
  have z4 := q1.frozen 1
  simp only [List.getElem?_cons_zero, List.getElem?_cons_succ] at d1 d2 d3 d4
  clear hb1
  go_wp2_with fail
  refine (rclamp_any _ _).mono ?_
  rintro e wu ⟨rfl, rfl⟩
  rw [hu.out]
  go_wp2
  refine bodyPost_ret (v := .agg #[.int .i64 (up (cl l) : Nat), .int .i64 (cl r : Nat)]) (by simp [results, Tryz.results55, go_sem, d3, d4]) rfl ⟨rfl, ?_⟩
  go_grown

set_option maxHeartbeats 1000000 in
set_option maxRecDepth 10000 in
theorem rtick_odd (l r author : Int) (w : World) (ho : odd author = true) :
    Calls Tryz.prog 55 #[.agg #[.int .i64 l, .int .i64 r], .int .i64 author] w fun e w' => e = .returned (.agg #[.int .i64 (cl l : Nat), .int .i64 (up (cl r) : Nat)]) ∧ Below w.heap.size w w' := by
  have k1 := cl_le r
  have hu := hid (cl_up k1)
  rw [← and_odd] at ho
  go_enter Tryz.func55, Tryz.ntmps55
  go_wp2_with fail
  refine (rfit_any _ _ _).mono ?_
  rintro e w1 ⟨rfl, hb1⟩
  have p1 : Blk w1 w.heap.size [.int .i64 l, .int .i64 r] 32 := ((Blk.new w [.int .i64 l, .int .i64 r] 32).below ((Below.refl _ _).alloc (Nat.le_refl _) (.cells #[.int .i64 0, .int .i64 0] 32))).below hb1
  have q1 := (Blk.new (w.alloc (.cells #[.int .i64 l, .int .i64 r] 32)) [.int .i64 0, .int .i64 0] 32).below hb1
  simp only [World.size_alloc] at q1
  have b1 : Below w.heap.size w w1 := below_al _ (below_al _ hb1)
  have d1 := p1.cell 0
  have d2 := p1.cell 1
  have z1 := p1.frozen 0
  have z2 := p1.frozen 1
  have d3 := q1.cell 0
  have d4 := q1.cell 1
  have z3 := q1.frozen 0
  have z4 := q1.frozen 1
  simp only [List.getElem?_cons_zero, List.getElem?_cons_succ] at d1 d2 d3 d4
  clear hb1
  go_wp2_with fail
  refine (rclamp_any _ _).mono ?_
  rintro e wu ⟨rfl, hwu⟩
  rw [hu.out]
  have p2 : Blk wu w.heap.size [.int .i64 (cl l : Nat), .int .i64 (cl r : Nat)] 32 := by rw [hwu]; exact (p1.set_ 0 _).set_ 1 _
  have q2 : Blk wu (w.heap.size + 1) [.int .i64 0, .int .i64 0] 32 := by rw [hwu]; exact (q1.other (by omega) 0 _).other (by omega) 1 _
  have b2 : Below w.heap.size w wu := by rw [hwu]; go_grown
  clear hwu d1 d2 d3 d4 z1 z2 z3 z4 p1 q1 b1
  have d1 := p2.cell 0
  have d2 := p2.cell 1
  have z2 := p2.frozen 1
  have d3 := q2.cell 0
  have d4 := q2.cell 1
  have z3 := q2.frozen 0
  have z4 := q2.frozen 1
  simp only [List.getElem?_cons_zero, List.getElem?_cons_succ] at d1 d2 d3 d4
  go_wp2
  refine bodyPost_ret (v := .agg #[.int .i64 (cl l : Nat), .int .i64 (up (cl r) : Nat)]) (by simp [results, Tryz.results55, go_sem, d3, d4]) rfl ⟨rfl, ?_⟩
  go_grown
end Go.Proofs.YtlmccjdpmhancaaGreatDoor
