/- The text Jr. -/
import Derived.Test.YtlmccjdpmhancaaGreatDoorKJp
namespace Go.Proofs.YtlmccjdpmhancaaGreatDoor
open Go.RowKit

theorem le_join {x y : Ent} : leE x (joinE x y) ∧ leE y (joinE x y) := by
  have h1 := cl_le x.l
  have h2 := cl_le x.r
  have h3 := cl_le y.l
  have h4 := cl_le y.r
  have e1 : cl (joinE x y).l = max (cl x.l) (cl y.l) := cl_cast (by omega)
  have e2 : cl (joinE x y).r = max (cl x.r) (cl y.r) := cl_cast (by omega)
  unfold leE
  rw [e1, e2]
  omega
theorem join_le {x y z : Ent} (h : leE (joinE x y) z) : leE x z ∧ leE y z := by
  have h1 := (le_join (x := x) (y := y)).1
  have h2 := (le_join (x := x) (y := y)).2
  unfold leE at *
  omega
theorem come_again (x y : Ent) : comeE (comeE x y).1 y = comeE x y := by
  by_cases h : leE x y <;> by_cases k : leE y x
  · rw [come_0 h k]; exact come_0 h k
  · rw [come_1 h k]; exact come_self y
  · rw [come_2 h k]; exact come_2 h k
  · rw [come_3 h k]
    cases hl : likeE x y with
    | false => rw [if_neg (by decide)]; show comeE x y = _; rw [come_3 h k, hl, if_neg (by decide)]
    | true => rw [if_pos rfl]; exact come_2 (fun e => h (join_le e).1) le_join.2
theorem come_mine (x y : Ent) : comeE (comeE x y).1 x = ((comeE x y).1, false) := by
  by_cases h : leE x y <;> by_cases k : leE y x
  · rw [come_0 h k]; exact come_self x
  · rw [come_1 h k]; exact come_2 k h
  · rw [come_2 h k]; exact come_self x
  · rw [come_3 h k]
    cases hl : likeE x y with
    | false => rw [if_neg (by decide)]; exact come_self x
    | true => rw [if_pos rfl]; exact come_2 (fun e => k (join_le e).2) le_join.1
theorem come_turn {x y : Ent} (hx : FnE x) (hy : FnE y) (hp : x.path = y.path) (hn : ncE x y) : (comeE x y).1 = (comeE y x).1 := by
  have v1 := come_val hx hy hn
  have v2 := come_val hy hx (nc_flip.1 hn)
  have hv : vlE (comeE x y).1 = vlE (comeE y x).1 := by
    rw [v1.1, v2.1]
    by_cases h : leE x y <;> by_cases k : leE y x
    · rw [if_pos h, if_pos k]
      rcases nc_iff.1 hn with e | e | e
      · exact e.symm
      · exact absurd k e.2
      · exact absurd h e.2
    · rw [if_pos h, if_neg k]
    · rw [if_neg h, if_pos k]
    · rw [if_neg h, if_neg k]
      rcases nc_iff.1 hn with e | e | e
      · exact e
      · exact absurd e.1 h
      · exact absurd e.1 k
  refine Ent.same (by rw [comeE_path hp, comeE_path hp.symm, hp]) (congrArg Prod.fst hv) (congrArg Prod.snd hv) ?_ ?_
  · rw [v1.2.1, v2.2.1]; omega
  · rw [v1.2.2, v2.2.2]; omega
theorem cm_again (x y : Option Ent) : cm ((cm x y).map (·.1)) y = cm x y := by
  cases x with
  | none => cases y with
    | none => rfl
    | some y => show some (comeE y y) = some (y, false); rw [come_self]
  | some x => cases y with
    | none => rfl
    | some y => exact congrArg some (come_again x y)
theorem cm_mine (x y : Option Ent) : cm ((cm x y).map (·.1)) x = (cm x y).map fun z => (z.1, false) := by
  cases x with
  | none => cases y with
    | none => rfl
    | some y => rfl
  | some x => cases y with
    | none => show some (comeE x x) = some (x, false); rw [come_self]
    | some y => exact congrArg some (come_mine x y)

/-! ### What comes of two right archives is right -/
theorem come_of (a b : Ent) : vlE (comeE a b).1 = vlE a ∨ vlE (comeE a b).1 = vlE b := by
  by_cases h : leE a b <;> by_cases k : leE b a
  · rw [come_0 h k]; exact .inl rfl
  · rw [come_1 h k]; exact .inr rfl
  · rw [come_2 h k]; exact .inl rfl
  · rw [come_3 h k]; split <;> exact .inl rfl
theorem come_fine {a b : Ent} (ha : fineE a = true) (hb : fineE b = true) : fineE (comeE a b).1 = true := by
  by_cases h : leE a b <;> by_cases k : leE b a
  · rw [come_0 h k]; exact ha
  · rw [come_1 h k]; exact hb
  · rw [come_2 h k]; exact ha
  · rw [come_3 h k]
    split
    · have h1 := (fineE_iff a).1 ha
      have e1 := (fn_of ha).1
      have e2 := (fn_of ha).2
      have c1 := cl_le a.l
      have c2 := cl_le a.r
      have c3 := cl_le b.l
      have c4 := cl_le b.r
      refine (fineE_iff _).2 ⟨⟨?_, ?_, ?_, ?_⟩, ?_, h1.2.2⟩
      · show (0 : Int) ≤ ((max (cl a.l) (cl b.l) : Nat) : Int); omega
      · show ((max (cl a.l) (cl b.l) : Nat) : Int) ≤ 1073741824; omega
      · show (0 : Int) ≤ ((max (cl a.r) (cl b.r) : Nat) : Int); omega
      · show ((max (cl a.r) (cl b.r) : Nat) : Int) ≤ 1073741824; omega
      · have := h1.2.1
        show ¬ (((max (cl a.l) (cl b.l) : Nat) : Int) = 0 ∧ ((max (cl a.r) (cl b.r) : Nat) : Int) = 0)
        omega
    · exact ha
/-- Of each that comes: it is fine, its path is right, and its file is one of theirs. -/
theorem cm_each {l m : List Ent} (hl : RightA l) (hm : RightA m) {e : Ent} (he : e ∈ mA l m) : fineE e = true ∧ rightL (epth e) = true ∧ (e.has = true → e.data.size ≤ 600) := by
  have hat := (atE_iff (mA_srt hl.srt hm.srt)).1 he
  rw [mA_at hl.srt hm.srt] at hat
  have dl : ∀ x ∈ l, x.has = true → x.data.size ≤ 600 := fun x hx hh => ((treeR_iff _).1 hl.tree).datas (x.path, x.data) (mem_files.2 ⟨x, hx, hh, rfl⟩)
  have dm : ∀ x ∈ m, x.has = true → x.data.size ≤ 600 := fun x hx hh => ((treeR_iff _).1 hm.tree).datas (x.path, x.data) (mem_files.2 ⟨x, hx, hh, rfl⟩)
  cases h1 : atE l e.path with
  | none =>
    cases h2 : atE m e.path with
    | none => rw [h1, h2] at hat; cases hat
    | some y => rw [h1, h2] at hat; injection hat with hat; have hy := (atE_mem h2).1; have hat' : y = e := hat; subst hat'; exact ⟨hm.fine _ hy, hm.paths _ hy, dm _ hy⟩
  | some x =>
    have hx := (atE_mem h1).1
    cases h2 : atE m e.path with
    | none => rw [h1, h2] at hat; injection hat with hat; have hat' : x = e := hat; subst hat'; exact ⟨hl.fine _ hx, hl.paths _ hx, dl _ hx⟩
    | some y =>
      have hy := (atE_mem h2).1
      rw [h1, h2] at hat
      injection hat with hat
      have hat' : (comeE x y).1 = e := hat
      subst hat'
      have hp : x.path = y.path := by rw [(atE_mem h1).2, (atE_mem h2).2]
      refine ⟨come_fine (hl.fine _ hx) (hm.fine _ hy), ?_, fun hh => ?_⟩
      · have := hl.paths _ hx
        rw [epth, ← comeE_path hp] at this
        exact this
      · rcases come_of x y with e | e
        · have e1 : (comeE x y).1.has = x.has := congrArg Prod.fst e
          have e2 : (comeE x y).1.data = x.data := congrArg Prod.snd e
          rw [e2]; exact dl x hx (by rw [← e1]; exact hh)
        · have e1 : (comeE x y).1.has = y.has := congrArg Prod.fst e
          have e2 : (comeE x y).1.data = y.data := congrArg Prod.snd e
          rw [e2]; exact dm y hy (by rw [← e1]; exact hh)
theorem apt_under {l : List ByteArray} (h : Apt l) : ∀ a ∈ l, ∀ b ∈ l, underL a.data.toList b.data.toList = false := by
  induction l with
  | nil => intro a ha; cases ha
  | cons x l ih =>
    have hc := List.pairwise_cons.1 h
    have key : ∀ y ∈ l, underL y.data.toList x.data.toList = false ∧ underL x.data.toList y.data.toList = false := fun y hy => by
      have := hc.1 y hy
      unfold clB clashL at this
      simpa using this
    intro a ha b hb
    rcases List.mem_cons.1 ha with rfl | ha' <;> rcases List.mem_cons.1 hb with rfl | hb'
    · exact under_self _
    · exact (key b hb').2
    · exact (key a ha').1
    · exact ih hc.2 a ha' b hb'
theorem files_srt {l : List Ent} (h : SrtE l) : Srt (filesOf l) := by
  unfold filesOf Srt
  rw [List.pairwise_map]
  exact (h.filter _).imp fun h => h
theorem arch_of {l : List Ent} (hs : SrtE l) (hf : fitN l = 0) (h : ∀ e ∈ l, fineE e = true ∧ rightL (epth e) = true ∧ (e.has = true → e.data.size ≤ 600)) : RightA l := by
  have h1 : ¬ (32 < l.length ∨ 16 < (filesOf l).length) := fun e => by unfold fitN at hf; rw [if_pos e] at hf; cases hf
  have h2 : Apt (fpaths l) := by
    unfold fitN at hf
    rw [if_neg h1] at hf
    by_cases e : Apt (fpaths l)
    · exact e
    · rw [if_neg e] at hf; cases hf
  refine ⟨by omega, hs, fun e he => (h e he).2.1, fun e he => (h e he).1, (treeR_iff _).2 ⟨by omega, files_srt hs, ?_, ?_, ?_⟩⟩
  · intro f hf'
    obtain ⟨e, he, -, rfl⟩ := mem_files.1 hf'
    exact (h e he).2.1
  · intro f hf'
    obtain ⟨e, he, hh, rfl⟩ := mem_files.1 hf'
    exact (h e he).2.2 hh
  · intro f hf' g hg'
    exact apt_under h2 f.1 (List.mem_map.2 ⟨f, hf', rfl⟩) g.1 (List.mem_map.2 ⟨g, hg', rfl⟩)
theorem merge_right {l m : List Ent} (h : mrgN l m = 0) : RightA (mrgA l m) := by
  obtain ⟨hl, hm⟩ := mrg_right h
  rw [(mrg_mA h).1]
  refine arch_of (mA_srt hl.srt hm.srt) ?_ fun e he => cm_each hl hm he
  rw [mrgN_fit ((archR_iff _).2 hl) ((archR_iff _).2 hm)] at h
  exact h

/-! ### Turned, and again -/
theorem mC_turn {l m : List Ent} (hl : SrtE l) (hm : SrtE m) : mC l m = mC m l := by
  refine srtB_one (mC_srt hl hm) (mC_srt hm hl) fun p => ?_
  rw [mC_mem hl hm, mC_mem hm hl]
  have key : ∀ x y : Option Ent, (∃ e, cm x y = some (e, true)) → ∃ e, cm y x = some (e, true) := by
    intro x y
    rintro ⟨e, he⟩
    cases x with
    | none => cases y <;> cases he
    | some x => cases y with
      | none => cases he
      | some y =>
        have he' : comeE x y = (e, true) := Option.some.inj he
        refine ⟨(comeE y x).1, congrArg some ?_⟩
        have : (comeE y x).2 = true := by
          cases hc : (comeE y x).2 with
          | true => rfl
          | false => have := nc_flip.1 (show ncE y x from hc); unfold ncE at this; rw [he'] at this; cases this
        rw [← this]
  exact ⟨key _ _, key _ _⟩
theorem mA_paths {l m : List Ent} (hl : SrtE l) (hm : SrtE m) : (mA l m).map (·.path) = (mA m l).map (·.path) := by
  have e1 : (mA l m).map (·.path) = (mrgL l m).map (·.1.path) := by rw [mA, List.map_map]; rfl
  have e2 : (mA m l).map (·.path) = (mrgL m l).map (·.1.path) := by rw [mA, List.map_map]; rfl
  rw [e1, e2]
  refine mrg_paths hm hl (List.pairwise_map.2 (mrg_srt l m hl hm)) fun x => ?_
  rw [mrg_mem]; exact Or.comm
theorem mA_turn {l m : List Ent} (hl : RightA l) (hm : RightA m) {p : ByteArray} (h : ¬ p ∈ mC l m) : atE (mA l m) p = atE (mA m l) p := by
  rw [mA_at hl.srt hm.srt, mA_at hm.srt hl.srt]
  cases h1 : atE l p with
  | none => cases h2 : atE m p <;> rfl
  | some x => cases h2 : atE m p with
    | none => rfl
    | some y =>
      have hn : ncE x y := by
        unfold ncE
        cases hc : (comeE x y).2 with
        | false => rfl
        | true => exact absurd ((mC_mem hl.srt hm.srt p).2 ⟨(comeE x y).1, by rw [h1, h2]; show some (comeE x y) = _; rw [← hc]⟩) h
      exact congrArg some (come_turn (right_fn hl h1) (right_fn hm h2) (by rw [(atE_mem h1).2, (atE_mem h2).2]) hn)
theorem merge_again {l m : List Ent} (h : mrgN l m = 0) : mrgN (mrgA l m) m = 0 ∧ mrgA (mrgA l m) m = mrgA l m ∧ mrgC (mrgA l m) m = mrgC l m := by
  obtain ⟨hl, hm⟩ := mrg_right h
  have hR := merge_right h
  have hat : ∀ p, atE (mrgA l m) p = (cm (atE l p) (atE m p)).map (·.1) := fun p => by rw [(mrg_mA h).1, mA_at hl.srt hm.srt]
  have e1 : mA (mrgA l m) m = mrgA l m := srtE_one (mA_srt hR.srt hm.srt) hR.srt fun p => by rw [mA_at hR.srt hm.srt, hat, cm_again]
  have e2 : mC (mrgA l m) m = mC l m := srtB_one (mC_srt hR.srt hm.srt) (mC_srt hl.srt hm.srt) fun p => by rw [mC_mem hR.srt hm.srt, mC_mem hl.srt hm.srt, hat, cm_again]
  have h0 : mrgN (mrgA l m) m = 0 := by rw [mrgN_fit ((archR_iff _).2 hR) ((archR_iff _).2 hm), e1]; exact fit_right hR
  exact ⟨h0, by rw [(mrg_mA h0).1, e1], by rw [(mrg_mA h0).2, (mrg_mA h).2, e2]⟩
theorem merge_mine {l m : List Ent} (h : mrgN l m = 0) : mrgN (mrgA l m) l = 0 ∧ mrgA (mrgA l m) l = mrgA l m ∧ mrgC (mrgA l m) l = [] := by
  obtain ⟨hl, hm⟩ := mrg_right h
  have hR := merge_right h
  have hat : ∀ p, atE (mrgA l m) p = (cm (atE l p) (atE m p)).map (·.1) := fun p => by rw [(mrg_mA h).1, mA_at hl.srt hm.srt]
  have e1 : mA (mrgA l m) l = mrgA l m := srtE_one (mA_srt hR.srt hl.srt) hR.srt fun p => by
    rw [mA_at hR.srt hl.srt, hat, cm_mine, Option.map_map]
    rfl
  have e2 : mC (mrgA l m) l = [] := by
    cases hc : mC (mrgA l m) l with
    | nil => rfl
    | cons p ps =>
      have : p ∈ mC (mrgA l m) l := by rw [hc]; exact List.mem_cons_self
      obtain ⟨e, he⟩ := (mC_mem hR.srt hl.srt p).1 this
      rw [hat, cm_mine] at he
      cases hx : cm (atE l p) (atE m p) with
      | none => rw [hx] at he; cases he
      | some z => rw [hx] at he; injection he with he; injection he with he1 he2; cases he2
  have h0 : mrgN (mrgA l m) l = 0 := by rw [mrgN_fit ((archR_iff _).2 hR) ((archR_iff _).2 hl), e1]; exact fit_right hR
  exact ⟨h0, by rw [(mrg_mA h0).1, e1], by rw [(mrg_mA h0).2, e2]⟩
/-- One is told not to be right just if the other is. -/
theorem merge_arg (l m : List Ent) : (mrgN l m = 1) ↔ (mrgN m l = 1) := by
  have key : ∀ l m : List Ent, mrgN l m = 1 → mrgN m l = 1 := by
    intro l m h
    unfold mrgN at h ⊢
    rw [Bool.and_comm]
    split at h
    · exfalso
      unfold fitN at h
      split at h
      · cases h
      · split at h <;> cases h
    · rename_i hn
      rw [if_neg hn]
  exact ⟨key l m, key m l⟩
end Go.Proofs.YtlmccjdpmhancaaGreatDoor
