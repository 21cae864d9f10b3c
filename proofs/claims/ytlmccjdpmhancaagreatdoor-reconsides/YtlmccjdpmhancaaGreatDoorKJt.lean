/- The text Jt. -/
import Derived.Test.YtlmccjdpmhancaaGreatDoorKJr
namespace Go.Proofs.YtlmccjdpmhancaaGreatDoor
open Go.RowKit

theorem set_path {es : List Ent} {i : Nat} (hi : i < es.length) {z : Ent} (hz : z.path = es[i].path) : (es.set i z).map epth = es.map epth := by
  rw [List.map_set]
  have : epth z = (es.map epth)[i]'(by rw [List.length_map]; exact hi) := by rw [List.getElem_map]; exact epth_inj.2 hz
  rw [this]
  exact List.set_getElem_self _
theorem set_srt {es : List Ent} (h : SrtE es) {i : Nat} (hi : i < es.length) {z : Ent} (hz : z.path = es[i].path) : SrtE (es.set i z) := by
  have h1 : (es.map epth).Pairwise (· < ·) := List.pairwise_map.2 h
  rw [← set_path hi hz] at h1
  exact List.pairwise_map.1 h1
theorem set_at {es : List Ent} (h : SrtE es) {i : Nat} (hi : i < es.length) {z : Ent} (hz : z.path = es[i].path) (q : ByteArray) : atE (es.set i z) q = if q = z.path then some z else atE es q := by
  have hs := set_srt h hi hz
  have hm : z ∈ es.set i z := List.mem_set hi z
  split
  · rename_i e; subst e; exact (atE_iff hs).1 hm
  · rename_i hne
    cases hq : atE es q with
    | some e =>
      obtain ⟨he, hp⟩ := atE_mem hq
      have : e ∈ es.set i z := by
        obtain ⟨n, hn, rfl⟩ := List.mem_iff_getElem.1 he
        have hni : i ≠ n := fun e => by subst e; exact hne (by rw [hz, hp])
        have : (es.set i z)[n]'(by rw [List.length_set]; exact hn) = es[n] := List.getElem_set_ne hni _
        rw [← this]
        exact List.getElem_mem _
      have := (atE_iff hs).1 this
      rw [hp] at this
      exact this
    | none =>
      refine atE_none.2 fun e he hp => ?_
      rcases List.mem_or_eq_of_mem_set he with h1 | h1
      · exact atE_none.1 hq e h1 hp
      · subst h1; exact hne hp.symm
theorem up_more {n : Nat} (h : n ≤ 1073741824) (hne : up n ≠ n) : up n = n + 1 ∧ n + 1 ≤ 1073741824 := by
  rcases Nat.lt_or_ge n 1073741824 with h1 | h1
  · exact ⟨Nat.min_eq_left h1, h1⟩
  · have e : n = 1073741824 := Nat.le_antisymm h h1
    refine absurd ?_ hne
    unfold up
    rw [Nat.min_eq_right (by rw [e]; exact Nat.le_succ _), e]
theorem tick_more {x y : Ent} {a : Int} (hs : tickL (joinC x y).1 (joinC x y).2 a ≠ joinC x y) (tk : Bool) : leE y (setE x y tk a) ∧ ¬ leE (setE x y tk a) y ∧ FnE (setE x y tk a) := by
  have h1 := cl_le x.l
  have h2 := cl_le x.r
  have h3 := cl_le y.l
  have h4 := cl_le y.r
  have e1 : cl (joinC x y).1 = max (cl x.l) (cl y.l) := cl_cast (by omega)
  have e2 : cl (joinC x y).2 = max (cl x.r) (cl y.r) := cl_cast (by omega)
  have j1 : (joinC x y).1 = ((max (cl x.l) (cl y.l) : Nat) : Int) := rfl
  have j2 : (joinC x y).2 = ((max (cl x.r) (cl y.r) : Nat) : Int) := rfl
  have hl : (setE x y tk a).l = (tickL (joinC x y).1 (joinC x y).2 a).1 := rfl
  have hr : (setE x y tk a).r = (tickL (joinC x y).1 (joinC x y).2 a).2 := rfl
  unfold leE FnE
  rw [hl, hr]
  unfold tickL at hs ⊢
  rw [e1, e2] at hs ⊢
  cases ho : odd a with
  | true =>
    rw [ho, if_pos rfl] at hs
    rw [if_pos rfl]
    have hne : ((up (max (cl x.r) (cl y.r)) : Nat) : Int) ≠ ((max (cl x.r) (cl y.r) : Nat) : Int) := fun e => hs (by rw [e]; rfl)
    obtain ⟨hu, hb⟩ := up_more (show max (cl x.r) (cl y.r) ≤ 1073741824 by omega) (fun e => hne (by rw [e]))
    dsimp only
    rw [hu]
    rw [cl_cast (show max (cl x.l) (cl y.l) ≤ 1073741824 by omega), cl_cast hb]
    omega
  | false =>
    rw [ho, if_neg (by decide)] at hs
    rw [if_neg (by decide)]
    have hne : ((up (max (cl x.l) (cl y.l)) : Nat) : Int) ≠ ((max (cl x.l) (cl y.l) : Nat) : Int) := fun e => hs (by rw [e]; rfl)
    obtain ⟨hu, hb⟩ := up_more (show max (cl x.l) (cl y.l) ≤ 1073741824 by omega) (fun e => hne (by rw [e]))
    dsimp only
    rw [hu]
    rw [cl_cast (show max (cl x.r) (cl y.r) ≤ 1073741824 by omega), cl_cast hb]
    omega
theorem set_fine {x y : Ent} (hx : fineE x = true) (hy : fineE y = true) (tk : Bool) (a : Int) : fineE (setE x y tk a) = true := by
  have h1 := ((fineE_iff x).1 hx).2.2
  have h2 := ((fineE_iff y).1 hy).2.2
  refine (fineE_iff _).2 ⟨tick_rt _ _ _, tick_pos _ _ _, ?_⟩
  cases tk
  · exact h1
  · exact h2
theorem filter_one {l : List ByteArray} (h : SrtB l) {p : ByteArray} (hp : p ∈ l) : (l.filter fun s => !decide (s = p)).length + 1 = l.length := by
  induction l with
  | nil => cases hp
  | cons x l ih =>
    have hc := List.pairwise_cons.1 h
    rw [List.filter_cons]
    by_cases e : x = p
    · subst e
      have : l.filter (fun s => !decide (s = x)) = l := List.filter_eq_self.2 fun s hs => by
        have hne : s ≠ x := fun e => by subst e; exact absurd (hc.1 s hs) (List.lt_irrefl _)
        simp [hne]
      simp [this]
    · have hp' : p ∈ l := by
        rcases List.mem_cons.1 hp with h1 | h1
        · exact absurd h1.symm e
        · exact h1
      have := ih hc.2 hp'
      simp [e]
      simpa using this
/-- All that is said of what is settled. -/
structure SetAt (es fs s : List Ent) (p : ByteArray) (tk : Bool) (a : Int) : Prop where
  right : RightA s
  len : s.length = es.length
  conf : p ∈ mrgC es fs
  at_ : ∃ (i k : Nat) (hi : i < s.length) (hk : k < (if tk then fs else es).length), idxE s p = i ∧ idxE (if tk then fs else es) p = k ∧ s[i].has = (if tk then fs else es)[k].has ∧ s[i].data = (if tk then fs else es)[k].data ∧
    ∀ (n : Nat) (hn : n < s.length) (hn' : n < es.length), n ≠ i → s[n] = es[n]
  less : mrgN s fs = 0 → ¬ p ∈ mrgC s fs ∧ (mrgC s fs).length + 1 = (mrgC es fs).length
  back : mrgN fs s = 0 → ¬ p ∈ mrgC fs s ∧ agreeB (mrgA fs s) s p = true
theorem settle_at {es fs : List Ent} {p : ByteArray} {tk : Bool} {a : Int} (h : setN es fs p tk a = 0) : SetAt es fs (setA es fs p tk a) p tk a := by
  have h0 : mrgN es fs = 0 := by
    by_cases e : mrgN es fs = 0
    · exact e
    · rw [setN_mrg e] at h; exact absurd h e
  obtain ⟨re, rf⟩ := mrg_right h0
  have hp : p ∈ mC es fs := by
    by_cases e : p ∈ mC es fs
    · exact e
    · rw [setN_no h0 e] at h; cases h
  obtain ⟨i, j, hi, hj, e1, e2, p1, p2⟩ := conf_both re.srt rf.srt hp
  have hA := setA_at h hi hj e1 e2
  rw [setN_at h0 hp hi hj e1 e2] at h
  have hne : tickL (joinC es[i] fs[j]).1 (joinC es[i] fs[j]).2 a ≠ joinC es[i] fs[j] := fun e => by rw [if_pos e] at h; cases h
  rw [if_neg hne] at h
  rw [hA]
  have hx := re.fine _ (List.getElem_mem hi)
  have hy := rf.fine _ (List.getElem_mem hj)
  have hzp : (setE es[i] fs[j] tk a).path = es[i].path := rfl
  obtain ⟨t1, t2, t3⟩ := tick_more hne tk
  have hz := set_fine hx hy tk a
  have hat1 : atE es p = some es[i] := atE_yes hi e1
  have hat2 : atE fs p = some fs[j] := atE_yes hj e2
  have hbig : (setE es[i] fs[j] tk a).has = true → (setE es[i] fs[j] tk a).data.size ≤ 600 := by
    cases tk
    · exact fun hh => ((treeR_iff _).1 re.tree).datas (es[i].path, es[i].data) (mem_files.2 ⟨_, List.getElem_mem hi, hh, rfl⟩)
    · exact fun hh => ((treeR_iff _).1 rf.tree).datas (fs[j].path, fs[j].data) (mem_files.2 ⟨_, List.getElem_mem hj, hh, rfl⟩)
  have hv : (setE es[i] fs[j] tk a).has = (if tk then fs[j].has else es[i].has) ∧ (setE es[i] fs[j] tk a).data = (if tk then fs[j].data else es[i].data) := ⟨rfl, rfl⟩
  generalize setE es[i] fs[j] tk a = z at *
  have hpz : z.path = p := by rw [hzp, p1]
  have hs := set_srt re.srt hi hzp
  have hat := set_at re.srt hi hzp
  have hR : RightA (es.set i z) := arch_of hs h fun e he => by
    rcases List.mem_or_eq_of_mem_set he with h1 | h1
    · exact ⟨re.fine e h1, re.paths e h1, fun hh => ((treeR_iff _).1 re.tree).datas (e.path, e.data) (mem_files.2 ⟨e, h1, hh, rfl⟩)⟩
    · subst h1
      refine ⟨hz, ?_, hbig⟩
      have := re.paths _ (List.getElem_mem hi)
      rw [epth, ← hzp] at this
      exact this
  have cm1 : ∀ q, q ≠ p → atE (es.set i z) q = atE es q := fun q hq => by rw [hat, if_neg (by rw [hpz]; exact hq)]
  have cm2 : atE (es.set i z) p = some z := by rw [hat, if_pos hpz.symm]
  have hsi : (es.set i z)[i]'(by rw [List.length_set]; exact hi) = z := List.getElem_set_self _
  refine ⟨hR, List.length_set, by rw [(mrg_mA h0).2]; exact hp, ?_, fun hn => ?_, fun hn => ?_⟩
  · have hix : idxE (es.set i z) p = i := by
      have := idxE_srt hs (j := i) (by rw [List.length_set]; exact hi)
      rw [hsi, hpz] at this
      exact this
    cases tk with
    | false =>
      refine ⟨i, i, by rw [List.length_set]; exact hi, hi, hix, e1, ?_, ?_, fun n hn hn' hne => List.getElem_set_ne (Ne.symm hne) _⟩
      · rw [hsi]; exact hv.1
      · rw [hsi]; exact hv.2
    | true =>
      refine ⟨i, j, by rw [List.length_set]; exact hi, hj, hix, e2, ?_, ?_, fun n hn hn' hne => List.getElem_set_ne (Ne.symm hne) _⟩
      · rw [hsi]; exact hv.1
      · rw [hsi]; exact hv.2
  · have key : mC (es.set i z) fs = (mC es fs).filter fun s => !decide (s = p) := by
      refine srtB_one (mC_srt hs rf.srt) ((mC_srt re.srt rf.srt).filter _) fun q => ?_
      rw [mC_mem hs rf.srt, List.mem_filter, mC_mem re.srt rf.srt]
      by_cases hq : q = p
      · subst hq
        rw [cm2, hat2]
        have : cm (some z) (some fs[j]) = some (z, false) := congrArg some (come_2 t2 t1)
        rw [this]
        constructor
        · rintro ⟨e, he⟩; injection he with he; injection he with _ he; cases he
        · rintro ⟨_, he⟩; simp at he
      · rw [cm1 q hq]
        simp [hq]
    rw [(mrg_mA hn).2, (mrg_mA h0).2, key]
    exact ⟨fun e => by simpa using (List.mem_filter.1 e).2, filter_one (mC_srt re.srt rf.srt) hp⟩
  · have hc : cm (atE fs p) (atE (es.set i z) p) = some (z, false) := by rw [cm2, hat2]; exact congrArg some (come_1 t1 t2)
    refine ⟨fun e => ?_, ?_⟩
    · rw [(mrg_mA hn).2] at e
      obtain ⟨e', he⟩ := (mC_mem rf.srt hs p).1 e
      rw [hc] at he
      injection he with he; injection he with _ he; cases he
    · unfold agreeB
      rw [(archR_iff _).2 (merge_right hn), (archR_iff _).2 hR, (mrg_mA hn).1, mA_at rf.srt hs, hc, cm2]
      simp
end Go.Proofs.YtlmccjdpmhancaaGreatDoor
