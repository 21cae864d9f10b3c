/- The text Jx. -/
import Derived.Test.YtlmccjdpmhancaaGreatDoorKPat
namespace Go.Proofs.YtlmccjdpmhancaaGreatDoor
open Go.RowKit

def vlO (g : Option ByteArray) : Bool × ByteArray := (g.isSome, g.getD noS)
/-- What a scan tells of a path. -/
theorem scan_side {o : List Ent} {t : List Fil} {a : Int} (hn : scanN o t a = 0) (p : ByteArray) :
    (atE (scanA o t a) p = none ∧ atE o p = none ∧ getT t p.data.toList = none ∧ ¬ p ∈ scanC o t a) ∨
    ∃ z, atE (scanA o t a) p = some z ∧ vlE z = vlO (getT t p.data.toList) ∧ ((¬ p ∈ scanC o t a ∧ atE o p = some z) ∨
      (p ∈ scanC o t a ∧ ∃ w, (atE o p = some w ∨ (atE o p = none ∧ w = fresh p)) ∧ (z.l, z.r) = tickL w.l w.r a ∧ tickL w.l w.r a ≠ (w.l, w.r))) := by
  obtain ⟨h, k, ho⟩ := scanN_ok.1 hn
  have hsrt := both_srt o t h.srt k.srt
  have hR := scan_right hn
  have eA : scanA o t a = outP a (bothL o t) := by rw [scanA, if_pos hn]
  have eC : scanC o t a = chgP (bothL o t) := by rw [scanC, if_pos hn]
  by_cases hp : p ∈ (bothL o t).map (·.2.path)
  · obtain ⟨q, hq, rfl⟩ := List.mem_map.1 hp
    have hP := pair_at9 h k hq
    refine .inr ⟨newE a q, ?_, ?_, ?_⟩
    · have hm : newE a q ∈ scanA o t a := by rw [eA]; exact List.mem_map.2 ⟨q, hq, rfl⟩
      have := (atE_iff hR.srt).1 hm
      rw [newE_path] at this
      exact this
    · unfold vlE vlO
      rw [newE_has, newE_data, hP.get]
      have hd := congrArg Ent.data hP.is
      dsimp only at hd
      cases hh : q.2.has with
      | true => rfl
      | false => rw [hh] at hd; rw [hd]; rfl
    · by_cases e : q.2 = q.1
      · refine .inl ⟨fun hc => ?_, ?_⟩
        · rw [eC] at hc
          obtain ⟨q', hq', e'⟩ := List.mem_map.1 hc
          obtain ⟨h1, h2⟩ := List.mem_filter.1 hq'
          have : q' = q := hsrt.one h1 hq e'
          subst this
          rw [decide_eq_true e] at h2
          cases h2
        · rw [newE_eq e]
          rcases hP.was with ⟨-, -, h3⟩ | ⟨j, hj, h3, h4⟩
          · exact absurd e h3
          · rw [atE_yes hj h3, h4, e]
      · refine .inr ⟨?_, q.1, ?_, ?_, ?_⟩
        · rw [eC]
          exact List.mem_map.2 ⟨q, List.mem_filter.2 ⟨hq, by simp [e]⟩, rfl⟩
        · rcases hP.was with ⟨h3, h4, -⟩ | ⟨j, hj, h3, h4⟩
          · exact .inr ⟨atE_no h3, h4⟩
          · exact .inl (by rw [atE_yes hj h3, h4])
        · unfold newE; rw [if_neg e]
        · intro hs
          have : stuck a q = true := by unfold stuck; rw [decide_eq_false e, decide_eq_true hs]; rfl
          rw [okP_stuck hq this] at ho
          cases ho
  · have hno : ¬ (p ∈ o.map (·.path) ∨ p ∈ t.map (·.1)) := fun hh => hp (both_path.2 hh)
    refine .inl ⟨?_, atE_none.2 fun e he hpe => hno (.inl (List.mem_map.2 ⟨e, he, hpe⟩)), ?_, ?_⟩
    · refine atE_none.2 fun e he hpe => hp ?_
      rw [eA] at he
      obtain ⟨q, hq, rfl⟩ := List.mem_map.1 he
      rw [newE_path] at hpe
      exact List.mem_map.2 ⟨q, hq, hpe⟩
    · exact getT_none fun f hf hpf => hno (.inr (List.mem_map.2 ⟨f, hf, hpf⟩))
    · intro hc
      rw [eC] at hc
      obtain ⟨q, hq, e⟩ := List.mem_map.1 hc
      exact hp (List.mem_map.2 ⟨q, (List.mem_filter.1 hq).1, e⟩)

theorem tick0 {w z : Ent} (hw : FnE w) (hz : (z.l, z.r) = tickL w.l w.r 0) (h : tickL w.l w.r 0 ≠ (w.l, w.r)) : cl z.l = cl w.l + 1 ∧ cl z.r = cl w.r := by
  have e : tickL w.l w.r 0 = (((up (cl w.l) : Nat) : Int), ((cl w.r : Nat) : Int)) := rfl
  have hne : up (cl w.l) ≠ cl w.l := fun e2 => h (by rw [e, e2, hw.1, hw.2])
  obtain ⟨h1, h2⟩ := up_more (cl_le w.l) hne
  rw [e, h1] at hz
  injection hz with z1 z2
  rw [z1, z2]
  exact ⟨cl_cast h2, cl_cast (cl_le w.r)⟩
theorem tick1 {w z : Ent} (hw : FnE w) (hz : (z.l, z.r) = tickL w.l w.r 1) (h : tickL w.l w.r 1 ≠ (w.l, w.r)) : cl z.l = cl w.l ∧ cl z.r = cl w.r + 1 := by
  have e : tickL w.l w.r 1 = (((cl w.l : Nat) : Int), ((up (cl w.r) : Nat) : Int)) := rfl
  have hne : up (cl w.r) ≠ cl w.r := fun e2 => h (by rw [e, e2, hw.1, hw.2])
  obtain ⟨h1, h2⟩ := up_more (cl_le w.r) hne
  rw [e, h1] at hz
  injection hz with z1 z2
  rw [z1, z2]
  exact ⟨cl_cast (cl_le w.l), cl_cast h2⟩
theorem fresh_fn (p : ByteArray) : FnE (fresh p) := ⟨rfl, rfl⟩
theorem was_fn {o : List Ent} (h : RightA o) {p : ByteArray} {w : Ent} (hw : atE o p = some w ∨ (atE o p = none ∧ w = fresh p)) : FnE w := by
  rcases hw with e | ⟨-, rfl⟩
  · exact right_fn h e
  · exact fresh_fn p
theorem was_one {o : List Ent} {p : ByteArray} {w v : Ent} (hw : atE o p = some w ∨ (atE o p = none ∧ w = fresh p)) (hv : atE o p = some v ∨ (atE o p = none ∧ v = fresh p)) : w = v := by
  rcases hw with e | ⟨e, rfl⟩ <;> rcases hv with f | ⟨f, rfl⟩
  · rw [e] at f; exact Option.some.inj f
  · rw [e] at f; cases f
  · rw [e] at f; cases f
  · rfl
theorem vlO_inj {g h : Option ByteArray} : vlO g = vlO h ↔ g = h := by
  constructor
  · intro e
    have e1 := congrArg Prod.fst e
    have e2 := congrArg Prod.snd e
    cases g <;> cases h <;> simp [vlO] at e1 e2 ⊢
    exact e2
  · rintro rfl; rfl
structure SideAt (o : List Ent) (t u : List Fil) (l : List Ent) (c x y : List ByteArray) (e : Ent) : Prop where
  conf : inB e.path c = (inB e.path x && inB e.path y && !decide (getT t e.path.data.toList = getT u e.path.data.toList))
  val : vlE e = vlO (if inB e.path y && !inB e.path x then getT u e.path.data.toList else getT t e.path.data.toList)
  keep : inB e.path x = false → inB e.path y = false → agreeB l o e.path = true
theorem sides_at {o : List Ent} {t u : List Fil} (h1 : scanN o t 0 = 0) (h2 : scanN o u 1 = 0) (h3 : mrgN (scanA o t 0) (scanA o u 1) = 0) {e : Ent} (he : e ∈ mrgA (scanA o t 0) (scanA o u 1)) :
    SideAt o t u (mrgA (scanA o t 0) (scanA o u 1)) (mrgC (scanA o t 0) (scanA o u 1)) (scanC o t 0) (scanC o u 1) e := by
  obtain ⟨ro, -, -⟩ := scanN_ok.1 h1
  obtain ⟨ra, rb⟩ := mrg_right h3
  have hR := merge_right h3
  have hat := (atE_iff hR.srt).1 he
  have hcm : atE (mrgA (scanA o t 0) (scanA o u 1)) e.path = (cm (atE (scanA o t 0) e.path) (atE (scanA o u 1) e.path)).map (·.1) := by rw [(mrg_mA h3).1, mA_at ra.srt rb.srt]
  have hconf : ∀ z b, cm (atE (scanA o t 0) e.path) (atE (scanA o u 1) e.path) = some (z, b) → e = z ∧ inB e.path (mrgC (scanA o t 0) (scanA o u 1)) = b := by
    intro z b hz
    rw [hcm, hz] at hat
    refine ⟨(Option.some.inj hat).symm, ?_⟩
    rw [(mrg_mA h3).2]
    cases b with
    | true => exact inB_iff.2 ((mC_mem ra.srt rb.srt _).2 ⟨z, hz⟩)
    | false =>
      refine inB_no fun hm => ?_
      obtain ⟨z', hz'⟩ := (mC_mem ra.srt rb.srt _).1 hm
      rw [hz] at hz'
      injection hz' with hz'
      injection hz' with _ hz'
      cases hz'
  generalize hp : e.path = p at *
  rcases scan_side h1 p with ⟨a1, a2, a3, a4⟩ | ⟨z1, a1, a2, a3⟩ <;> rcases scan_side h2 p with ⟨b1, b2, b3, b4⟩ | ⟨z2, b1, b2, b3⟩
  · rw [hcm, a1, b1] at hat; cases hat
  · rcases b3 with ⟨-, b4⟩ | ⟨b4, -⟩
    · rw [a2] at b4; cases b4
    · obtain ⟨k1, k2⟩ := hconf z2 false (by rw [a1, b1]; rfl)
      refine ⟨?_, ?_, fun _ h => ?_⟩
      · rw [hp, k2, inB_no a4]; rfl
      · rw [hp, inB_no a4, inB_iff.2 b4, k1, b2]; rfl
      · rw [hp, inB_iff.2 b4] at h; cases h
  · rcases a3 with ⟨-, a4⟩ | ⟨a4, -⟩
    · rw [b2] at a4; cases a4
    · obtain ⟨k1, k2⟩ := hconf z1 false (by rw [a1, b1]; rfl)
      refine ⟨?_, ?_, fun h _ => ?_⟩
      · rw [hp, k2, inB_no b4, Bool.and_false]; rfl
      · rw [hp, inB_no b4, k1, a2]; rfl
      · rw [hp, inB_iff.2 a4] at h; cases h
  · rcases a3 with ⟨a4, a5⟩ | ⟨a4, w, a5, a6, a7⟩ <;> rcases b3 with ⟨b4, b5⟩ | ⟨b4, v, b5, b6, b7⟩
    · have hz : z1 = z2 := by rw [a5] at b5; exact Option.some.inj b5
      subst hz
      obtain ⟨k1, k2⟩ := hconf z1 false (by rw [a1, b1]; exact congrArg some (come_self z1))
      refine ⟨?_, ?_, fun _ _ => ?_⟩
      · rw [hp, k2, inB_no a4]; rfl
      · rw [hp, inB_no b4, k1, a2]; rfl
      · unfold agreeB
        rw [hp, (archR_iff _).2 hR, (archR_iff _).2 ro, hat, k1, a5]
        simp
    · have hv : v = z1 := was_one b5 (.inl a5)
      subst hv
      obtain ⟨c1, c2⟩ := tick1 (was_fn ro b5) b6 b7
      obtain ⟨k1, k2⟩ := hconf z2 false (by rw [a1, b1]; exact congrArg some (come_1 (by unfold leE; omega) (by unfold leE; omega)))
      refine ⟨?_, ?_, fun _ h => ?_⟩
      · rw [hp, k2, inB_no a4]; rfl
      · rw [hp, inB_no a4, inB_iff.2 b4, k1, b2]; rfl
      · rw [hp, inB_iff.2 b4] at h; cases h
    · have hw : w = z2 := was_one a5 (.inl b5)
      subst hw
      obtain ⟨c1, c2⟩ := tick0 (was_fn ro a5) a6 a7
      obtain ⟨k1, k2⟩ := hconf z1 false (by rw [a1, b1]; exact congrArg some (come_2 (by unfold leE; omega) (by unfold leE; omega)))
      refine ⟨?_, ?_, fun h _ => ?_⟩
      · rw [hp, k2, inB_no b4, Bool.and_false]; rfl
      · rw [hp, inB_no b4, k1, a2]; rfl
      · rw [hp, inB_iff.2 a4] at h; cases h
    · have hw : w = v := was_one a5 b5
      subst hw
      obtain ⟨c1, c2⟩ := tick0 (was_fn ro a5) a6 a7
      obtain ⟨d1, d2⟩ := tick1 (was_fn ro b5) b6 b7
      have hc := come_3 (a := z1) (b := z2) (by unfold leE; omega) (by unfold leE; omega)
      obtain ⟨k1, k2⟩ := hconf _ _ (by rw [a1, b1]; exact congrArg some hc)
      have hl : likeE z1 z2 = decide (getT t p.data.toList = getT u p.data.toList) := by
        cases hd : decide (getT t p.data.toList = getT u p.data.toList) with
        | true => exact like_iff.2 (by rw [a2, b2, of_decide_eq_true hd])
        | false => exact not_true fun hh => by have := like_iff.1 hh; rw [a2, b2] at this; rw [decide_eq_true (vlO_inj.1 this)] at hd; cases hd
      refine ⟨?_, ?_, fun h _ => ?_⟩
      · rw [hp, k2, inB_iff.2 a4, inB_iff.2 b4, hl]; rfl
      · rw [hp, inB_iff.2 a4, inB_iff.2 b4]
        have : vlE e = vlE z1 := by rw [k1]; split <;> rfl
        rw [this, a2]; rfl
      · rw [hp, inB_iff.2 a4] at h; cases h
theorem sides_len {o : List Ent} {t u : List Fil} (h1 : scanN o t 0 = 0) (h3 : mrgN (scanA o t 0) (scanA o u 1) = 0) : o.length ≤ (mrgA (scanA o t 0) (scanA o u 1)).length := by
  obtain ⟨ra, rb⟩ := mrg_right h3
  have hl := scan_more h1
  have hsub : (scanA o t 0).length ≤ (mrgA (scanA o t 0) (scanA o u 1)).length := by
    rw [(mrg_mA h3).1, mA, List.length_map]
    have key : ∀ l m : List Ent, l.length ≤ (mrgL l m).length := by
      intro l m
      fun_induction mrgL l m with
      | case1 => simp
      | case2 a l ih => simp at ih ⊢; omega
      | case3 b m ih => simp
      | case4 a l b m h ih => simp at ih ⊢; omega
      | case5 a l b m h h2 ih => simp at ih ⊢; omega
      | case6 a l b m h h2 ih => simp at ih ⊢; omega
    exact key _ _
  omega
end Go.Proofs.YtlmccjdpmhancaaGreatDoor
