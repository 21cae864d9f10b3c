/- The text Jp. -/
import Derived.Test.YtlmccjdpmhancaaGreatDoorKJo
namespace Go.Proofs.YtlmccjdpmhancaaGreatDoor
open Go.RowKit

/-! ### One path: counts, and values -/
def leE (a b : Ent) : Prop := cl a.l ≤ cl b.l ∧ cl a.r ≤ cl b.r
instance (a b : Ent) : Decidable (leE a b) := by unfold leE; exact inferInstance
def vlE (e : Ent) : Bool × ByteArray := (e.has, e.data)
def FnE (e : Ent) : Prop := ((cl e.l : Nat) : Int) = e.l ∧ ((cl e.r : Nat) : Int) = e.r
theorem fn_of {e : Ent} (h : fineE e = true) : FnE e := by
  have := ((fineE_iff e).1 h).1
  unfold FnE cl
  omega
theorem like_iff {a b : Ent} : likeE a b = true ↔ vlE a = vlE b := by
  unfold likeE vlE
  rw [Bool.and_eq_true, decide_eq_true_eq, decide_eq_true_eq, Prod.mk.injEq]
theorem ord0 {a b : Ent} : ordE a b = 0 ↔ leE a b ∧ leE b a := by
  unfold ordE ordI leE
  split
  · constructor
    · intro _; omega
    · intro _; rfl
  · split
    · constructor
      · intro h; cases h
      · intro _; omega
    · split
      · constructor
        · intro h; cases h
        · intro _; omega
      · constructor
        · intro h; cases h
        · intro _; omega
theorem ord1 {a b : Ent} : ordE a b = 1 ↔ leE a b ∧ ¬ leE b a := by
  unfold ordE ordI leE
  split
  · constructor
    · intro h; cases h
    · intro _; omega
  · split
    · constructor
      · intro _; omega
      · intro _; rfl
    · split
      · constructor
        · intro h; cases h
        · intro _; omega
      · constructor
        · intro h; cases h
        · intro _; omega
theorem ord2 {a b : Ent} : ordE a b = 2 ↔ ¬ leE a b ∧ leE b a := by
  unfold ordE ordI leE
  split
  · constructor
    · intro h; cases h
    · intro _; omega
  · split
    · constructor
      · intro h; cases h
      · intro _; omega
    · split
      · constructor
        · intro _; omega
        · intro _; rfl
      · constructor
        · intro h; cases h
        · intro _; omega
theorem come_1 {a b : Ent} (h : leE a b) (k : ¬ leE b a) : comeE a b = (b, false) := by unfold comeE; rw [if_pos (ord1.2 ⟨h, k⟩)]
theorem come_2 {a b : Ent} (h : ¬ leE a b) (k : leE b a) : comeE a b = (a, false) := by
  unfold comeE; rw [if_neg (fun e => h (ord1.1 e).1), if_pos (ord2.2 ⟨h, k⟩)]
theorem come_0 {a b : Ent} (h : leE a b) (k : leE b a) : comeE a b = (a, !likeE a b) := by
  have h0 := ord0.2 ⟨h, k⟩
  unfold comeE; rw [h0, if_neg (by decide), if_neg (by decide)]
  cases likeE a b <;> rfl
theorem come_3 {a b : Ent} (h : ¬ leE a b) (k : ¬ leE b a) : comeE a b = (if likeE a b then joinE a b else a, !likeE a b) := by
  have h1 : ordE a b ≠ 1 := fun e => h (ord1.1 e).1
  have h2 : ordE a b ≠ 2 := fun e => k (ord2.1 e).2
  have h3 : ordE a b = 3 := by
    have h0 : ordE a b ≠ 0 := fun e => h (ord0.1 e).1
    rcases ord_cases (cl a.l) (cl a.r) (cl b.l) (cl b.r) with e | e | e | e
    · exact absurd e h0
    · exact absurd e h1
    · exact absurd e h2
    · exact e
  unfold comeE; rw [if_neg h1, if_neg h2, h3]
  cases likeE a b <;> rfl
/-- Is it no conflict? -/
def ncE (a b : Ent) : Prop := (comeE a b).2 = false
theorem nc_iff {a b : Ent} : ncE a b ↔ vlE a = vlE b ∨ (leE a b ∧ ¬ leE b a) ∨ (leE b a ∧ ¬ leE a b) := by
  unfold ncE
  rw [← like_iff]
  by_cases h : leE a b <;> by_cases k : leE b a
  · rw [come_0 h k]; simp [h, k]
  · rw [come_1 h k]; simp [h, k]
  · rw [come_2 h k]; simp [h, k]
  · rw [come_3 h k]; simp [h, k]
theorem nc_flip {a b : Ent} : ncE a b ↔ ncE b a := by
  rw [nc_iff, nc_iff]
  constructor
  · rintro (h | h | h)
    · exact .inl h.symm
    · exact .inr (.inr h)
    · exact .inr (.inl h)
  · rintro (h | h | h)
    · exact .inl h.symm
    · exact .inr (.inr h)
    · exact .inr (.inl h)
theorem cl_cast {n : Nat} (h : n ≤ 1073741824) : cl (n : Int) = n := by unfold cl; omega
theorem come_val {a b : Ent} (ha : FnE a) (hb : FnE b) (hn : ncE a b) :
    vlE (comeE a b).1 = (if leE a b then vlE b else vlE a) ∧ (comeE a b).1.l = ((max (cl a.l) (cl b.l) : Nat) : Int) ∧ (comeE a b).1.r = ((max (cl a.r) (cl b.r) : Nat) : Int) := by
  obtain ⟨a1, a2⟩ := ha
  obtain ⟨b1, b2⟩ := hb
  by_cases h : leE a b <;> by_cases k : leE b a
  · rw [if_pos h, come_0 h k]
    have hl : vlE a = vlE b := by
      rcases nc_iff.1 hn with e | e | e
      · exact e
      · exact absurd k e.2
      · exact absurd h e.2
    unfold leE at h k
    exact ⟨hl, by simp only []; omega, by simp only []; omega⟩
  · rw [if_pos h, come_1 h k]
    unfold leE at h k
    exact ⟨rfl, by simp only []; omega, by simp only []; omega⟩
  · rw [if_neg h, come_2 h k]
    unfold leE at h k
    exact ⟨rfl, by simp only []; omega, by simp only []; omega⟩
  · have hl : vlE a = vlE b := by
      rcases nc_iff.1 hn with e | e | e
      · exact e
      · exact absurd e.1 h
      · exact absurd e.1 k
    rw [if_neg h, come_3 h k, if_pos (like_iff.2 hl)]
    exact ⟨rfl, rfl, rfl⟩
theorem come_cl {a b : Ent} (ha : FnE a) (hb : FnE b) (hn : ncE a b) : cl (comeE a b).1.l = max (cl a.l) (cl b.l) ∧ cl (comeE a b).1.r = max (cl a.r) (cl b.r) := by
  obtain ⟨-, h1, h2⟩ := come_val ha hb hn
  rw [h1, h2]
  exact ⟨cl_cast (by have := cl_le a.l; have := cl_le b.l; omega), cl_cast (by have := cl_le a.r; have := cl_le b.r; omega)⟩
theorem come_fn {a b : Ent} (ha : FnE a) (hb : FnE b) (hn : ncE a b) : FnE (comeE a b).1 := by
  have h := come_cl ha hb hn
  have k := come_val ha hb hn
  exact ⟨by rw [h.1, k.2.1], by rw [h.2, k.2.2]⟩
set_option maxHeartbeats 2000000 in
theorem come_assoc {a b c : Ent} (ha : FnE a) (hb : FnE b) (hc : FnE c) (hp : a.path = b.path) (hq : b.path = c.path) (n1 : ncE a b) (n2 : ncE b c) (n3 : ncE a c) (n4 : ncE (comeE a b).1 c) (n5 : ncE a (comeE b c).1) :
    (comeE (comeE a b).1 c).1 = (comeE a (comeE b c).1).1 := by
  have v1 := come_val ha hb n1
  have v2 := come_val hb hc n2
  have c1 := come_cl ha hb n1
  have c2 := come_cl hb hc n2
  have v3 := come_val (come_fn ha hb n1) hc n4
  have v4 := come_val ha (come_fn hb hc n2) n5
  have p1 : (comeE a b).1.path = c.path := by rw [comeE_path hp, hp, hq]
  have p2 : a.path = (comeE b c).1.path := by rw [comeE_path hq, hp]
  have hv : vlE (comeE (comeE a b).1 c).1 = vlE (comeE a (comeE b c).1).1 := by
    have L1 : leE (comeE a b).1 c ↔ (max (cl a.l) (cl b.l) ≤ cl c.l ∧ max (cl a.r) (cl b.r) ≤ cl c.r) := by unfold leE; rw [c1.1, c1.2]
    have L2 : leE a (comeE b c).1 ↔ (cl a.l ≤ max (cl b.l) (cl c.l) ∧ cl a.r ≤ max (cl b.r) (cl c.r)) := by unfold leE; rw [c2.1, c2.2]
    have L3 : leE (comeE b c).1 a ↔ (max (cl b.l) (cl c.l) ≤ cl a.l ∧ max (cl b.r) (cl c.r) ≤ cl a.r) := by unfold leE; rw [c2.1, c2.2]
    have L4 : ∀ x y : Ent, leE x y ↔ (cl x.l ≤ cl y.l ∧ cl x.r ≤ cl y.r) := fun _ _ => Iff.rfl
    have m1 := nc_iff.1 n1
    have m2 := nc_iff.1 n2
    have m3 := nc_iff.1 n3
    have m5 := nc_iff.1 n5
    rw [v2.1, L2, L3] at m5
    rw [L4 a b, L4 b a] at m1
    rw [L4 b c, L4 c b] at m2
    rw [L4 a c, L4 c a] at m3
    rw [v3.1, v4.1, v1.1, v2.1]
    clear v1 v2 v3 v4 c1 c2 p1 p2 n1 n2 n3 n4 n5 ha hb hc hp hq
    by_cases hT : leE (comeE a b).1 c
    · have hT' := L1.1 hT
      rw [if_pos hT, if_pos (L2.2 (by clear m1 m2 m3 m5; omega)), if_pos ((L4 b c).2 (by clear m1 m2 m3 m5; omega))]
    · have hT' : ¬ (max (cl a.l) (cl b.l) ≤ cl c.l ∧ max (cl a.r) (cl b.r) ≤ cl c.r) := fun e => hT (L1.2 e)
      by_cases hP : leE a b
      · have hP' := (L4 a b).1 hP
        rw [if_neg hT, if_pos hP, if_pos (L2.2 (by clear m1 m2 m3 m5; omega)), if_neg (fun e => by have := (L4 b c).1 e; clear m1 m2 m3 m5; omega)]
      · have hP' : ¬ (cl a.l ≤ cl b.l ∧ cl a.r ≤ cl b.r) := fun e => hP ((L4 a b).2 e)
        by_cases hS : leE a (comeE b c).1
        · have hS' := L2.1 hS
          have hQ' : ¬ (cl b.l ≤ cl c.l ∧ cl b.r ≤ cl c.r) := by clear m1 m2 m3 m5; omega
          have hQ : ¬ leE b c := fun e => hQ' ((L4 b c).1 e)
          rw [if_neg hT, if_neg hP, if_pos hS, if_neg hQ]
          rw [if_neg hQ] at m5
          rcases m1 with e | e | e
          · exact e
          · exact absurd e.1 hP'
          · rcases m5 with f | f | f
            · exact f
            · rcases m3 with g | g | g
              · rcases m2 with k | k | k
                · rw [g, k]
                · exact absurd k.1 hQ'
                · exfalso; omega
              · exfalso; omega
              · exfalso; omega
            · exact absurd hS' f.2
        · rw [if_neg hT, if_neg hP, if_neg hS]
  have h1 : (comeE (comeE a b).1 c).1.has = (comeE a (comeE b c).1).1.has := congrArg Prod.fst hv
  have h2 : (comeE (comeE a b).1 c).1.data = (comeE a (comeE b c).1).1.data := congrArg Prod.snd hv
  refine Ent.same ?_ h1 h2 ?_ ?_
  · rw [comeE_path p1, comeE_path p2, comeE_path hp]
  · rw [v3.2.1, v4.2.1, c1.1, c2.1]; omega
  · rw [v3.2.2, v4.2.2, c1.2, c2.2]; omega

/-! ### Archives -/
theorem cm_path {l m : List Ent} {p : ByteArray} {x : Ent × Bool} (h : cm (atE l p) (atE m p) = some x) : x.1.path = p := by
  cases h1 : atE l p with
  | some a =>
    have pa := (atE_mem h1).2
    cases h2 : atE m p with
    | some b =>
      have pb := (atE_mem h2).2
      rw [h1, h2] at h
      injection h with h
      rw [← h, comeE_path (by rw [pa, pb]), pa]
    | none => rw [h1, h2] at h; injection h with h; rw [← h]; exact pa
  | none =>
    cases h2 : atE m p with
    | some b => rw [h1, h2] at h; injection h with h; rw [← h]; exact (atE_mem h2).2
    | none => rw [h1, h2] at h; cases h
theorem right_fn {l : List Ent} (h : RightA l) {p : ByteArray} {e : Ent} (he : atE l p = some e) : FnE e := fn_of (h.fine e (atE_mem he).1)
theorem mC_nil {l m : List Ent} (hl : SrtE l) (hm : SrtE m) (h : mC l m = []) {p : ByteArray} {a b : Ent} (ha : atE l p = some a) (hb : atE m p = some b) : ncE a b := by
  unfold ncE
  cases hc : (comeE a b).2 with
  | false => rfl
  | true =>
    have : p ∈ mC l m := (mC_mem hl hm p).2 ⟨(comeE a b).1, by rw [ha, hb]; show some (comeE a b) = _; rw [← hc]⟩
    rw [h] at this
    cases this
theorem mrg_mA {l m : List Ent} (h : mrgN l m = 0) : mrgA l m = mA l m ∧ mrgC l m = mC l m := by
  unfold mrgA mrgC; rw [if_pos h, if_pos h]; exact ⟨rfl, rfl⟩
theorem three_same {a b c : List Ent} (h1 : mrgN a b = 0) (h2 : mrgN b c = 0) (h3 : mrgN a c = 0) (c1 : mrgC a b = []) (c2 : mrgC b c = []) (c3 : mrgC a c = [])
    (h4 : mrgN (mrgA a b) c = 0) (h5 : mrgN a (mrgA b c) = 0) (c4 : mrgC (mrgA a b) c = []) (c5 : mrgC a (mrgA b c) = []) : mrgA (mrgA a b) c = mrgA a (mrgA b c) := by
  have ra := (mrg_right h1).1
  have rb := (mrg_right h1).2
  have rc := (mrg_right h2).2
  have rx := (mrg_right h4).1
  have ry := (mrg_right h5).2
  rw [(mrg_mA h1).2] at c1
  rw [(mrg_mA h2).2] at c2
  rw [(mrg_mA h3).2] at c3
  rw [(mrg_mA h4).2] at c4
  rw [(mrg_mA h5).2] at c5
  rw [(mrg_mA h4).1, (mrg_mA h5).1]
  have sx : SrtE (mrgA a b) := rx.srt
  have sy : SrtE (mrgA b c) := ry.srt
  refine srtE_one (mA_srt sx rc.srt) (mA_srt ra.srt sy) fun p => ?_
  rw [mA_at sx rc.srt, mA_at ra.srt sy]
  have ex : atE (mrgA a b) p = (cm (atE a p) (atE b p)).map (·.1) := by rw [(mrg_mA h1).1, mA_at ra.srt rb.srt]
  have ey : atE (mrgA b c) p = (cm (atE b p) (atE c p)).map (·.1) := by rw [(mrg_mA h2).1, mA_at rb.srt rc.srt]
  cases e1 : atE a p with
  | none =>
    rw [e1] at ex
    cases e2 : atE b p with
    | none =>
      rw [e2] at ex ey
      cases e3 : atE c p with
      | none => rw [e3] at ey; rw [ex, ey]; rfl
      | some z => rw [e3] at ey; rw [ex, ey]; rfl
    | some y =>
      rw [e2] at ex ey
      cases e3 : atE c p with
      | none => rw [e3] at ey; rw [ex, ey]; rfl
      | some z => rw [e3] at ey; rw [ex, ey]; rfl
  | some x =>
    rw [e1] at ex
    cases e2 : atE b p with
    | none =>
      rw [e2] at ex ey
      cases e3 : atE c p with
      | none => rw [e3] at ey; rw [ex, ey]; rfl
      | some z => rw [e3] at ey; rw [ex, ey]; rfl
    | some y =>
      rw [e2] at ex ey
      cases e3 : atE c p with
      | none => rw [e3] at ey; rw [ex, ey]; rfl
      | some z =>
        rw [e3] at ey
        have fx := right_fn ra e1
        have fy := right_fn rb e2
        have fz := right_fn rc e3
        have px := (atE_mem e1).2
        have py := (atE_mem e2).2
        have pz := (atE_mem e3).2
        have k := come_assoc fx fy fz (by rw [px, py]) (by rw [py, pz]) (mC_nil ra.srt rb.srt c1 e1 e2) (mC_nil rb.srt rc.srt c2 e2 e3) (mC_nil ra.srt rc.srt c3 e1 e3) (mC_nil sx rc.srt c4 ex e3) (mC_nil ra.srt sy c5 e1 ey)
        rw [ex, ey]
        exact congrArg some k
end Go.Proofs.YtlmccjdpmhancaaGreatDoor
