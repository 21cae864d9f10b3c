/- The text Jo. -/
import Derived.Test.YtlmccjdpmhancaaDoorK7
namespace Go.Proofs.YtlmccjdpmhancaaDoor
open Go.RowKit

theorem ord_self (a : Ent) : ordE a a = 0 := by unfold ordE ordI; rw [if_pos ⟨rfl, rfl⟩]
theorem like_self (a : Ent) : likeE a a = true := by unfold likeE; simp
theorem come_self (a : Ent) : comeE a a = (a, false) := by
  unfold comeE
  rw [ord_self, like_self, if_neg (by decide), if_neg (by decide), if_pos rfl, if_neg (by decide)]
theorem mrg_self : ∀ (a : List Ent), mrgL a a = a.map fun e => (e, false)
  | [] => by rw [mrgL]; rfl
  | x :: a => by rw [mrgL, if_pos rfl, come_self, mrg_self a]; rfl
theorem mrg_l : ∀ (a : List Ent), mrgL a [] = a.map fun e => (e, false)
  | [] => by rw [mrgL]; rfl
  | x :: a => by rw [mrgL, mrg_l a]; rfl
theorem mrg_r : ∀ (a : List Ent), mrgL [] a = a.map fun e => (e, false)
  | [] => by rw [mrgL]; rfl
  | x :: a => by rw [mrgL, mrg_r a]; rfl
theorem own_A {l m a : List Ent} (h : mrgL l m = a.map fun e => (e, false)) : mA l m = a ∧ mC l m = [] := by
  unfold mA mC
  rw [h]
  constructor
  · rw [List.map_map]; exact List.map_id a
  · have : ((a.map fun e => ((e, false) : Ent × Bool)).filter (·.2)) = [] := List.filter_eq_nil_iff.2 (by simp)
    rw [this]; rfl
theorem apt_tree {fs : List Fil} (h : RightT fs) : Apt (fs.map (·.1)) := by
  have key : ∀ (l : List Fil), (∀ f ∈ l, f ∈ fs) → Apt (l.map (·.1)) := by
    intro l
    induction l with
    | nil => intro _; exact List.Pairwise.nil
    | cons a l ih =>
      intro hl
      refine List.pairwise_cons.2 ⟨fun x hx => ?_, ih fun f hf => hl f (List.mem_cons_of_mem _ hf)⟩
      obtain ⟨g, hg, rfl⟩ := List.mem_map.1 hx
      have h1 := h.apart g (hl g (List.mem_cons_of_mem _ hg)) a (hl a List.mem_cons_self)
      have h2 := h.apart a (hl a List.mem_cons_self) g (hl g (List.mem_cons_of_mem _ hg))
      show clashL (pth g) (pth a) = false
      unfold clashL
      rw [h1, h2]; rfl
  exact key fs fun _ h => h
theorem fit_right {es : List Ent} (h : RightA es) : fitN es = 0 := by
  have ht := (treeR_iff _).1 h.tree
  unfold fitN
  rw [if_neg (by have h1 := h.few; have h2 := ht.few; omega), if_pos (show Apt (fpaths es) from apt_tree ht)]
theorem right_none : RightA ([] : List Ent) := (archR_iff _).1 (by decide +kernel)
theorem own_any {l m a : List Ent} (hl : RightA l) (hm : RightA m) (ha : RightA a) (h : mrgL l m = a.map fun e => (e, false)) : mrgN l m = 0 ∧ mrgA l m = a ∧ mrgC l m = [] := by
  have h1 := own_A h
  have h0 : mrgN l m = 0 := by rw [mrgN_fit ((archR_iff _).2 hl) ((archR_iff _).2 hm), h1.1]; exact fit_right ha
  exact ⟨h0, by rw [mrgA, if_pos h0, h1.1], by rw [mrgC, if_pos h0, h1.2]⟩

set_option maxRecDepth 20000 in
set_option maxHeartbeats 4000000 in
theorem reconOwn_walk (A : Option Addr) (c : Nat) (es : List Ent) (w : World) (hr : Rd w A (entV es)) (hlc : es.length ≤ c) (hc : c ≤ maxLen) (_ : True) :
    Calls Tryd.prog 3 #[.slice A es.length c] w fun e w' => e = .returned (.bool true) ∧ Below w.heap.size w w' := by
  generalize hl : es.length = n at *
  go_enter Tryd.func3, Tryd.ntmps3
  go_wp2_with fail
  refine (small_any _).mono ?_
  rintro e w1 ⟨rfl, b1⟩
  go_wp2_with fail
  refine (few9_any A n c es _ hl (hr.below b1)).mono ?_
  rintro e wx ⟨rfl, rfl⟩
  cases hf : few9 es
  · go_wp2
    go_ret
    exact ⟨rfl, b1⟩
  · have E1 := few9_et hf hl (hr.below b1) hlc hc
    clear hf hr
    go_wp2_with fail
    refine (archR_any E1).mono ?_
    rintro e w2 ⟨rfl, hb2⟩
    have E2 := E1.below hb2
    have b2 := below2 b1 hb2
    clear hb2 E1 b1
    cases hR : archR es with
    | false =>
      go_wp2
      go_ret
      exact ⟨rfl, b2⟩
    | true =>
      have hA := (archR_iff es).1 hR
      have HL := hid hl
      have k1 := own_any hA hA hA (mrg_self es)
      have k2 := own_any hA right_none hA (mrg_l es)
      have k3 := own_any right_none hA hA (mrg_r es)
      have K1 := hid k1
      have K2 := hid k2
      have K3 := hid k3
      clear hR hA k1 k2 k3 hl
      go_wp2_with fail
      refine (merge_val E2 E2 K1.out.2.1 K1.out.2.2 HL.out (show _ = 0 from rfl) (show _ = 0 by rw [K1.out.1]; rfl)).mono ?_
      rintro e w3 ⟨A3, c3, B3, d3, rfl, F3, -, hb3⟩
      have E3 := E2.below hb3
      have b3 := below2 b2 hb3
      clear hb3 E2 b2
      go_wp2_with fail
      refine (merge_val E3 (et_nil w3) K2.out.2.1 K2.out.2.2 HL.out (show _ = 0 from rfl) (show _ = 0 by rw [K2.out.1]; rfl)).mono ?_
      rintro e w4 ⟨A4, c4, B4, d4, rfl, G4, -, hb4⟩
      have E4 := E3.below hb4
      have F4 := F3.below hb4
      have b4 := below2 b3 hb4
      clear hb4 E3 F3 b3
      go_wp2_with fail
      refine (merge_val (et_nil w4) E4 K3.out.2.1 K3.out.2.2 HL.out (show _ = 0 from rfl) (show _ = 0 by rw [K3.out.1]; rfl)).mono ?_
      rintro e w5 ⟨A5, c5, B5, d5, rfl, H5, -, hb5⟩
      have E5 := E4.below hb5
      have F5 := F4.below hb5
      have G5 := G4.below hb5
      have b5 := below2 b4 hb5
      clear hb5 E4 F4 G4 b4
      have s1 := sameE_any (c := c3) (d := c) F5.len F5.rd E5.len E5.rd F5.big
      rw [decide_eq_true rfl] at s1
      go_wp2_with fail
      refine s1.mono ?_
      rintro e w6 ⟨rfl, hb6⟩
      have E6 := E5.below hb6
      have G6 := G5.below hb6
      have H6 := H5.below hb6
      have b6 := below2 b5 hb6
      clear s1 hb6 E5 F5 G5 H5 b5
      have s2 := sameE_any (c := c4) (d := c) G6.len G6.rd E6.len E6.rd G6.big
      rw [decide_eq_true rfl] at s2
      go_wp2_with fail
      refine s2.mono ?_
      rintro e w7 ⟨rfl, hb7⟩
      have E7 := E6.below hb7
      have H7 := H6.below hb7
      have b7 := below2 b6 hb7
      clear s2 hb7 E6 G6 H6 b6
      have s3 := sameE_any (c := c5) (d := c) H7.len H7.rd E7.len E7.rd H7.big
      rw [decide_eq_true rfl] at s3
      go_wp2_with fail
      refine s3.mono ?_
      rintro e w8 ⟨rfl, hb8⟩
      have b8 := below2 b7 hb8
      clear s3 hb8 E7 H7 b7
      go_wp2
      go_ret
      exact ⟨rfl, b8⟩
end Go.Proofs.YtlmccjdpmhancaaDoor
